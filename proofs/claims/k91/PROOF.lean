import PyProof.Rows.All
import Wide.All
import OpenK.AllK
import Wide.FinOn
import Lean
import PyProof.EqAt
import PyProof.EqKinds
import PyProof.TupleCall
import PyProof.ListRange
import PyProof.Rows.StrKeys3
import PyProof.ZipIter
import KE.KStateDown
import KE.KRevSl
import PyProof.Rows.Range3
import PyProof.FactsAll.set
import PySem.Challenge.RW_labelways_k91_whole_orders_plans_and_pos
set_option Elab.async false
set_option linter.all false
set_option maxRecDepth 100000
noncomputable section
section
open PySem PySem.Spec PyProof.Rows
abbrev zA:=@wpAny_bind
abbrev zB:=@List.length_map
abbrev zC:=@List.getElem?_eq_getElem
abbrev zE:=@wpAny_pure
abbrev zF:=@List.getD_eq_getElem?_getD
abbrev zG:=@Heap.get?_push_of_some
abbrev zH:=@List.getElem?_eq_some_iff
abbrev zI:=@Nat.le_refl
abbrev zJ:=@List.length_append
abbrev zM:=@List.getElem?_map
abbrev zN:=@Heap.get?_push_size
abbrev zP:=@List.mem_of_getElem?
abbrev zQ:=@List.map_append
abbrev zR:=@decide_eq_true
abbrev zS:=@List.mem_cons_self
abbrev zT:=@decide_eq_false
abbrev zU:=@List.mem_append
abbrev zV:=@Option.some.inj
abbrev zX:=@List.mem_cons
abbrev zY:=@List.take_of_length_le
abbrev zZ:=@List.mem_cons_of_mem
abbrev za:=@List.getElem?_append_right
abbrev zc:=@List.getElem?_append_left
abbrev zd:=@Heap.lt_size
abbrev ze:=@List.size_toArray
abbrev zg:=@Nat.zero_le
abbrev zi:=@List.mem_singleton
abbrev zj:=@Nat.ne_of_lt
abbrev zk:=@List.length_cons
abbrev zo:=@Bool.false_ne_true
abbrev zp:=@List.getElem_of_mem
abbrev zq:=@List.mem_map
abbrev zt:=@List.length_take
abbrev zu:=@Heap.get?_update_self
abbrev zw:=@Classical.byContradiction
abbrev zx:=@Nat.lt_of_lt_of_le
abbrev zy:=@List.take_add_one
abbrev Bn:=@List.getElem?_toArray
abbrev Az:=@wpAny_holding
abbrev CH:=@List.length_filter_le
abbrev Cz:=@List.pairwise_iff_getElem
abbrev CQ:=@List.getElem?_eq_none
abbrev DN:=@List.nodup_iff_pairwise_ne
abbrev BR:=@List.append_nil
abbrev Bv:=@List.length_range
abbrev B0:=@Int.toNat_natCast
abbrev BZ:=@List.nodup_cons
abbrev BS:=@wpAny_tryCatch
abbrev Bf:=@List.mem_filter
abbrev C3:=@List.mem_append_right
abbrev BJ:=@List.map_cons
abbrev Cv:=@Nat.lt_of_le_of_lt
abbrev Bx:=@wpAny_seqItems
abbrev DV:=@Heap.get?_update_ne
abbrev Di:=@List.mem_append_left
abbrev Ep:=@List.length_eq_zero_iff
abbrev Cf:=@wpAny_updateSeq
abbrev C7:=@wpAny_call_entry
abbrev DO:=@List.pairwise_map
abbrev DW:=@List.nodup_append
abbrev DT:=@List.append_assoc
abbrev Ey:=@List.length_replicate
abbrev Eh:=@Heap.SameBut.update
abbrev DF:=@List.getElem_mem
abbrev Dx:=@wpAny_truthy_bool
abbrev Dp:=@Nat.lt_succ_of_lt
abbrev EZ:=@decide_eq_true_iff
abbrev Cr:=@List.mem_range
abbrev G0:=@wpAny_callSpecial?_slot
abbrev Gu:=@List.filter_cons_of_neg
abbrev Dr:=@wpAny_isInstance
abbrev EX:=@wpAny_newObj_type
abbrev C2:=@Heap.size_push
abbrev GZ:=@List.replicate_succ
abbrev Gw:=@List.length_singleton
abbrev Du:=@List.filter_nil
abbrev Ca:=@Int.zero_add
abbrev Ew:=@List.flatten_cons
abbrev Hl:=@List.filter_cons_of_pos
abbrev Cq:=@Nat.le_trans
abbrev Ga:=@List.filter_append
abbrev IC:=@wpAny_pyNext_list_item
abbrev Ht:=@Option.map_eq_some_iff
abbrev Et:=@List.filter_cons
abbrev Cb:=@wpAny_letGo
abbrev Gy:=@List.map_congr_left
abbrev Gv:=@List.length_pos_iff
abbrev Gx:=@wpAny_Call_Name_kw
abbrev CM:=@wpAny_mono
abbrev GU:=@List.all_eq_true
abbrev Mp:=@List.perm_ext_iff_of_nodup
abbrev Dw:=@wpAny_typeOf
abbrev J1:=@wpAny_pyNext_list_end
abbrev Fx:=@Option.map_some
abbrev Cu:=@wpAny_call
abbrev Hn:=@List.pairwise_cons
abbrev Hq:=@List.mem_filterMap
abbrev DK:=@Nat.le_succ
abbrev E5:=@Nat.lt_irrefl
abbrev GY:=@wpAny_setField
abbrev Ea:=@Nat.le_of_lt
abbrev Ec:=@List.map_map
abbrev Hr:=@wpAny_setState_of
abbrev Hk:=@wpAny_pyIter_list
abbrev HC:=@Nat.not_lt_zero
abbrev Jm:=@List.map_eq_nil_iff
abbrev Ja:=@Int.toNat_of_nonneg
abbrev Mh:=@Heap.get?_update_other
abbrev Hm:=@List.lookup_cons
abbrev Ho:=@List.any_eq_true
abbrev Jv:=@wpAny_pyIter_tuple
abbrev Gg:=@wpAny_newList
abbrev Jc:=@Bool.false_eq_true
abbrev Ni:=@Option.isSome_iff_exists
abbrev J7:=@List.ext_getElem?
abbrev Ju:=@List.Pairwise.nil
abbrev Ge:=@Nat.sub_self
abbrev G6:=@wpAny_attempt
abbrev G9:=@List.sum_cons
abbrev NK:=@List.getElem?_replicate
abbrev E3:=@Int.le_refl
abbrev Rc:=@wpAny_typeNameOfWhole_keyiter
abbrev JY:=@Nat.succ_ne_self
abbrev Jb:=@Bool.and_eq_true
abbrev EV:=@wpAny_rule
abbrev Hs:=@List.nodup_nil
abbrev Hf:=@List.Perm.refl
end
abbrev DB:List PySem.Str:=["web","places","gone"]
abbrev Eo:List PySem.Str:=["_law_tape_here","_law_n"]
abbrev Bb:List PySem.Str:=["web","thing"]
abbrev Bc:List PySem.Str:=["one","other"]
abbrev HR:List PySem.Str:=["sets","numbers","taken","hub"]
abbrev IZ:List PySem.Str:=["web","sets","numbers","taken"]
abbrev IV:List PySem.Str:=["_law_tape_here","_law_many"]
abbrev Ck:List PySem.Str:=["web","places"]
abbrev HQ:List PySem.Str:=["thing","least","most"]
abbrev DD:List PySem.Str:=["plan","place"]
abbrev DC:List PySem.Str:=["web","place"]
abbrev JW:List PySem.Str:=["web","places","start"]
abbrev SF:List PySem.Str:=["_law_web_here","_law_labels","_law_posts"]
abbrev Mw:List PySem.Str:=["rows","ranks","hub","place"]
abbrev DE:List PySem.Str:=["web","plan"]
abbrev Ai:List PySem.Str:=["web"]
abbrev Cw:List PySem.Str:=["n","thing"]
abbrev Lm:List PySem.Str:=["here","there","other"]
abbrev LM:List PySem.Str:=["place","row","posts"]
abbrev Pe:List PySem.Str:=["web","rows","ranks","place"]
abbrev BV:List PySem.Str:=["thing"]
abbrev OT:List PySem.Str:=["web","rows","place","hub"]
abbrev Ih:List PySem.Str:=["thing","count"]
abbrev M3:List PySem.Str:=["web","one","there"]
abbrev HG:List PySem.Str:=["_law_script"]
abbrev IU:List PySem.Str:=["thing","most"]
abbrev CK:List PySem.Str:=["place"]
abbrev La:List PySem.Str:=["pairs","place"]
abbrev Kx:List PySem.Str:=["sets","taken"]
abbrev Bs:List PySem.Str:=["plan"]
abbrev KL:List PySem.Str:=["row","places"]
abbrev EE:List PySem.Str:=["labels"]
abbrev KD:List PySem.Str:=["web","order"]
abbrev MK:List PySem.Str:=["web","taken"]
abbrev K0:List PySem.Str:=["web","posts"]
abbrev Lb:List PySem.Str:=["rows","hub"]
abbrev QS:List PySem.Str:=["web","numbers"]
abbrev JS:List PySem.Str:=["waiting"]
abbrev QL:List PySem.Str:=["web","start"]
abbrev Mz:List PySem.Str:=["word","at"]
abbrev R8:List PySem.Str:=["_law_web_here"]
abbrev QQ:List PySem.Str:=["web","sets"]
abbrev IQ:List PySem.Str:=["places"]
abbrev IL:List PySem.Str:=["things"]
namespace L2
open PySem PySem.Spec PyProof.Rows
noncomputable def defArgs (s:Stmt):Arguments:=match s with
 | .FunctionDef _ a _ _ _ _ _ _ _ _=>a
 | _=>{ posonlyargs:=[],args:=[],vararg:=none,kwonlyargs:=[],kw_defaults:=[],kwarg:=none,defaults:=[] }
noncomputable def defBody (s:Stmt):List Stmt:=match s with
 | .FunctionDef _ _ b _ _ _ _ _ _ _=>b
 | _=>[]
noncomputable def defScope (s:Stmt):Scope:=match s with
 | .FunctionDef _ _ _ _ _ _ sc _ _ _=>sc
 | _=>{ kind:=.function,names:=[],isGenerator:=false,isCoroutine:=false }
end L2
namespace L2
section
open PySem PySem.W PyProof.Rows
def RH (p:Program)(w:World)(n₀:Nat)(ann:Option Value):Nat->SharedT->Thread->Option SharedT
 | 0,_,_=>none
 | n+1,s,t=>match through t with
  | true=>some s
  | false=>match Fast.tw6613529449190102663 n₀ ann t with
   | false=>none
   | true=>match Fast.tw10156331382660048174 (Fast.tw11892475500146522536 Fast.tw14364793385576792824) p w s t with
    | some (s',t')=>RH p w n₀ ann n s' t'
    | none=>none
theorem Wd :∀{n:Nat}{s s':SharedT}{t:Thread},RH p w n₀ ann n s t=some s'->topRun treeTable p w n₀ ann n s.abs t=some s'.abs
 | 0,_,_,_,h=>by cases h
 | n+1,s,s',t,h=>by
  unfold RH at h;rw[<-Fast.te6613529449190102663,<-Fast.te10156331382660048174,<-Fast.te11892475500146522536,<-Fast.te14364793385576792824] at h;unfold topRun;cases he:through t with
  | true=>rw[he] at h;cases h;rfl
  | false=>
   rw[he] at h;cases hk:stepOk n₀ ann t with
   | false=>rw[hk] at h;cases h
   | true=>
    rw[hk] at h;cases hs:stepT (denote treeTable) p w s t with
    | none=>rw[hs] at h;cases h
    | some r=>obtain⟨s₂,t₂⟩:=r;rw[hs] at h;rw[stepT_spec hs];exact Wd h
noncomputable def bt:List Obj->Nat->BT->BT
 | [],_,t=>t
 | o::l,i,t=>bt l (i+1) (t.ins i o)
def bT (P:Params):BT:=bt (boot_heap P).objs.toList 0 .nil
def bS (w:World)(os:OsState):SharedT:=⟨bT w.params,(boot_heap w.params).objs.size,(boot_heap w.params).life,Array.mk [],boot_drawn,boot_toks,os⟩
theorem bA (w)(os:OsState):(bS w os).abs=⟨boot_heap w.params,Array.mk [],boot_drawn,boot_toks,os⟩:=by kernel_rfl
abbrev Ux (p:Program)(N:Nat)(w:World)(os:OsState):Option SharedT:=RH p w (boot_heap w.params).objs.size ((boot_heap w.params).nsMap mainGlobals "__annotations__") N (bS w os) (topStub p)
noncomputable abbrev Qm (p:Program)(h h':Heap)(s:Shared):Bool:=staticsOk (importedModules p.main.body) h h' && namesBound p h' && gensDone s && laidKept h h'
theorem left_of (e:opening p=plainProg p.main.scope.names)(hN:Nat.ble 600 N=true)(f:∀s,fenceModules? p s=some s)
 (h:∀w os,(Ux p N w os).map (fun s=>(Qm p (boot_heap w.params) s.abs.heap s.abs,Fast.tw4187177175401517315 q loose (importedModules p.main.body) Xt true s.abs,Yf s.abs))=some (true,openGood q loose,Ya w)):LeftO p q loose Xt Yf Ya N:=by
 intro w;obtain⟨⟨h0,gs,d,k,os⟩,e1,e2⟩:=Ht.mp (boot_open e hN f w);obtain⟨rfl,rfl,rfl,rfl⟩:h0=boot_heap w.params/\gs=Array.mk []/\d=boot_drawn/\k=boot_toks:=by simpa using e2
 obtain⟨s,r,a⟩:=Ht.mp (h w os);obtain⟨b,a⟩:=Prod.mk.inj a;rw[<-Fast.te4187177175401517315] at a;have y:=Wd r;rw[bA] at y;unfold openEnds;rw[e1];show (topFrom treeTable p w N _).map _=_;unfold topFrom;have z:((boot_heap w.params).isNs mainGlobals && (Array.mk []:Array GenState).size==0)=true:=by kernel_rfl
 dsimp only;rw[z];dsimp only;rw[y];show Option.map _ (match Qm p (boot_heap w.params) s.abs.heap s.abs with | true=>some s.abs | false=>none)=_
 rw[b];exact congrArg some a
end
end L2
namespace K91
open PySem L2
noncomputable def top (i:Nat):Stmt:=PySem.Challenge.pw_labelways_k91_whole_orders_plans_and_pos.main.body.getD i (.Pass ⟨0,0,0,0⟩)
noncomputable def mth (k i:Nat):Stmt:=match top k with
 | .ClassDef _ _ _ body ..=>body.getD i (.Pass ⟨0,0,0,0⟩)
 | _=>.Pass ⟨0,0,0,0⟩
noncomputable abbrev sT:String->Str:=Str.ofString
noncomputable abbrev kH:=PyData.keyHash
noncomputable abbrev dE:=DictEntry.mk
noncomputable abbrev vS:=Value.str
noncomputable abbrev vI:=Value.int
noncomputable abbrev vR:=Value.ref
noncomputable abbrev vB:=Value.bool
noncomputable abbrev vN:Value:=Value.none
noncomputable abbrev vT:=Value.type
noncomputable abbrev oM:=Obj.mk
noncomputable abbrev cQ (x:Array Value):Obj:=oM (vT "code") .none (.fields x) #[]
noncomputable abbrev fQ (x:FuncData):Obj:=oM (vT "function") .none (.func x) #[]
noncomputable abbrev fT (x:String)(i:Nat)(m:Value)(c:Nat):Obj:=fQ (.mk (sT x) (sT x) (L2.defArgs (top i)) (FuncBody.stmts (L2.defBody (top i))) (L2.defScope (top i)) 3 [] vN vN vN m .none (vR c) vN 0)
noncomputable abbrev qS (x:String)(n:Nat):Value:=vS (sT x) n
noncomputable abbrev qC (n:Nat):Value:=qS "/claim/cut.py" n
noncomputable abbrev cA (x:String)(a:Nat)(l q:Int)(p:Nat)(n:Int)(m:Nat):Obj:=cQ #[qS x a,qS x (a+1),qC (a+2),vI l 0,vI q 0,vI 0 0,vI 0 0,vI 3 0,vR p,vB true,vI 181 0,vR (p+1),vN,vR (p+2),vR (p+3),vR (p+4),vI n 0,vI l 0,qC m]
noncomputable abbrev cB (x:String)(a:Nat)(l q:Int)(p:Nat)(n:Int)(m:Nat):Obj:=cQ #[qS x a,qS x (a+1),qC (a+2),vI l 0,vI q 0,vI 0 0,vI 0 0,vI 3 0,vR p,vB true,vI 181 0,vR (p+1),vN,vN,vN,vR (p+2),vI n 0,vI l 0,qC m]
noncomputable abbrev qL:=qS "law_labelways_k91_whole_orders_plans_and_pos" 810
noncomputable abbrev kE (P:Params)(x:String)(n:Nat):Value->DictEntry:=dE (kH P (sT x)) (qS x n)
noncomputable def Kf:Params->PySem.W.Frag:=fun P=>[
(2,oM vN .none (Data.dict #[]) #[]),
(3,oM (vT "dict") .none (Data.dict #[kE P "__name__" 165 qL,kE P "__doc__" 166 vN,kE P "__package__" 167 vN,kE P "__loader__" 168 (Value.builtin "__main__.__loader__#opaque"),kE P "__spec__" 169 vN,kE P "__annotations__" 170 (vR 6),kE P "__builtins__" 171 (vR 4),kE P "__file__" 173 (qC 172),kE P "__cached__" 174 vN,kE P "WayError" 206 (vR 24),kE P "NoLeast" 233 (vR 44),kE P "NoPlan" 260 (vR 63),kE P "NoOrder" 276 (vR 75),kE P "NoTree" 292 (vR 87),kE P "NoPosts" 308 (vR 99),kE P "TooMany" 324 (vR 111),kE P "is_number" 333 (vR 120),kE P "is_within" 342 (vR 127),kE P "is_tuple_of" 350 (vR 134),kE P "is_rising" 356 (vR 139),kE P "is_place" 364 (vR 146),kE P "are_places" 370 (vR 151),kE P "ties_at" 384 (vR 158),kE P "beside" 390 (vR 163),kE P "is_whole" 397 (vR 170),kE P "joined_within" 409 (vR 177),kE P "lengths" 417 (vR 182),kE P "lengths_from" 431 (vR 189),kE P "nearest" 439 (vR 196),kE P "between_rows" 445 (vR 201),kE P "next_by_row" 451 (vR 206),kE P "is_order" 459 (vR 211),kE P "by_order" 465 (vR 216),kE P "label_by_ranks" 471 (vR 221),kE P "is_hub" 477 (vR 226),kE P "entry_by_rows" 489 (vR 233),kE P "total" 495 (vR 238),kE P "longest" 501 (vR 243),kE P "MOST_PLACES_OF_LEASTS" 505 (vI 8 504),kE P "count_free" 511 (vR 248),kE P "sets_from" 517 (vR 253),kE P "set_number" 523 (vR 258),kE P "lets_least" 532 (vR 265),kE P "refuse_too_many" 539 (vR 272),kE P "is_order_with_numbers" 545 (vR 277),kE P "step_fault" 557 (vR 284),kE P "all_sets" 563 (vR 289),kE P "left_places" 569 (vR 294),kE P "by_way_of" 579 (vR 301),kE P "least_order" 590 (vR 308),kE P "least_numbers" 601 (vR 315),kE P "best_next" 614 (vR 322),kE P "told" 624 (vR 329),kE P "least_sum" 630 (vR 334),kE P "near_labels" 638 (vR 339),kE P "near_label" 644 (vR 344),kE P "reached" 650 (vR 349),kE P "near_told" 659 (vR 356),kE P "lengths_in" 665 (vR 361),kE P "sums_by_home" 671 (vR 366),kE P "MOST_WITHIN" 675 (vI 24 674),kE P "is_plan" 682 (vR 373),kE P "is_plan_within" 688 (vR 378),kE P "are_plan_places" 694 (vR 383),kE P "chain" 702 (vR 390),kE P "chain_or_none" 712 (vR 397),kE P "plan_order" 721 (vR 404),kE P "deepest" 727 (vR 409),kE P "lets_plan" 735 (vR 416),kE P "refuse_at" 743 (vR 423),kE P "place_fault" 753 (vR 430),kE P "lacks_fault" 759 (vR 435),kE P "tie_fault" 765 (vR 440),kE P "tree_plan" 774 (vR 447),kE P "is_tree" 781 (vR 454),kE P "plan_of_part" 787 (vR 459),kE P "middle_place" 797 (vR 466),kE P "greatest_part" 803 (vR 471),kE P "parts_without" 809 (vR 476),kE P "_law_tape" 818 (vR 483),kE P "_law_draw" 830 (vR 490),kE P "_law_web" 836 (vR 495),kE P "_law_order" 847 (vR 502),kE P "_law_tree" 858 (vR 509),kE P "_law_figures" 866 (vR 516),kE P "_law_tree_right" 872 (vR 521),kE P "_law_posts_right" 886 (vR 528),kE P "law" 892 (vR 533)] 88) #[]),
(23,oM (vT "dict") .none (Data.dict #[kE P "__module__" 196 (qS "labelways.errors" 187),kE P "__firstlineno__" 200 (vI 2 199),kE P "__static_attributes__" 201 (vR 22),kE P "__weakref__" 203 (vR 25),kE P "__doc__" 204 vN] 3) #[]),
(24,oM (vT "type") .none (Data.cls (ClassData.mk (sT "WayError") [vT "ValueError"] [vR 24,vT "ValueError",vT "Exception",vT "BaseException",vT "object"] 23 (sT "WayError") true [] [vR 44,vR 63,vR 75,vR 87,vR 99,vR 111] false .none false)) #[.some (vR 15),.none,.some (qS "WayError" 189),.some (qS "WayError" 197),.some (Value.builtin "ValueError.__new__"),.some (vB true)]),
(25,oM (vT "getset_descriptor") .none (Data.fields #[qS "__weakref__" 202,vR 24,Value.builtin "ExceptionGroup.__weakref__",vN]) #[]),
(40,cQ #[qS "__init__" 219,qS "NoLeast.__init__" 220,qC 221,vI 6 0,vI 3 0,vI 0 0,vI 0 0,vI 3 0,vR 35,vB true,vI 181 0,vR 36,vN,vR 37,vR 38,vR 39,vI 225 0,vI 6 0,qC 226]),
(41,fQ (.mk (sT "__init__") (sT "NoLeast.__init__") (L2.defArgs (mth 2 0)) (FuncBody.stmts (L2.defBody (mth 2 0))) (L2.defScope (mth 2 0)) 3 [] vN vN vN (qS "labelways.errors" 187) .none (vR 40) vN 0)),
(43,oM (vT "dict") .none (Data.dict #[kE P "__module__" 214 (qS "labelways.errors" 187),kE P "__firstlineno__" 218 (vI 4 217),kE P "__init__" 227 (vR 41),kE P "__static_attributes__" 230 (vR 42),kE P "__doc__" 231 vN] 2) #[]),
(44,oM (vT "type") .none (Data.cls (ClassData.mk (sT "NoLeast") [vR 24] [vR 44,vR 24,vT "ValueError",vT "Exception",vT "BaseException",vT "object"] 43 (sT "NoLeast") true [] [] false .none false)) #[.some (vR 28),.none,.some (qS "NoLeast" 207),.some (qS "NoLeast" 215),.some (Value.builtin "ValueError.__new__"),.some (vB true)]),
(59,cQ #[qS "__init__" 246,qS "NoPlan.__init__" 247,qC 248,vI 11 0,vI 3 0,vI 0 0,vI 0 0,vI 3 0,vR 54,vB true,vI 181 0,vR 55,vN,vR 56,vR 57,vR 58,vI 252 0,vI 11 0,qC 253]),
(60,fQ (.mk (sT "__init__") (sT "NoPlan.__init__") (L2.defArgs (mth 3 0)) (FuncBody.stmts (L2.defBody (mth 3 0))) (L2.defScope (mth 3 0)) 3 [] vN vN vN (qS "labelways.errors" 187) .none (vR 59) vN 0)),
(62,oM (vT "dict") .none (Data.dict #[kE P "__module__" 241 (qS "labelways.errors" 187),kE P "__firstlineno__" 245 (vI 9 244),kE P "__init__" 254 (vR 60),kE P "__static_attributes__" 257 (vR 61),kE P "__doc__" 258 vN] 2) #[]),
(63,oM (vT "type") .none (Data.cls (ClassData.mk (sT "NoPlan") [vR 24] [vR 63,vR 24,vT "ValueError",vT "Exception",vT "BaseException",vT "object"] 62 (sT "NoPlan") true [] [] false .none false)) #[.some (vR 47),.none,.some (qS "NoPlan" 234),.some (qS "NoPlan" 242),.some (Value.builtin "ValueError.__new__"),.some (vB true)]),
(74,oM (vT "dict") .none (Data.dict #[kE P "__module__" 268 (qS "labelways.errors" 187),kE P "__firstlineno__" 272 (vI 14 271),kE P "__static_attributes__" 273 (vR 73),kE P "__doc__" 274 vN] 2) #[]),
(75,oM (vT "type") .none (Data.cls (ClassData.mk (sT "NoOrder") [vR 24] [vR 75,vR 24,vT "ValueError",vT "Exception",vT "BaseException",vT "object"] 74 (sT "NoOrder") true [] [] false .none false)) #[.some (vR 66),.none,.some (qS "NoOrder" 261),.some (qS "NoOrder" 269),.some (Value.builtin "ValueError.__new__"),.some (vB true)]),
(86,oM (vT "dict") .none (Data.dict #[kE P "__module__" 284 (qS "labelways.errors" 187),kE P "__firstlineno__" 288 (vI 16 287),kE P "__static_attributes__" 289 (vR 85),kE P "__doc__" 290 vN] 2) #[]),
(87,oM (vT "type") .none (Data.cls (ClassData.mk (sT "NoTree") [vR 24] [vR 87,vR 24,vT "ValueError",vT "Exception",vT "BaseException",vT "object"] 86 (sT "NoTree") true [] [] false .none false)) #[.some (vR 78),.none,.some (qS "NoTree" 277),.some (qS "NoTree" 285),.some (Value.builtin "ValueError.__new__"),.some (vB true)]),
(98,oM (vT "dict") .none (Data.dict #[kE P "__module__" 300 (qS "labelways.errors" 187),kE P "__firstlineno__" 304 (vI 18 303),kE P "__static_attributes__" 305 (vR 97),kE P "__doc__" 306 vN] 2) #[]),
(99,oM (vT "type") .none (Data.cls (ClassData.mk (sT "NoPosts") [vR 24] [vR 99,vR 24,vT "ValueError",vT "Exception",vT "BaseException",vT "object"] 98 (sT "NoPosts") true [] [] false .none false)) #[.some (vR 90),.none,.some (qS "NoPosts" 293),.some (qS "NoPosts" 301),.some (Value.builtin "ValueError.__new__"),.some (vB true)]),
(110,oM (vT "dict") .none (Data.dict #[kE P "__module__" 316 (qS "labelways.errors" 187),kE P "__firstlineno__" 320 (vI 20 319),kE P "__static_attributes__" 321 (vR 109),kE P "__doc__" 322 vN] 2) #[]),
(111,oM (vT "type") .none (Data.cls (ClassData.mk (sT "TooMany") [vR 24] [vR 111,vR 24,vT "ValueError",vT "Exception",vT "BaseException",vT "object"] 110 (sT "TooMany") true [] [] false .none false)) #[.some (vR 102),.none,.some (qS "TooMany" 309),.some (qS "TooMany" 317),.some (Value.builtin "ValueError.__new__"),.some (vB true)]),
(119,cA "is_number" 327 23 1 114 331 332),
(120,fT "is_number" 9 (qS "labelways.kinds" 325) 119),
(126,cA "is_within" 334 25 3 121 340 341),
(127,fT "is_within" 10 (qS "labelways.kinds" 325) 126),
(133,cA "is_tuple_of" 343 27 2 128 348 349),
(134,fT "is_tuple_of" 11 (qS "labelways.kinds" 325) 133),
(138,cB "is_rising" 351 29 1 135 354 355),
(139,fT "is_rising" 12 (qS "labelways.kinds" 325) 138),
(145,cA "is_place" 357 31 2 140 362 363),
(146,fT "is_place" 13 (qS "labelways.kinds" 325) 145),
(150,cB "are_places" 365 33 2 147 368 369),
(151,fT "are_places" 14 (qS "labelways.kinds" 325) 150),
(157,cA "ties_at" 373 38 2 152 382 383),
(158,fT "ties_at" 16 (qS "labelways.webs" 371) 157),
(162,cB "beside" 385 46 2 159 388 389),
(163,fT "beside" 17 (qS "labelways.webs" 371) 162),
(169,cA "is_whole" 391 48 1 164 395 396),
(170,fT "is_whole" 18 (qS "labelways.webs" 371) 169),
(176,cA "joined_within" 398 50 3 171 407 408),
(177,fT "joined_within" 19 (qS "labelways.webs" 371) 176),
(181,cB "lengths" 412 60 1 178 415 416),
(182,fT "lengths" 21 (qS "labelways.lengths" 410) 181),
(188,cA "lengths_from" 418 62 2 183 429 430),
(189,fT "lengths_from" 22 (qS "labelways.lengths" 410) 188),
(195,cA "nearest" 432 73 1 190 437 438),
(196,fT "nearest" 23 (qS "labelways.lengths" 410) 195),
(200,cB "between_rows" 440 75 3 197 443 444),
(201,fT "between_rows" 24 (qS "labelways.lengths" 410) 200),
(205,cB "next_by_row" 446 80 3 202 449 450),
(206,fT "next_by_row" 25 (qS "labelways.lengths" 410) 205),
(210,cB "is_order" 454 85 2 207 457 458),
(211,fT "is_order" 27 (qS "labelways.orders" 452) 210),
(215,cB "by_order" 460 90 2 212 463 464),
(216,fT "by_order" 28 (qS "labelways.orders" 452) 215),
(220,cB "label_by_ranks" 466 96 4 217 469 470),
(221,fT "label_by_ranks" 29 (qS "labelways.orders" 452) 220),
(225,cB "is_hub" 472 99 4 222 475 476),
(226,fT "is_hub" 30 (qS "labelways.orders" 452) 225),
(232,cA "entry_by_rows" 478 103 4 227 487 488),
(233,fT "entry_by_rows" 31 (qS "labelways.orders" 452) 232),
(237,cB "total" 490 107 1 234 493 494),
(238,fT "total" 32 (qS "labelways.orders" 452) 237),
(242,cB "longest" 496 109 1 239 499 500),
(243,fT "longest" 33 (qS "labelways.orders" 452) 242),
(247,cB "count_free" 506 113 2 244 509 510),
(248,fT "count_free" 36 (qS "labelways.leasts" 502) 247),
(252,cB "sets_from" 512 115 2 249 515 516),
(253,fT "sets_from" 37 (qS "labelways.leasts" 502) 252),
(257,cB "set_number" 518 117 1 254 521 522),
(258,fT "set_number" 38 (qS "labelways.leasts" 502) 257),
(264,cA "lets_least" 524 119 2 259 530 531),
(265,fT "lets_least" 39 (qS "labelways.leasts" 502) 264),
(271,cA "refuse_too_many" 533 131 1 266 537 538),
(272,fT "refuse_too_many" 40 (qS "labelways.leasts" 502) 271),
(276,cB "is_order_with_numbers" 540 134 2 273 543 544),
(277,fT "is_order_with_numbers" 41 (qS "labelways.leasts" 502) 276),
(283,cA "step_fault" 546 138 2 278 555 556),
(284,fT "step_fault" 42 (qS "labelways.leasts" 502) 283),
(288,cB "all_sets" 558 145 1 285 561 562),
(289,fT "all_sets" 43 (qS "labelways.leasts" 502) 288),
(293,cB "left_places" 564 148 2 290 567 568),
(294,fT "left_places" 44 (qS "labelways.leasts" 502) 293),
(300,cA "by_way_of" 570 150 4 295 577 578),
(301,fT "by_way_of" 45 (qS "labelways.leasts" 502) 300),
(307,cA "least_order" 580 152 1 302 588 589),
(308,fT "least_order" 46 (qS "labelways.leasts" 502) 307),
(314,cA "least_numbers" 591 161 2 309 599 600),
(315,fT "least_numbers" 47 (qS "labelways.leasts" 502) 314),
(321,cA "best_next" 602 167 4 316 612 613),
(322,fT "best_next" 48 (qS "labelways.leasts" 502) 321),
(328,cA "told" 617 170 2 323 622 623),
(329,fT "told" 50 (qS "labelways.labels" 615) 328),
(333,cB "least_sum" 625 172 2 330 628 629),
(334,fT "least_sum" 51 (qS "labelways.labels" 615) 333),
(338,cB "near_labels" 633 177 2 335 636 637),
(339,fT "near_labels" 53 (qS "labelways.nears" 631) 338),
(343,cB "near_label" 639 181 3 340 642 643),
(344,fT "near_label" 54 (qS "labelways.nears" 631) 343),
(348,cB "reached" 645 186 2 345 648 649),
(349,fT "reached" 55 (qS "labelways.nears" 631) 348),
(355,cA "near_told" 651 188 2 350 657 658),
(356,fT "near_told" 56 (qS "labelways.nears" 631) 355),
(360,cB "lengths_in" 660 193 2 357 663 664),
(361,fT "lengths_in" 57 (qS "labelways.nears" 631) 360),
(365,cB "sums_by_home" 666 195 2 362 669 670),
(366,fT "sums_by_home" 58 (qS "labelways.nears" 631) 365),
(372,cA "is_plan" 676 202 1 367 680 681),
(373,fT "is_plan" 61 (qS "labelways.plans" 672) 372),
(377,cB "is_plan_within" 683 204 2 374 686 687),
(378,fT "is_plan_within" 62 (qS "labelways.plans" 672) 377),
(382,cB "are_plan_places" 689 208 1 379 692 693),
(383,fT "are_plan_places" 63 (qS "labelways.plans" 672) 382),
(389,cA "chain" 695 212 2 384 700 701),
(390,fT "chain" 64 (qS "labelways.plans" 672) 389),
(396,cA "chain_or_none" 703 214 2 391 710 711),
(397,fT "chain_or_none" 65 (qS "labelways.plans" 672) 396),
(403,cA "plan_order" 713 222 1 398 719 720),
(404,fT "plan_order" 66 (qS "labelways.plans" 672) 403),
(408,cB "deepest" 722 227 1 405 725 726),
(409,fT "deepest" 67 (qS "labelways.plans" 672) 408),
(415,cA "lets_plan" 728 229 2 410 733 734),
(416,fT "lets_plan" 68 (qS "labelways.plans" 672) 415),
(422,cA "refuse_at" 736 236 2 417 741 742),
(423,fT "refuse_at" 69 (qS "labelways.plans" 672) 422),
(429,cA "place_fault" 744 239 2 424 751 752),
(430,fT "place_fault" 70 (qS "labelways.plans" 672) 429),
(434,cB "lacks_fault" 754 246 2 431 757 758),
(435,fT "lacks_fault" 71 (qS "labelways.plans" 672) 434),
(439,cB "tie_fault" 760 249 2 436 763 764),
(440,fT "tie_fault" 72 (qS "labelways.plans" 672) 439),
(446,cA "tree_plan" 768 256 1 441 772 773),
(447,fT "tree_plan" 74 (qS "labelways.trees" 766) 446),
(453,cA "is_tree" 775 260 1 448 779 780),
(454,fT "is_tree" 75 (qS "labelways.trees" 766) 453),
(458,cB "plan_of_part" 782 262 2 455 785 786),
(459,fT "plan_of_part" 76 (qS "labelways.trees" 766) 458),
(465,cA "middle_place" 788 266 2 460 795 796),
(466,fT "middle_place" 77 (qS "labelways.trees" 766) 465),
(470,cB "greatest_part" 798 268 3 467 801 802),
(471,fT "greatest_part" 78 (qS "labelways.trees" 766) 470),
(475,cB "parts_without" 804 270 3 472 807 808),
(476,fT "parts_without" 79 (qS "labelways.trees" 766) 475),
(482,cA "_law_tape" 812 279 1 477 816 817),
(483,fT "_law_tape" 81 qL 482),
(489,cA "_law_draw" 819 281 2 484 828 829),
(490,fT "_law_draw" 82 qL 489),
(494,cB "_law_web" 831 294 2 491 834 835),
(495,fT "_law_web" 83 qL 494),
(501,cA "_law_order" 837 306 2 496 845 846),
(502,fT "_law_order" 84 qL 501),
(508,cA "_law_tree" 848 312 2 503 856 857),
(509,fT "_law_tree" 85 qL 508),
(515,cA "_law_figures" 859 318 1 510 864 865),
(516,fT "_law_figures" 86 qL 515),
(520,cB "_law_tree_right" 867 324 1 517 870 871),
(521,fT "_law_tree_right" 87 qL 520),
(527,cA "_law_posts_right" 873 333 3 522 884 885),
(528,fT "_law_posts_right" 88 qL 527),
(532,cB "law" 887 344 1 529 890 891),
(533,fT "law" 89 qL 532)]
noncomputable def Ka:List Addr:=[2,3,23,24,25,40,41,43,44,59,60,62,63,74,75,86,87,98,99,110,111,119,120,126,127,133,134,138,139,145,146,150,151,157,158,162,163,169,170,176,177,181,182,188,189,195,196,200,201,205,206,210,211,215,216,220,221,225,226,232,233,237,238,242,243,247,248,252,253,257,258,264,265,271,272,276,277,283,284,288,289,293,294,300,301,307,308,314,315,321,322,328,329,333,334,338,339,343,344,348,349,355,356,360,361,365,366,372,373,377,378,382,383,389,390,396,397,403,404,408,409,415,416,422,423,429,430,434,435,439,440,446,447,453,454,458,459,465,466,470,471,475,476,482,483,489,490,494,495,501,502,508,509,515,516,520,521,527,528,532,533]
noncomputable abbrev pw:Program:=PySem.Challenge.pw_labelways_k91_whole_orders_plans_and_pos
noncomputable def Vp:Program:={ pw with main:={ pw.main with body:=[top 1,top 2,top 3,top 4,top 5,top 6,top 7,top 9,top 10,top 11,top 12,top 13,top 14,top 16,top 17,top 18,top 19,top 21,top 22,top 23,top 24,top 25,top 27,top 28,top 29,top 30,top 31,top 32,top 33,top 35,top 36,top 37,top 38,top 39,top 40,top 41,top 42,top 43,top 44,top 45,top 46,top 47,top 48,top 50,top 51,top 53,top 54,top 55,top 56,top 57,top 58,top 60,top 61,top 62,top 63,top 64,top 65,top 66,top 67,top 68,top 69,top 70,top 71,top 72,top 74,top 75,top 76,top 77,top 78,top 79,top 81,top 82,top 83,top 84,top 85,top 86,top 87,top 88,top 89] } }
noncomputable abbrev RR:PySem.W.RowW:=PySem.W.OpenRow.toRowW (PySem.Challenge.rw_labelways_k91_whole_orders_plans_and_pos).row
theorem Ke:∀P,Ka=(Kf P).map (·.1):=fun P=>by kernel_rfl
abbrev HK:PySem.W.Hook:=PySem.W.kHook Kf Ka Ke
theorem tri_ {α β γ δ:Type}{o:Option α}{f:α->β}{g:α->γ}{h:α->δ}{a:β}{b:γ}{c:δ}(x:o.map f=some a)(y:o.map g=some b)(z:o.map h=some c):o.map (fun s=>(f s,g s,h s))=some (a,b,c):=by
 cases o with
 | none=>cases x
 | some s=>cases x;cases y;cases z;rfl
theorem duo_ {α β γ:Type}{o:Option α}{g:α->β×γ}{a:β×γ}(x:o.map (fun s=>(g s).1)=some a.1)(y:o.map (fun s=>(g s).2)=some a.2):o.map g=some a:=by
 cases o with
 | none=>cases x
 | some s=>exact congrArg some (Prod.ext (Option.some.inj x) (Option.some.inj y))
section
open PySem PySem.W PyProof.Rows
abbrev TT_ (s:SharedT):=Fast.tw4187177175401517315 Vp [] (importedModules pw.main.body) (fun s=>xlAt Vp [] s && recOk (RowW.records RR) s) true s.abs
theorem l1_ (w:World)(os:OsState):(L2.Ux pw 7452 w os).map (fun s=>(TT_ s).1)=some (openGood Vp []).1:=by kernel_rfl
theorem l2_ (w:World)(os:OsState):(L2.Ux pw 7452 w os).map (fun s=>(TT_ s).2)=some (openGood Vp []).2:=by kernel_rfl
theorem l3_ (w:World)(os:OsState):(L2.Ux pw 7452 w os).map (fun s=>L2.Qm pw (boot_heap w.params) s.abs.heap s.abs)=some true:=by kernel_rfl
theorem l4_ (w:World)(os:OsState):(L2.Ux pw 7452 w os).map (fun s=>Hook.obs HK s.abs)=some (Hook.val HK w):=by kernel_rfl
end
theorem left:PySem.W.LeftO pw Vp [] (fun s=>PySem.W.xlAt Vp [] s && PySem.W.recOk (PySem.W.RowW.records RR) s) (PySem.W.Hook.obs HK) (PySem.W.Hook.val HK) 7452:=L2.left_of (by kernel_rfl) (by decide) (fun _=>rfl) fun w os=>tri_ (l3_ w os) (duo_ (l1_ w os) (l2_ w os)) (l4_ w os)
theorem wS:PySem.Challenge.rw_labelways_k91_whole_orders_plans_and_pos.wellSaid=true:=by decide +kernel
end K91
abbrev Df:=PySem.Value->PySem.Shared->Prop
abbrev CI:=List (PySem.Addr×PySem.Obj)
abbrev M6:=List (List (Option Int))
abbrev Be:=PySem.Str->Option PySem.Value
abbrev AO:=PySem.W.Frag
namespace L2
open PySem PySem.Spec PyProof.Rows
abbrev AU:=Sum Int Str
noncomputable def Mk:AU->Value->Bool
 | .inl k,v=>Value.isInt k v
 | .inr x,v=>Value.isStrOf x v
noncomputable def Ui (w:World):AU->Int
 | .inl k=>hashInt k
 | .inr x=>hashStr w x
theorem Gr:∀{k:AU}{v:Value},Mk k v=true->(∃i t,k=Sum.inl i/\v=Value.int i t)\/(∃x t,k=Sum.inr x/\v=Value.str x t)
 | .inl i,v,h=>by obtain⟨t,e⟩:=Value.isInt_shape (k:=i) (v:=v) h;exact .inl ⟨i,t,rfl,e⟩
 | .inr x,v,h=>by obtain⟨t,e⟩:=Value.isStrOf_shape (x:=x) (v:=v) h;exact .inr ⟨x,t,rfl,e⟩
theorem Zc (i)(t:Tok):Mk (.inl i) (.int i t)=true:=by simp[Mk,Value.isInt]
theorem dW (x)(t:Tok):Mk (.inr x) (.str x t)=true:=by simp[Mk,Value.isStrOf]
theorem Lz (a b):decide ((Sum.inl a:AU)=Sum.inl b)=(a==b):=by
 by_cases e:a=b
 . subst e;simp
 . have h:¬ (Sum.inl a:AU)=Sum.inl b:=fun q=>e (Sum.inl.inj q);rw[zT h];exact (beq_eq_false_iff_ne.mpr e).symm
theorem LQ (a b):decide ((Sum.inr a:AU)=Sum.inr b)=decide (a=b):=by
 by_cases e:a=b
 . subst e;simp
 . have h:¬ (Sum.inr a:AU)=Sum.inr b:=fun q=>e (Sum.inr.inj q);rw[zT h,zT e]
theorem K6 (a)(b):decide ((Sum.inl a:AU)=Sum.inr b)=false:=zT (fun q=>nomatch q)
theorem Kt (a)(b):decide ((Sum.inr a:AU)=Sum.inl b)=false:=zT (fun q=>nomatch q)
noncomputable def A5 (prog:Program)(w:World):PySem.KeyKind prog w AU where
 is:=Mk
 hash:=Ui w
 inj:=fun v a b ha hb=>by
  rcases Gr ha with ⟨i,t,rfl,rfl⟩ | ⟨x,t,rfl,rfl⟩
  . rcases Gr hb with ⟨j,u,rfl,e⟩ | ⟨y,u,rfl,e⟩
    . injection e with e1 _;rw[e1]
    . exact nomatch e
  . rcases Gr hb with ⟨j,u,rfl,e⟩ | ⟨y,u,rfl,e⟩
    . exact nomatch e
    . injection e with e1 _;rw[e1]
 byValue:=fun k v h=>by rcases Gr h with ⟨i,t,rfl,rfl⟩ | ⟨x,t,rfl,rfl⟩ <;> rfl
 pyHash:=fun hv h=>by
  rcases Gr hv with ⟨i,t,rfl,rfl⟩ | ⟨x,t,rfl,rfl⟩
  . exact wpAny_pyHash_int h
  . exact wpAny_pyHash_str h
 eqBool:=fun hu hv h=>by
  rcases Gr hu with ⟨i,t,rfl,rfl⟩ | ⟨x,t,rfl,rfl⟩
  . rcases Gr hv with ⟨j,u,rfl,rfl⟩ | ⟨y,u,rfl,rfl⟩
    . rw[Lz] at h;exact wpAny_eqBool_int h
    . rw[K6] at h;exact SeqAt.EqAt.int_str i t y u _ _ _ _ h
  . rcases Gr hv with ⟨j,u,rfl,rfl⟩ | ⟨y,u,rfl,rfl⟩
    . rw[Kt] at h;exact SeqAt.EqAt.str_int x t j u _ _ _ _ h
    . rw[LQ] at h;exact wpAny_eqBool_str h
 «strs» := fun k x t v h=>by
  rcases Gr h with ⟨i,u,rfl,e⟩ | ⟨y,u,rfl,e⟩
  . exact nomatch e
  . injection e with e1 _;subst e1;cases v <;> rfl
theorem c9 (prog)(w)(i)(t:Tok):(A5 prog w).is (.inl i) (.int i t)=true:=Zc i t
theorem fU (prog)(w)(x)(t:Tok):(A5 prog w).is (.inr x) (.str x t)=true:=dW x t
inductive V where
 | non | bl (b:Bool) | int (i:Int) | str (x:Str) | byt (b:Array UInt8) | flt (b:UInt64) | ref (a:Addr) | ty (n:String)
 deriving DecidableEq
def AS:V->Value->Prop
 | .non,u=>u=Value.none
 | .bl b,u=>u=Value.bool b
 | .int i,u=>∃t,u=Value.int i t
 | .str x,u=>∃t,u=Value.str x t
 | .byt b,u=>∃t,u=Value.bytes b t
 | .flt b,u=>∃t,u=Value.float b t
 | .ref a,u=>u=Value.ref a
 | .ty n,u=>u=Value.type n
abbrev AR:List V->List Value->Prop:=Paired AS
theorem AR.length (r:AR xs us):xs.length=us.length:=Paired.length r
theorem AR.get:∀{xs:List V}{us:List Value}{i:Nat}{x:V},AR xs us->xs[i]?=some x->∃u,us[i]?=some u/\AS x u
 | _,_,_,_,.nil,e=>by simp at e
 | _,_,0,_,.cons r _,e=>by simp at e;subst e;exact⟨_,rfl,r⟩
 | _,_,i+1,x,.cons _ t,e=>by obtain⟨u,h1,h2⟩:=AR.get (i:=i) (x:=x) t (by simpa using e);exact⟨u,by simpa using h1,h2⟩
theorem AR.set (r:AS x u):∀{xs:List V}{us:List Value}(i:Nat),AR xs us->AR (xs.set i x) (us.set i u)
 | _,_,_,.nil=>.nil
 | _,_,0,.cons _ t=>.cons r t
 | _,_,i+1,.cons q t=>.cons q (AR.set r i t)
theorem AR.append:∀{xs ys:List V}{us ws:List Value},AR xs us->AR ys ws->AR (xs++ys) (us++ws)
 | _,_,_,_,.nil,s=>s
 | _,_,_,_,.cons r t,s=>.cons r (AR.append t s)
theorem AR.take:∀{xs:List V}{us:List Value}(n:Nat),AR xs us->AR (xs.take n) (us.take n)
 | _,_,0,_=>.nil
 | _,_,_+1,.nil=>.nil
 | _,_,n+1,.cons r t=>.cons r (AR.take n t)
theorem AR.drop:∀{xs:List V}{us:List Value}(n:Nat),AR xs us->AR (xs.drop n) (us.drop n)
 | _,_,0,r=>r
 | _,_,_+1,.nil=>.nil
 | _,_,n+1,.cons _ t=>AR.drop n t
def DX:Option V->Option Value->Prop
 | some v,some u=>AS v u
 | none,none=>True
 | _,_=>False
def KV {κ:Type}:List (κ×V)->List (κ×Value)->Prop:=Paired fun (p:κ×V)(q:κ×Value)=>p.1=q.1/\AS p.2 q.2
noncomputable def kV:AU->V
 | .inl i=>.int i
 | .inr x=>.str x
inductive HO where
 | lst (xs:List V)
 | tup (xs:List V)
 | dK (fu:List (AU×V)) | dT (fu:List (List AU×V))
 | set (S:Int->Bool)(n:Nat)
 | ins (C dx:Addr)(fs:List (Str×V))
 | own (x:Addr)
 | xd (fs:List (Str×V))
 | met (f x:Addr)
 | rng (lo hi:Int)
 | frz (o:Obj)(u:HO)
 | tbl (ps:Array Value)
 | ext (φ:Heap->Prop)
abbrev Hp:=Addr->Option HO
noncomputable def upd (H:Hp)(a:Addr)(o:HO):Hp:=fun b=>if b=a then some o else H b
theorem zK :upd H a o a=some o:=by unfold upd;rw[if_pos rfl]
theorem zf (h:b≠a):upd H a o b=H b:=by unfold upd;rw[if_neg h]
theorem BQ :upd (upd H a o) a u=upd H a u:=by funext b;unfold upd;split <;> rfl
theorem Ar {H:Hp}(h:H a=some o)(h':H b=some u)(d:o≠u):a≠b:=by intro e;subst e;rw[h] at h';exact d (zV h')
theorem zn {H:Hp}(h:H a=some o)(h':H b=none):a≠b:=by intro e;subst e;rw[h] at h';cases h'
section
variable (P:Program)(w:World)
def A1 (H:Hp)(h:Heap)(a:Addr):HO->Prop
 | .lst xs=>xs.length<=sizeLine/\∃(its:List Value)(n:Nat),AR xs its/\h.get? a=some { cls:=.type "list",data:=.seq its.toArray n }
 | .tup xs=>(xs.length<=sizeLine/\∃o,h.get? a=some o/\o.dict=none)/\∃its:List Value,AR xs its/\IsTup h a its.toArray
 | .dK fu=>fu.length<=sizeLine/\(a==sysModules)=false/\∃vs,KV fu vs/\h.DictOf (A5 P w) a vs
 | .dT fu=>fu.length<=sizeLine/\(a==sysModules)=false/\∃xs:List (List AU×Addr×Value),
  Paired (fun (p:List AU×V)(q:List AU×Addr×Value)=>p.1=q.1/\H q.2.1=some (.tup (p.1.map kV))/\AS p.2 q.2.2) fu xs /\
  ∃o es ep,h.get? a=some o/\o.ExactDict/\o.data=.dict es ep/\es.toList=xs.map (entryOfKey (tupleKind (A5 P w)))/\(xs.map (·.1)).Nodup
 | .set S n=>h.SetOf (intKind P w) a S n
 | .ins C dx fs=>H dx=some (.own a)/\fs.length<=1000/\dx≠a/\h.get? a=some (PySem.W.instObj C dx) /\
  ∃mA,h.Ns1 dx mA/\(∀f,DX (fs.lookup f) (mA f))/\PySem.Within mA (fs.map (·.1))
 | .own _=>∃o,h.get? a=some o
 | .xd fs=>∃mA,h.Ns1 a mA/\∀f,DX (fs.lookup f) (mA f)
 | .rng lo hi=>∃t u v,h.get? a=some { cls:=.type "range",data:=.fields #[.int lo t,.int hi u,.int 1 v] }
 | .frz o u=>h.get? a=some o/\A1 H h a u
 | .tbl ps=>h.get? a=some { cls:=.none,data:=.fields ps }
 | .met f x=>h.get? a=some (PySem.W.methodObj (.ref f) (.ref x))
 | .ext φ=>φ h/\(∃o,h.get? a=some o)/\∀h1 h2:Heap,φ h1->(∀o,h1.get? a=some o->h2.get? a=some o)->φ h2
def A7 (H:Hp)(h:Heap):Prop:=∀a o,H a=some o->A1 P w H h a o
end
theorem A1.lt (x:A1 P w H h a o):a<h.objs.size:=by
 cases o with
 | lst xs=>obtain⟨_,_,_,_,e⟩:=x;exact zd e
 | tup xs=>obtain⟨_,_,_,p⟩:=x;exact p.lt
 | dK fu=>obtain⟨_,_,_,_,o,_,_,e,_⟩:=x;exact zd e
 | dT fu=>obtain⟨_,_,_,_,o,_,_,e,_⟩:=x;exact zd e
 | set S n=>obtain⟨o,_,_,_,e,_⟩:=x;exact zd e
 | ins C dx fs=>obtain⟨_,_,_,e,_⟩:=x;exact zd e
 | own y=>obtain⟨_,e⟩:=x;exact zd e
 | xd fs=>obtain⟨_,⟨_,_,_,e,_⟩,_⟩:=x;exact zd e
 | rng lo hi=>obtain⟨_,_,_,e⟩:=x;exact zd e
 | frz ob u=>obtain⟨e,_⟩:=x;exact zd e
 | tbl ps=>exact zd (show h.get? a=some _ from x)
 | met f y=>exact zd (show h.get? a=some _ from x)
 | ext φ=>obtain⟨_,⟨_,e⟩,_⟩:=x;exact zd e
theorem Paired.mapP :∀{l₁:List α}{l₂:List β},Paired F l₁ l₂->(∀a b,F a b->G a b)->Paired G l₁ l₂
 | _,_,.nil,_=>.nil
 | _,_,.cons r t,f=>.cons (f _ _ r) (Paired.mapP t f)
theorem A1.stay (x:A1 P w H h a o)(k:∀b u,(b=a\/H b=some (.own a))->h.get? b=some u->h'.get? b=some u)
 (ho:∀b,H b=some (.own a)->H' b=some (.own a))(ht:∀b xs,H b=some (.tup xs)->H' b=some (.tup xs)):A1 P w H' h' a o:=by
 induction o with
 | lst xs=>obtain⟨z,its,n,r,e⟩:=x;exact⟨z,its,n,r,k _ _ (.inl rfl) e⟩
 | tup xs=>obtain⟨⟨z,o2,e2,d2⟩,its,r,ob,e,c⟩:=x;exact⟨⟨z,o2,k _ _ (.inl rfl) e2,d2⟩,its,r,ob,k _ _ (.inl rfl) e,c⟩
 | dK fu=>obtain⟨z,y,vs,r,ob,es,ep,e,c⟩:=x;exact⟨z,y,vs,r,ob,es,ep,k _ _ (.inl rfl) e,c⟩
 | dT fu=>obtain⟨z,y,xs,r,ob,es,ep,e,c⟩:=x;exact⟨z,y,xs,Paired.mapP r fun p q z=>⟨z.1,ht _ _ z.2.1,z.2.2⟩,ob,es,ep,k _ _ (.inl rfl) e,c⟩
 | set S n=>obtain⟨ob,es,ep,t,e,c⟩:=x;exact⟨ob,es,ep,t,k _ _ (.inl rfl) e,c⟩
 | ins C dx fs=>obtain⟨d,z,ne,e,mA,⟨od,es,ep,e2,c⟩,r⟩:=x;exact⟨ho _ d,z,ne,k _ _ (.inl rfl) e,mA,⟨od,es,ep,k _ _ (.inr d) e2,c⟩,r⟩
 | own y=>obtain⟨ob,e⟩:=x;exact⟨ob,k _ _ (.inl rfl) e⟩
 | xd fs=>obtain⟨mA,⟨od,es,ep,e,c⟩,r⟩:=x;exact⟨mA,⟨od,es,ep,k _ _ (.inl rfl) e,c⟩,r⟩
 | rng lo hi=>obtain⟨t,u,v,e⟩:=x;exact⟨t,u,v,k _ _ (.inl rfl) e⟩
 | frz ob u ih=>obtain⟨e,q⟩:=x;exact⟨k _ _ (.inl rfl) e,ih q⟩
 | tbl ps=>have e:h.get? a=some { cls:=.none,data:=.fields ps }:=x;show h'.get? a=some { cls:=.none,data:=.fields ps };exact k a _ (.inl rfl) e
 | met f y=>have e:h.get? a=some (PySem.W.methodObj (.ref f) (.ref y)):=x;show h'.get? a=some (PySem.W.methodObj (.ref f) (.ref y));exact k a _ (.inl rfl) e
 | ext φ=>obtain⟨p,⟨o,e⟩,st⟩:=x;exact⟨st _ _ p fun o q=>k _ _ (.inl rfl) q,⟨o,k _ _ (.inl rfl) e⟩,st⟩
theorem A7.lt (x:A7 P w H h)(e:H a=some o):a<h.objs.size:=(x a o e).lt
theorem A7.fresh (x:A7 P w H h)(e:h.objs.size<=a):H a=none:=by
 cases q:H a with
 | none=>rfl
 | some u=>exact absurd (zx (x.lt q) e) (E5 _)
theorem A7.kept (x:A7 P w H h)(k:∀b u,h.get? b=some u->h'.get? b=some u):A7 P w H h':=fun a o e=>
 (x a o e).stay (fun b u _ q=>k b u q) (fun _ q=>q) fun _ _ q=>q
theorem A7.laid (x:A7 P w H h)(k:∀b u,h.get? b=some u->h'.get? b=some u)(hp:h.objs.size<=a)(new:A1 P w (upd H a o) h' a o):A7 P w (upd H a o) h':=fun b u e=>by
 have hn:=x.fresh hp;by_cases hb:b=a
 . subst hb;rw[zK] at e;cases e;exact new
 . rw[zf hb] at e;exact (x b u e).stay (fun c v _ q=>k c v q) (fun c q=>by rw[zf (zn q hn)];exact q) fun c xs q=>by rw[zf (zn q hn)];exact q
def Rd (H:Hp)(a:Addr)(u:HO):Prop:=H a=some u\/∃o,H a=some (.frz o u)
theorem Rd.ok (r:Rd H a u)(x:A7 P w H h):A1 P w H h a u:=by
 rcases r with r | ⟨o,r⟩
 . exact x a u r
 . obtain⟨_,q⟩:=x a _ r;exact q
def Ou:Option HO->Prop
 | some (.lst _)=>True
 | some (.dK _)=>True
 | some (.dT _)=>True
 | some (.set _ _)=>True
 | some (.ins _ _ _)=>True
 | some (.ext _)=>True
 | _=>False
theorem A7.write (ok:A7 P w H h)(mu:Ou (H x))(he:e=x\/H e=some (.own x))(k:∀b u,b≠e->h.get? b=some u->h'.get? b=some u)(heo:∃u,h'.get? e=some u)
 (new:A1 P w (upd H x o') h' x o'):A7 P w (upd H x o') h':=fun b u q=>by
 have nown:∀c y,H c=some (.own y)->c≠x:=fun c y r z=>by subst z;rw[r] at mu;exact mu
 have ntup:∀c xs,H c=some (.tup xs)->c≠x:=fun c xs r z=>by subst z;rw[r] at mu;exact mu
 by_cases hb:b=x
 . subst hb;rw[zK] at q;cases q;exact new
 . rw[zf hb] at q;by_cases hbe:b=e
   . have q':H b=some (.own x):=by
      rcases he with z | z
      . exact absurd (hbe.trans z) hb
      . rw[hbe];exact z
     rw[q] at q';cases q';obtain⟨v,hv⟩:=heo;exact⟨v,by rw[hbe];exact hv⟩
   . refine (ok b u q).stay (fun c v hc r=>k c v ?_ r) (fun c r=>by rw[zf (nown c b r)];exact r) fun c xs r=>by rw[zf (ntup c xs r)];exact r
     rcases hc with rfl | hc
     . exact hbe
     . rintro rfl;rcases he with z | z
       . exact nown c b hc z
       . rw[hc] at z;cases z;exact hb rfl
structure Un (fs ex:List Addr)(H H':Hp)(h h':Heap):Prop where
 keep:∀b o,h.get? b=some o->H b=none->b∉fs->b∉ex->h'.get? b=some o
 slot:∀b o,h.get? b=some o->H b=none->b∈fs->b∉ex->∃sl,h'.get? b=some { o with slots:=sl }
 free:∀b o,h.get? b=some o->H b=none->b∉ex->H' b=none
 there:∀b o,h.get? b=some o->b∉ex->∃o',h'.get? b=some o'
 tups:∀b xs,H b=some (.tup xs)->H' b=some (.tup xs)
 frzs:∀b o u,H b=some (.frz o u)->H' b=some (.frz o u)
 tbls:∀b ps,H b=some (.tbl ps)->∃more,H' b=some (.tbl (ps++more))
theorem Un.any (u:Un fs ex H H1 h h1)(q:h.get? b=some ob)(n:H b=none)(hx:b∉ex):∃sl,h1.get? b=some { ob with slots:=sl }:=by
 by_cases hb:b∈fs
 . exact u.slot b ob q n hb hx
 . exact⟨ob.slots,u.keep b ob q n hb hx⟩
theorem Un.kept (k:∀b u,h.get? b=some u->h'.get? b=some u):Un fs ex H H h h':=
 ⟨fun b ob q _ _ _=>k b ob q,fun b ob q _ _ _=>⟨ob.slots,k b ob q⟩,fun _ _ _ n _=>n,fun b ob q _=>⟨ob,k b ob q⟩,fun _ _ q=>q,fun _ _ _ q=>q,fun _ ps q=>⟨#[],by rw[q];simp⟩⟩
theorem Un.refl:Un fs ex H H h h:=Un.kept fun _ _ q=>q
theorem Un.laid (k:∀b u,h.get? b=some u->h'.get? b=some u)(hp:h.objs.size<=a)(hn:H a=none):Un fs ex H (upd H a o) h h' where
 keep:=fun b u q _ _ _=>k b u q
 slot:=fun b u q _ _ _=>⟨u.slots,k b u q⟩
 free:=fun b u q n _=>by rw[zf (zj (zx (zd q) hp))];exact n
 there:=fun b u q _=>⟨u,k b u q⟩
 tups:=fun b xs q=>by rw[zf (zn q hn)];exact q
 frzs:=fun b u xs q=>by rw[zf (zn q hn)];exact q
 tbls:=fun b ps q=>⟨#[],by rw[zf (zn q hn),q];simp⟩
theorem Un.write (mu:Ou (H x))(he:e=x\/H e=some (.own x))(k:∀b u,b≠e->h.get? b=some u->h'.get? b=some u)(heo:∃u,h'.get? e=some u):Un fs ex H (upd H x o) h h':=by
 have hx:∀b,H b=none->b≠x:=fun b n z=>by subst z;rw[n] at mu;exact mu
 have hb:∀b,H b=none->b≠e:=fun b n z=>by
  subst z;rcases he with r | r
  . exact hx b n r
  . rw[n] at r;cases r
 have hm:∀b u,H b=some u->¬ Ou (some u)->b≠x:=fun b u q nm z=>by subst z;rw[q] at mu;exact nm mu
 refine⟨fun b u q n _ _=>k b u (hb b n) q,fun b u q n _ _=>⟨u.slots,k b u (hb b n) q⟩,fun b u q n _=>by rw[zf (hx b n)];exact n,fun b u q _=>?_,
  fun b xs q=>by rw[zf (hm b _ q fun z=>z)];exact q,fun b u xs q=>by rw[zf (hm b _ q fun z=>z)];exact q,fun b ps q=>⟨#[],by rw[zf (hm b _ q fun z=>z),q];simp⟩⟩
 by_cases hbe:b=e
 . subst hbe;exact heo
 . exact⟨u,k b u hbe q⟩
noncomputable def SK (h:Heap)(H:Hp):List Addr:=(List.range h.objs.size).filter fun a=>(H a).isSome
noncomputable def Gj (h:Heap)(H:Hp):Heap:=PySem.W.hideAll h (SK h H)
theorem eU (h)(H):(Gj h H).objs.size=h.objs.size:=PySem.W.hideAll_size _ _
theorem cV (e:h.get? b=some o)(n:H b=none):(Gj h H).get? b=some o:=
 PySem.W.hideAll_get _ e fun hm=>by have q:(H b).isSome=true:=(Bf.mp hm).2;rw[n] at q;simp at q
theorem cH (e:(Gj h H).get? b=some o):h.get? b=some o/\H b=none:=by
 have e':h.get? b=some o:=PySem.W.of_hideAll (SK h H) e;refine⟨e',?_⟩;cases q:H b with
 | none=>rfl
 | some x=>have hm:b∈SK h H:=Bf.mpr ⟨Cr.mpr (zd e'),by simp[q]⟩;have z:(Gj h H).get? b=none:=PySem.W.hideAll_none (SK h H) hm;rw[z] at e;cases e
structure Mod (K:AO)(mg:Be)(base:Heap):Prop where
 kin:K.In base
 glob:base.Ns mainGlobals mg
 blt:∃mb,base.Ns builtinsNs mb/\∀x:Str,x ≠ "__name__"->mb x=bootBuiltins x
 nolimit:base.NoLimit
structure Cx where
 prog:Program
 w:World
 K:AO
 mg:Str->Option Value
 base:Heap
 A:Around
 N:List Str
 s₀:Shared
 H₀:Hp
 env:Env
 outer:List Env
 stack:List Env
 ex:List Addr
 fn:Str->Bool
 calm:Bool
 pn:List (Addr×Obj)
 xe:Value->Shared->Prop
noncomputable def De (l:List Env):List Addr:=l.filterMap (·.frame)
noncomputable abbrev Cx.fs (X:Cx):List Addr:=De X.outer
def SN (sc:Scope)(x:Str):Prop:=sc.names.lookup x=some .local\/sc.names.lookup x=some .cell\/sc.names.lookup x=some .free
def HF (sc:Scope)(x:Str):Prop:=sc.names.lookup x=some .local\/sc.names.lookup x=some .cell
def FH (env:Env)(h:Heap)(m:Be)(x:Str)(u:Value):Prop:=
 (env.kindOf x=some .local/\m x=some u)\/((env.kindOf x=some .cell\/env.kindOf x=some .free)/\∃c,env.cells.lookup x=some c/\h.IsCell c (some u))
structure Cx.Ok (X:Cx):Prop where
 mod:Mod X.K X.mg X.base
 kind:X.env.scope.kind=.function
 glob:X.env.globals=mainGlobals
 blt:X.env.builtins=builtinsNs
 above:X.s₀.heap.objs.size<=X.env.locals
 inj:∀x y c,X.env.cells.lookup x=some c->X.env.cells.lookup y=some c->x=y
 has:∀x,(X.env.kindOf x=some .cell\/X.env.kindOf x=some .free)->∃c,X.env.cells.lookup x=some c
 cab:∀x c,X.fn x=true->X.env.cells.lookup x=some c->X.s₀.heap.objs.size<=c
 hd:X.calm=true->X.A.handled=none
 frames:X.A.frames=some X.stack
 stk:X.stack=X.outer\/(X.stack=X.env::X.outer/\X.env.frame=some X.env.locals)
 exf:∀b∈X.ex,b≠X.env.locals/\∀x c,X.env.cells.lookup x=some c->c≠b
 bs:∀b o,X.base.get? b=some o->X.s₀.heap.get? b=some o/\X.H₀ b=none
 bsz:X.base.objs.size<=X.s₀.heap.objs.size
 noex:∀b o,X.base.get? b=some o->b∉X.ex
 exfs:∀b∈X.ex,b∉X.fs
 funs:X.s₀.heap.FunFrames X.base X.outer
 frf:∀b∈X.fs,X.H₀ b=none
structure AA (X:Cx)(pins:CI)(σ:List (Option V))(H:Hp)(s:Shared):Prop where
 ok:X.Ok
 os:s.os=X.s₀.os
 bare:AllBare s.gens
 base:Un X.fs X.ex X.H₀ H X.s₀.heap s.heap
 loc:∃m,s.heap.Ns X.env.locals m/\∀(i:Nat)(x:Str)(v:V),X.N[i]?=some x->σ[i]?=some (some v)->SN X.env.scope x->∃u,AS v u/\FH X.env s.heap m x u
 cell:∀x c,X.env.cells.lookup x=some c->∃v,s.heap.IsCell c v
 free:H X.env.locals=none
 freeC:∀x c,X.env.cells.lookup x=some c->H c=none
 pin:∀p∈X.pn++pins,s.heap.get? p.1=some p.2/\H p.1=none/\p.1≠X.env.locals/\p.1∉X.fs/\∀v,p.2.data ≠ .cell v
 hok:A7 X.prog X.w H s.heap
 len:σ.length=X.N.length
section
variable {X:Cx}{pins:CI}{σ:List (Option V)}{H H':Hp}{s:Shared}{h':Heap}
theorem Cx.Ok.nofr (ok:X.Ok)(e:X.base.get? b=some o):b∉X.fs:=fun hb=>by have:=(ok.funs.mem hb).1;rw[e] at this;cases this
theorem AA.bs (I:AA X pins σ H s):∀b o,X.base.get? b=some o->s.heap.get? b=some o/\H b=none:=fun b o e=>
 ⟨I.base.keep b o (I.ok.bs b o e).1 (I.ok.bs b o e).2 (I.ok.nofr e) (I.ok.noex b o e),I.base.free b o (I.ok.bs b o e).1 (I.ok.bs b o e).2 (I.ok.noex b o e)⟩
theorem AA.bk (I:AA X pins σ H s):∀b o,X.base.get? b=some o->s.heap.get? b=some o:=fun b o e=>(I.bs b o e).1
theorem AA.mod (I:AA X pins σ H s):Mod X.K X.mg X.base:=I.ok.mod
theorem AA.kIn (I:AA X pins σ H s):X.K.In s.heap:=I.ok.mod.kin.keeps I.bk
theorem AA.nolimit (I:AA X pins σ H s):s.heap.NoLimit:=I.ok.mod.nolimit.keeps I.bk
theorem AA.lt (I:AA X pins σ H s):X.env.locals<s.heap.objs.size:=let ⟨_,hn,_⟩:=I.loc;hn.lt
theorem AA.sz (I:AA X pins σ H s):X.s₀.heap.objs.size<=s.heap.objs.size:=Cq I.ok.above (Ea I.lt)
theorem AA.nofs (I:AA X pins σ H s)(h:s.heap.objs.size<=a):a∉X.fs:=fun hb=>by obtain⟨_,o,ho,_⟩:=I.ok.funs.mem hb;exact absurd (zx (zd ho) (Cq I.sz h)) (E5 _)
theorem AA.cne (I:AA X pins σ H s):∀x c,X.env.cells.lookup x=some c->c≠X.env.locals:=fun x c e z=>by obtain⟨v,o,ho,hd⟩:=I.cell x c e;obtain⟨m,⟨o',es,ep,ho',hd',_⟩,_⟩:=I.loc;rw[z,ho'] at ho;cases ho;rw[hd'] at hd;cases hd
theorem AA.funs (I:AA X pins σ H s):s.heap.FunFrames X.base X.outer:=by
 have all:∀(l:List Env),(∀b∈De l,b∈X.fs)->X.s₀.heap.FunFrames X.base l->s.heap.FunFrames X.base l:=by
  intro l
  induction l with
  | nil=>intro _ _;trivial
  | cons env r ih=>intro hs hl;obtain⟨hk,⟨L,o,hf,hn,ho,hd⟩,hr⟩:=hl;have hL:L∈X.fs:=hs L (by unfold De;rw[List.filterMap_cons,hf];exact zS);obtain⟨sl,e⟩:=I.base.slot L o ho (I.ok.frf L hL) hL fun z=>I.ok.exfs L z hL;exact⟨hk,⟨L,_,hf,hn,e,hd⟩,ih (fun b hb=>hs b (by unfold De;rw[List.filterMap_cons,hf];exact zZ _ hb)) hr⟩
 exact all X.outer (fun _ hb=>hb) I.ok.funs
theorem AA.stack (I:AA X pins σ H s):s.heap.FunFrames X.base X.stack:=by
 rcases I.ok.stk with e | ⟨e,hf⟩
 . rw[e];exact I.funs
 . rw[e];obtain⟨m,hn,_⟩:=I.loc;refine .cons (by rw[I.ok.kind];decide) hf hn ?_ I.funs;exact Heap.get?_none_of_le (Cq I.ok.bsz I.ok.above)
theorem AA.stkSub (I:AA X pins σ H s):∀b∈De X.stack,b∈X.env.locals::X.fs:=fun b hb=>by
 rcases I.ok.stk with e | ⟨e,hf⟩
 . rw[e] at hb;exact zZ _ hb
 . rw[e] at hb;unfold De at hb;rw[List.filterMap_cons,hf] at hb;exact hb
theorem AA.stkFree (I:AA X pins σ H s):∀b∈De X.stack,H b=none:=fun b hb=>by
 rcases zX.mp (I.stkSub b hb) with e | hb
 . rw[e];exact I.free
 . obtain⟨_,o,ho,_⟩:=I.ok.funs.mem hb;exact I.base.free b o ho (I.ok.frf b hb) fun z=>I.ok.exfs b z hb
theorem AA.step {ch:List Addr}(I:AA X pins σ H s)
 (jT:∀b∈ch,(b∈X.ex\/X.s₀.heap.objs.size<=b)/\b≠X.env.locals/\(∀x c,X.env.cells.lookup x=some c->c≠b)/\∀p∈X.pn++pins,p.1≠b)
 (keep:∀b o,b≠X.env.locals->b∉X.fs->b∉ch->s.heap.get? b=some o->H b=none->h'.get? b=some o)
 (slot:∀b o,b≠X.env.locals->b∈X.fs->b∉ch->s.heap.get? b=some o->H b=none->∃sl,h'.get? b=some { o with slots:=sl })(free:∀b o,b∉ch->s.heap.get? b=some o->H b=none->H' b=none)
 (there:∀b o,b∉ch->s.heap.get? b=some o->∃o',h'.get? b=some o')
 (tups:∀b xs,H b=some (.tup xs)->H' b=some (.tup xs))(frzs:∀b o u,H b=some (.frz o u)->H' b=some (.frz o u))(tbls:∀b ps,H b=some (.tbl ps)->∃more,H' b=some (.tbl (ps++more)))
 (ns:∀m,s.heap.Ns X.env.locals m->h'.Ns X.env.locals m)(hok:A7 X.prog X.w H' h')(hg:AllBare g'):
 AA X pins σ H' { s with heap:=h',gens:=g',drawn:=d',toks:=t' }:=by
 have neL:∀b o,X.s₀.heap.get? b=some o->b≠X.env.locals:=fun b o e=>zj (zx (zd e) I.ok.above);have neC:∀b o,X.s₀.heap.get? b=some o->b∉X.ex->b∉ch:=fun b o e hx hb=>by
  rcases (jT b hb).1 with z | z
  . exact hx z
  . exact absurd (zx (zd e) z) (E5 _)
 have cellK:∀x c,X.env.cells.lookup x=some c->∀v,s.heap.IsCell c v->h'.IsCell c v:=fun x c e v ⟨o,ho,hd⟩=>by
  have nch:c∉ch:=fun z=>(jT c z).2.2.1 x c e rfl;by_cases hc:c∈X.fs
  . obtain⟨sl,q⟩:=slot c o (I.cne x c e) hc nch ho (I.freeC x c e);exact⟨_,q,hd⟩
  . exact⟨o,keep c o (I.cne x c e) hc nch ho (I.freeC x c e),hd⟩
 refine⟨I.ok,I.os,hg,⟨fun b o e n hb hx=>?_,fun b o e n hb hx=>?_,fun b o e n hx=>?_,fun b o e hx=>?_,fun b xs e=>tups b xs (I.base.tups b xs e),fun b o xs e=>frzs b o xs (I.base.frzs b o xs e),fun b ps e=>?_⟩,?_,fun x c e=>?_,?_,fun x c e=>?_,fun p hp=>?_,hok,I.len⟩
 . exact keep b o (neL b o e) hb (neC b o e hx) (I.base.keep b o e n hb hx) (I.base.free b o e n hx)
 . obtain⟨sl,e1⟩:=I.base.slot b o e n hb hx;obtain⟨sl',e2⟩:=slot b _ (neL b o e) hb (neC b o e hx) e1 (I.base.free b o e n hx);exact⟨sl',e2⟩
 . obtain⟨o',e1⟩:=I.base.there b o e hx;exact free b o' (neC b o e hx) e1 (I.base.free b o e n hx)
 . obtain⟨o',e1⟩:=I.base.there b o e hx;exact there b o' (neC b o e hx) e1
 . obtain⟨m1,e1⟩:=I.base.tbls b ps e;obtain⟨m2,e2⟩:=tbls b _ e1;exact⟨m1++m2,by rw[e2,Array.append_assoc]⟩
 . obtain⟨m,hn,hl⟩:=I.loc;refine⟨m,ns m hn,fun i x v e1 e2 e3=>?_⟩;obtain⟨u,r,l⟩:=hl i x v e1 e2 e3;refine⟨u,r,?_⟩;rcases l with l | ⟨k,c,e,z⟩
   . exact .inl l
   . exact .inr ⟨k,c,e,cellK x c e _ z⟩
 . obtain⟨v,z⟩:=I.cell x c e;exact⟨v,cellK x c e v z⟩
 . obtain⟨m,⟨o,_,_,ho,_⟩,_⟩:=I.loc;exact free _ o (fun z=>(jT _ z).2.1 rfl) ho I.free
 . obtain⟨v,o,ho,hd⟩:=I.cell x c e;exact free c o (fun z=>(jT c z).2.2.1 x c e rfl) ho (I.freeC x c e)
 . obtain⟨e,n,ne,nf,d⟩:=I.pin p hp;have nch:p.1∉ch:=fun z=>(jT p.1 z).2.2.2 p hp rfl;exact⟨keep p.1 p.2 ne nf nch e n,free p.1 p.2 nch e n,ne,nf,d⟩
theorem AA.un (I:AA X pins σ H s)(u:Un X.fs [] H H' s.heap h')(hok:A7 X.prog X.w H' h'):AA X pins σ H' { s with heap:=h',toks:=t' }:=by
 obtain⟨m,⟨o,es,ep,ho,r⟩,_⟩:=id I.loc;obtain⟨sl,hL⟩:=u.any ho I.free (by simp);exact I.step (g':=s.gens) (d':=s.drawn) (ch:=[]) (fun _ z=>nomatch z) (fun b o _ hb _ e n=>u.keep b o e n hb (by simp)) (fun b o _ hb _ e n=>u.slot b o e n hb (by simp)) (fun b o _ e n=>u.free b o e n (by simp)) (fun b o _ e=>u.there b o e (by simp)) u.tups u.frzs u.tbls (fun m' hm=>by obtain⟨o',es',ep',ho',r'⟩:=hm;rw[ho] at ho';cases ho';exact⟨_,es',ep',hL,r'⟩) hok I.bare
theorem AA.call (I:AA X pins σ H s)(u:Un (De X.stack) ch H H' s.heap h')(hok:A7 X.prog X.w H' h')(hg:AllBare g')
 (jT:∀b∈ch,(b∈X.ex\/X.s₀.heap.objs.size<=b)/\b≠X.env.locals/\(∀x c,X.env.cells.lookup x=some c->c≠b)/\∀p∈X.pn++pins,p.1≠b):
 AA X pins σ H' { s with heap:=h',gens:=g',drawn:=d',toks:=t' }:=by
 obtain⟨m,⟨o,es,ep,ho,r⟩,_⟩:=id I.loc;obtain⟨sl,hL⟩:=u.any ho I.free fun z=>(jT _ z).2.1 rfl;exact I.step (ch:=ch) jT (fun b o hL hb hc e n=>u.keep b o e n (fun z=>(zX.mp (I.stkSub b z)).elim hL hb) hc) (fun b o _ _ hc e n=>u.any e n hc) (fun b o hc e n=>u.free b o e n hc) (fun b o hc e=>u.there b o e hc) u.tups u.frzs u.tbls (fun m' hm=>by obtain⟨o',es',ep',ho',r'⟩:=hm;rw[ho] at ho';cases ho';exact⟨_,es',ep',hL,r'⟩) hok hg
theorem AA.turned {t':Nat}{it:Addr}(I:AA X pins σ H s)(k:∀b o,b≠it->s.heap.get? b=some o->h'.get? b=some o)(hn:H it=none)(hL:it≠X.env.locals)
 (h1:it∈X.ex\/X.s₀.heap.objs.size<=it)(h2:∀x c,X.env.cells.lookup x=some c->c≠it)(h3:∀p∈X.pn++pins,p.1≠it):AA X pins σ H { s with heap:=h',toks:=t' }:=by
 have nit:∀b u,H b=some u->b≠it:=fun b u e z=>by rw[z,hn] at e;cases e
 refine I.step (g':=s.gens) (d':=s.drawn) (ch:=[it]) (fun b hb=>?_) (fun b o _ _ hc e _=>k b o (fun z=>hc (by simp[z])) e) (fun b o _ _ hc e _=>⟨o.slots,k b o (fun z=>hc (by simp[z])) e⟩) (fun _ _ _ _ n=>n)
  (fun b o hc e=>⟨o,k b o (fun z=>hc (by simp[z])) e⟩) (fun _ _ e=>e) (fun _ _ _ e=>e) (fun b ps e=>⟨#[],by rw[e];simp⟩) (fun m hm=>?_) (fun b u e=>?_) I.bare
 . have e:b=it:=by simpa using hb
   subst e;exact⟨h1,hL,h2,h3⟩
 . obtain⟨o,es,ep,ho,r⟩:=hm;exact⟨o,es,ep,k _ o (Ne.symm hL) ho,r⟩
 . refine (I.hok b u e).stay (fun c v hc q=>k c v ?_ q) (fun _ q=>q) fun _ _ q=>q;rcases hc with z | z
   . rw[z];exact nit b u e
   . exact nit c _ z
theorem AA.tok (I:AA X pins σ H s)(t):AA X pins σ H { s with toks:=t }:=I.un (h':=s.heap) (t':=t) Un.refl I.hok
theorem AA.kept (I:AA X pins σ H s)(k:∀b u,s.heap.get? b=some u->h'.get? b=some u):AA X pins σ H { s with heap:=h',toks:=t' }:=I.un (Un.kept k) (I.hok.kept k)
theorem AA.laid (I:AA X pins σ H s)(k:∀b u,s.heap.get? b=some u->h'.get? b=some u)(hp:s.heap.objs.size<=a)(new:A1 X.prog X.w (upd H a o) h' a o):
 AA X pins σ (upd H a o) { s with heap:=h',toks:=t' }:=I.un (Un.laid k hp (I.hok.fresh hp)) (I.hok.laid k hp new)
theorem AA.write (I:AA X pins σ H s)(mu:Ou (H x))(he:e=x\/H e=some (.own x))(k:∀b u,b≠e->s.heap.get? b=some u->h'.get? b=some u)(heo:∃u,h'.get? e=some u)
 (new:A1 X.prog X.w (upd H x o) h' x o):AA X pins σ (upd H x o) { s with heap:=h',toks:=t' }:=I.un (Un.write mu he k heo) (I.hok.write mu he k heo new)
theorem AA.weak (I:AA X pins σ H s)(hl:σ'.length=σ.length)(w:∀(i:Nat) v,σ'[i]?=some (some v)->σ[i]?=some (some v)):AA X pins σ' H s:=
 ⟨I.ok,I.os,I.bare,I.base,let ⟨m,hn,gm⟩:=I.loc;⟨m,hn,fun i x v e1 e2 e3=>gm i x v e1 (w i v e2) e3⟩,I.cell,I.free,I.freeC,I.pin,I.hok,hl.trans I.len⟩
theorem AA.pins_of (I:AA X pins σ H s)(h:∀p∈pins',s.heap.get? p.1=some p.2/\H p.1=none/\p.1≠X.env.locals/\p.1∉X.fs/\∀v,p.2.data ≠ .cell v):AA X pins' σ H s:=
 ⟨I.ok,I.os,I.bare,I.base,I.loc,I.cell,I.free,I.freeC,fun p hp=>(zU.mp hp).elim (fun z=>I.pin p (Di _ z)) (h p),I.hok,I.len⟩
theorem XU {N:List Str}(hN:N.Nodup){i:Nat}(a:N[i]?=some x)(b:N[j]?=some x):i=j:=by obtain⟨h1,e1⟩:=zH.mp a;obtain⟨h2,e2⟩:=zH.mp b;exact (List.getElem_inj hN).mp (e1.trans e2.symm)
theorem c8 (I:AA X pins σ H s)(hN:X.N.Nodup)(hi:X.N[i]?=some x)(hx:HF X.env.scope x)(r:AS v u)
 (h:∀s',AA X pins (σ.set i (some v)) H s'->(∃a,Heap.SameBut a s.heap s'.heap/\(a=X.env.locals\/X.env.cells.lookup x=some a))->Q () s')(hf:X.fn x=true\/X.env.scope.names.lookup x=some .local:=by first | exact .inl rfl | exact .inr rfl | assumption):wpAny M A (storeName X.env x u) Q E s:=by
 obtain⟨m,hn,hl⟩:=id I.loc;have hcls:(X.env.scope.kind == .class || (X.env.scope.kind == .module && X.env.locals != X.env.globals))=false:=by rw[I.ok.kind];rfl
 have hiσ:i<σ.length:=by rw[I.len];exact (zH.mp hi).1
 have cne:=I.cne;have tracked:∀{a:Addr}{h':Heap},(∃o,s.heap.get? a=some o/\H a=none)->Heap.SameBut a s.heap h'->A7 X.prog X.w H h':=fun {a h'} ha hs b ob e=>by
  obtain⟨_,_,gX⟩:=ha;refine (I.hok b ob e).stay (fun c w' hc q=>(hs.2 c ?_).trans q) (fun _ q=>q) fun _ _ q=>q;rintro rfl;rcases hc with rfl | hc
  . rw[gX] at e;cases e
  . rw[gX] at hc;cases hc
 rcases hx with hk | hk
 . refine wpAny_storeName_local hk hn (fun h' hn' hs=>?_) hcls;obtain⟨oL,_,_,ji,_⟩:=id hn;refine h _ ⟨I.ok,I.os,I.bare,⟨fun b o e n hb hx=>?_,fun b o e n hb hx=>?_,I.base.free,fun b o e hx=>?_,I.base.tups,I.base.frzs,I.base.tbls⟩,⟨_,hn',fun j y v' e1 e2 e3=>?_⟩,fun y c e=>?_,I.free,I.freeC,fun p hp=>?_,tracked ⟨oL,ji,I.free⟩ hs,by simpa using I.len⟩ ⟨_,hs,.inl rfl⟩
   . exact (hs.2 b (zj (zx (zd e) I.ok.above))).trans (I.base.keep b o e n hb hx)
   . obtain⟨sl,e1⟩:=I.base.slot b o e n hb hx;exact⟨sl,(hs.2 b (zj (zx (zd e) I.ok.above))).trans e1⟩
   . obtain⟨o',e1⟩:=I.base.there b o e hx;exact⟨o',(hs.2 b (zj (zx (zd e) I.ok.above))).trans e1⟩
   . by_cases hj:j=i
     . subst hj;rw[hi] at e1;cases e1;rw[List.getElem?_set_self hiσ] at e2;cases e2;exact⟨u,r,.inl ⟨hk,by simp⟩⟩
     . rw[List.getElem?_set_ne (Ne.symm hj)] at e2;obtain⟨u',r',q⟩:=hl j y v' e1 e2 e3;refine⟨u',r',?_⟩;rcases q with ⟨k,e⟩ | ⟨k,c,e,z⟩
       . refine .inl ⟨k,?_⟩;have:y≠x:=fun e=>hj (XU hN e1 (e ▸ hi));simp[this,e]
       . exact .inr ⟨k,c,e,z.sameBut hs (cne y c e)⟩
   . obtain⟨w',z⟩:=I.cell y c e;exact⟨w',z.sameBut hs (cne y c e)⟩
   . obtain⟨e,n,ne,nf,d⟩:=I.pin p hp;exact⟨(hs.2 p.1 ne).trans e,n,ne,nf,d⟩
 . have hfn:X.fn x=true:=by
    rcases hf with z | z
    . exact z
    . rw[z] at hk;cases hk
   obtain⟨c,hc⟩:=I.ok.has x (.inl hk);obtain⟨w',z⟩:=I.cell x c hc;refine wpAny_storeName_cell I.ok.kind hk hc z (fun h' jj hs=>?_);obtain⟨oc,hoc,hocd⟩:=id z;refine h { s with heap:=h' } ⟨I.ok,I.os,I.bare,⟨fun b o e n hb hx=>?_,fun b o e n hb hx=>?_,I.base.free,fun b o e hx=>?_,I.base.tups,I.base.frzs,I.base.tbls⟩,⟨m,hn.sameBut hs (Ne.symm (cne x c hc)),fun j y v' e1 e2 e3=>?_⟩,fun y c' e=>?_,I.free,I.freeC,fun p hp=>?_,tracked ⟨oc,hoc,I.freeC x c hc⟩ hs,by simpa using I.len⟩ ⟨c,hs,.inr hc⟩
   . exact (hs.2 b (zj (zx (zd e) (I.ok.cab x c hfn hc)))).trans (I.base.keep b o e n hb hx)
   . obtain⟨sl,e1⟩:=I.base.slot b o e n hb hx;exact⟨sl,(hs.2 b (zj (zx (zd e) (I.ok.cab x c hfn hc)))).trans e1⟩
   . obtain⟨o',e1⟩:=I.base.there b o e hx;exact⟨o',(hs.2 b (zj (zx (zd e) (I.ok.cab x c hfn hc)))).trans e1⟩
   . by_cases hj:j=i
     . subst hj;rw[hi] at e1;cases e1;rw[List.getElem?_set_self hiσ] at e2;cases e2;exact⟨u,r,.inr ⟨.inl hk,c,hc,jj⟩⟩
     . rw[List.getElem?_set_ne (Ne.symm hj)] at e2;obtain⟨u',r',q⟩:=hl j y v' e1 e2 e3;refine⟨u',r',?_⟩;rcases q with q | ⟨k,c',e,z'⟩
       . exact .inl q
       . refine .inr ⟨k,c',e,z'.sameBut hs ?_⟩;rintro rfl;exact hj (XU hN e1 (I.ok.inj _ _ _ e hc ▸ hi))
   . by_cases hcc:c'=c
     . subst hcc;exact⟨_,jj⟩
     . obtain⟨w2,z2⟩:=I.cell y c' e;exact⟨w2,z2.sameBut hs hcc⟩
   . obtain⟨e,n,ne,nf,d⟩:=I.pin p hp;refine⟨(hs.2 p.1 ?_).trans e,n,ne,nf,d⟩;intro q;rw[q,hoc] at e;have q':oc=p.2:=zV e;exact d w' (by rw[<-q'];exact hocd)
theorem RG (I:AA X pins σ H s)(hN:X.N.Nodup)(hi:X.N[i]?=some x)(hx:HF X.env.scope x)(r:AS v u)
 (h:∀s',AA X pins (σ.set i (some v)) H s'->Q () s')(hf:X.fn x=true\/X.env.scope.names.lookup x=some .local:=by first | exact .inl rfl | exact .inr rfl | assumption):wpAny M A (storeName X.env x u) Q E s:=
 c8 I hN hi hx r (fun s' I' _=>h s' I') hf
theorem AA.call' (I:AA X pins σ H s)(ho:s'.os=s.os)(u:Un (De X.stack) ch H H' s.heap s'.heap)(hok:A7 X.prog X.w H' s'.heap)(hg:AllBare s'.gens)
 (jT:∀b∈ch,(b∈X.ex\/X.s₀.heap.objs.size<=b)/\b≠X.env.locals/\(∀x c,X.env.cells.lookup x=some c->c≠b)/\∀p∈X.pn++pins,p.1≠b):AA X pins σ H' s':=by
 obtain⟨h',g',d',t',o'⟩:=s';have e:o'=s.os:=ho;subst e;exact I.call (g':=g') (t':=t') (d':=d') u hok hg jT
end
abbrev XK:=Value->Option Addr->Hp->Prop
abbrev St:=List (Option V)
abbrev VK:=V->Hp->Prop
abbrev TE:=St->Hp->VK->Prop
abbrev TT:=St->Hp->(Bool->Hp->Prop)->Prop
abbrev TA:=St->Hp->(List V->Hp->Prop)->Prop
structure J8 where
 nx:St->Hp->Prop
 rt:VK
 bk:St->Hp->Prop:=fun _ _=>False
 ct:St->Hp->Prop:=fun _ _=>False
abbrev TS:=J8->St->Hp->Prop
def EP (X:Cx)(pins:CI)(σ:St)(Q:VK)(u:Value)(s':Shared):Prop:=∃v H',AA X pins σ H' s'/\AS v u/\Q v H'
def TP (X:Cx)(pins:CI)(σ:St)(Q:Bool->Hp->Prop)(b:Bool)(s':Shared):Prop:=∃H',AA X pins σ H' s'/\Q b H'
def AP (X:Cx)(pins:CI)(σ:St)(Q:List V->Hp->Prop)(us:List Value)(s':Shared):Prop:=∃vs H',AA X pins σ H' s'/\AR vs us/\Q vs H'
def SP (X:Cx)(pins:CI)(D:J8)(f:Flow)(s':Shared):Prop:=
 match f with
 | .next=>∃ σ' H',AA X pins σ' H' s'/\D.nx σ' H'
 | .brk=>∃ σ' H',AA X pins σ' H' s'/\D.bk σ' H'
 | .cont=>∃ σ' H',AA X pins σ' H' s'/\D.ct σ' H'
 | .ret u=>∃v σ' H',AA X pins σ' H' s'/\AS v u/\D.rt v H'
def PE (X:Cx)(e:Expr)(t:TE):Prop:=
 ∀pins s σ H Q,AA X pins σ H s->t σ H Q->wpAny (model X.prog X.w) X.A (eval e X.env) (EP X pins σ Q) X.xe s
def PT (X:Cx)(e:Expr)(t:TT):Prop:=
 ∀pins s σ H Q,AA X pins σ H s->t σ H Q->wpAny (model X.prog X.w) X.A (isTrue e X.env (eval e X.env)) (TP X pins σ Q) X.xe s
def PW (X:Cx)(e:Expr)(t:TT):Prop:=
 ∀whole pins s σ H Q,AA X pins σ H s->t σ H Q->wpAny (model X.prog X.w) X.A (isTrue e X.env whole) (TP X pins σ Q) X.xe s
theorem PW.pt (h:PW X e t):PT X e t:=h _
def PA (X:Cx)(es:List Expr)(t:TA):Prop:=
 ∀pos pins s σ H Q,AA X pins σ H s->t σ H Q->wpAny (model X.prog X.w) X.A (spliced (backTo pos (starEach es X.env))) (AP X pins σ Q) X.xe s
def PS (X:Cx)(st:Stmt)(t:TS):Prop:=
 ∀pins s σ H D,AA X pins σ H s->t D σ H->wpAny (model X.prog X.w) X.A (exec st X.env) (SP X pins D) X.xe s
def Cj (X:Cx)(st:List Stmt)(t:TS):Prop:=
 ∀pins s σ H D,AA X pins σ H s->t D σ H->wpAny (model X.prog X.w) X.A (execs st X.env) (SP X pins D) X.xe s
theorem AM (h:wpAny M A t Q E s)(hQ:∀a s,Q a s->Q' a s):wpAny M A t Q' E s:=CM h hQ fun _ _ x=>x
def OV (i:Nat):TE:=fun σ H Q=>∃v,σ[i]?=some (some v)/\Q v H
def tC (v:V):TE:=fun _ H Q=>Q v H
theorem KZ (hN:X.N[i]?=some x)(hv:SN X.env.scope x)(hd:(x==("__debug__" : Str))=false:=by decide) (jG:(x==("__classdict__" : Str))=false:=by decide):PE X (.Name x pos) (OV i):=by
 intro pins s σ H Q I h;obtain⟨v,e,h⟩:=h;obtain⟨m,hn,hl⟩:=I.loc;obtain⟨u,r,l⟩:=hl i x v hN e hv;have fin:EP X pins σ Q u s:=⟨v,H,I,r,h⟩;rcases l with ⟨hk,hm⟩ | ⟨hk,c,hc,iT⟩
 . exact wpAny_Name (wpAny_loadName_local I.ok.kind hk hn hm fin) hd
 . rcases hk with hk | hk
   . exact wpAny_Name (wpAny_loadName_cell I.ok.kind hk hc iT fin) hd
   . exact wpAny_Name (wpAny_loadName_free I.ok.kind hk hc iT fin jG) hd
theorem zm {i j pos}:PE X (.Constant (.int i) j pos) (tC (.int i)):=fun _ _ _ H _ I h=>wpAny_Constant_int ⟨.int i,H,I.tok _,⟨_,rfl⟩,h⟩
theorem E1 {b j pos}:PE X (.Constant (.bool b) j pos) (tC (.bl b)):=fun _ _ _ H _ I h=>Constant_bool ⟨.bl b,H,I,rfl,h⟩
theorem BK {j pos}:PE X (.Constant .none j pos) (tC .non):=fun _ _ _ H _ I h=>Constant_none ⟨.non,H,I,rfl,h⟩
theorem Sx {x j pos}:PE X (.Constant (.str x) j pos) (tC (.str x)):=fun _ _ _ H _ I h=>Calls.Constant_str ⟨.str x,H,I.tok _,⟨_,rfl⟩,h⟩
def Gl (X:Cx)(x:Str):Prop:=X.env.kindOf x=some .globalImplicit
theorem Wb (I:AA X pins σ H s)(hg:Gl X x)(hm:X.mg x=some u)(h:Q u s)
 (hd:(x==("__debug__" : Str))=false:=by decide):wpAny (model X.prog X.w) X.A (eval (.Name x pos) X.env) Q E s:=
 Calls.Name_function_global I.ok.kind hg (Calls.loadGlobal_global (by rw[I.ok.glob];exact I.mod.glob.keeps I.bk) hm h) hd
theorem C9 (I:AA X pins σ H s)(hg:Gl X x)(hm:X.mg x=none)(hv:bootBuiltins x=some u)(h:Q u s)
 (hn:x ≠ "__name__" := by decide) (hd:(x==("__debug__" : Str))=false:=by decide):wpAny (model X.prog X.w) X.A (eval (.Name x pos) X.env) Q E s:=by
 obtain⟨mb,h1,h2⟩:=I.mod.blt;exact Calls.Name_function_global I.ok.kind hg (Calls.loadGlobal_builtin (by rw[I.ok.glob];exact I.mod.glob.keeps I.bk) hm (by rw[I.ok.blt];exact h1.keeps I.bk) ((h2 x hn).trans hv) h) hd
theorem XM (hg:Gl X x)(hm:X.mg x=some u)(r:AS v u)(hd:(x==("__debug__" : Str))=false:=by decide):PE X (.Name x pos) (tC v):=
 fun _ _ _ H _ I h=>Wb I hg hm ⟨v,H,I,r,h⟩ hd
def PC (X:Cx)(op:CmpOp)(a b:Expr)(t:TE):Prop:=
 ∀pins s σ H Q,AA X pins σ H s->t σ H Q ->
  wpAny (model X.prog X.w) X.A (eval a X.env) (fun v s₁=>wpAny (model X.prog X.w) X.A (eval b X.env) (fun u s₂=>wpAny (model X.prog X.w) X.A (compareOp op v u) (EP X pins σ Q) X.xe s₂) X.xe s₁) X.xe s
def tB (t:TE):TT:=fun σ H Q=>t σ H fun x H1=>∃c,x=.bl c/\Q c H1
theorem WH (h:PC X op a b t)(h1:behindInMarks op b=false:=by first | exact nobehind _ (by decide) (by decide) | rfl):PT X (.Compare a [op] [b] pos) (tB t):=by intro pins s σ H Q I hw;refine wpAny_isTrue_Compare1 (AM (h pins s σ H _ I hw) fun v s1 h1=>AM h1 fun u s2 h2=>AM h2 fun c s3 ⟨x,H1,I1,r1,q1⟩=>?_) h1;obtain⟨d,rfl,q⟩:=q1;cases r1;exact Dx ⟨H1,I1,q⟩
theorem Bq (h:PE X e t)(he:∀whole,isTrue e X.env whole=(do let v <-whole;standAt e.pos;holding [v] (truthy v)):=by intro _;rfl):PT X e (tB t):=by intro pins s σ H Q I hw;refine isTrue_plain (AM (h pins s σ H _ I hw) fun v s1 ⟨x,H1,I1,r1,q1⟩=>?_) (he _);obtain⟨d,rfl,q⟩:=q1;cases r1;exact Dx ⟨H1,I1,q⟩
def Uo (t u:TT):TT:=fun σ H Q=>t σ H fun c H1=>if c=true then u σ H1 Q else Q false H1
def fq (t u:TT):TT:=fun σ H Q=>t σ H fun c H1=>if c=true then Q true H1 else u σ H1 Q
def Ut (t:TT):TT:=fun σ H Q=>t σ H fun c H1=>Q (!c) H1
theorem NY (ha:PT X a tA):PW X (.BoolOp .And [a] pos) tA:=by
 intro wh pins s σ H Q I h;refine isTrue_and (AM (ha pins s σ H Q I h) fun c s1 e=>?_);cases c with
 | true=>exact isTrue_and_nil e
 | false=>exact e
theorem Es (ha:PT X a tA):PW X (.BoolOp .Or [a] pos) tA:=by
 intro wh pins s σ H Q I h;refine isTrue_or (AM (ha pins s σ H Q I h) fun c s1 e=>?_);cases c with
 | false=>exact isTrue_or_nil e
 | true=>exact e
theorem NZ (ha:PT X a tA)(hb:PW X (.BoolOp .And (b::rest) pos) tB'):PW X (.BoolOp .And (a::b::rest) pos) (Uo tA tB'):=by
 intro wh pins s σ H Q I h;refine isTrue_and (AM (ha pins s σ H _ I h) fun c s1 ⟨H1,I1,q1⟩=>?_);cases c with
 | true=>exact hb wh pins s1 σ H1 Q I1 q1
 | false=>exact⟨H1,I1,q1⟩
theorem DJ (ha:PT X a tA)(hb:PW X (.BoolOp .Or (b::rest) pos) tB'):PW X (.BoolOp .Or (a::b::rest) pos) (fq tA tB'):=by
 intro wh pins s σ H Q I h;refine isTrue_or (AM (ha pins s σ H _ I h) fun c s1 ⟨H1,I1,q1⟩=>?_);cases c with
 | true=>exact⟨H1,I1,q1⟩
 | false=>exact hb wh pins s1 σ H1 Q I1 q1
theorem CG (ha:PT X a tA):PT X (.UnaryOp .Not a pos) (Ut tA):=by intro pins s σ H Q I h;exact isTrue_not (ha pins s σ H (fun c H1=>Q (!c) H1) I h)
def Qd (ta tb:TE):TE:=fun σ H Q=>ta σ H fun x H1=>∃c,x=.bl c/\if c=true then tb σ H1 Q else Q (.bl false) H1
def Oj (ta:TE):TE:=fun σ H Q=>ta σ H fun x H1=>∃c,x=.bl c/\Q (.bl (!c)) H1
theorem GQ {op} (h:PE X a t):PE X (.BoolOp op [a] pos) t:=fun pins s σ H Q I hw=>BoolOp_one (h pins s σ H Q I hw)
theorem EU (ha:PE X a ta)(hb:PE X (.BoolOp .And (b::rest) pos) tb):PE X (.BoolOp .And (a::b::rest) pos) (Qd ta tb):=by
 intro pins s σ H Q I h;refine BoolOp_and (AM (ha pins s σ H _ I h) fun v s1 ⟨x,H1,I1,r1,q1⟩=>?_);obtain⟨c,rfl,q1⟩:=q1;cases r1;refine Dx ?_;cases c with
 | true=>exact hb pins s1 σ H1 Q I1 q1
 | false=>exact⟨.bl false,H1,I1,rfl,q1⟩
theorem KH (ha:PE X a ta):PE X (.UnaryOp .Not a pos) (Oj ta):=by intro pins s σ H Q I h;refine UnaryOp_ (AM (ha pins s σ H _ I h) fun v s1 ⟨x,H1,I1,r1,q1⟩=>?_);obtain⟨c,rfl,q1⟩:=q1;cases r1;exact not_of (Dx ⟨.bl (!c),H1,I1,rfl,q1⟩)
def ft (t:TT)(ta tb:TE):TE:=fun σ H Q=>t σ H fun c H1=>if c=true then ta σ H1 Q else tb σ H1 Q
theorem XC (hc:PT X c tA)(ha:PE X a ta)(hb:PE X b tb):PE X (.IfExp c a b pos) (ft tA ta tb):=by
 intro pins s σ H Q I h;refine wpAny_IfExp (AM (hc pins s σ H _ I h) fun d s1 ⟨H1,I1,q1⟩=>?_);cases d with
 | true=>exact ha pins s1 σ H1 Q I1 q1
 | false=>exact hb pins s1 σ H1 Q I1 q1
def AE (K:AO)(H:Hp)(a:Addr)(xs:List V):Prop:=
 Rd H a (.lst xs) \/
  ∃o its n,K.lookup a=some o/\o.cls=.type "list"/\o.dict=none/\o.data=.seq its n/\its.size<=sizeLine/\AR xs its.toList
def AB (K:AO)(H:Hp)(a:Addr)(xs:List V):Prop:=
 Rd H a (.tup xs) \/
  ∃o its n,K.lookup a=some o/\o.cls=.type "tuple"/\o.data=.seq its n/\its.size<=sizeLine/\AR xs its.toList
noncomputable def UZ:Value->Option V
 | .none=>some .non
 | .bool b=>some (.bl b)
 | .int i _=>some (.int i)
 | .str x _=>some (.str x)
 | .bytes b _=>some (.byt b)
 | .float b _=>some (.flt b)
 | .ref a=>some (.ref a)
 | .type n=>some (.ty n)
 | _=>none
theorem AS.abs (r:AS x u):UZ u=some x:=by
 cases x with
 | non=>cases r;rfl
 | bl _=>cases r;rfl
 | int _=>obtain⟨t,rfl⟩:=r;rfl
 | str _=>obtain⟨t,rfl⟩:=r;rfl
 | byt _=>obtain⟨t,rfl⟩:=r;rfl
 | flt _=>obtain⟨t,rfl⟩:=r;rfl
 | ref _=>cases r;rfl
 | ty _=>cases r;rfl
theorem AS.inj (r:AS x u)(q:AS y u):x=y:=zV (r.abs.symm.trans q.abs)
theorem AR.inj:∀{xs ys:List V}{us:List Value},AR xs us->AR ys us->xs=ys
 | _,_,_,.nil,.nil=>rfl
 | _,_,_,.cons r t,.cons r' t'=>by rw[r.inj r',AR.inj t t']
theorem AE.of {K:AO}(h:H a=some (.lst xs)):AE K H a xs:=.inl (.inl h)
theorem AB.of {K:AO}(h:H a=some (.tup xs)):AB K H a xs:=.inl (.inl h)
theorem AA.list (I:AA X pins σ H s)(h:AE X.K H a xs):∃its:List Value,AR xs its/\PlainL s.heap a its.toArray/\xs.length<=sizeLine:=by
 rcases h with h | ⟨o,its,n,hk,hc,hd,hs,hz,r⟩
 . obtain⟨z,its,n,r,e⟩:=h.ok I.hok;exact⟨its,r,⟨_,n,e,rfl,rfl,rfl⟩,z⟩
 . refine⟨its.toList,r,⟨o,n,I.kIn a o hk,hc,hd,by simpa using hs⟩,?_⟩;have e:=r.length;simp only[Array.length_toList] at e
   lia
theorem AA.tuple (I:AA X pins σ H s)(h:AB X.K H a xs):∃its:List Value,AR xs its/\IsTup s.heap a its.toArray/\xs.length<=sizeLine:=by
 rcases h with h | ⟨o,its,n,hk,hc,hs,hz,r⟩
 . obtain⟨⟨z,_⟩,its,r,p⟩:=h.ok I.hok;exact⟨its,r,p,z⟩
 . refine⟨its.toList,r,⟨o,I.kIn a o hk,hc,n,by simpa using hs⟩,?_⟩;have e:=r.length;simp only[Array.length_toList] at e
   lia
theorem AA.list_inj (I:AA X pins σ H s)(h:AE X.K H a xs)(h':AE X.K H a ys):xs=ys:=by
 obtain⟨its,r,⟨o,n,e,_,_,d⟩,_⟩:=I.list h;obtain⟨its',r',⟨o',n',e',_,_,d'⟩,_⟩:=I.list h';rw[e] at e';cases e';rw[d] at d';injection d' with d1 _;have:its=its':=by simpa using congrArg Array.toList d1
 subst this;exact r.inj r'
theorem AA.tuple_inj (I:AA X pins σ H s)(h:AB X.K H a xs)(h':AB X.K H a ys):xs=ys:=by
 obtain⟨its,r,⟨o,e,_,n,d⟩,_⟩:=I.tuple h;obtain⟨its',r',⟨o',e',_,n',d'⟩,_⟩:=I.tuple h';rw[e] at e';cases e';rw[d] at d';injection d' with d1 _;have:its=its':=by simpa using congrArg Array.toList d1
 subst this;exact r.inj r'
noncomputable abbrev Cx.wish (X:Cx)(E:Df):Cx:={ X with xe:=E }
noncomputable abbrev Cx.nox (X:Cx):Cx:=X.wish fun _ _=>False
theorem Cx.Ok.wish {X:Cx}(ok:X.Ok)(E):(X.wish E).Ok:=
 ⟨ok.mod,ok.kind,ok.glob,ok.blt,ok.above,ok.inj,ok.has,ok.cab,ok.hd,ok.frames,ok.stk,ok.exf,ok.bs,ok.bsz,ok.noex,ok.exfs,ok.funs,ok.frf⟩
theorem Cx.Ok.unwish {X:Cx}(ok:(X.wish E).Ok):X.Ok:=
 ⟨ok.mod,ok.kind,ok.glob,ok.blt,ok.above,ok.inj,ok.has,ok.cab,ok.hd,ok.frames,ok.stk,ok.exf,ok.bs,ok.bsz,ok.noex,ok.exfs,ok.funs,ok.frf⟩
theorem AA.wish (I:AA X pins σ H s)(E):AA (X.wish E) pins σ H s:=⟨I.ok.wish E,I.os,I.bare,I.base,I.loc,I.cell,I.free,I.freeC,I.pin,I.hok,I.len⟩
theorem AA.unwish (I:AA (X.wish E) pins σ H s):AA X pins σ H s:=⟨I.ok.unwish,I.os,I.bare,I.base,I.loc,I.cell,I.free,I.freeC,I.pin,I.hok,I.len⟩
theorem SP.unwish (h:SP (X.wish E) pins D f s'):SP X pins D f s':=by
 cases f with
 | next=>obtain⟨σ',H',I,q⟩:=h;exact⟨σ',H',I.unwish,q⟩
 | brk=>obtain⟨σ',H',I,q⟩:=h;exact⟨σ',H',I.unwish,q⟩
 | cont=>obtain⟨σ',H',I,q⟩:=h;exact⟨σ',H',I.unwish,q⟩
 | ret u=>obtain⟨v,σ',H',I,r,q⟩:=h;exact⟨v,σ',H',I.unwish,r,q⟩
theorem Cj.nox {st:List Stmt}(h:Cj X.nox st t):Cj X st t:=fun pins s σ H D I hw=>
 CM (h pins s σ H D (I.wish _) hw) (fun _ _ q=>q.unwish) fun _ _ z=>False.elim z
section
variable {X:Cx}{st:Stmt}{rest:List Stmt}{t u:TS}{e:Expr}{te:TE}{pos:Pos}
def Oe:TS:=fun D σ H=>D.nx σ H
def VD (t u:TS):TS:=fun D σ H=>t { D with nx:=u D } σ H
theorem As:Cj X [] Oe:=fun _ _ σ H _ I h=>wpAny_execs_nil ⟨σ,H,I,h⟩
theorem zW (h1:PS X st t)(h2:Cj X rest u):Cj X (st::rest) (VD t u):=by
 intro pins s σ H D I h;refine wpAny_execs_cons (AM (h1 pins s σ H { D with nx:=u D } I h) fun f s1 q=>?_);cases f with
 | next=>obtain⟨σ',H',I',q⟩:=q;exact h2 pins s1 σ' H' D I' q
 | ret v=>exact q
 | brk=>exact q
 | cont=>exact q
theorem zh (h1:PS X st t):Cj X [st] t:=by
 intro pins s σ H D I h;refine wpAny_execs_cons (AM (h1 pins s σ H D I h) fun f s1 q=>?_);cases f with
 | next=>exact wpAny_execs_nil q
 | ret v=>exact q
 | brk=>exact q
 | cont=>exact q
theorem AA.quiet (I:AA X pins σ H s):interactive X.env=false:=by simp[interactive,I.ok.kind]
def Pz (te:TE):TS:=fun D σ H=>te σ H fun _ H1=>D.nx σ H1
theorem DL (he:PE X e te)(hs:swapsWith e none pos.line X.env=pure false:=by rfl):PS X (.Expr e pos) (Pz te):=by intro pins s σ H D I h;exact wpAny_Expr_any (AM (he pins s σ H _ I h) fun v s1 ⟨x,H1,I1,r1,q1⟩=>⟨σ,H1,I1,q1⟩) I.quiet hs
def VI (te:TE):TS:=fun D σ H=>te σ H D.rt
theorem AQ (he:PE X e te):PS X (.Return (some e) pos) (VI te):=by intro pins s σ H D I h;exact wpAny_Return_some (AM (he pins s σ H _ I h) fun v s1 ⟨x,H1,I1,r1,q1⟩=>⟨x,σ,H1,I1,r1,q1⟩)
def U1 (c:TT)(t u:TS):TS:=fun D σ H=>c σ H fun b H1=>if b=true then t D σ H1 else u D σ H1
theorem Ap (hc:PT X c tc)(ha:Cj X a t)(hb:Cj X b u):PS X (.If c a b pos) (U1 tc t u):=by
 intro pins s σ H D I h;refine wpAny_If (AM (hc pins s σ H _ I h) fun d s1 ⟨H1,I1,q1⟩=>?_);cases d with
 | true=>exact ha pins s1 σ H1 D I1 q1
 | false=>exact hb pins s1 σ H1 D I1 q1
end
abbrev TG:=V->St->Hp->(St->Hp->Prop)->Prop
abbrev Qi:=List V->St->Hp->(St->Hp->Prop)->Prop
def PG (X:Cx)(target:Expr)(t:TG):Prop:=
 ∀pins s σ H v u Q,AA X pins σ H s->AS v u->t v σ H Q ->
  wpAny (model X.prog X.w) X.A (assign target X.env u) (fun _ s'=>∃ σ' H',AA X pins σ' H' s'/\Q σ' H') X.xe s
def OW (X:Cx)(ts:List Expr)(t:Qi):Prop:=
 ∀pins s σ H vs us Q,AA X pins σ H s->AR vs us->t vs σ H Q ->
  wpAny (model X.prog X.w) X.A (assignInOrder ((assignEach ts X.env).map (·.2)) us) (fun _ s'=>∃ σ' H',AA X pins σ' H' s'/\Q σ' H') X.xe s
abbrev Qq:=V->V->V->Hp->(Hp->Prop)->Prop
def PN (X:Cx)(t:Qq):Prop:=
 ∀pins s σ H o i v ov iv u Q,AA X pins σ H s->AS o ov->AS i iv->AS v u->t o i v H Q ->
  wpAny (model X.prog X.w) X.A (setItem ov iv u) (fun _ s'=>∃H',AA X pins σ H' s'/\Q H') X.xe s
abbrev VH:=V->V->Hp->VK->Prop
def ZG (X:Cx)(op:Operator)(t:VH):Prop:=
 ∀pins s σ H x y v u Q,AA X pins σ H s->AS x v->AS y u->t x y H Q ->
  wpAny (model X.prog X.w) X.A (inplaceOp op v u) (EP X pins σ Q) X.xe s
def J4 (i:Nat):TG:=fun v σ H Q=>Q (σ.set i (some v)) H
theorem DZ (hN:X.N.Nodup)(hi:X.N[i]?=some x)(hx:HF X.env.scope x)(hf:X.fn x=true\/X.env.scope.names.lookup x=some .local:=by first | exact .inl rfl | exact .inr rfl | assumption):PG X (.Name x pos) (J4 i):=by intro pins s σ H v u Q I r h;exact wpAny_assign_Name (RG I hN hi hx r (fun s' I'=>⟨_,H,I',h⟩) hf)
def Uc:Qi:=fun vs σ H Q=>vs=[]/\Q σ H
def QP (t:TG)(u:Qi):Qi:=fun vs σ H Q=>∃v r,vs=v::r/\t v σ H fun σ' H'=>u r σ' H' Q
theorem E2:OW X [] Uc:=by intro pins s σ H vs us Q I r h;obtain⟨e,h⟩:=h;subst e;cases r;exact assignInOrder_nil ⟨σ,H,I,h⟩
theorem BF (h1:PG X e t)(h2:OW X es u)
 (hs:(assignEach (e::es) X.env).map (·.2)=assign e X.env::(assignEach es X.env).map (·.2):=by rfl):OW X (e::es) (QP t u):=by
 intro pins s σ H vs us Q I r h;obtain⟨v,vr,e1,h⟩:=h;subst e1;cases r with
 | cons r rr=>rw[hs];refine assignInOrder_cons (AM (h1 pins s σ H _ _ _ I r h) fun _ s1 ⟨σ1,H1,I1,q1⟩=>?_);exact h2 pins s1 σ1 H1 _ _ Q I1 rr q1
def Pn (K:AO)(n:Nat)(t:Qi):TG:=fun v σ H Q=>∃a xs,v=.ref a/\AB K H a xs/\xs.length=n/\t xs σ H Q
theorem Ml (hc:X.calm=true)(h:OW X es t)
 (hn:(assignEach es X.env).length=n:=by rfl)(hst:(assignEach es X.env).findIdx? (·.1)=none:=by rfl):PG X (.Tuple es k pos) (Pn X.K n t):=by
 intro pins s σ H v u Q I r hw;obtain⟨a,xs,e1,hq,hl,hw⟩:=hw;subst e1;cases r;obtain⟨its,rv,ht,hz⟩:=I.tuple hq;refine assign_Tuple_tuple (I.ok.hd hc) ht (by simp[hn,<-hl,rv.length]) hst fun h' hx=>?_;have I1:AA X pins σ H { s with heap:=h' }:=I.kept (t':=s.toks) fun b o e=>hx b o (zj (zd e)) e;exact h pins _ σ H xs _ Q I1 (by simpa using rv) hw
def Ub (to ti:TE)(t:Qq):TG:=fun v σ H Q=>to σ H fun o H1=>ti σ H1 fun i H2=>t o i v H2 fun H3=>Q σ H3
theorem N8 (ho:PE X o to)(hi:PE X i ti)(hs:PN X t)
 (ha:∀v,assign (.Subscript o i pos) X.env v=(do
  let ov <-holding [v] (eval o X.env);let iv <-holding [v,ov] (eval i X.env)
  standAt pos
  holding [v,ov,iv] (setItem ov iv v)
  release [v,ov,iv] []):=by intro _;rfl):PG X (.Subscript o i pos) (Ub to ti t):=by
 intro pins s σ H v u Q I r h;rw[ha];refine zA (Az (AM (ho pins s σ H _ I h) fun ov s1 ⟨x,H1,I1,r1,q1⟩=>?_));refine zA (Az (AM (hi pins s1 σ H1 _ I1 q1) fun iv s2 ⟨y,H2,I2,r2,q2⟩=>?_));refine zA (wpAny_standAt (zA (Az (AM (hs pins s2 σ H2 x y v ov iv u _ I2 r1 r2 r q2) fun _ s3 ⟨H3,I3,q3⟩=>?_))));exact wpAny_release ⟨σ,H3,I3,q3⟩
def HH (te:TE)(g:TG):TS:=fun D σ H=>te σ H fun x H1=>g x σ H1 D.nx
theorem Mo (he:PE X e te)(hg:PG X tg g)(hs:swapsWithSole [tg] e pos.line X.env=pure false:=by rfl)(hw:swappedStores [tg] e X.env=pure none:=by rfl)
 (h1:(assignEach [tg] X.env).map (·.2)=[assign tg X.env]:=by rfl):PS X (.Assign [tg] e pos) (HH te g):=by
 intro pins s σ H D I h;refine wpAny_Assign_stores (AM (he pins s σ H _ I h) fun v s1 ⟨x,H1,I1,r1,q1⟩=>?_) hs hw;rw[h1];exact AM (hg pins s1 σ H1 x v _ I1 r1 q1) fun _ s2 q=>q
theorem DU (hN:X.N.Nodup)(hi:X.N[i]?=some x)(hx:HF X.env.scope x)(he:PE X e te)(hs:swapsWith e (some (.Name x pos')) pos.line X.env=pure false:=by rfl)(hf:X.fn x=true\/X.env.scope.names.lookup x=some .local:=by first | exact .inl rfl | exact .inr rfl | assumption):
 PS X (.Assign [.Name x pos'] e pos) (HH te (J4 i)):=by
 intro pins s σ H D I h;refine wpAny_Assign_Name (AM (he pins s σ H _ I h) fun v s1 ⟨y,H1,I1,r1,q1⟩=>?_) hs;exact RG I1 hN hi hx r1 (fun s2 I2=>⟨_,H1,I2,q1⟩) hf
def U3 (i:Nat)(te:TE)(ti:VH):TS:=fun D σ H=>∃x,σ[i]?=some (some x)/\te σ H fun y H1=>ti x y H1 fun z H2=>D.nx (σ.set i (some z)) H2
theorem MB (hN:X.N.Nodup)(hi:X.N[i]?=some x)(hx:HF X.env.scope x)(he:PE X e te)(ho:ZG X op ti)(hf:X.fn x=true\/X.env.scope.names.lookup x=some .local:=by first | exact .inl rfl | exact .inr rfl | assumption):
 PS X (.AugAssign (.Name x pos') op e pos) (U3 i te ti):=by
 intro pins s σ H D I h;obtain⟨v,e1,h⟩:=h;obtain⟨m,hn,hl⟩:=I.loc;have vis:SN X.env.scope x:=by rcases hx with k | k;exact .inl k;exact .inr (.inl k)
 obtain⟨u,r,l⟩:=hl i x v hi e1 vis;refine wpAny_AugAssign_Name ?_;have go:wpAny (model X.prog X.w) X.A (eval e X.env) (fun w s₂=>wpAny (model X.prog X.w) X.A (inplaceOp op u w) (fun r s₃=>wpAny (model X.prog X.w) X.A (storeName X.env x r) (fun _=>SP X pins D .next) X.xe s₃) X.xe s₂) X.xe s:=by refine AM (he pins s σ H _ I h) fun w s1 ⟨y,H1,I1,r1,q1⟩=>?_;refine AM (ho pins s1 σ H1 v y u w _ I1 r r1 q1) fun z s2 ⟨zv,H2,I2,r2,q2⟩=>?_;exact RG I2 hN hi hx r2 (fun s3 I3=>⟨_,H2,I3,q2⟩) hf
 rcases l with ⟨hk,hm⟩ | ⟨hk,c,hc,iT⟩
 . exact wpAny_loadName_local I.ok.kind hk hn hm go
 . rcases hk with hk | hk
   . exact wpAny_loadName_cell I.ok.kind hk hc iT go
   . rcases hx with k | k
     . have:X.env.scope.names.lookup x=some .free:=hk;rw[k] at this;cases this
     . have:X.env.scope.names.lookup x=some .free:=hk;rw[k] at this;cases this
def fm (f:Int->Int->Int):VH:=fun x y H Q=>∃i j,x=.int i/\y=.int j/\Q (.int (f i j)) H
theorem KP:ZG X .Add (fm fun i j=>i+j):=by intro pins s σ H x y v u Q I r1 r2 h;obtain⟨i,j,e1,e2,q⟩:=h;subst e1;subst e2;obtain⟨t,rfl⟩:=r1;obtain⟨t',rfl⟩:=r2;exact iadd_int ⟨.int _,H,I.tok _,⟨_,rfl⟩,q⟩
def KO (c:TT)(tb:TS):TS:=fun D σ H=>∃W:Nat->St->Hp->Prop,(∃m,W m σ H)/\∀m σ H,W m σ H ->
 c σ H fun b H1=>if b=true then ∃N:St->Hp->Prop,(∀ σ' H',N σ' H'->∃m',m'<m/\W m' σ' H')/\tb { D with nx:=N,ct:=N,bk:=D.nx } σ H1 else D.nx σ H1
theorem Nb (hp:PassesOwn (model X.prog X.w) X.A X.env X.xe)(hc:PT X c tc)(hb:Cj X body tb):PS X (.While c body [] pos) (KO tc tb):=by
 intro pins s σ H D I h;obtain⟨W,⟨m0,w0⟩,turn⟩:=h;refine wpAny_While (codeAny_whileLoop (fun n s'=>∃ σ' H',AA X pins σ' H' s'/\W n σ' H') ?_ m0 ⟨σ,H,I,w0⟩);rintro n s1 ⟨σ1,H1,I1,w1⟩;refine wpAny_passesOwn hp (AM (hc pins s1 σ1 H1 _ I1 (turn n σ1 H1 w1)) fun b s2 ⟨H2,I2,q2⟩=>?_);cases b with
 | true=>
  obtain⟨N,hN,q2⟩:=q2;rw[if_pos rfl];refine wpAny_passesOwn hp (AM (hb pins s2 σ1 H2 _ I2 q2) fun f s3 q3=>?_);cases f with
  | next=>obtain⟨σ3,H3,I3,n3⟩:=q3;obtain⟨m',hm,w3⟩:=hN σ3 H3 n3;exact⟨m',hm,σ3,H3,I3,w3⟩
  | cont=>obtain⟨σ3,H3,I3,n3⟩:=q3;obtain⟨m',hm,w3⟩:=hN σ3 H3 n3;exact⟨m',hm,σ3,H3,I3,w3⟩
  | brk=>exact q3
  | ret v=>exact q3
 | false=>rw[if_neg zo];exact wpAny_execs_nil ⟨σ1,H2,I2,q2⟩
structure It where
 go:Nat->Hp->Prop
 yld:Nat->Hp->V->Hp->Prop
 stop:Nat->Hp->Prop
def BP (X:Cx)(pins:CI)(H:Hp)(b:Addr):Prop:=
 H b=none/\b≠X.env.locals/\b∉X.fs/\(b∈X.ex\/X.s₀.heap.objs.size<=b)/\(∀x c,X.env.cells.lookup x=some c->c≠b)/\∀p∈X.pn++pins,p.1≠b
theorem AA.fpOk (I:AA X pins σ H s)(hb:s.heap.objs.size<=b)(hn:H' b=none):BP X pins H' b:=by
 refine⟨hn,Nat.ne_of_gt (zx I.lt hb),I.nofs hb,.inr (Cq I.sz hb),fun x c e z=>?_,fun p hp z=>?_⟩
 . obtain⟨v,q⟩:=I.cell x c e;exact absurd (zx q.lt (by rw[z];exact hb)) (E5 _)
 . exact absurd (zx (zd (I.pin p hp).1) (by rw[z];exact hb)) (E5 _)
structure EM (P:Program)(w:World)(K:AO)(tg:Expr)(J:It)(fp:List Addr)(it:Addr)(tn:Nat->Heap->Prop):Prop where
 mem:it∈fp
 obj:∀i h,tn i h->∀b∈fp,∃o,h.get? b=some o/\∀v,o.data ≠ .cell v
 keep:∀i h h',tn i h->(∀b∈fp,∀o,h.get? b=some o->h'.get? b=some o)->tn i h'
 item:∀(X:Cx),X.prog=P->X.w=w->X.K=K->X.calm=true->∀(i:Nat)(pins:CI)(s:Shared)(σ:St)(H:Hp)(E:Df),AA X pins σ H s->(∀b∈fp,BP X pins H b)->tn i s.heap->J.go i H ->
  wpAny (model P w) X.A (pyNext (.ref it)) (fun r s1=>∃u,r=some u /\
   wpAny (model P w) X.A (letOwnedTupleGo tg (.ref it) u) (fun _ s2=>∃x H',AA X pins σ H' s2/\AS x u/\J.yld i H x H'/\tn (i+1) s2.heap/\∀b∈fp,H' b=none) E s1) E s
 done:∀(X:Cx),X.prog=P->X.w=w->X.K=K->X.calm=true->∀(i:Nat)(pins:CI)(s:Shared)(σ:St)(H:Hp)(E:Df),AA X pins σ H s->(∀b∈fp,BP X pins H b)->tn i s.heap->J.stop i H ->
  wpAny (model P w) X.A (pyNext (.ref it)) (fun r s1=>r=none/\AA X pins σ H s1) E s
 self:∀(A:Around)(i:Nat)(s:Shared)(Q:Df)(E:Df),tn i s.heap->Q (.ref it) s->wpAny (model P w) A (pyIter (.ref it)) Q E s
abbrev TI:=St->Hp->(It->Hp->Prop)->Prop
def Um (X:Cx)(pins:CI)(σ:St)(tg:Expr)(R:It->Hp->Prop)(itv:Value)(s2:Shared):Prop:=
 ∃it fp tn J H',itv=.ref it/\AA X pins σ H' s2/\EM X.prog X.w X.K tg J fp it tn/\tn 0 s2.heap/\(∀b∈fp,BP X pins H' b)/\R J H'
def PI (X:Cx)(tg iter:Expr)(wi:TI):Prop:=
 ∀pins s σ H R,AA X pins σ H s->wi σ H R ->
  wpAny (model X.prog X.w) X.A (eval iter X.env) (fun v s1=>wpAny (model X.prog X.w) X.A (pyIter v) (Um X pins σ tg R) X.xe s1) X.xe s
theorem Qx (ho:s.heap.get? it=some o)(hc:o.cls=.type n)(hd:o.data=.fields vs)
 (hn:["enumerate", "zip", "dict_itemiterator", "dict_reverseitemiterator", "odict_iterator", "itertools.zip_longest", "itertools.pairwise"].contains n=false) (hQ:Q () s):wpAny M A (letOwnedTupleGo tg (.ref it) u) Q E s:=by
 unfold letOwnedTupleGo;cases tg <;> first
  | exact zE hQ
  | (cases u <;> first
   | exact zE hQ
   | (refine zA (wpAny_load ho ?_)
      rw[hc,hd];show wpAny M A (if (["enumerate", "zip", "dict_itemiterator", "dict_reverseitemiterator", "odict_iterator", "itertools.zip_longest", "itertools.pairwise"].contains n && vs[0]? == some (rawInt _))=true then _ else _) Q E s
      rw[if_neg (by intro h;rw[hn,Bool.false_and] at h;cases h)];exact zE hQ))
noncomputable def M5 (K:AO)(a:Addr):It:=
 ⟨fun i H=>∃xs x,AE K H a xs/\xs[i]?=some x,fun i H x H'=>H'=H/\∀xs,AE K H a xs->xs[i]?=some x,fun i H=>∃xs,AE K H a xs/\xs.length<=i⟩
noncomputable def M7 (K:AO)(a:Addr):It:=
 ⟨fun i H=>∃xs x,AB K H a xs/\xs[i]?=some x,fun i H x H'=>H'=H/\∀xs,AB K H a xs->xs[i]?=some x,fun i H=>∃xs,AB K H a xs/\xs.length<=i⟩
noncomputable def II (lo:Int)(n:Nat):It:=⟨fun i _=>i<n,fun i H x H'=>H'=H/\x=.int (lo+i),fun i _=>n<=i⟩
theorem cp {P:Program}{w:World}{K:AO}{tg:Expr}(a it:Addr):EM P w K tg (M5 K a) [it] it (fun i h=>h.IsListIter it a i) where
 mem:=by simp
 obj:=fun i h st b hb=>by
  have e:b=it:=by simpa using hb
  subst e;obtain⟨o,e,c,d⟩:=st;exact⟨o,e,fun v z=>by rw[d] at z;cases z⟩
 keep:=fun i h h' st k=>st.at fun o e=>k it (by simp) o e
 item:=by intro X hP hw hK hc i pins s σ H E I hf st hg;subst hP hw hK;obtain⟨xs,x,hq,hx⟩:=hg;obtain⟨its,rv,p,hz⟩:=I.list hq;obtain⟨u,hu,ru⟩:=rv.get hx;obtain⟨f0,f1,f2,f3,f4,f5⟩:=hf it (by simp);refine IC st p.isList (x:=u) (by simpa using hu) fun h' iY sb=>?_;have I1:AA X pins σ H { s with heap:=h' }:=I.turned (t':=s.toks) (fun b o hb e=>(sb.2 b hb).trans e) f0 f1 f3 f4 f5;obtain⟨o,e,c,d⟩:=id iY;exact⟨u,rfl,Qx (s:={ s with heap:=h' }) e c d (by decide) ⟨x,H,I1,ru,⟨rfl,fun ys hy=>by rw[I.list_inj hy hq];exact hx⟩,iY,fun b hb=>(hf b hb).1⟩⟩
 done:=by intro X hP hw hK hc i pins s σ H E I hf st hg;subst hP hw hK;obtain⟨xs,hq,hx⟩:=hg;obtain⟨its,rv,p,hz⟩:=I.list hq;obtain⟨f0,f1,f2,f3,f4,f5⟩:=hf it (by simp);have hl:=rv.length;exact J1 (I.ok.hd hc) st p.isList (by simp;lia) fun h' eb=>⟨rfl,I.turned (t':=s.toks) (fun b o hb e=>eb b o hb e) f0 f1 f3 f4 f5⟩
 self:=fun _ _ _ _ _ st h=>wpAny_pyIter_listiter st h
theorem Z9 {P:Program}{w:World}{K:AO}{tg:Expr}(a it:Addr):EM P w K tg (M7 K a) [it] it (fun i h=>h.IsTupleIter it a i) where
 mem:=by simp
 obj:=fun i h st b hb=>by
  have e:b=it:=by simpa using hb
  subst e;obtain⟨o,e,c,d⟩:=st;exact⟨o,e,fun v z=>by rw[d] at z;cases z⟩
 keep:=fun i h h' st k=>st.at fun o e=>k it (by simp) o e
 item:=by intro X hP hw hK hc i pins s σ H E I hf st hg;subst hP hw hK;obtain⟨xs,x,hq,hx⟩:=hg;obtain⟨its,rv,p,hz⟩:=I.tuple hq;obtain⟨u,hu,ru⟩:=rv.get hx;obtain⟨f0,f1,f2,f3,f4,f5⟩:=hf it (by simp);refine wpAny_pyNext_tuple_item st (show s.heap.IsTuple a its.toArray from p) (x:=u) (by simpa using hu) fun h' iY sb=>?_;have I1:AA X pins σ H { s with heap:=h' }:=I.turned (t':=s.toks) (fun b o hb e=>(sb.2 b hb).trans e) f0 f1 f3 f4 f5;obtain⟨o,e,c,d⟩:=id iY;exact⟨u,rfl,Qx (s:={ s with heap:=h' }) e c d (by decide) ⟨x,H,I1,ru,⟨rfl,fun ys hy=>by rw[I.tuple_inj hy hq];exact hx⟩,iY,fun b hb=>(hf b hb).1⟩⟩
 done:=by intro X hP hw hK hc i pins s σ H E I hf st hg;subst hP hw hK;obtain⟨xs,hq,hx⟩:=hg;obtain⟨its,rv,p,hz⟩:=I.tuple hq;obtain⟨f0,f1,f2,f3,f4,f5⟩:=hf it (by simp);have hl:=rv.length;exact wpAny_pyNext_tuple_end (I.ok.hd hc) st (show s.heap.IsTuple a its.toArray from p) (by simp;lia) fun h' eb=>⟨rfl,I.turned (t':=s.toks) (fun b o hb e=>eb b o hb e) f0 f1 f3 f4 f5⟩
 self:=fun _ _ _ _ _ st h=>wpAny_pyIter_tupleiter st h
theorem eN {P:Program}{w:World}{K:AO}{tg:Expr}(it:Addr)(lo:Int)(n:Nat):EM P w K tg (II lo n) [it] it (fun i h=>IsRangeIter h it (lo+(i:Nat)*1) ((n:Int)-(i:Nat)) 1) where
 mem:=by simp
 obj:=fun i h st b hb=>by
  have e:b=it:=by simpa using hb
  subst e;exact⟨_,st,fun v z=>by have z':Data.fields _=Data.cell v:=z;cases z'⟩
 keep:=fun i h h' st k=>k it (by simp) _ st
 item:=by intro X hP hw hK hc i pins s σ H E I hf st hg;subst hP hw hK;obtain⟨f0,f1,f2,f3,f4,f5⟩:=hf it (by simp);have W:=Walks.range (prog:=X.prog) (w:=X.w) (I.ok.hd hc) it lo 1 n;refine W.item i s _ _ hg st fun v h' tk hv iY kk=>?_;obtain⟨t,rfl⟩:=hv;have I1:AA X pins σ H { s with heap:=h',toks:=tk }:=I.turned (fun b o hb e=>kk b o (by simpa using hb) e) f0 f1 f3 f4 f5;refine⟨_,rfl,Qx (s:={ s with heap:=h',toks:=tk }) (n := "range_iterator") iY rfl rfl (by decide) ⟨.int (lo+i),H,I1,⟨t,?_⟩,⟨rfl,rfl⟩,iY,fun b hb=>(hf b hb).1⟩⟩;rw[Int.mul_one]
 done:=by intro X hP hw hK hc i pins s σ H E I hf st hg;subst hP hw hK;obtain⟨f0,f1,f2,f3,f4,f5⟩:=hf it (by simp);exact wpAny_pyNext_range_end (I.ok.hd hc) st (by have:n<=i:=hg;lia) fun h' eb=>⟨rfl,I.turned (t':=s.toks) (fun b o hb e=>eb b o hb e) f0 f1 f3 f4 f5⟩
 self:=fun _ _ _ _ _ st h=>wpAny_pyIter_rangeiter st h
inductive XS (K:AO)(R:It->Hp->Prop)(x:V)(H1:Hp):Prop
 | mk:∀a,(x=.ref a)->((∃xs,AE K H1 a xs))->(R (M5 K a) H1)->XS K R x H1
def Oi (K:AO)(tl:TE):TI:=fun σ H R=>tl σ H fun x H1=>XS K R x H1
inductive Vm (K:AO)(R:It->Hp->Prop)(x:V)(H1:Hp):Prop
 | mk:∀a,(x=.ref a)->((∃xs,AB K H1 a xs))->(R (M7 K a) H1)->Vm K R x H1
def Ug (K:AO)(tl:TE):TI:=fun σ H R=>tl σ H fun x H1=>Vm K R x H1
theorem CZ (hl:PE X l tl):PI X tg l (Oi X.K tl):=by
 intro pins s σ H R I h;refine AM (hl pins s σ H _ I h) fun v s1 ⟨x,H1,I1,r1,q1⟩=>?_;obtain⟨a,e,⟨xs,hq⟩,q⟩:=q1;subst e;cases r1;obtain⟨its,rv,p,hz⟩:=I1.list hq;refine Hk p.isList ?_;refine⟨s1.heap.objs.size,[s1.heap.objs.size],_,_,H1,rfl,I1.kept (t':=s1.toks) fun b o e=>zG _ e,cp a _,⟨_,zN _ rfl,rfl,rfl⟩,fun b hb=>?_,q⟩;have e:b=s1.heap.objs.size:=by simpa using hb
 subst e;exact I1.fpOk (zI _) (I1.hok.fresh (zI _))
theorem Bo (hl:PE X l tl):PI X tg l (Ug X.K tl):=by
 intro pins s σ H R I h;refine AM (hl pins s σ H _ I h) fun v s1 ⟨x,H1,I1,r1,q1⟩=>?_;obtain⟨a,e,⟨xs,hq⟩,q⟩:=q1;subst e;cases r1;obtain⟨its,rv,p,hz⟩:=I1.tuple hq;refine Jv (show s1.heap.IsTuple a its.toArray from p) ?_;refine⟨s1.heap.objs.size,[s1.heap.objs.size],_,_,H1,rfl,I1.kept (t':=s1.toks) fun b o e=>zG _ e,Z9 a _,⟨_,zN _ rfl,rfl,rfl⟩,fun b hb=>?_,q⟩;have e:b=s1.heap.objs.size:=by simpa using hb
 subst e;exact I1.fpOk (zI _) (I1.hok.fresh (zI _))
theorem YB {lo:Int}(I:AA X pins σ H s)(h1 : -(2 ^ 62)<=lo)(h2:lo<2 ^ 62)(h3 : -(2 ^ 62)<=hi)(h4:hi<2 ^ 62)
 (q:R (II lo (hi-lo).toNat) H):wpAny (model X.prog X.w) X.A (pyIter (.ref s.heap.objs.size)) (Um X pins σ tg R) E { s with heap:=s.heap.push { cls:=.type "range",data:=.fields #[.int lo t,.int hi u,.int 1 v] },toks:=tk }:=by
 refine wpAny_pyIter_range (IsRange.new ..) (small_one h1 h2 h3 h4) ?_;have I1:AA X pins σ H { s with heap:=s.heap.push { cls:=.type "range",data:=.fields #[.int lo t,.int hi u,.int 1 v] },toks:=tk }:=I.kept fun b o e=>zG _ e;refine⟨(s.heap.push { cls:=.type "range",data:=.fields #[.int lo t,.int hi u,.int 1 v] }).objs.size,[(s.heap.push { cls:=.type "range",data:=.fields #[.int lo t,.int hi u,.int 1 v] }).objs.size],_,_,H,rfl,
  I1.kept (t':=tk) fun b o e=>zG _ e,eN _ lo (hi-lo).toNat,?_,fun b hb=>?_,q⟩
 . have e1:lo+((0:Nat):Int)*1=lo:=by simp
   have e2:(((hi-lo).toNat:Nat):Int)-((0:Nat):Int)=Builtin.Range.rangeSize lo hi 1:=by rw[rangeSize_one];split <;> lia
   show IsRangeIter _ _ (lo+((0:Nat):Int)*1) ((((hi-lo).toNat:Nat):Int)-((0:Nat):Int)) 1;rw[e1,e2];exact zN _ rfl
 . have e:b=(s.heap.push { cls:=.type "range",data:=.fields #[.int lo t,.int hi u,.int 1 v] }).objs.size:=by simpa using hb
   subst e;exact I1.fpOk (zI _) (I1.hok.fresh (zI _))
inductive Wo (R:It->Hp->Prop)(vs:List V)(H1:Hp):Prop
 | mk:∀j:Int,(vs=[.int j])->(-(2 ^ 62)<=j)->(j<2 ^ 62)->(R (II 0 j.toNat) H1)->Wo R vs H1
def Pu (ta:TA):TI:=fun σ H R=>ta σ H fun vs H1=>Wo R vs H1
def Ov (ta:TA):TI:=fun σ H R=>ta σ H fun vs H1=>∃i j:Int,vs=[.int i,.int j]/\(-(2 ^ 62)<=i/\i<2 ^ 62/\-(2 ^ 62)<=j/\j<2 ^ 62)/\R (II i (j-i).toNat) H1
theorem CT (hg:Gl X "range") (hm:X.mg "range"=none) (ha:PA X [a] ta)(hs:starEach [a] X.env=[(false,eval a X.env)]:=by rfl):PI X tg (.Call (.Name "range" p) [a] [] pos) (Pu ta):=by
 intro pins s σ H R I h;refine Call_ (C9 I hg hm boot_range (PyProof.Rows.callWith_type1 (AM (ha pos pins s σ H _ I h) fun us s1 ⟨vs,H1,I1,r1,q1⟩=>?_) hs rfl));obtain⟨j,e,q1,q2,q⟩:=q1;subst e;cases r1 with
 | cons r rr=>cases rr;obtain⟨t,rfl⟩:=r;exact call_range_1 (YB I1 (by lia) (by lia) q1 q2 (by simpa using q))
theorem Sn (hg:Gl X "range") (hm:X.mg "range"=none) (ha:PA X [a,b] ta)(hs:starEach [a,b] X.env=[(false,eval a X.env),(false,eval b X.env)]:=by rfl)(iM:starEach [b] X.env=[(false,eval b X.env)]:=by rfl):
 PI X tg (.Call (.Name "range" p) [a,b] [] pos) (Ov ta):=by
 intro pins s σ H R I h;refine Call_ (C9 I hg hm boot_range (PyProof.Rows.callWith_type1 (AM (ha pos pins s σ H _ I h) fun us s1 ⟨vs,H1,I1,r1,q1⟩=>?_) (by rw[hs,iM]) (by rw[iM];rfl)));obtain⟨i,j,e,⟨q1,q2,q3,q4⟩,q⟩:=q1;subst e;cases r1 with
 | cons r rr=>
  cases rr with
  | cons r' rr=>cases rr;obtain⟨t,rfl⟩:=r;obtain⟨t',rfl⟩:=r';exact call_range_2 (YB I1 q1 q2 q3 q4 q)
def QG (wi:TI)(g:TG)(tb:TS):TS:=fun D σ H=>wi σ H fun J H1=>∃W:Nat->Nat->St->Hp->Prop,(∃m,W 0 m σ H1)/\∀i m σ H,W i m σ H ->
 (J.stop i H/\D.nx σ H)\/(J.go i H/\∃N:St->Hp->Prop,(∀ σ' H',N σ' H'->∃m',m'<m/\W (i+1) m' σ' H')/\∀x H',J.yld i H x H'->g x σ H' fun σ2 H2=>tb { D with nx:=N,ct:=N,bk:=D.nx } σ2 H2)
noncomputable def NF (fp:List Addr)(h:Heap):List (Addr×Obj):=fp.filterMap fun b=>(h.get? b).map fun o=>(b,o)
theorem Ra (hb:b∈fp)(e:h.get? b=some o):(b,o)∈NF fp h:=Hq.mpr ⟨b,hb,by rw[e];rfl⟩
theorem bR (hp:p∈NF fp h):p.1∈fp/\h.get? p.1=some p.2:=by
 obtain⟨b,hb,e⟩:=Hq.mp hp;cases q:h.get? b with
 | none=>rw[q] at e;cases e
 | some o=>rw[q] at e;have e':(b,o)=p:=zV e;subst e';exact⟨hb,q⟩
theorem AA.pinned (I:AA X pins σ H s)(hf:∀b∈fp,BP X pins H b)(ho:∀b∈fp,∃o,s.heap.get? b=some o/\∀v,o.data ≠ .cell v):AA X (pins++NF fp s.heap) σ H s:=
 I.pins_of fun p hp=>(zU.mp hp).elim (fun z=>I.pin p (C3 _ z)) fun z=>by obtain⟨hb,e⟩:=bR z;obtain⟨f0,f1,f2,_⟩:=hf p.1 hb;obtain⟨o,e',d⟩:=ho p.1 hb;rw[e] at e';cases e';exact⟨e,f0,f1,f2,d⟩
theorem AA.unpinned (I:AA X (pins++pl) σ H s):AA X pins σ H s:=I.pins_of fun p hp=>I.pin p (C3 _ (Di _ hp))
theorem Kn (hp:PassesOwn (model X.prog X.w) X.A X.env X.xe)(hc:X.calm=true)(hi:PI X tg iter wi)(hg:PG X tg g)(hb:Cj X body tb)
 (hs:∀x,foldedSetIterable iter X.env x=pure x:=by intro _;rfl):PS X (.For tg iter body [] pos) (QG wi g tb):=by
 intro pins s σ H D I h;refine wpAny_For (AM (hi pins s σ H _ I h) fun v s1 h1=>AM h1 fun itv s2 h2=>?_) hs;obtain⟨it,fp,tn,J,H2,e,I2,T,st2,f2,W,⟨m0,w0⟩,turn⟩:=h2;subst e;have i9:∀{H':Hp},(∀b∈fp,H' b=none)->∀b∈fp,BP X pins H' b:=fun hn b hb=>⟨hn b hb,(f2 b hb).2⟩;refine codeAny_forLoop_any (fun n s'=>∃i σ' H',AA X pins σ' H' s'/\tn i s'.heap/\(∀b∈fp,H' b=none)/\W i n σ' H') ?_ m0 ⟨0,σ,H2,I2,st2,fun b hb=>(f2 b hb).1,w0⟩;rintro n s3 ⟨i,σ3,H3,I3,st3,fr3,w3⟩;rcases turn i n σ3 H3 w3 with ⟨stop,qn⟩ | ⟨go,N,hN,step⟩
 . refine wpAny_passesOwn hp (AM (T.done X rfl rfl rfl hc i pins s3 σ3 H3 X.xe I3 (i9 fr3) st3 stop) fun r s4 ⟨hr,I4⟩=>?_);subst hr;exact wpAny_execs_nil ⟨σ3,H3,I4,qn⟩
 . refine wpAny_passesOwn hp (AM (T.item X rfl rfl rfl hc i pins s3 σ3 H3 X.xe I3 (i9 fr3) st3 go) fun r s4 ⟨u,hr,h4⟩=>?_);subst hr;refine wpAny_passesOwn hp (AM h4 fun _ s5 ⟨x,H5,I5,r5,y5,st5,fr5⟩=>?_);have I5':=I5.pinned (i9 fr5) (T.obj _ _ st5);refine wpAny_passesOwn hp (AM (hg _ s5 σ3 H5 x u _ I5' r5 (step x H5 y5)) fun _ s6 ⟨σ6,H6,I6,q6⟩=>?_);refine wpAny_passesOwn hp (AM (hb _ s6 σ6 H6 _ I6 q6) fun f s7 q7=>?_);have again:∀{σ7:St}{H7:Hp},AA X (pins++NF fp s5.heap) σ7 H7 s7->N σ7 H7->∃m,m<n/\∃i σ' H',AA X pins σ' H' s7/\tn i s7.heap/\(∀b∈fp,H' b=none)/\W i m σ' H':=fun {σ7 H7} I7 n7=>by obtain⟨m',hm,w7⟩:=hN σ7 H7 n7;refine⟨m',hm,i+1,σ7,H7,I7.unpinned,T.keep _ _ _ st5 fun b hb o e=>(I7.pin (b,o) (C3 _ (C3 _ (Ra hb e)))).1,fun b hb=>?_,w7⟩;obtain⟨o,e,d⟩:=T.obj _ _ st5 b hb;exact (I7.pin (b,o) (C3 _ (C3 _ (Ra hb e)))).2.1
   cases f with
   | next=>obtain⟨σ7,H7,I7,n7⟩:=q7;exact again I7 n7
   | cont=>obtain⟨σ7,H7,I7,n7⟩:=q7;exact again I7 n7
   | brk=>obtain⟨σ7,H7,I7,q7⟩:=q7;exact⟨σ7,H7,I7.unpinned,q7⟩
   | ret v=>obtain⟨x7,σ7,H7,I7,r7,q7⟩:=q7;exact⟨x7,σ7,H7,I7.unpinned,r7,q7⟩
theorem TH {K:AO}{g:TG}{tb:TS}{D:J8}(Pv:Nat->St->Hp->Prop)(h0:Pv 0 σ H)(hl:∀i σ H,i<=xs.length->Pv i σ H->AE K H a xs)
 (hs:∀i x σ H,xs[i]?=some x->Pv i σ H->g x σ H fun σ2 H2=>tb { D with nx:=Pv (i+1),ct:=Pv (i+1),bk:=D.nx } σ2 H2)(hd:∀ σ H,Pv xs.length σ H->D.nx σ H):
 ∃W:Nat->Nat->St->Hp->Prop,(∃m,W 0 m σ H)/\∀i m σ H,W i m σ H ->
  ((M5 K a).stop i H/\D.nx σ H)\/((M5 K a).go i H/\∃N:St->Hp->Prop,(∀ σ' H',N σ' H'->∃m',m'<m/\W (i+1) m' σ' H')/\∀x H',(M5 K a).yld i H x H'->g x σ H' fun σ2 H2=>tb { D with nx:=N,ct:=N,bk:=D.nx } σ2 H2):=by
 refine⟨fun i m σ H=>m=xs.length-i/\i<=xs.length/\Pv i σ H,⟨xs.length,by simp,zg _,h0⟩,?_⟩;rintro i m σ H ⟨rfl,hi,p⟩;have q:=hl i σ H hi p;by_cases gD:i<xs.length
 . refine .inr ⟨⟨xs,xs[i],q,by simp[gD]⟩,Pv (i+1),fun σ' H' p'=>⟨xs.length-(i+1),by lia,rfl,gD,p'⟩,fun x H' y=>?_⟩;obtain⟨e,y⟩:=y;subst e;exact hs i x σ _ (y xs q) p
 . have e:i=xs.length:=by lia
   subst e;exact .inl ⟨⟨xs,q,zI _⟩,hd σ H p⟩
theorem Mc {K:AO}{g:TG}{tb:TS}{D:J8}(Pv:Nat->St->Hp->Prop)(h0:Pv 0 σ H)(hl:∀i σ H,i<=xs.length->Pv i σ H->AB K H a xs)
 (hs:∀i x σ H,xs[i]?=some x->Pv i σ H->g x σ H fun σ2 H2=>tb { D with nx:=Pv (i+1),ct:=Pv (i+1),bk:=D.nx } σ2 H2)(hd:∀ σ H,Pv xs.length σ H->D.nx σ H):
 ∃W:Nat->Nat->St->Hp->Prop,(∃m,W 0 m σ H)/\∀i m σ H,W i m σ H ->
  ((M7 K a).stop i H/\D.nx σ H)\/((M7 K a).go i H/\∃N:St->Hp->Prop,(∀ σ' H',N σ' H'->∃m',m'<m/\W (i+1) m' σ' H')/\∀x H',(M7 K a).yld i H x H'->g x σ H' fun σ2 H2=>tb { D with nx:=N,ct:=N,bk:=D.nx } σ2 H2):=by
 refine⟨fun i m σ H=>m=xs.length-i/\i<=xs.length/\Pv i σ H,⟨xs.length,by simp,zg _,h0⟩,?_⟩;rintro i m σ H ⟨rfl,hi,p⟩;have q:=hl i σ H hi p;by_cases gD:i<xs.length
 . refine .inr ⟨⟨xs,xs[i],q,by simp[gD]⟩,Pv (i+1),fun σ' H' p'=>⟨xs.length-(i+1),by lia,rfl,gD,p'⟩,fun x H' y=>?_⟩;obtain⟨e,y⟩:=y;subst e;exact hs i x σ _ (y xs q) p
 . have e:i=xs.length:=by lia
   subst e;exact .inl ⟨⟨xs,q,zI _⟩,hd σ H p⟩
theorem IH {lo:Int}{g:TG}{tb:TS}{D:J8}(Pv:Nat->St->Hp->Prop)(h0:Pv 0 σ H)
 (hs:∀i σ H,i<n->Pv i σ H->g (.int (lo+i)) σ H fun σ2 H2=>tb { D with nx:=Pv (i+1),ct:=Pv (i+1),bk:=D.nx } σ2 H2)(hd:∀ σ H,Pv n σ H->D.nx σ H):
 ∃W:Nat->Nat->St->Hp->Prop,(∃m,W 0 m σ H)/\∀i m σ H,W i m σ H ->
  ((II lo n).stop i H/\D.nx σ H)\/((II lo n).go i H/\∃N:St->Hp->Prop,(∀ σ' H',N σ' H'->∃m',m'<m/\W (i+1) m' σ' H')/\∀x H',(II lo n).yld i H x H'->g x σ H' fun σ2 H2=>tb { D with nx:=N,ct:=N,bk:=D.nx } σ2 H2):=by
 refine⟨fun i m σ H=>m=n-i/\i<=n/\Pv i σ H,⟨n,by simp,zg _,h0⟩,?_⟩;rintro i m σ H ⟨rfl,hi,p⟩;by_cases gD:i<n
 . refine .inr ⟨gD,Pv (i+1),fun σ' H' p'=>⟨n-(i+1),by lia,rfl,gD,p'⟩,fun x H' y=>?_⟩;obtain⟨e,y⟩:=y;subst e y;exact hs i σ _ gD p
 . have e:i=n:=by lia
   subst e;exact .inl ⟨zI _,hd σ H p⟩
abbrev R2:=V->V->Hp->VK->Prop
def A2 (X:Cx)(f:Value->Value->Sem Value)(r:R2):Prop:=
 ∀pins s σ H x y v u Q,AA X pins σ H s->AS x v->AS y u->r x y H Q ->
  wpAny (model X.prog X.w) X.A (f v u) (EP X pins σ Q) X.xe s
def Uk (X:Cx)(f:Value->Sem Value)(r:V->Hp->VK->Prop):Prop:=
 ∀pins s σ H x v Q,AA X pins σ H s->AS x v->r x H Q ->
  wpAny (model X.prog X.w) X.A (f v) (EP X pins σ Q) X.xe s
def CO (X:Cx)(f:Value)(r:List V->Hp->VK->Prop):Prop:=
 ∀pins s σ H xs us Q,AA X pins σ H s->AR xs us->r xs H Q ->
  wpAny (model X.prog X.w) X.A (call f us) (EP X pins σ Q) X.xe s
def Uw (X:Cx)(r:V->Hp->(Bool->Hp->Prop)->Prop):Prop:=
 ∀pins s σ H x v Q,AA X pins σ H s->AS x v->r x H Q ->
  wpAny (model X.prog X.w) X.A (truthy v) (TP X pins σ Q) X.xe s
def QW (r:R2)(ta tb:TE):TE:=fun σ H Q=>ta σ H fun x H1=>tb σ H1 fun y H2=>r x y H2 Q
def fh (r:V->Hp->VK->Prop)(ta:TE):TE:=fun σ H Q=>ta σ H fun x H1=>r x H1 Q
inductive O1 (C:Int->Int->Prop)(g:Int->Int->V)(x:V)(y:V)(H:Hp)(Q:VK):Prop
 | mk:∀i j,(x=.int i)->(y=.int j)->(C i j)->(Q (g i j) H)->O1 C g x y H Q
def rI (C:Int->Int->Prop)(g:Int->Int->V):R2:=fun x y H Q=>O1 C g x y H Q
inductive Io (g:Int->Int->V)(x:V)(y:V)(H:Hp)(Q:VK):Prop
 | mk:∀i j,(x=.int i)->(y=.int j)->(Q (g i j) H)->Io g x y H Q
def Gn (g:Int->Int->V):R2:=fun x y H Q=>Io g x y H Q
inductive Ql (g:Int->V)(x:V)(H:Hp)(Q:VK):Prop
 | mk:∀i,(x=.int i)->(Q (g i) H)->Ql g x H Q
def rU (g:Int->V):V->Hp->VK->Prop:=fun x H Q=>Ql g x H Q
theorem Lj (ha:PE X a ta)(hb:PE X b tb){R:V->V->Hp->Prop}(I:AA X pins σ H s)
 (h:ta σ H fun x H1=>tb σ H1 fun y H2=>R x y H2){f:Value->Value->Sem Value}
 (hf:∀v u s2 x y H2,AA X pins σ H2 s2->AS x v->AS y u->R x y H2->wpAny (model X.prog X.w) X.A (f v u) Q X.xe s2):
 wpAny (model X.prog X.w) X.A (eval a X.env) (fun v s₁=>wpAny (model X.prog X.w) X.A (eval b X.env) (fun u s₂=>wpAny (model X.prog X.w) X.A (f v u) Q X.xe s₂) X.xe s₁) X.xe s:=by
 refine AM (ha pins s σ H _ I h) fun v s1 ⟨x,H1,I1,r1,q1⟩=>?_;refine AM (hb pins s1 σ H1 _ I1 q1) fun u s2 ⟨y,H2,I2,r2,q2⟩=>?_;exact hf v u s2 x y H2 I2 r1 r2 q2
theorem Ac (ho:A2 X (binaryOp op) r)(ha:PE X a ta)(hb:PE X b tb):PE X (.BinOp a op b pos) (QW r ta tb):=by intro pins s σ H Q I h;exact wpAny_BinOp (Lj ha hb I h fun v u s2 x y H2 I2 rx ry q=>ho pins s2 σ H2 x y v u Q I2 rx ry q)
theorem SX (ho:Uk X (unaryOp op) r)(ha:PE X a ta):PE X (.UnaryOp op a pos) (fh r ta):=by intro pins s σ H Q I h;exact UnaryOp_ (AM (ha pins s σ H _ I h) fun v s1 ⟨x,H1,I1,r1,q1⟩=>ho pins s1 σ H1 x v Q I1 r1 q1)
theorem Pw {g:Int->Int->Int}
 (rule:∀i j t u s Q E,C i j->Q (.int (g i j) s.toks) { s with toks:=s.toks+1 }->wpAny (model X.prog X.w) X.A (f (.int i t) (.int j u)) Q E s):
 A2 X f (rI C fun i j=>.int (g i j)):=by
 intro pins s σ H x y v u Q I rx ry h;obtain⟨i,j,rfl,rfl,hc,q⟩:=h;obtain⟨t,rfl⟩:=rx;obtain⟨t',rfl⟩:=ry;exact rule i j t t' s _ _ hc ⟨.int (g i j),H,I.tok _,⟨_,rfl⟩,q⟩
theorem HM {g:Int->Int->Int}
 (rule:∀i j t u s Q E,Q (.int (g i j) s.toks) { s with toks:=s.toks+1 }->wpAny (model X.prog X.w) X.A (f (.int i t) (.int j u)) Q E s):
 A2 X f (Gn fun i j=>.int (g i j)):=by
 intro pins s σ H x y v u Q I rx ry h;obtain⟨i,j,rfl,rfl,q⟩:=h;obtain⟨t,rfl⟩:=rx;obtain⟨t',rfl⟩:=ry;exact rule i j t t' s _ _ ⟨.int (g i j),H,I.tok _,⟨_,rfl⟩,q⟩
theorem HI {g:Int->Int->Bool}
 (rule:∀i j t u s Q E,Q (.bool (g i j)) s->wpAny (model X.prog X.w) X.A (f (.int i t) (.int j u)) Q E s):
 A2 X f (Gn fun i j=>.bl (g i j)):=by
 intro pins s σ H x y v u Q I rx ry h;obtain⟨i,j,rfl,rfl,q⟩:=h;obtain⟨t,rfl⟩:=rx;obtain⟨t',rfl⟩:=ry;exact rule i j t t' s _ _ ⟨.bl (g i j),H,I,rfl,q⟩
def Pm (i j:Int):Prop:=0<j/\j<1073741824
def Po (i j:Int):Prop:=0<=j/\j<=1000000/\i.natAbs<2 ^ 64
def Kj (i j:Int):Prop:=(-(2 ^ 64)<i/\i<2 ^ 64)\/(-(2 ^ 64)<j/\j<2 ^ 64)
theorem Kj.ok (h:Kj i j):IntMulOk i j:=by
 rcases h with ⟨h1,h2⟩ | ⟨h1,h2⟩
 . exact .of_left (intBits_le_64 h1 h2)
 . exact .of_right (intBits_le_64 h1 h2)
theorem Ci:A2 X (binaryOp .Add) (Gn fun i j=>.int (i+j)):=HM fun _ _ _ _ _ _ _ q=>add_int q
theorem Jq:A2 X (binaryOp .Sub) (Gn fun i j=>.int (i-j)):=HM fun _ _ _ _ _ _ _ q=>sub_int q
theorem Mg:A2 X (binaryOp .Mult) (rI Kj fun i j=>.int (i*j)):=Pw fun _ _ _ _ _ _ _ hc q=>mul_int q hc.ok
theorem N9:A2 X (binaryOp .FloorDiv) (rI Pm fun i j=>.int (i/j)):=Pw fun i j _ _ _ _ _ hc q=>by have h1:(0:Int)<j:=hc.1;have h2:j<1073741824:=hc.2;exact floordiv_int (by lia) (by rw[Int.fdiv_eq_ediv_of_nonneg i (by lia)];exact q) (.inl (PyProof.noPylong_small (by lia)))
theorem Ji:A2 X (binaryOp .Mod) (rI (fun _ j=>0<j) fun i j=>.int (i%j)):=Pw fun i j _ _ _ _ _ hc q=>by have h1:(0:Int)<j:=hc;exact mod_int' (by lia) (by rw[Int.fmod_eq_emod_of_nonneg i (by lia)];exact q)
theorem Kd:A2 X (binaryOp .Pow) (rI Po fun i j=>.int (i ^ j.toNat)):=Pw fun _ _ _ _ _ _ _ hc q=>pow_int_small hc.1 hc.2.1 hc.2.2 q
theorem Jh:A2 X (binaryOp .LShift) (rI Po fun i j=>.int (i*2 ^ j.toNat)):=Pw fun _ _ _ _ _ _ _ hc q=>lshift_int_small hc.1 hc.2.1 hc.2.2 q
theorem V0:A2 X (binaryOp .BitAnd) (Gn fun i j=>.int (Builtin.bitAnd i j)):=HM fun _ _ _ _ _ _ _ q=>and_int q
theorem JH:A2 X (binaryOp .BitOr) (Gn fun i j=>.int (Builtin.bitOr i j)):=HM fun _ _ _ _ _ _ _ q=>or_int q
theorem fg {g:Int->Int}
 (rule:∀i t s Q E,Q (.int (g i) s.toks) { s with toks:=s.toks+1 }->wpAny (model X.prog X.w) X.A (f (.int i t)) Q E s):
 Uk X f (rU fun i=>.int (g i)):=by
 intro pins s σ H x v Q I rx h;obtain⟨i,rfl,q⟩:=h;obtain⟨t,rfl⟩:=rx;exact rule i t s _ _ ⟨.int (g i),H,I.tok _,⟨_,rfl⟩,q⟩
theorem Tw:Uk X (unaryOp .USub) (rU fun i=>.int (-i)):=fg fun _ _ _ _ _ q=>neg_int q
noncomputable def Pb:V->V->Bool
 | .non,.non=>true | .non,.int _=>true | .int _,.non=>true | .non,.bl _=>true | .bl _,.non=>true | .non,.str _=>true | .str _,.non=>true
 | .int _,.int _=>true | .bl _,.bl _=>true | .str _,.str _=>true | .byt _,.byt _=>true
 | .int _,.str _=>true | .str _,.int _=>true | .bl _,.str _=>true | .str _,.bl _=>true
 | _,_=>false
inductive IP (x:V)(y:V)(H:Hp)(Q:VK):Prop
 | mk:(Pb x y=true)->(Q (.bl (decide (x=y))) H)->IP x y H Q
def fj:R2:=fun x y H Q=>IP x y H Q
inductive JJ (x:V)(y:V)(H:Hp)(Q:VK):Prop
 | mk:(Pb x y=true)->(Q (.bl (!decide (x=y))) H)->JJ x y H Q
def fZ:R2:=fun x y H Q=>JJ x y H Q
theorem X4 :decide (V.int i=V.int j)=(i==j):=by rw[Bool.eq_iff_iff];simp
theorem X5 :decide (V.bl i=V.bl j)=(i==j):=by rw[Bool.eq_iff_iff];simp
theorem Xp :decide (V.str i=V.str j)=(i==j):=by rw[Bool.eq_iff_iff];simp
theorem Vw :decide (V.byt i=V.byt j)=(i.toList==j.toList):=by rw[Bool.eq_iff_iff];cases i;cases j;simp
theorem A3 (I:AA X pins σ H s)(q:Q (.bl k) H)(e:k=k'):EP X pins σ Q (.bool k') s:=by subst e;exact⟨.bl k,H,I,rfl,q⟩
theorem CN:A2 X (compareOp .Eq) fj:=by
 intro pins s σ H x y v u Q I rx ry h;obtain⟨hs,q⟩:=h;cases x with
 | non=>
  cases rx;cases y with
  | non=>cases ry;exact PySem.EqNone.eq_none_none (A3 I q (by simp))
  | bl j=>cases ry;exact PySem.EqNone.eq_none_bool (A3 I q (by simp))
  | int j=>obtain⟨t',rfl⟩:=ry;exact PySem.EqNone.eq_none_int (A3 I q (by simp))
  | str j=>obtain⟨t',rfl⟩:=ry;exact PySem.EqNone.eq_none_str (A3 I q (by simp))
  | _=>exact absurd (show false=true from hs) zo
 | bl i=>
  cases rx;cases y with
  | non=>cases ry;exact PySem.EqNone.eq_bool_none (A3 I q (by simp))
  | bl j=>cases ry;exact eq_bool (A3 I q X5)
  | str j=>obtain⟨t',rfl⟩:=ry;exact PySem.EqMixed.eq_bool_str (A3 I q (by simp))
  | _=>exact absurd (show false=true from hs) zo
 | int i=>
  obtain⟨t,rfl⟩:=rx;cases y with
  | non=>cases ry;exact PySem.EqNone.eq_int_none (A3 I q (by simp))
  | int j=>obtain⟨t',rfl⟩:=ry;exact eq_int (A3 I q X4)
  | str j=>obtain⟨t',rfl⟩:=ry;exact PySem.EqMixed.eq_int_str (A3 I q (by simp))
  | _=>exact absurd (show false=true from hs) zo
 | str i=>
  obtain⟨t,rfl⟩:=rx;cases y with
  | non=>cases ry;exact PySem.EqNone.eq_str_none (A3 I q (by simp))
  | bl j=>cases ry;exact PySem.EqMixed.eq_str_bool (A3 I q (by simp))
  | int j=>obtain⟨t',rfl⟩:=ry;exact PySem.EqMixed.eq_str_int (A3 I q (by simp))
  | str j=>obtain⟨t',rfl⟩:=ry;exact eq_str (A3 I q Xp)
  | _=>exact absurd (show false=true from hs) zo
 | byt i=>
  obtain⟨t,rfl⟩:=rx;cases y with
  | byt j=>obtain⟨t',rfl⟩:=ry;exact PySem.W.eq_bytes (A3 I q Vw)
  | _=>exact absurd (show false=true from hs) zo
 | _=>cases y <;> exact absurd (show false=true from hs) zo
theorem Me:A2 X (compareOp .NotEq) fZ:=by
 intro pins s σ H x y v u Q I rx ry h;obtain⟨hs,q⟩:=h;cases x with
 | non=>
  cases rx;cases y with
  | non=>cases ry;exact PySem.EqNone.ne_none_none (A3 I q (by simp))
  | bl j=>cases ry;exact PySem.EqNone.ne_none_bool (A3 I q (by simp))
  | int j=>obtain⟨t',rfl⟩:=ry;exact PySem.EqNone.ne_none_int (A3 I q (by simp))
  | str j=>obtain⟨t',rfl⟩:=ry;exact PySem.EqNone.ne_none_str (A3 I q (by simp))
  | _=>exact absurd (show false=true from hs) zo
 | bl i=>
  cases rx;cases y with
  | non=>cases ry;exact PySem.EqNone.ne_bool_none (A3 I q (by simp))
  | bl j=>cases ry;exact ne_bool (A3 I q (congrArg not X5))
  | str j=>obtain⟨t',rfl⟩:=ry;exact PySem.EqMixed.ne_bool_str (A3 I q (by simp))
  | _=>exact absurd (show false=true from hs) zo
 | int i=>
  obtain⟨t,rfl⟩:=rx;cases y with
  | non=>cases ry;exact PySem.EqNone.ne_int_none (A3 I q (by simp))
  | int j=>obtain⟨t',rfl⟩:=ry;exact ne_int (A3 I q (congrArg not X4))
  | str j=>obtain⟨t',rfl⟩:=ry;exact PySem.EqMixed.ne_int_str (A3 I q (by simp))
  | _=>exact absurd (show false=true from hs) zo
 | str i=>
  obtain⟨t,rfl⟩:=rx;cases y with
  | non=>cases ry;exact PySem.EqNone.ne_str_none (A3 I q (by simp))
  | bl j=>cases ry;exact PySem.EqMixed.ne_str_bool (A3 I q (by simp))
  | int j=>obtain⟨t',rfl⟩:=ry;exact PySem.EqMixed.ne_str_int (A3 I q (by simp))
  | str j=>obtain⟨t',rfl⟩:=ry;exact ne_str (A3 I q (congrArg not Xp))
  | _=>exact absurd (show false=true from hs) zo
 | byt i=>
  obtain⟨t,rfl⟩:=rx;cases y with
  | byt j=>obtain⟨t',rfl⟩:=ry;exact PySem.W.ne_bytes (A3 I q (congrArg not Vw))
  | _=>exact absurd (show false=true from hs) zo
 | _=>cases y <;> exact absurd (show false=true from hs) zo
theorem J6:A2 X (compareOp .Lt) (Gn fun i j=>.bl (decide (i<j))):=HI fun _ _ _ _ _ _ _ q=>lt_int q
theorem IF:A2 X (compareOp .LtE) (Gn fun i j=>.bl (decide (i<=j))):=HI fun _ _ _ _ _ _ _ q=>le_int q
theorem Hj:A2 X (compareOp .Gt) (Gn fun i j=>.bl (decide (j<i))):=HI fun _ _ _ _ _ _ _ q=>gt_int q
theorem IK:A2 X (compareOp .GtE) (Gn fun i j=>.bl (decide (j<=i))):=HI fun _ _ _ _ _ _ _ q=>ge_int q
theorem ID:A2 X (compareOp .Is) (fun x y H Q=>y=.non/\Q (.bl (decide (x=.non))) H):=by
 intro pins s σ H x y v u Q I rx ry h;obtain⟨rfl,q⟩:=h;cases ry;refine is_none_gen (A3 I q ?_);cases x <;> first
  | (cases rx;rfl)
  | (obtain⟨t,rfl⟩:=rx;rfl)
theorem JZ:A2 X (compareOp .IsNot) (fun x y H Q=>y=.non/\Q (.bl (!decide (x=.non))) H):=by
 intro pins s σ H x y v u Q I rx ry h;obtain⟨rfl,q⟩:=h;cases ry;refine isnot_none_gen (A3 I q ?_);cases x <;> first
  | (cases rx;rfl)
  | (obtain⟨t,rfl⟩:=rx;rfl)
theorem AZ (b)(h:op ≠ .In:=by decide)(h2:op ≠ .NotIn:=by decide):behindInMarks op b=false:=by
 have e1:(op==CmpOp.In)=false:=by cases op <;> first | rfl | exact absurd rfl h
 have e2:(op==CmpOp.NotIn)=false:=by cases op <;> first | rfl | exact absurd rfl h2
 cases b <;> simp[behindInMarks,e1,e2]
theorem Cy (ho:A2 X (compareOp op) r)(ha:PE X a ta)(hb:PE X b tb)(hm:behindInMarks op b=false):PE X (.Compare a [op] [b] pos) (QW r ta tb):=by intro pins s σ H Q I h;exact wpAny_Compare1 (Lj ha hb I h fun v u s2 x y H2 I2 rx ry q=>ho pins s2 σ H2 x y v u Q I2 rx ry q) hm
inductive Vl (Q:Bool->Hp->Prop)(x:V)(H':Hp):Prop
 | mk:∀k,(x=.bl k)->(Q k H')->Vl Q x H'
def JG (t:TE):TT:=fun σ H Q=>t σ H fun x H'=>Vl Q x H'
theorem Ad (ho:A2 X (compareOp op) r)(ha:PE X a ta)(hb:PE X b tb)(hm:behindInMarks op b=false):PT X (.Compare a [op] [b] pos) (JG (QW r ta tb)):=by
 intro pins s σ H Q I h;refine wpAny_isTrue_Compare1 (AM (ha pins s σ H _ I h) fun v s1 ⟨x,H1,I1,r1,q1⟩=>AM (hb pins s1 σ H1 _ I1 q1) fun u s2 ⟨y,H2,I2,r2,q2⟩=>
  AM (ho pins s2 σ H2 x y v u _ I2 r1 r2 q2) fun c s3 ⟨z,H3,I3,r3,k,e,q3⟩=>?_) hm
 subst e;cases r3;exact Dx ⟨H3,I3,q3⟩
inductive Y5 (r':R2)(tc:TE)(σ:St)(Q:VK)(y:V)(z:V)(H3:Hp):Prop
 | mk:∀k,(z=.bl k)->((if k=true then tc σ H3 fun w' H4=>r' y w' H4 Q else Q (.bl false) H3))->Y5 r' tc σ Q y z H3
def Kq (r r':R2)(ta tb tc:TE):TE:=fun σ H Q=>ta σ H fun x H1=>tb σ H1 fun y H2=>r x y H2 fun z H3=>Y5 r' tc σ Q y z H3
theorem cD (ho:A2 X (compareOp op) r)(ho':A2 X (compareOp op') r')(ha:PE X a ta)(hb:PE X b tb)(hc:PE X c tc)
 (hm:lastMarks [op,op'] [b,c]=false:=by with_unfolding_all rfl):PT X (.Compare a [op,op'] [b,c] pos) (JG (Kq r r' ta tb tc)):=by
 intro pins s σ H Q I h;refine isTrue_chain (AM (ha pins s σ H _ I h) fun v s1 ⟨x,H1,I1,r1,q1⟩=>test_link (AM (hb pins s1 σ H1 _ I1 q1) fun u s2 ⟨y,H2,I2,r2,q2⟩=>
  AM (ho pins s2 σ H2 x y v u _ I2 r1 r2 q2) fun d s3 ⟨z,H3,I3,r3,k,e,q3⟩=>?_)) hm
 subst e;cases r3;refine Dx ?_;cases k with
 | false=>obtain⟨k',e',q'⟩:=q3;cases e';exact ite_ff ⟨H3,I3,q'⟩
 | true=>refine ite_tt (test_last (AM (hc pins s3 σ H3 _ I3 q3) fun w' s4 ⟨z',H4,I4,r4,q4⟩=>AM (ho' pins s4 σ H4 y z' u w' _ I4 r2 r4 q4) fun d' s5 ⟨z2,H5,I5,r5,k2,e2,q5⟩=>?_));subst e2;cases r5;exact Dx ⟨H5,I5,q5⟩
def Qp (K:AO)(x:V)(H:Hp)(k:Bool):Prop:=
 match x with
 | .non=>k=false
 | .bl b=>k=b
 | .int i=>k=(i != 0)
 | .str y=>y.length<=sizeLine/\k=((y.length:Int) != 0)
 | .byt y=>y.size<=sizeLine/\k=((y.size:Int) != 0)
 | .ref p=>(∃xs,AE K H p xs/\k=!xs.isEmpty)\/(∃xs,AB K H p xs/\k=!xs.isEmpty)\/∃fu,H p=some (.dK fu)/\k=!fu.isEmpty
 | _=>False
theorem cY (r:KV fu vs):(!vs.isEmpty)=!fu.isEmpty:=by cases r <;> rfl
theorem WY (r:AR xs its):(!its.toArray.isEmpty)=!xs.isEmpty:=by cases r <;> simp
theorem Nc:(sizeLine:Nat)<2 ^ 63:=by rw[sizeLine_eq];decide
theorem MN:Uw X (fun x H Q=>∃k,Qp X.K x H k/\Q k H):=by
 intro pins s σ H x v Q I rx h;obtain⟨k,e,q⟩:=h;have hl:=Nc;have hs:sizeLine=16777216:=sizeLine_eq;cases x with
 | non=>cases rx;have e':k=false:=e;subst e';exact truthy_none ⟨H,I,q⟩
 | bl b=>cases rx;have e':k=b:=e;subst e';exact Dx ⟨H,I,q⟩
 | int i=>obtain⟨t,rfl⟩:=rx;have e':k=(i != 0):=e;subst e';exact PySem.P.truthy_int ⟨H,I,q⟩
 | str y=>obtain⟨t,rfl⟩:=rx;obtain⟨hy,e'⟩:y.length<=sizeLine/\k=((y.length:Int) != 0):=e;subst e';exact PySem.P.truthy_str (by lia) ⟨H,I.tok _,q⟩
 | byt y=>obtain⟨t,rfl⟩:=rx;obtain⟨hy,e'⟩:y.size<=sizeLine/\k=((y.size:Int) != 0):=e;subst e';exact PySem.W.truthy_bytes (by lia) ⟨H,I.tok _,q⟩
 | ref p=>
  cases rx;have e':(∃xs,AE X.K H p xs/\k=!xs.isEmpty)\/(∃xs,AB X.K H p xs/\k=!xs.isEmpty)\/∃fu,H p=some (.dK fu)/\k=!fu.isEmpty:=e;rcases e' with ⟨xs,hx,e'⟩ | ⟨xs,hx,e'⟩ | ⟨fu,hx,e'⟩
  . subst e';obtain⟨its,r,pl,hz⟩:=I.list hx;have hlen:=r.length;exact wpAny_truthy_list pl.isList (by simp only[ze];lia) ⟨H,I.tok _,by rw[WY r];exact q⟩
  . subst e';obtain⟨its,r,pl,hz⟩:=I.tuple hx;have hlen:=r.length;exact truthy_tuple pl (by simp only[ze];lia) ⟨H,I.tok _,by rw[WY r];exact q⟩
  . subst e';obtain⟨hz,hS,vs,r,m⟩:fu.length<=sizeLine/\(p==sysModules)=false/\∃vs,KV fu vs/\s.heap.DictOf (A5 X.prog X.w) p vs:=I.hok p _ hx;have hlen:fu.length=vs.length:=Paired.length r;exact wpAny_truthy_dict hS m (by lia) ⟨H,I.tok _,by rw[cY r];exact q⟩
 | _=>exact (show False from e).elim
theorem UB (ha:PE X a ta)(he:∀whole,isTrue a X.env whole=(do let v <-whole;standAt a.pos;holding [v] (truthy v))):
 PT X a (fun σ H Q=>ta σ H fun x H'=>∃k,Qp X.K x H' k/\Q k H'):=by
 intro pins s σ H Q I h;exact isTrue_plain (AM (ha pins s σ H _ I h) fun v s1 ⟨x,H1,I1,r1,q1⟩=>MN pins s1 σ H1 x v Q I1 r1 q1) (he _)
theorem B2 (r:AR [x] us):∃u,us=[u]/\AS x u:=by
 cases r with
 | cons r1 r2=>cases r2;exact⟨_,rfl,r1⟩
theorem Tt (r:AR [x,y] us):∃u w',us=[u,w']/\AS x u/\AS y w':=by
 cases r with
 | cons r1 r2=>
  cases r2 with
  | cons r3 r4=>cases r4;exact⟨_,_,rfl,r1,r3⟩
inductive Pc (xs:List V)(H:Hp)(Q:VK):Prop
 | mk:∀i j,(xs=[.int i,.int j])->(Q (.int (if j<i then j else i)) H)->Pc xs H Q
theorem eB (hc:X.calm=true):CO X (.builtin "min") Pc:=by
 intro pins s σ H xs us Q I r h;obtain⟨i,j,rfl,q⟩:=h;obtain⟨u,w',rfl,⟨t,rfl⟩,⟨t',rfl⟩⟩:=Tt r;refine min_two_ints (I.ok.hd hc) fun h' tk k=>⟨_,H,I.kept k,?_,q⟩;by_cases hj:j<i
 . rw[if_pos hj,if_pos hj];exact⟨_,rfl⟩
 . rw[if_neg hj,if_neg hj];exact⟨_,rfl⟩
structure Li (h:Heap)(x dx C:Addr)(mA:Be):Prop where
 obj:h.get? x=some (PySem.W.instObj C dx)
 ns:h.Ns1 dx mA
 ne:dx≠x
theorem Zo {h:Heap}(n:h.Ns1 dx mA):∃od,h.get? dx=some od/\∀name,PySem.W.lookIn name od=some (mA name):=by
 obtain⟨o,es,ep,ho,hd,hk,_,hm⟩:=n;refine⟨o,ho,fun name=>?_⟩;have e:=hm name;unfold nsFind findBy at e;rw[<-Array.find?_toList] at e;unfold PySem.W.lookIn;rw[hd];dsimp only;split
 . rename_i y q
   rw[q] at e;exact congrArg some e
 . rename_i q
   rw[q] at e;have a:es.toList.any (·.refKey)=false:=by rw[List.any_eq_false];intro y hy;obtain⟨z,t,hkey⟩:=hk y (Array.mem_toList_iff.mp hy);simp[DictEntry.refKey,hkey]
   have a':¬ es.toList.any (·.refKey)=true:=by rw[a];exact zo
   rw[if_neg a'];exact congrArg some e
theorem Li.look (I:Li h x dx C mA):∃od,PySem.W.InstAt h x (PySem.W.instObj C dx) C (some od)/\∀name,PySem.W.lookIn name od=some (mA name):=
 let ⟨od,ho,hl⟩:=Zo I.ns
 ⟨od,⟨I.obj,rfl,rfl,ho⟩,hl⟩
theorem DX.some_of (r:DX (some v) o):∃u,o=some u/\AS v u:=by
 cases o with
 | none=>exact (show False from r).elim
 | some u=>exact⟨u,rfl,r⟩
theorem bU (hok:A7 P w H h)(e:H a=some (.ins C dx fs)):∃mA,Li h a dx C mA/\(∀f,DX (fs.lookup f) (mA f))/\PySem.Within mA (fs.map (·.1))/\fs.length<=1000/\H dx=some (.own a):=by obtain⟨d,z,ne,ob,mA,n,r,q⟩:=(show A1 P w H h a (.ins C dx fs) from hok a _ e);exact⟨mA,⟨ob,n,ne⟩,r,q,z,d⟩
structure Ue (K:AO)(C:Addr):Prop where
 pg:PySem.W.plainGet K C Str.empty=true
 hd:PySem.W.hasDictIn K C=true
 po:PySem.W.plainOver K C=true
 sa:PySem.W.findIn K (.ref C) "__setattr__"=some (some (.builtin "object.__setattr__"))
theorem Ue.get {K:AO}(c:Ue K C)(f):PySem.W.plainGet K C f=true:=c.pg
inductive Dq (K:AO)(H:Hp):V->Value->Prop where
 | non:Dq K H .non (.type "NoneType")
 | bl (x:Bool):Dq K H (.bl x) (.type "bool")
 | int (i:Int):Dq K H (.int i) (.type "int")
 | str (x:Str):Dq K H (.str x) (.type "str")
 | flt (x:UInt64):Dq K H (.flt x) (.type "float")
 | lst {a:Addr}{xs:List V}(e:H a=some (.lst xs)):Dq K H (.ref a) (.type "list")
 | frz {a:Addr}{o:Obj}{xs:List V}(e:H a=some (.frz o (.lst xs))):Dq K H (.ref a) (.type "list")
 | tup {a:Addr}{xs:List V}(e:H a=some (.tup xs)):Dq K H (.ref a) (.type "tuple")
 | dK {a:Addr}{fu:List (AU×V)}(e:H a=some (.dK fu)):Dq K H (.ref a) (.type "dict")
 | dT {a:Addr}{fu:List (List AU×V)}(e:H a=some (.dT fu)):Dq K H (.ref a) (.type "dict")
 | ins {a C dx:Addr}{fs:List (Str×V)}(e:H a=some (.ins C dx fs))(cl:Ue K C)(ha:PySem.W.findIn K (.ref C) "__class__"=some (some (.builtin "object.__class__")))
  (hn:PySem.W.specialIn K (.builtin "object.__class__") "__get__"=some (some (.builtin "getset_descriptor.__get__"))) (htk:PySem.W.takesIn K (.builtin "object.__class__")=some true)
  (hm:PySem.W.mroIn K C (.type "object")=some true):Dq K H (.ref a) (.ref C)
theorem bx (I:AA X pins σ H s)(rx:AS x u)(ty:Dq X.K H x t)(e:PySem.W.kitOne X.K t c=some b)(h:∀tk,Q (.bool b) { s with toks:=tk }):
 wpAny (model X.prog X.w) A (call (.builtin "isinstance") [u,c]) Q E s:=by
 cases ty with
 | non=>cases (show u=Value.none from rx);exact PySem.W.kia_one PySem.W.kitx_none I.kIn True.intro e (fun z=>nomatch z) h
 | bl y=>cases (show u=Value.bool y from rx);exact PySem.W.kia_one PySem.W.kitx_bool I.kIn True.intro e (fun z=>nomatch z) h
 | int i=>obtain⟨t,q⟩:=(show ∃t,u=Value.int i t from rx);cases q;exact PySem.W.kia_one PySem.W.kitx_int I.kIn True.intro e (fun z=>nomatch z) h
 | str y=>obtain⟨t,q⟩:=(show ∃t,u=Value.str y t from rx);cases q;exact PySem.W.kia_one PySem.W.kitx_str I.kIn True.intro e (fun z=>nomatch z) h
 | flt y=>obtain⟨t,q⟩:=(show ∃t,u=Value.float y t from rx);cases q;exact PySem.W.kia_one PySem.W.kitx_float I.kIn True.intro e (fun z=>nomatch z) h
 | @lst a xs ea=>cases (show u=Value.ref a from rx);obtain⟨_,_,n,_,h1⟩:=(show A1 X.prog X.w H s.heap a (.lst xs) from I.hok a _ ea);exact PySem.W.kia_one PySem.W.kitx_list I.kIn ⟨_,h1,rfl⟩ e (fun z=>nomatch z) h
 | @frz a ob xs ea=>cases (show u=Value.ref a from rx);obtain⟨_,_,_,n,_,h1⟩:=(show A1 X.prog X.w H s.heap a (.frz ob (.lst xs)) from I.hok a _ ea);exact PySem.W.kia_one PySem.W.kitx_list I.kIn ⟨_,h1,rfl⟩ e (fun z=>nomatch z) h
 | @tup a xs ea=>cases (show u=Value.ref a from rx);obtain⟨_,_,_,p⟩:=(show A1 X.prog X.w H s.heap a (.tup xs) from I.hok a _ ea);obtain⟨o,h1,h2,_⟩:=p;exact PySem.W.kia_one PySem.W.kitx_tuple I.kIn ⟨o,h1,h2⟩ e (fun z=>nomatch z) h
 | @dK a fu ea=>cases (show u=Value.ref a from rx);obtain⟨_,_,vs,_,p⟩:=(show A1 X.prog X.w H s.heap a (.dK fu) from I.hok a _ ea);obtain⟨o,es,ep,h1,h2,_⟩:=p;exact PySem.W.kia_one PySem.W.kitx_dict I.kIn ⟨o,h1,h2.1⟩ e (fun z=>nomatch z) h
 | @dT a fu ea=>cases (show u=Value.ref a from rx);obtain⟨_,_,xs,_,o,es,ep,h1,h2,_⟩:=(show A1 X.prog X.w H s.heap a (.dT fu) from I.hok a _ ea);exact PySem.W.kia_one PySem.W.kitx_dict I.kIn ⟨o,h1,h2.1⟩ e (fun z=>nomatch z) h
 | @ins a C dx fs ea cl ha hn htk hm=>cases (show u=Value.ref a from rx);obtain⟨mA,O,_⟩:=bU I.hok ea;obtain⟨od,J,_⟩:=O.look;exact PySem.W.kia_one (PySem.W.kitx_own (cl.get _) cl.hd ha hn htk hm) I.kIn J e (fun z=>nomatch z) h
structure BD (k:Nat)(A:Around):Prop where
 hd:A.handled=none
 dp:A.depth+3*k+5<recursionLimit
 un:A.units+16*k+200<cLine
 gd:A.guards=some []
theorem BD.mono (r:BD k A)(h:j<=k):BD j A:=⟨r.hd,by have:=r.dp;lia,by have:=r.un;lia,r.gd⟩
theorem BD.deeper (r:BD (k+1) A)(env:Env):BD k (A.deeper env):=
 ⟨r.hd,by have:=r.dp;show A.depth+1+3*k+5<_;lia,by have:=r.un;show A.units+3+16*k+200<_;lia,r.gd⟩
theorem BD.in1 (r:BD (k+1) A):BD k A.in1:=
 ⟨r.hd,by have:=r.dp;show A.depth+3*k+5<_;lia,by have:=r.un;show A.units+1+16*k+200<_;lia,r.gd⟩
theorem BD.depth (r:BD k A):A.depth<recursionLimit:=by have:=r.dp;lia
theorem BD.units (r:BD k A):A.units+64<cLine:=by have:=r.un;lia
theorem BD.units0 (r:BD k A):A.units<cLine:=by have:=r.un;lia
def QA:TA:=fun _ H Q=>Q [] H
def Sb (ta:TE)(tr:TA):TA:=fun σ H Q=>ta σ H fun x H1=>tr σ H1 fun xs H2=>Q (x::xs) H2
theorem zO:PA X [] QA:=fun _ _ _ _ H Q I h=>Calls.spliced_nil ⟨[],H,I,.nil,h⟩
theorem zD (ha:PE X e te)(hr:PA X es t)(hs:starEach (e::es) X.env=(false,eval e X.env)::starEach es X.env:=by rfl):PA X (e::es) (Sb te t):=by intro pos pins s σ H Q I h;rw[hs];show wpAny _ _ (spliced ((false,eval e X.env)::backTo pos (starEach es X.env))) _ _ s;refine Calls.spliced_cons (AM (ha pins s σ H _ I h) fun u s1 ⟨x,H1,I1,r1,q1⟩=>?_);exact AM (hr pos pins s1 σ H1 _ I1 q1) fun us s2 ⟨xs,H2,I2,r2,q2⟩=>⟨x::xs,H2,I2,.cons r1 r2,q2⟩
inductive V2 (Q:VK)(xs:List V)(H1:Hp):Prop
 | mk:(xs.length<=sizeLine)->(∀p,H1 p=none->Q (.ref p) (upd H1 p (.tup xs)))->V2 Q xs H1
def Ul (t:TA):TE:=fun σ H Q=>t σ H fun xs H1=>V2 Q xs H1
inductive Xh (Q:VK)(xs:List V)(H1:Hp):Prop
 | mk:(xs.length<=sizeLine)->(∀p,H1 p=none->Q (.ref p) (upd H1 p (.lst xs)))->Xh Q xs H1
def QU (t:TA):TE:=fun σ H Q=>t σ H fun xs H1=>Xh Q xs H1
theorem Ba {x1} (h:PA X es t):PE X (.Tuple es x1 pos) (Ul t):=by intro pins s σ H Q I hq;refine wpAny_Tuple_spliced (AM (h pos pins s σ H _ I hq) fun us s1 ⟨xs,H1,I1,r,z,q⟩=>⟨by rw[<-r.length];exact z,?_⟩);have hf:H1 s1.heap.objs.size=none:=I1.hok.fresh (zI _);refine⟨.ref s1.heap.objs.size,upd H1 s1.heap.objs.size (.tup xs),I1.laid (t':=s1.toks) (fun b u e=>zG _ e) (zI _) ?_,rfl,q _ hf⟩;exact⟨⟨z,_,zN _ rfl,rfl⟩,us,r,⟨_,zN _ rfl,rfl,_,rfl⟩⟩
theorem DR (h:PA X es t):PE X (.List es pos) (QU t):=by intro pins s σ H Q I hq;refine wpAny_List_spliced (AM (h pos pins s σ H _ I hq) fun us s1 ⟨xs,H1,I1,r,z,q⟩=>⟨by rw[<-r.length];exact z,?_⟩);have hf:H1 s1.heap.objs.size=none:=I1.hok.fresh (zI _);refine⟨.ref s1.heap.objs.size,upd H1 s1.heap.objs.size (.lst xs),I1.laid (t':=s1.toks) (fun b u e=>zG _ e) (zI _) ?_,rfl,q _ hf⟩;exact⟨z,us,0,r,zN _ rfl⟩
abbrev Sp:=List V->Hp->VK->XK->Prop
abbrev M9:=List Env->Hp->Shared->XK->Value->Shared->Prop
structure HE (P:Program)(w:World)(K:AO)(mg:Be)(base:Heap)(A:Around)(outer:List Env)(s:Shared)(H:Hp):Prop where
 frames:A.frames=some outer
 mod:Mod K mg base
 bs:∀b o,base.get? b=some o->s.heap.get? b=some o/\H b=none
 bsz:base.objs.size<=s.heap.objs.size
 funs:s.heap.FunFrames base outer
 frf:∀b∈De outer,H b=none
 hok:A7 P w H s.heap
 bare:AllBare s.gens
def CE (outer:List Env)(P:Program)(w:World)(H:Hp)(s:Shared)(Q:VK)(u:Value)(s':Shared):Prop:=
 ∃v H',s'.os=s.os/\AllBare s'.gens/\Un (De outer) [] H H' s.heap s'.heap/\A7 P w H' s'.heap/\AS v u/\Q v H'
def CR (CX:M9)(outer:List Env)(P:Program)(w:World)(H:Hp)(s:Shared)(Q:VK)(E:XK)(r:Result)(s':Shared):Prop:=
 match r with
 | .ok (.ret u)=>CE outer P w H s Q u s'
 | .ok _=>False
 | .error e=>CX outer H s E e s'
structure AH (P:Program)(w:World)(K:AO)(mg:Be)(base:Heap)(CX:M9)(k:Nat)(f:Addr)(fd:FuncData)(ps:List Str)(sp:Sp):Prop where
 len:∀vs H Q E,sp vs H Q E->vs.length=ps.length
 run:∀(A:Around)(outer:List Env)(s:Shared)(H:Hp)(args:Args)(us:List Value)(vs:List V)(Q:VK)(E:XK),BD k A->HE P w K mg base A outer s H->BindsTo s fd args (ps.zip us)->AR vs us->sp vs H Q E ->
  codeAny (model P w) A (.call (.ref f) args) (CR CX outer P w H s Q E) s
theorem AH.mono {K:AO}(F:AH P w K mg base CX j f fd ps sp)(h:j<=k:=by decide):
 AH P w K mg base CX k f fd ps sp:=⟨F.len,fun A outer s H args us vs Q E hr=>F.run A outer s H args us vs Q E (hr.mono h)⟩
theorem AH.imp {K:AO}(F:AH P w K mg base CX k f fd ps sp)
 (h:∀vs H Q E,sp' vs H Q E->sp vs H Q E):AH P w K mg base CX k f fd ps sp':=
 ⟨fun vs H Q E q=>F.len vs H Q E (h _ _ _ _ q),fun A outer s H args us vs Q E hr he hb hv hs=>F.run A outer s H args us vs Q E hr he hb hv (h _ _ _ _ hs)⟩
theorem AA.env0 (I:AA X pins σ H s):HE X.prog X.w X.K X.mg X.base X.A X.stack s H:=
 ⟨I.ok.frames,I.ok.mod,I.bs,Cq I.ok.bsz I.sz,I.stack,I.stkFree,I.hok,I.bare⟩
theorem AA.after (I:AA X pins σ H s)(h:CE X.stack X.prog X.w H s Q u s'):EP X pins σ Q u s':=by obtain⟨v,H',os,bare,un,hok,r,q⟩:=h;obtain⟨hh,g,d,t,jM⟩:=s';obtain rfl:jM=s.os:=os;exact⟨v,H',I.call (h':=hh) (g':=g) (d':=d) (t':=t) (ch:=[]) un hok bare (fun b z=>absurd z (by simp)),r,q⟩
def JL (sp:Sp)(dvs:List V)(E:XK)(t:TA):TE:=fun σ H Q=>t σ H fun vs H1=>sp (vs++dvs) H1 Q E
def CU (K:AO)(fd:FuncData)(ps:List Str)(ds:List Value):Prop:=
 ∀s us,K.In s.heap->(us++ds).length=ps.length->BindsTo s fd ⟨us,[]⟩ (ps.zip (us++ds))
theorem CU.all {K:AO}(h:∀us:List Value,us.length=ps.length->bindArgs fd ⟨us,[]⟩=pure (ps.zip us)):CU K fd ps []:=fun s us _ hl=>by rw[BR] at hl ⊢;exact .of_eq (h us hl)
def Sj (CX:M9)(X:Cx)(E:XK):Prop:=∀pins σ H s e s',AA X pins σ H s->CX X.stack H s E e s'->X.xe e s'
theorem K8 (F:AH X.prog X.w X.K X.mg X.base CX k f fd ps sp)(hr:BD k X.A)(hb:CU X.K fd ps ds)(hd:AR dvs ds)(hx:Sj CX X E)
 (I:AA X pins σ H s)(r:AR vs us)(h:sp (vs++dvs) H Q E):wpAny (model X.prog X.w) X.A (call (.ref f) us) (EP X pins σ Q) X.xe s:=by
 have r2:AR (vs++dvs) (us++ds):=r.append hd;have hl:(us++ds).length=ps.length:=by rw[<-r2.length];exact F.len _ _ _ _ h
 refine Cu (codeAny_mono (F.run X.A X.stack s H ⟨us,[]⟩ (us++ds) (vs++dvs) Q E hr I.env0 (hb s us I.kIn hl) r2 h) fun r s' hq=>?_);cases r with
 | error e=>exact hx pins σ H s e s' I hq
 | ok fl=>
  cases fl with
  | ret u=>exact I.after hq
  | next=>exact False.elim hq
  | brk=>exact False.elim hq
  | cont=>exact False.elim hq
theorem Eg (F:AH X.prog X.w X.K X.mg X.base CX k f fd ps sp)(hr:BD k X.A)(hg:Gl X x)(hm:X.mg x=some (.ref f))(hk:PySem.W.keepIn X.K (.ref f)=true)(hb:CU X.K fd ps ds)(hd:AR dvs ds)(hx:Sj CX X E)
 (ha:PA X (e::es) t)(hdb:(x==("__debug__" : Str))=false:=by decide) (he:starEach (e::es) X.env=(false,eval e X.env)::starEach es X.env:=by rfl)(gZ:(backTo pos (starEach es X.env)).any (·.1)=false:=by rfl):
 PE X (.Call (.Name x p) (e::es) [] pos) (JL sp dvs E t):=by
 intro pins s σ H Q I h;refine Gx (Wb I hg hm ?_ hdb);refine PySem.W.callWith_K (h₀:=X.base) I.ok.mod.kin hk (AM (ha pos pins s σ H _ I h) fun us s1 ⟨vs,H1,I1,r,q⟩=>⟨I1.kIn,?_⟩) he gZ;exact K8 F hr hb hd hx I1 r q
structure AW (N P:List Str)(sc:Scope):Prop where
 kind:sc.kind=.function
 co:sc.isCoroutine=false
 gen:sc.isGenerator=false
 nd:N.Nodup
 pre:N.take P.length=P
 par:∀x∈P,sc.names.lookup x=some .local\/sc.names.lookup x=some .cell
 nofree:∀y∈sc.names,y.2 ≠ .free
theorem AY (a:sc.kind=.function:=by rfl)(b:sc.isCoroutine=false:=by rfl)(c:sc.isGenerator=false:=by rfl)(d:N.Nodup:=by decide +kernel)(e:N.take P.length=P:=by rfl)(f:∀x∈P,sc.names.lookup x=some .local\/sc.names.lookup x=some .cell:=by decide +kernel)(g:∀y∈sc.names,y.2 ≠ .free:=by decide +kernel):AW N P sc:=⟨a,b,c,d,e,f,g⟩
theorem X3 {kindOf:Str->Option NameKind}:∀{binds:List (Str×Value)}{m:Be},(∀v,(x,v)∉binds)->bindL kindOf binds m x=m x
 | [],_,_=>rfl
 | (n,v)::r,m,h=>by
  unfold bindL;rw[X3 fun w hw=>h w (zZ _ hw)];split
  . have:x≠n:=by rintro rfl;exact h v zS
    simp[this]
  . rfl
theorem YI {kindOf:Str->Option NameKind}:∀{binds:List (Str×Value)}{m:Be},(∀v,(x,v)∉binds)->bindC kindOf binds m x=m x
 | [],_,_=>rfl
 | (n,v)::r,m,h=>by
  unfold bindC;rw[YI fun w hw=>h w (zZ _ hw)];split
  . rfl
  . have:x≠n:=by rintro rfl;exact h v zS
    simp[this]
theorem XY {kindOf:Str->Option NameKind}:∀{P:List Str}{vs:List Value}{i:Nat}{m:Be},P.Nodup->P[i]?=some x->vs[i]?=some v->kindOf x=some .local ->
 bindL kindOf (P.zip vs) m x=some v
 | [],_,_,_,_,h,_,_=>by simp at h
 | _::_,[],_,_,_,_,h,_=>by simp at h
 | p::P,w::vs,0,m,nd,h1,h2,hk=>by simp at h1 h2;subst h1;subst h2;show bindL kindOf ((p,w)::P.zip vs) m p=_;unfold bindL;rw[X3 fun v hv=>(BZ.mp nd).1 (List.of_mem_zip hv).1,if_pos hk];simp
 | p::P,w::vs,i+1,m,nd,h1,h2,hk=>by show bindL kindOf ((p,w)::P.zip vs) m x=_;unfold bindL;exact XY (i:=i) (BZ.mp nd).2 (by simpa using h1) (by simpa using h2) hk
theorem WB {kindOf:Str->Option NameKind}:∀{P:List Str}{vs:List Value}{i:Nat}{m:Be},P.Nodup->P[i]?=some x->vs[i]?=some v->kindOf x≠some .local ->
 bindC kindOf (P.zip vs) m x=some v
 | [],_,_,_,_,h,_,_=>by simp at h
 | _::_,[],_,_,_,_,h,_=>by simp at h
 | p::P,w::vs,0,m,nd,h1,h2,hk=>by simp at h1 h2;subst h1;subst h2;show bindC kindOf ((p,w)::P.zip vs) m p=_;unfold bindC;rw[YI fun v hv=>(BZ.mp nd).1 (List.of_mem_zip hv).1,if_neg hk];simp
 | p::P,w::vs,i+1,m,nd,h1,h2,hk=>by show bindC kindOf ((p,w)::P.zip vs) m x=_;unfold bindC;exact WB (i:=i) (BZ.mp nd).2 (by simpa using h1) (by simpa using h2) hk
noncomputable def start (N:List Str)(vs:List V):St:=vs.map some++List.replicate (N.length-vs.length) none
noncomputable def Hb (CX:M9)(P:Program)(w:World)(K:AO)(mg:Be)(base:Heap)(N:List Str)(qual:Str)(scope:Scope)(f:Addr)(cd:Value)(A:Around)(outer:List Env)(s:Shared)(H:Hp)(E:XK):Cx where
 prog:=P
 w:=w
 K:=K
 mg:=mg
 base:=base
 A:=A.deeper (envOfC qual scope s.heap.objs.size f cd)
 N:=N
 s₀:=s
 H₀:=H
 env:=envOfC qual scope s.heap.objs.size f cd
 outer:=outer
 stack:=envOfC qual scope s.heap.objs.size f cd::outer
 ex:=[]
 calm:=true
 fn:=fun _=>true
 pn:=[]
 xe:=fun e s'=>wpAny (model P w) (A.deeper (envOfC qual scope s.heap.objs.size f cd)) (leaving (envOfC qual scope s.heap.objs.size f cd) e) (fun _ s''=>CX outer H s E e s'') (fun e' s''=>CX outer H s E e' s'') s'
theorem XQ {sc:Scope}(h:sc.names.lookup x=some .cell):∃c,(cellsFrom n sc.names []).lookup x=some c:=by have q:=PySem.W.cellsFrom_some sc.names n [] (.inl h);exact Ni.mp q
theorem av {K:AO}
 (S:AW N ps scope)(hd:A.handled=none)(e0:HE P w K mg base A outer s H)(hl:vs.length=ps.length)(r:AR vs us)
 (x:InCallC s s.heap.objs.size (bindL (envOfC qual scope s.heap.objs.size f cd).kindOf (ps.zip us) fun _=>none) (cellsFrom (s.heap.objs.size+1) scope.names []) (bindC (envOfC qual scope s.heap.objs.size f cd).kindOf (ps.zip us) fun _=>none) s1):
 AA (Hb CX P w K mg base N qual scope f cd A outer s H E) [] (start N vs) H s1:=by
 have gZ:ps.length<=N.length:=by have:=congrArg List.length S.pre;rw[zt] at this;lia
 obtain⟨h1,tk,rfl,hk⟩:=x.done;have noA:∀b:Addr,b∉(Hb CX P w K mg base N qual scope f cd A outer s H E).ex:=fun b z=>absurd (show b∈([]:List Addr) from z) (by simp);refine⟨⟨e0.mod,S.kind,rfl,rfl,zI _,fun y z c h1 h2=>?_,fun y hy=>?_,fun y c _ h=>?_,fun _=>hd,Around.frames_deeper e0.frames,.inr ⟨rfl,rfl⟩,fun b z=>absurd z (noA b),e0.bs,e0.bsz,fun b _ _=>noA b,fun b z=>absurd z (noA b),e0.funs,e0.frf⟩,
  rfl,e0.bare,Un.kept hk,⟨_,x.toInCall.ns,fun i y v h1 h2 h3=>?_⟩,fun y c h=>⟨_,x.cell y c h⟩,e0.hok.fresh (zI _),fun y c h=>?_,fun p hp=>absurd (show p∈([]:CI) from hp) (by simp),e0.hok.kept hk,?_⟩
 . exact name_of_addr x.apart (PySem.mem_of_lookup h1) (PySem.mem_of_lookup h2)
 . have hy:scope.names.lookup y=some .cell\/scope.names.lookup y=some .free:=hy;rcases hy with hy | hy
   . exact XQ hy
   . exact absurd rfl (S.nofree _ (PySem.mem_of_lookup hy))
 . exact Ea (x.above y c (PySem.mem_of_lookup h))
 . have hi:i<vs.length:=by
    unfold start at h2;by_cases hi:i<vs.length
    . exact hi
    . rw[za (by simpa using hi)] at h2;rw[NK] at h2;split at h2 <;> cases h2
   have ha:vs[i]?=some v:=by
    unfold start at h2;rw[zc (by simpa using hi),zM] at h2;cases e:vs[i]? with
    | none=>rw[e] at h2;cases h2
    | some a=>rw[e] at h2;cases h2;rfl
   obtain⟨u,hu,rv⟩:=r.get ha;have hp:ps[i]?=some y:=by rw[<-S.pre,List.getElem?_take_of_lt (by lia)];exact h1
   have ndP:ps.Nodup:=by rw[<-S.pre];exact S.nd.sublist (List.take_sublist _ _)
   refine⟨u,rv,?_⟩;rcases S.par y (zP hp) with k | k
   . exact .inl ⟨k,XY ndP hp hu k⟩
   . obtain⟨c,e⟩:=XQ (n:=s.heap.objs.size+1) k;refine .inr ⟨.inl k,c,e,?_⟩;have q:=x.cell y c e;rw[WB ndP hp hu (by show scope.names.lookup y≠_;rw[k];decide)] at q;exact q
 . exact e0.hok.fresh (Ea (x.above y c (PySem.mem_of_lookup h)))
 . unfold start;show _=N.length;rw[zJ,zB,Ey]
   lia
theorem JQ {CX:M9}{P:Program}{w:World}{K:AO}{mg:Be}{base:Heap}{k:Nat}{f:Addr}{name qual:Str}{params:Arguments}{body:List Stmt}{scope:Scope}{dV kV doc pm gP ct oc:Value}{an od:Option Addr}
 {jL:Array (Option Value)}{N ps:List Str}{sp:Sp}(lk:K.lookup f=some ⟨oc,od,.func (PySem.W.fnOf name qual params body scope dV kV doc pm an gP ct),jL⟩)(jG:PySem.W.codeIn K gP qual=true)(S:AW N ps scope)
 (len:∀vs H Q E,sp vs H Q E->vs.length=ps.length)
 (iB:∀A outer s H vs Q E,BD k (A.deeper (envOfC qual scope s.heap.objs.size f gP))->sp vs H Q E ->
  ∃t,Cj (Hb CX P w K mg base N qual scope f gP A outer s H E) body t/\t { nx:=fun _ H'=>Q .non H',rt:=Q } (start N vs) H):
 AH P w K mg base CX (k+1) f (PySem.W.fnOf name qual params body scope dV kV doc pm an gP ct) ps sp:=by
 refine⟨len,fun A outer s H args us vs Q E hr e0 hb r jO=>?_⟩;have hl:=len _ _ _ _ jO;have KX:K.In s.heap:=e0.mod.kin.keeps fun b o e=>(e0.bs b o e).1;have lim:s.heap.NoLimit:=e0.mod.nolimit.keeps fun b o e=>(e0.bs b o e).1;have hkind:∀y∈ps.zip us,scope.names.lookup y.1=some .local\/(scope.names.lookup y.1=some .cell/\((cellsFrom (s.heap.objs.size+1) scope.names []).lookup y.1).isSome=true):=fun ⟨n,v⟩ hy=>by
  rcases S.par n (List.of_mem_zip hy).1 with q | q
  . exact .inl q
  . exact .inr ⟨q,PySem.W.cellsFrom_some _ _ _ (.inl q)⟩
 refine codeAny_call_function hr.depth (KX _ _ lk) rfl S.co S.gen rfl (PySem.W.codeRec_of KX jG) (hb _ _ _ _ ?_);refine wpAny_newFunctionEnv_cells S.kind hkind fun env he s1 x=>?_;subst he;refine⟨lim.keeps x.toInCall.keep,codeAny_func ?_⟩;obtain⟨t,ht,hq⟩:=iB A outer s H vs Q E (hr.deeper _) jO;have I:AA (Hb CX P w K mg base N qual scope f gP A outer s H E) [] (start N vs) H s1:=av S hr.hd e0 hl r x;refine CM (ht [] s1 (start N vs) H _ I hq) (fun fl s' hs=>?_) fun e s' hs=>hs;have fin:∀{σ':St}{H':Hp}{v:V}{u:Value},AA (Hb CX P w K mg base N qual scope f gP A outer s H E) [] σ' H' s'->AS v u->Q v H'->CE outer P w H s Q u s':=
  fun {σ' H' v u} J rv q=>⟨v,H',J.os,J.bare,J.base,J.hok,rv,q⟩
 cases fl with
 | ret u=>obtain⟨v,σ',H',J,rv,q⟩:=hs;exact fin J rv q
 | next=>obtain⟨σ',H',J,q⟩:=hs;exact fin (v:=V.non) (u:=Value.none) J rfl q
 | brk=>obtain⟨_,_,_,q⟩:=hs;exact False.elim q
 | cont=>obtain⟨_,_,_,q⟩:=hs;exact False.elim q
section
variable {X:Cx}{x:Str}{p pos:Pos}{e:Expr}{es:List Expr}{t:TA}{id T:String}{r:List V->Hp->VK->Prop}
def ZC (r:List V->Hp->VK->Prop)(t:TA):TE:=fun σ H Q=>t σ H fun vs H1=>r vs H1 Q
theorem Aj (hc:CO X (.builtin id) r)(hm:X.mg x=none)(ha:PA X (e::es) t)(hg:Gl X x:=by rfl)(hv:bootBuiltins x=some (.builtin id):=by decide +kernel)(hn:x ≠ "__name__" := by decide) (hdb:(x==("__debug__" : Str))=false:=by decide)
 (he:starEach (e::es) X.env=(false,eval e X.env)::starEach es X.env:=by rfl)(gZ:(backTo pos (starEach es X.env)).any (·.1)=false:=by rfl):PE X (.Call (.Name x p) (e::es) [] pos) (ZC r t):=by
 intro pins s σ H Q I h;refine Gx (C9 I hg hm hv ?_ hn hdb);exact PyProof.Rows.callWith_builtin1 (AM (ha pos pins s σ H _ I h) fun us s1 ⟨vs,H1,I1,r1,q1⟩=>hc pins s1 σ H1 vs us Q I1 r1 q1) he gZ
theorem Bi (hc:CO X (.type T) r)(hm:X.mg x=none)(ha:PA X (e::es) t)(hg:Gl X x:=by rfl)(hv:bootBuiltins x=some (.type T):=by decide +kernel)(hn:x ≠ "__name__" := by decide) (hdb:(x==("__debug__" : Str))=false:=by decide)
 (he:starEach (e::es) X.env=(false,eval e X.env)::starEach es X.env:=by rfl)(gZ:(backTo pos (starEach es X.env)).any (·.1)=false:=by rfl):PE X (.Call (.Name x p) (e::es) [] pos) (ZC r t):=by
 intro pins s σ H Q I h;refine Gx (C9 I hg hm hv ?_ hn hdb);exact PyProof.Rows.callWith_type1 (AM (ha pos pins s σ H _ I h) fun us s1 ⟨vs,H1,I1,r1,q1⟩=>hc pins s1 σ H1 vs us Q I1 r1 q1) he gZ
end
section
variable {κ:Type} [DecidableEq κ]
noncomputable def Ao (fu:List (κ×V))(k:κ):Option V:=(fu.find? fun kv=>decide (kv.1=k)).map (·.2)
noncomputable def Ax (fu:List (κ×V))(k:κ)(v:V):List (κ×V):=
 if (fu.any fun kv=>decide (kv.1=k))=true then fu.map (fun kv=>if kv.1=k then (kv.1,v) else kv) else fu++[(k,v)]
noncomputable def BY (fu:List (κ×V))(k:κ):List (κ×V):=fu.filter fun kv=>decide (kv.1≠k)
theorem YE :Ao ([]:List (κ×V)) k=none:=rfl
theorem DH {k:κ}(e:p.1=k):Ao (p::r) k=some p.2:=by simp[Ao,List.find?_cons,e]
theorem C4 {k:κ}(e:¬ p.1=k):Ao (p::r) k=Ao r k:=by simp[Ao,List.find?_cons,e]
theorem GK (k:κ):∀fu:List (κ×V),(fu.any fun kv=>decide (kv.1=k))=(Ao fu k).isSome
 | []=>rfl
 | p::r=>by
  rw[List.any_cons];by_cases e:p.1=k
  . simp only[DH e,zR e,Bool.true_or,Option.isSome_some]
  . rw[C4 e,zT e,Bool.false_or];exact GK k r
theorem Vx (k j:κ)(y):∀fu:List (κ×V),Ao (fu.map fun kv=>if kv.1=k then (kv.1,y) else kv) j=(Ao fu j).map fun x=>if j=k then y else x
 | []=>rfl
 | p::r=>by
  have ih:=Vx k j y r;rw[BJ];by_cases h:p.1=k
  . rw[if_pos h];by_cases e:p.1=j
    . rw[DH (p:=(p.1,y)) e,DH e,Fx,if_pos (e.symm.trans h)]
    . rw[C4 (p:=(p.1,y)) e,C4 e,ih]
  . rw[if_neg h];by_cases e:p.1=j
    . rw[DH (p:=p) e,DH e,Fx,if_neg (fun z=>h (e.trans z))]
    . rw[C4 (p:=p) e,C4 e,ih]
theorem V5 (k j:κ)(y):∀fu:List (κ×V),Ao fu k=none->Ao (fu++[(k,y)]) j=if j=k then some y else Ao fu j
 | [],_=>by
  by_cases e:k=j
  . rw[if_pos e.symm];exact DH (p:=(k,y)) e
  . rw[if_neg (fun z=>e z.symm)];exact C4 (p:=(k,y)) e
 | p::r,hn=>by
  rw[List.cons_append];have hk:¬ p.1=k:=fun z=>by rw[DH z] at hn;cases hn
  rw[C4 hk] at hn;have ih:=V5 k j y r hn;by_cases e:p.1=j
  . rw[DH e,DH e,if_neg (fun z=>hk (e.trans z))]
  . rw[C4 e,C4 e,ih]
theorem YJ (fu)(k j:κ)(y):Ao (Ax fu k y) j=if j=k then some y else Ao fu j:=by
 unfold Ax;by_cases a:(fu.any fun kv=>decide (kv.1=k))=true
 . rw[if_pos a,Vx];rw[GK] at a;by_cases e:j=k
   . obtain⟨x,hx⟩:=Ni.mp a;rw[if_pos e,e,hx,Fx,if_pos rfl]
   . rw[if_neg e];cases Ao fu j with
     | none=>rfl
     | some x=>rw[Fx,if_neg e]
 . rw[if_neg a];refine V5 k j y fu ?_;rw[GK] at a;cases q:Ao fu k with
   | none=>rfl
   | some x=>rw[q] at a;exact (a rfl).elim
theorem N4 (fu)(k:κ)(v):(Ax fu k v).length<=fu.length+1:=by
 unfold Ax;split
 . rw[zB];lia
 . rw[zJ,zk,List.length_nil];lia
theorem Se {k:κ}(v)(h:Ao fu k=none):Ax fu k v=fu++[(k,v)]:=by unfold Ax;rw[GK,h];exact if_neg (by decide)
theorem DX.isSome_eq (r:DX o u):o.isSome=u.isSome:=by
 cases o with
 | none=>cases u with
  | none=>rfl
  | some _=>exact (show False from r).elim
 | some _=>cases u with
  | none=>exact (show False from r).elim
  | some _=>rfl
theorem DX.getD (r:DX o u)(rd:AS d d'):AS (o.getD d) (u.getD d'):=by
 cases o with
 | none=>cases u with
  | none=>exact rd
  | some _=>exact (show False from r).elim
 | some _=>cases u with
  | none=>exact (show False from r).elim
  | some _=>exact r
theorem KV.val (r:KV fu vs)(k:κ):DX (Ao fu k) (valueAt vs k):=by
 unfold KV at r
 induction r with
 | nil=>exact True.intro
 | @cons p q ps qs h t ih=>
  obtain⟨h1,h2⟩:=h;by_cases e:p.1=k
  . have e':q.1=k:=h1.symm.trans e;have b:valueAt (q::qs) k=some q.2:=by simp[valueAt,List.find?_cons,e']
    rw[DH e,b];exact h2
  . have e':¬ q.1=k:=fun z=>e (h1.trans z);have b:valueAt (q::qs) k=valueAt qs k:=by simp[valueAt,List.find?_cons,e']
    rw[C4 e,b];exact ih
theorem KV.any (r:KV fu vs)(k:κ):(fu.any fun kv=>decide (kv.1=k))=vs.any fun kv=>decide (kv.1=k):=by
 unfold KV at r
 induction r with
 | nil=>rfl
 | cons h t ih=>rw[List.any_cons,List.any_cons,ih,h.1]
theorem KV.repl (r:KV fu vs)(k:κ)(ry:AS y u):
 KV (fu.map fun kv=>if kv.1=k then (kv.1,y) else kv) (vs.map fun kv=>if kv.1=k then (kv.1,u) else kv):=by
 unfold KV at r ⊢
 induction r with
 | nil=>exact .nil
 | @cons p q ps qs h t ih=>
  rw[BJ,BJ];refine .cons ?_ ih;obtain⟨h1,h2⟩:=h;by_cases e:p.1=k
  . rw[if_pos e,if_pos (h1.symm.trans e)];exact⟨h1,ry⟩
  . rw[if_neg e,if_neg (fun z=>e (h1.trans z))];exact⟨h1,h2⟩
theorem KV.put (r:KV fu vs)(k:κ)(ry:AS y u):KV (Ax fu k y) (stored vs k u):=by
 unfold Ax stored;rw[r.any k];by_cases e:(vs.any fun kv=>decide (kv.1=k))=true
 . rw[if_pos e,if_pos e];exact r.repl k ry
 . rw[if_neg e,if_neg e];exact Paired.snoc r ⟨rfl,ry⟩
theorem KV.drop (r:KV fu vs)(k:κ):KV (BY fu k) (without vs k):=by
 unfold KV at r ⊢;unfold BY without
 induction r with
 | nil=>exact .nil
 | @cons p q ps qs h t ih=>
  obtain⟨h1,h2⟩:=h;rw[Et,Et];by_cases e:p.1=k
  . have a:¬ decide (p.1≠k)=true:=by simp[e]
    have b:¬ decide (q.1≠k)=true:=by simp[h1.symm.trans e]
    rw[if_neg a,if_neg b];exact ih
  . have e':¬ q.1=k:=fun z=>e (h1.trans z);have a:decide (p.1≠k)=true:=by simp[e]
    have b:decide (q.1≠k)=true:=by simp[e']
    rw[if_pos a,if_pos b];exact .cons ⟨h1,h2⟩ ih
theorem KV.length {vs:List (κ×Value)}(r:KV fu vs):fu.length=vs.length:=Paired.length r
theorem Zt (fu)(k:κ):(BY fu k).length<=fu.length:=CH _ _
end
theorem Hi (r:AS (kV k) u):(A5 P w).is k u=true:=by
 cases k with
 | inl i=>obtain⟨t,e⟩:=(show ∃t,u=Value.int i t from r);subst e;exact c9 P w i t
 | inr x=>obtain⟨t,e⟩:=(show ∃t,u=Value.str x t from r);subst e;exact fU P w x t
theorem X6 :∀{ks:List AU}{us:List Value},AR (ks.map kV) us->ItemsAre (A5 P w) ks us
 | [],_,r=>by rw[List.map_nil] at r;cases r;exact .nil
 | k::ks,_,r=>by
  rw[BJ] at r;cases r with
  | cons h t=>exact .cons (Hi h) (X6 t)
abbrev KT (H:Hp):List (List AU×V)->List (List AU×Addr×Value)->Prop:=Paired fun p q=>p.1=q.1/\H q.2.1=some (.tup (p.1.map kV))/\AS p.2 q.2.2
theorem KT.val (r:KT H fu xs)(k):DX (Ao fu k) ((atKey xs k).map (·.2)):=by
 induction r with
 | nil=>exact True.intro
 | @cons p q ps qs h t ih=>
  obtain⟨h1,_,h2⟩:=h;by_cases e:p.1=k
  . have e':q.1=k:=h1.symm.trans e;have b:atKey (q::qs) k=some q.2:=by simp[atKey,List.find?_cons,e']
    rw[DH e,b];exact h2
  . have e':¬ q.1=k:=fun z=>e (h1.trans z);have b:atKey (q::qs) k=atKey qs k:=by simp[atKey,List.find?_cons,e']
    rw[C4 e,b];exact ih
theorem KT.repl (r:KT H fu xs)(k)(ry:AS y u):
 KT H (fu.map fun kv=>if kv.1=k then (kv.1,y) else kv) (xs.map (putAt k u)):=by
 induction r with
 | nil=>exact .nil
 | @cons p q ps qs h t ih=>
  rw[BJ,BJ];refine .cons ?_ ih;obtain⟨h1,h2,h3⟩:=h;unfold putAt;by_cases e:p.1=k
  . rw[if_pos e,if_pos (h1.symm.trans e)];exact⟨h1,h2,ry⟩
  . rw[if_neg e,if_neg (fun z=>e (h1.trans z))];exact⟨h1,h2,h3⟩
theorem KT.put (r:KT H fu xs)(k)(hb:H b=some (.tup (k.map kV)))(ry:AS y u):
 KT H (Ax fu k y) (storedH xs k b u):=by
 have e:(fu.any fun kv=>decide (kv.1=k))=(atKey xs k).isSome:=by rw[GK,(r.val k).isSome_eq,Option.isSome_map]
 unfold Ax storedH;rw[e];by_cases q:(atKey xs k).isSome=true
 . rw[if_pos q,if_pos q];exact r.repl k ry
 . rw[if_neg q,if_neg q];exact Paired.snoc r ⟨rfl,hb,ry⟩
theorem KT.keeps (r:KT H fu xs)(ht:∀b ys,H b=some (.tup ys)->H' b=some (.tup ys)):KT H' fu xs:=
 Paired.mapP r fun _ _ z=>⟨z.1,ht _ _ z.2.1,z.2.2⟩
theorem IY (ok:A7 P w H h)(e:Rd H a u):A1 P w H h a u:=e.ok ok
theorem Ms (ok:A7 P w H h)(e:Rd H a (.dK fu)):fu.length<=sizeLine/\(a==sysModules)=false/\∃vs,KV fu vs/\h.DictOf (A5 P w) a vs:=
 show A1 P w H h a (.dK fu) from IY ok e
theorem R3 (ok:A7 P w H h)(e:H a=some (.dK fu)):fu.length<=sizeLine/\(a==sysModules)=false/\∃vs,KV fu vs/\h.DictOf (A5 P w) a vs:=Ms ok (.inl e)
theorem Nm (ok:A7 P w H h)(e:H a=some (.tup (ks.map kV))):(tupleKind (A5 P w)).is h ks a:=by obtain⟨_,its,r,o,h1,h2,n,h3⟩:=(show A1 P w H h a (.tup (ks.map kV)) from ok a _ e);exact⟨o,its.toArray,n,h1,h2,h3,by simpa using X6 r⟩
theorem Mj (ok:A7 P w H h)(e:Rd H a (.dT fu)):fu.length<=sizeLine/\(a==sysModules)=false /\
 ∃xs,KT H fu xs/\h.DictOfH (tupleKind (A5 P w)) a xs:=by
 obtain⟨z,y,xs,r,o,es,ep,h1,h2,h3,h4,h5⟩:=(show A1 P w H h a (.dT fu) from IY ok e);refine⟨z,y,xs,r,o,es,ep,h1,h2,h3,h4,fun x hx=>?_,h5⟩;have all:∀{l:List (List AU×V)}{m:List (List AU×Addr×Value)},KT H l m->∀x∈m,(tupleKind (A5 P w)).is h x.1 x.2.1:=by
  intro l m q
  induction q with
  | nil=>intro x hx;exact nomatch hx
  | @cons p q ps qs hq t ih=>
   intro x hx;rcases zX.mp hx with e | hx
   . subst e;exact Nm ok (by rw[<-hq.1];exact hq.2.1)
   . exact ih x hx
 exact all r x hx
theorem PL (ok:A7 P w H h)(e:H a=some (.dT fu)):fu.length<=sizeLine/\(a==sysModules)=false /\
 ∃xs,KT H fu xs/\h.DictOfH (tupleKind (A5 P w)) a xs:=Mj ok (.inl e)
def Cg (H:Hp)(a:Addr)(y:V)(r:Option V):Prop:=
 (∃fu k,Rd H a (.dK fu)/\y=kV k/\r=Ao fu k)\/∃fu k b,Rd H a (.dT fu)/\y=.ref b/\H b=some (.tup (k.map kV))/\r=Ao fu k
def HA (H:Hp)(a:Addr)(y v:V)(H':Hp):Prop:=
 (∃fu k,H a=some (.dK fu)/\y=kV k/\fu.length<sizeLine/\H'=upd H a (.dK (Ax fu k v))) \/
 ∃fu k b,H a=some (.dT fu)/\y=.ref b/\H b=some (.tup (k.map kV))/\fu.length<sizeLine/\H'=upd H a (.dT (Ax fu k v))
theorem Cg.k {k:AU}(e:H a=some (.dK fu)):Cg H a (kV k) (Ao fu k):=.inl ⟨fu,k,.inl e,rfl,rfl⟩
theorem Cg.t {k:List AU}(e:H a=some (.dT fu))(eb:H b=some (.tup (k.map kV))):Cg H a (.ref b) (Ao fu k):=.inr ⟨fu,k,b,.inl e,rfl,eb,rfl⟩
theorem HA.k {k:AU}(e:H a=some (.dK fu))(hl:fu.length<sizeLine):HA H a (kV k) v (upd H a (.dK (Ax fu k v))):=.inl ⟨fu,k,e,rfl,hl,rfl⟩
theorem HA.t {k:List AU}(e:H a=some (.dT fu))(eb:H b=some (.tup (k.map kV)))(hl:fu.length<sizeLine):
 HA H a (.ref b) v (upd H a (.dT (Ax fu k v))):=.inr ⟨fu,k,b,e,rfl,eb,hl,rfl⟩
theorem AA.big (I:AA X pins σ H s):sysModules<s.heap.objs.size:=by have h:mainGlobals<s.heap.objs.size:=(I.mod.glob.keeps I.bk).lt;exact Nat.lt_trans (by decide) h
theorem ai (hu:A.units+1<cLine)(I:AA X pins σ H s)(g:Cg H a y (some v))(ry:AS y u)(h:∀w' s',AA X pins σ H s'->AS v w'->Q w' s'):
 wpAny (model X.prog X.w) A (getItem (.ref a) u) Q E s:=by
 rcases g with ⟨fu,k,e,ey,l⟩ | ⟨fu,k,b,e,ey,eb,l⟩
 . subst ey;obtain⟨z,hd,vs,rel,dd⟩:=Ms I.hok e;obtain⟨w',hw,il⟩:=DX.some_of (v:=v) (o:=valueAt vs k) (by rw[l];exact rel.val k);exact wpAny_getItem_of (Hi ry) dd.mapOf hw (h w' _ (I.tok _) il)
 . subst ey;cases (show u=Value.ref b from ry);obtain⟨z,hd,xs,rel,dd⟩:=Mj I.hok e;obtain⟨w',hw,il⟩:=DX.some_of (v:=v) (o:=(atKey xs k).map (·.2)) (by rw[l];exact rel.val k);obtain⟨p,hp,hp2⟩:=Ht.mp hw;refine wpAny_getItem_heap (tupleKind_room_in1 hu) (Nm I.hok eb) dd hp ?_;rw[hp2];exact h w' _ (I.tok _) il
theorem Uy (hu:A.units+1<cLine)(I:AA X pins σ H s)(g:Cg H a y o)(ry:AS y u)(h:∀s',AA X pins σ H s'->Q (.bool o.isSome) s'):
 wpAny (model X.prog X.w) A (compareOp .In u (.ref a)) Q E s:=by
 rcases g with ⟨fu,k,e,ey,l⟩ | ⟨fu,k,b,e,ey,eb,l⟩
 . subst ey;obtain⟨z,hd,vs,rel,dd⟩:=Ms I.hok e;refine wpAny_in_of (Hi ry) hd dd.mapOf ?_;rw[<-(rel.val k).isSome_eq,<-l];exact h _ (I.tok _)
 . subst ey;cases (show u=Value.ref b from ry);obtain⟨z,hd,xs,rel,dd⟩:=Mj I.hok e;refine wpAny_in_heap (tupleKind_room_in1 hu) (Nm I.hok eb) hd dd ?_;have q:=(rel.val k).isSome_eq;rw[Option.isSome_map] at q;rw[<-q,<-l];exact h _ (I.tok _)
theorem Qy (I:AA X pins σ H s)(mu:Ou (H a))(hs:Heap.SameBut a s.heap h')(he:∃q,h'.get? a=some q)(new:A1 X.prog X.w (upd H a ob) h' a ob):
 AA X pins σ (upd H a ob) { s with heap:=h',toks:=t' }:=
 I.write (x:=a) (e:=a) mu (.inl rfl) (fun b q hb z=>(hs.2 b hb).trans z) he new
theorem Ru (z:fu.length<=sizeLine)(hd:(a==sysModules)=false)(rel:KV fu vs)(dd:h'.DictOf (A5 P w) a vs):
 A1 P w H' h' a (.dK fu):=⟨z,hd,vs,rel,dd⟩
theorem d9 (hu:A.units+1<cLine)(I:AA X pins σ H s)(g:HA H a y v H')(ry:AS y u)(rv:AS v r)(h:∀s',AA X pins σ H' s'->Q () s'):
 wpAny (model X.prog X.w) A (setItem (.ref a) u r) Q E s:=by
 rcases g with ⟨fu,k,e,ey,l,eH⟩ | ⟨fu,k,b,e,ey,eb,l,eH⟩
 . subst ey eH;obtain⟨z,hd,vs,rel,dd⟩:=R3 I.hok e;have hz:vs.length<=sizeLine:=by rw[<-rel.length];exact z
   have hl:(Ax fu k v).length<=sizeLine:=by have:=N4 fu k v;lia
   refine wpAny_setItem_pairs (hsz:=hz) (Hi ry) dd fun h' dd' hs=>h _ ?_;have he:∃q,h'.get? a=some q:=let ⟨q,_,_,hq,_⟩:=dd';⟨q,hq⟩;exact Qy I (by rw[e];exact True.intro) hs he (Ru hl hd (rel.put k rv) dd')
 . subst ey eH;cases (show u=Value.ref b from ry);obtain⟨z,hd,xs,rel,dd⟩:=PL I.hok e;have hz:xs.length<=sizeLine:=by rw[<-Paired.length rel];exact z
   have hl:(Ax fu k v).length<=sizeLine:=by have:=N4 fu k v;lia
   refine wpAny_setItem_heap (hsz:=hz) (tupleKind_room_in1 hu) (Nm I.hok eb) dd fun h' dd' hs=>h _ ?_;obtain⟨q,es,ep,hq,h2,h3,h4,_,h5⟩:=dd';refine Qy I (by rw[e];exact True.intro) hs ⟨q,hq⟩ ⟨hl,hd,_,(rel.put k eb rv).keeps fun c ys ec=>?_,q,es,ep,hq,h2,h3,h4,h5⟩;rw[zf (Ar ec e (fun z=>nomatch z))];exact ec
theorem OO (I:AA X pins σ H s)(e:H a=some (.dK fu))(ry:AS (kV k) u)(l:Ao fu k=some v)(hm:more=[]\/∃x,more=[x])
 (h:∀w' s',AA X pins σ (upd H a (.dK (BY fu k))) s'->AS v w'->Q w' s'):wpAny (model X.prog X.w) A (call (.builtin "dict.pop") (.ref a::u::more)) Q E s:=by
 obtain⟨z,hd,vs,rel,dd⟩:=R3 I.hok e;obtain⟨w',hw,il⟩:=DX.some_of (v:=v) (o:=valueAt vs k) (by rw[<-l];exact rel.val k);have hp:(keyPart u).isSome=true:=by
  cases k with
  | inl i=>obtain⟨t,q⟩:=(show ∃t,u=Value.int i t from ry);subst q;rfl
  | inr x=>obtain⟨t,q⟩:=(show ∃t,u=Value.str x t from ry);subst q;rfl
 have ha:argsOk "dict.pop" ⟨.ref a::u::more,[]⟩:=by
  rcases hm with q | ⟨x,q⟩
  . subst q;exact PySem.F.args_dict_pop_2 _ _
  . subst q;exact PySem.F.args_dict_pop_3 _ _ _
 refine call_meetsIn PySem.F.slot_dict_pop dd.typeIs PySem.F.entry_dict_pop ha (meets_dict_pop_there (A5 X.prog X.w) a (Hi ry) more hm hp)
  ⟨vs,w',dd,by rw[<-rel.length];exact z,hw,fun h' dd' hs=>h w' _ ?_ il⟩
 have he:∃q,h'.get? a=some q:=let ⟨q,_,_,hq,_⟩:=dd';⟨q,hq⟩;exact Qy I (by rw[e];exact True.intro) hs he (Ru (Cq (Zt fu k) z) hd (rel.drop k) dd')
def Qk (i:Expr):Prop:=∀ov iv,subscripted i false ov iv=operate [ov,iv] (getItem ov iv)
theorem XZ {id:String}
 (hl:typeLookup (.type T) "__getitem__"=pure (some (.builtin id))) (hs:Qk slice)
 (h:wpAny (model prog w) A (eval value env) (fun o s₁=>wpAny (model prog w) A (eval slice env) (fun i s₂=>s₂.TypeIs o T/\wpAny (model prog w) A (getItem o i) Q E s₂) E s₁) E s):
 wpAny (model prog w) A (eval (.Subscript value slice pos) env) Q E s:=by
 refine Subscript_ (CM h (fun o s₁ h₁=>CM h₁ (fun i s₂ h₂=>?_) fun _ _ x=>x) fun _ _ x=>x);obtain⟨hT,h₂⟩:=h₂;unfold subscriptTail;refine zA ?_;rw[getitemInPython_of_ne hT.not_modules];refine zA (wpAny_specialOf hT hl ?_);have fin:wpAny (model prog w) A (subscripted slice false o i) (fun r s₃=>wpAny (model prog w) A (letTemporaryGo value o r >>= fun _=>pure r) Q E s₃) E s₂:=by rw[hs o i];exact wpAny_operating (CM h₂ (fun r s₃ h₃=>zA (wpAny_letTemporaryGo (zE h₃))) fun _ _ x=>x)
 first
  | exact zE (zA fin)
  | exact zA (zE (zA fin))
  | exact zA fin
theorem aA (I:AA X pins σ H s)(g:Cg H a y o):s.TypeIs (.ref a) "dict" := by
 rcases g with ⟨fu,k,e,_,_⟩ | ⟨fu,k,b,e,_,_,_⟩
 . obtain⟨_,_,vs,_,dd⟩:=Ms I.hok e;exact dd.typeIs
 . obtain⟨_,_,xs,_,dd⟩:=Mj I.hok e;exact dd.typeIs
def OZ (td ty:TE):TE:=fun σ H Q=>td σ H fun x H1=>ty σ H1 fun y H2=>∃a v,x=.ref a/\Cg H2 a y (some v)/\Q v H2
def VE (ty td:TE):TE:=fun σ H Q=>ty σ H fun y H1=>td σ H1 fun x H2=>∃a o,x=.ref a/\Cg H2 a y o/\Q (.bl o.isSome) H2
def Oh (td ty tv:TE):TS:=fun D σ H=>tv σ H fun v H1=>td σ H1 fun x H2=>ty σ H2 fun y H3=>∃a H4,x=.ref a/\HA H3 a y v H4/\D.nx σ H4
theorem Tn (hu:X.A.units+1<cLine)(ho:PE X o td)(hi:PE X i ty)(hs:Qk i):PE X (.Subscript o i pos) (OZ td ty):=by intro pins s σ H Q I h;refine XZ PySem.F.slot_dict_getitem.lookup hs (AM (ho pins s σ H _ I h) fun u s1 ⟨x,H1,I1,rx,q1⟩=>AM (hi pins s1 σ H1 _ I1 q1) fun iv s2 ⟨y,H2,I2,ry,a,v,ex,g,q2⟩=>?_);subst ex;obtain rfl:u=Value.ref a:=rx;exact⟨aA I2 g,ai hu I2 g ry fun w' s3 I3 il=>⟨v,H2,I3,il,q2⟩⟩
theorem Ys (hu:X.A.units+1<cLine)(hi:PE X i ty)(ho:PE X o td):PC X .In i o (VE ty td):=by intro pins s σ H Q I h;refine AM (hi pins s σ H _ I h) fun iv s1 ⟨y,H1,I1,ry,q1⟩=>AM (ho pins s1 σ H1 _ I1 q1) fun u s2 ⟨x,H2,I2,rx,a,ov,ex,g,q2⟩=>?_;subst ex;obtain rfl:u=Value.ref a:=rx;exact Uy hu I2 g ry fun s3 I3=>⟨.bl ov.isSome,H2,I3,rfl,q2⟩
theorem Rm (hu:X.A.units+1<cLine)(ho:PE X o td)(hi:PE X i ty)(hv:PE X value tv)(hs:swapsWith value (some (.Subscript o i pos')) pos.line X.env=pure false):
 PS X (.Assign [.Subscript o i pos'] value pos) (Oh td ty tv):=by
 intro pins s σ H D I h;refine wpAny_Assign_Subscript (AM (hv pins s σ H _ I h) fun r s1 ⟨v,H1,I1,rv,q1⟩=>AM (ho pins s1 σ H1 _ I1 q1) fun u s2 ⟨x,H2,I2,rx,q2⟩=>AM (hi pins s2 σ H2 _ I2 q2) fun iv s3 ⟨y,H3,I3,ry,a,H4,ex,g,q3⟩=>?_) hs;subst ex;obtain rfl:u=Value.ref a:=rx;exact d9 hu I3 g ry rv fun s4 I4=>⟨σ,H4,I4,q3⟩
theorem WS (h:Heap)(hb:sysModules<h.objs.size):A1 P w H (h.push { cls:=.type "dict",data:=.dict #[] }) h.objs.size (.dK []):=
 ⟨zg _,beq_eq_false_iff_ne.mpr (Ne.symm (zj hb)),[],.nil,Heap.DictOf.new h⟩
theorem bC (h:Heap)(hb:sysModules<h.objs.size):A1 P w H (h.push { cls:=.type "dict",data:=.dict #[] }) h.objs.size (.dT []):=
 ⟨zg _,beq_eq_false_iff_ne.mpr (Ne.symm (zj hb)),[],.nil,_,#[],0,zN _ rfl,⟨rfl,rfl,rfl⟩,rfl,rfl,Hs⟩
def MJ:TE:=fun _ H Q=>∀p,H p=none->Q (.ref p) (upd H p (.dK []))
def L5:TE:=fun _ H Q=>∀p,H p=none->Q (.ref p) (upd H p (.dT []))
theorem az:PE X (.Dict [] [] pos) MJ:=fun pins s σ H Q I h=>
 wpAny_Dict_empty ⟨.ref s.heap.objs.size,_,I.laid (a:=s.heap.objs.size) (o:=.dK []) (t':=s.toks) (fun _ _ q=>zG _ q) (zI _) (WS s.heap I.big),rfl,h _ (I.hok.fresh (zI _))⟩
theorem df:PE X (.Dict [] [] pos) L5:=fun pins s σ H Q I h=>
 wpAny_Dict_empty ⟨.ref s.heap.objs.size,_,I.laid (a:=s.heap.objs.size) (o:=.dT []) (t':=s.toks) (fun _ _ q=>zG _ q) (zI _) (bC s.heap I.big),rfl,h _ (I.hok.fresh (zI _))⟩
def Tz:List (TE×TE)->St->Hp->(List (V×V)->Hp->Prop)->Prop
 | [],_,H,Q=>Q [] H
 | (tk,tv)::r,σ,H,Q=>tk σ H fun x H1=>tv σ H1 fun y H2=>Tz r σ H2 fun ps H3=>Q ((x,y)::ps) H3
abbrev VV:List (V×V)->List (Value×Value)->Prop:=Paired fun p q=>AS p.1 q.1/\AS p.2 q.2
def SJ (X:Cx)(pos:Pos)(keys:List (Option Expr))(values:List Expr)(trs:List (TE×TE)):Prop:=
 ∀pins s σ H Q,AA X pins σ H s->Tz trs σ H Q ->
  wpAny (model X.prog X.w) X.A (evalPairs (pairTrees keys values X.env pos)) (fun vs s'=>∃ps H',AA X pins σ H' s'/\VV ps vs/\Q ps H') X.xe s
theorem aw :SJ X pos [] [] []:=fun pins s σ H Q I h=>pairTrees_nil_walk ⟨[],H,I,.nil,h⟩
theorem aE (hk:PE X k tk)(hv:PE X v tv)(hr:SJ X pos ks vs trs):
 SJ X pos (some k::ks) (v::vs) ((tk,tv)::trs):=fun pins s σ H Q I h=>
 pairTrees_cons_walk (AM (hk pins s σ H _ I h) fun u s1 ⟨x,H1,I1,rx,q1⟩=>AM (hv pins s1 σ H1 _ I1 q1) fun w2 s2 ⟨y,H2,I2,ry,q2⟩=>
  AM (hr pins s2 σ H2 _ I2 q2) fun ws s3 ⟨ps,H3,I3,rel,q3⟩=>⟨(x,y)::ps,H3,I3,.cons ⟨rx,ry⟩ rel,q3⟩)
noncomputable def MX (fu more:List (AU×V)):List (AU×V):=more.foldl (fun acc kv=>Ax acc kv.1 kv.2) fu
theorem KV.merge:∀{more:List (AU×V)}{rs:List (AU×Value)}{fu:List (AU×V)}{vs:List (AU×Value)},KV more rs->KV fu vs->KV (MX fu more) (merged vs rs):=by
 intro more rs fu vs r;unfold KV at r
 induction r generalizing fu vs with
 | nil=>intro q;exact q
 | @cons p q ps qs h t ih=>
  intro r0;have e:KV (Ax fu p.1 p.2) (stored vs q.1 q.2):=by have:=r0.put p.1 h.2;rw[<-h.1];exact this
  exact ih e
theorem XJ:∀more fu,(MX fu more).length<=fu.length+more.length
 | [],fu=>by show fu.length<=fu.length+0;lia
 | p::r,fu=>by have h1:=XJ r (Ax fu p.1 p.2);have h2:=N4 fu p.1 p.2;show (MX (Ax fu p.1 p.2) r).length<=_;rw[zk];lia
theorem Vy :∀{fu:List (AU×V)}{ws:List (Value×Value)},VV (fu.map fun kv=>(kV kv.1,kv.2)) ws->∃rs,Carries (A5 P w) ws rs/\KV fu rs
 | [],_,r=>by rw[List.map_nil] at r;cases r;exact⟨[],True.intro,.nil⟩
 | p::fu,_,r=>by
  rw[BJ] at r;cases r with
  | @cons a b as bs h t=>obtain⟨rs,c,q⟩:=Vy (P:=P) (w:=w) t;obtain⟨b1,b2⟩:=b;exact⟨(p.1,b2)::rs,⟨Hi h.1,rfl,c⟩,.cons ⟨rfl,h.2⟩ q⟩
def Oa (trs:List (TE×TE)):TE:=fun σ H Q=>∀p,H p=none->Tz trs σ (upd H p (.dK [])) fun ps H2=>H2 p=some (.dK [])/\∃fu:List (AU×V),ps=fu.map (fun kv=>(kV kv.1,kv.2))/\fu.length<=15/\Q (.ref p) (upd H2 p (.dK (MX [] fu)))
theorem Zn (h:SJ X pos keys values trs)(gn:keys.all (·.isSome)=true)(hl:keys.length=values.length)(h0:keys≠[])
 (h15:keys.length<=15):PE X (.Dict keys values pos) (Oa trs):=by
 intro pins s σ H Q I q;have hn:=I.hok.fresh (zI s.heap.objs.size);have I1:=I.laid (a:=s.heap.objs.size) (o:=.dK []) (h':=s.heap.push { cls:=.type "dict",data:=.dict #[] }) (t':=s.toks) (fun _ _ q=>zG _ q) (zI _) (WS s.heap I.big);refine wpAny_Dict_walk (knd:=A5 X.prog X.w) gn hl h0 h15 (AM (h pins _ σ _ _ I1 (q _ hn)) fun ws s2 ⟨ps,H2,I2,rel,e,fu,ep,lk,q2⟩=>?_);subst ep;obtain⟨rs,c,rk⟩:=Vy (P:=X.prog) (w:=X.w) rel;obtain⟨z,hd,vs0,r0,dd⟩:=R3 I2.hok e;cases r0;refine⟨rs,c,dd,fun h' dd' hs=>⟨.ref s.heap.objs.size,_,?_,rfl,q2⟩⟩;have hz:(MX [] fu).length<=sizeLine:=by have h1:=XJ fu [];rw[List.length_nil] at h1;rw[sizeLine_eq];lia
 have he:∃q,h'.get? s.heap.objs.size=some q:=let ⟨q,_,_,hq,_⟩:=dd';⟨q,hq⟩;exact Qy I2 (by rw[e];exact True.intro) hs he (Ru hz hd (rk.merge .nil) dd')
structure M1 (X:Cx)(o:Expr)(m:Str)(apos:Pos)(e:Expr)(gG:Pos):Prop where
 base:attributeBase o m X.env (eval o X.env)=eval o X.env
 few:((backTo gG (starEach [e] X.env)).all (fun x=>!x.1) && (backToKw gG (keywordEach [] X.env)).all (fun x=>x.1.isSome)
  && decide (([e]:List Expr).length+([]:List Keyword).length+(if ([]:List Keyword).isEmpty then 0 else 1)<30))=true
 line:(apos.endLine==gG.line)=true
 trees:backTo gG (starEach [e] X.env)=[(false,eval e X.env)]
structure M2 (X:Cx)(o:Expr)(m:Str)(apos:Pos)(e f:Expr)(gG:Pos):Prop where
 base:attributeBase o m X.env (eval o X.env)=eval o X.env
 few:((backTo gG (starEach [e,f] X.env)).all (fun x=>!x.1) && (backToKw gG (keywordEach [] X.env)).all (fun x=>x.1.isSome)
  && decide (([e,f]:List Expr).length+([]:List Keyword).length+(if ([]:List Keyword).isEmpty then 0 else 1)<30))=true
 line:(apos.endLine==gG.line)=true
 trees:backTo gG (starEach [e,f] X.env)=[(false,eval e X.env),(false,eval f X.env)]
def IsD (H:Hp)(a:Addr):Prop:=(∃fu,Rd H a (.dK fu))\/∃fu,Rd H a (.dT fu)
theorem Xc (I:AA X pins σ H s)(d:IsD H a):
 s.TypeIs (.ref a) "dict"/\(∀b,Value.ref a=.ref b->∃ob,s.heap.get? b=some ob/\ob.dict=none)/\(a==sysModules)=false:=by
 rcases d with ⟨fu,e⟩ | ⟨fu,e⟩
 . obtain⟨_,hd,vs,_,dd⟩:=Ms I.hok e;refine⟨dd.typeIs,fun b q=>?_,hd⟩;cases q;obtain⟨ob,_,_,h1,h2,_⟩:=dd;exact⟨ob,h1,h2.2.1⟩
 . obtain⟨_,hd,xs,_,dd⟩:=Mj I.hok e;refine⟨dd.typeIs,fun b q=>?_,hd⟩;cases q;obtain⟨ob,_,_,h1,h2,_⟩:=dd;exact⟨ob,h1,h2.2.1⟩
theorem Kk (hu:A.units+1<cLine)(I:AA X pins σ H s)(g:Cg H a y o)(ry:AS y u)(rd:AS d r)(h:∀w' s',AA X pins σ H s'->AS (o.getD d) w'->Q w' s'):
 wpAny (model X.prog X.w) A (call (.builtin "dict.get") [.ref a,u,r]) Q E s:=by
 rcases g with ⟨fu,k,e,ey,l⟩ | ⟨fu,k,b,e,ey,eb,l⟩
 . subst ey;obtain⟨z,hd,vs,rel,dd⟩:=Ms I.hok e;refine call_meetsIn PySem.F.slot_dict_get dd.typeIs PySem.F.entry_dict_get (PySem.F.args_dict_get_3 _ _ _) (meets_dict_get_default (A5 X.prog X.w) a (Hi ry) hd r) ⟨_,dd.mapOf,h _ _ (I.tok _) ?_⟩;rw[l];exact (rel.val k).getD rd
 . subst ey;cases (show u=Value.ref b from ry);obtain⟨z,hd,xs,rel,dd⟩:=Mj I.hok e;refine call_meetsIn PySem.F.slot_dict_get dd.typeIs PySem.F.entry_dict_get (PySem.F.args_dict_get_3 _ _ _) (meetsH_dict_get_default (tupleKind (A5 X.prog X.w)) a b hd r) ⟨tupleKind_room_in1 hu,k,xs,Nm I.hok eb,dd,h _ _ (I.tok _) ?_⟩;rw[l];exact (rel.val k).getD rd
def LU (td ty tx:TE):TE:=fun σ H Q=>td σ H fun x H1=>∃a,x=.ref a/\IsD H1 a/\ty σ H1 fun y H2=>tx σ H2 fun z H3=>∃o,Cg H3 a y o/\Q (o.getD z) H3
def KC (td ty:TE):TE:=fun σ H Q=>td σ H fun x H1=>∃a,x=.ref a/\IsD H1 a/\ty σ H1 fun y H2=>∃fu k v,H2 a=some (.dK fu)/\y=kV k/\Ao fu k=some v/\Q v (upd H2 a (.dK (BY fu k)))
theorem ZZ (hu:X.A.units+1<cLine)(ho:PE X o td)(he:PE X e ty)(hf:PE X f tx)(m:M2 X o "get" apos e f gG):PE X (.Call (.Attribute o "get" apos) [e,f] [] gG) (LU td ty tx):=by
 intro pins s σ H Q I h;refine wpAny_Call_method m.base m.few m.line PySem.F.plainAttrs_dict PySem.F.slot_dict_get PySem.F.type_dict_get (AM (ho pins s σ H _ I h) fun u s1 ⟨x,H1,I1,rx,a,ex,d,q1⟩=>?_);subst ex;obtain rfl:u=Value.ref a:=rx;obtain⟨t1,t2,_⟩:=Xc I1 d;refine⟨t1,t2,?_⟩;rw[m.trees];refine Calls.callWith_builtin rfl (Calls.evalArgs_plain (Calls.spliced_cons (AM (he pins s1 σ H1 _ I1 q1) fun iv s2 ⟨y,H2,I2,ry,q2⟩=>
  Calls.spliced_cons (AM (hf pins s2 σ H2 _ I2 q2) fun fv s3 ⟨z,H3,I3,rz,ov,g,q3⟩=>Calls.spliced_nil ?_))))
 exact Kk hu I3 g ry rz fun w' s4 I4 il=>⟨_,H3,I4,il,q3⟩
theorem ZX (ho:PE X o td)(he:PE X e ty)(m:M1 X o "pop" apos e gG):PE X (.Call (.Attribute o "pop" apos) [e] [] gG) (KC td ty):=by intro pins s σ H Q I h;refine wpAny_Call_method m.base m.few m.line PySem.F.plainAttrs_dict PySem.F.slot_dict_pop PySem.F.type_dict_pop (AM (ho pins s σ H _ I h) fun u s1 ⟨x,H1,I1,rx,a,ex,d,q1⟩=>?_);subst ex;obtain rfl:u=Value.ref a:=rx;obtain⟨t1,t2,_⟩:=Xc I1 d;refine⟨t1,t2,?_⟩;rw[m.trees];refine Calls.callWith_builtin rfl (Calls.evalArgs_plain (Calls.spliced_cons (AM (he pins s1 σ H1 _ I1 q1) fun iv s2 ⟨y,H2,I2,ry,fu,k,v,ea,ey,l,q2⟩=>Calls.spliced_nil ?_)));subst ey;exact OO I2 ea ry l (.inl rfl) fun w' s3 I3 il=>⟨v,_,I3,il,q2⟩
end L2
namespace HT
open PySem PyProof.Rows
noncomputable def lexLt:List Int->List Int->Bool
 | [],[]=>false
 | [],_::_=>true
 | _::_,[]=>false
 | x::xs,y::ys=>if x=y then lexLt xs ys else decide (x<y)
theorem lexLt_cons (x y)(xs ys):lexLt (x::xs) (y::ys)=if x=y then lexLt xs ys else decide (x<y):=rfl
theorem dZ:lexLt [] []=false:=rfl
theorem cq (y)(ys):lexLt [] (y::ys)=true:=rfl
theorem ao (x)(xs):lexLt (x::xs) []=false:=rfl
theorem bz (A)(s)(a)(t:Tok)(c)(u:Tok):∃e,SeqAt.EqAt A s (.int a t) (.int c u) e/\(e=true↔a=c):=
 ⟨(a==c),SeqAt.EqAt.int_int a t c u,by simp⟩
theorem bI (A)(s)(a)(t:Tok)(c)(u:Tok)(prog)(w)(E)(Q)(h:Q (.bool (decide (a<c))) s):
 wpAny (model prog w) A (richCompare .Lt (.int a t) (.int c u)) Q E s:=
 (PyProof.Rows.lt_int h:wpAny (model prog w) A (compareOp .Lt (.int a t) (.int c u)) Q E s)
section
open PySem.SeqAt
open PySem.AutoSeq1 (wpAny_loadPart')
open PySem.MeetsSeq PySem.MeetsSeq2 PySem.MeetsSeq3
theorem dH (l b)(items items2)(n n2)(dd dd2)(sl sl2)(ns ms)(hi:IntsAre items.toList ns)(hj:IntsAre items2.toList ms):
 Meets (Builtin.«tuple.__lt__» ⟨[.ref l,.ref b],[]⟩)
  (fun _ R s=>s.heap.get? l=some { cls:=.type "tuple",dict:=dd,data:=.seq items n,slots:=sl }/\s.heap.get? b=some { cls:=.type "tuple",dict:=dd2,data:=.seq items2 n2,slots:=sl2 } /\
   R (.ok (.ret (.bool (lexLt ns ms)))) s):=
 .of_wp fun prog w A R s h=>by
  obtain⟨hp,g,d,tk,os⟩:=s;obtain⟨hl,hb,h⟩:=h;have f2:=AutoSeq1.sub_tuple_tuple;have z1:items.size=ns.length:=by rw[<-hi.length];simp
  have z2:items2.size=ms.length:=by rw[<-hj.length];simp
  wp_walk using wpAny_loadPart' hl,wpAny_loadPart' hb,wpAny_forIn_list _ (fun rest b s'=>b.1=none/\s'=⟨hp,g,d,tk,os⟩/\∃(vs ws:List Value)(ns' ms':List Int),rest=vs.zip ws /\
   IntsAre vs ns'/\IntsAre ws ms'/\ns'.length+items2.size=ms'.length+items.size/\R (.ok (.ret (.bool (lexLt ns' ms')))) ⟨hp,g,d,tk,os⟩) _
  case turn=>
   rintro ⟨y,x⟩ rest b s' ⟨iU,rfl,vs,ws,ns',ms',hz,hvi,hwi,hlen,hR⟩;cases hvi with
   | nil=>rw[List.zip_nil_left] at hz;cases hz
   | cons a t hvi'=>
    cases hwi with
    | nil=>rw[List.zip_nil_right] at hz;cases hz
    | cons c u hwi'=>
     rw[List.zip_cons_cons] at hz;injection hz with hyx iR;injection hyx with hy hx;subst hy hx;rw[lexLt_cons] at hR;simp only[zk] at hlen;obtain⟨e,he,hiff⟩:=bz A.in1 ⟨hp,g,d,tk,os⟩ a t c u;refine zA (he prog w _ _ ?_);cases e with
     | true=>
      rw[if_pos (hiff.mp rfl)] at hR
      wp_walk
      exact⟨rfl,rfl,_,_,_,_,iR,hvi',hwi',by lia,hR⟩
     | false=>
      rw[if_neg (fun q=>absurd (hiff.mpr q) zo)] at hR;have hri:=bI A.in1 ⟨hp,g,d,tk,os⟩ a t c u prog w
      wp_walk using hri
      exact⟨_,rfl,by simpa using hR⟩
  case fin=>
   rintro ⟨b1,b2⟩ s' ⟨iU,rfl,vs,ws,ns',ms',hz,hvi,hwi,hlen,hR⟩;simp only at iU;subst iU;have hv:lexLt ns' ms'=decide (items.size<items2.size):=by
    cases hvi with
    | nil=>
     cases hwi with
     | nil=>simp only[List.length_nil] at hlen;rw[dZ];exact (zT (by lia)).symm
     | cons c u hw=>simp only[List.length_nil,zk] at hlen;rw[cq];exact (zR (by lia)).symm
    | cons a t hv=>
     cases hwi with
     | nil=>simp only[List.length_nil,zk] at hlen;rw[ao];exact (zT (by lia)).symm
     | cons c u hw=>rw[List.zip_cons_cons] at hz;cases hz
   rw[hv] at hR
   wp_walk
   exact⟨_,rfl,by simpa [Builtin.Tuple.tupleCompareSizes] using hR⟩
  case h=>
   exact⟨rfl,rfl,items.toList,items2.toList,ns,ms,rfl,hi,hj,by lia,h⟩
end
theorem lt_tupInts (hl:IsTup s.heap l items)(hb:IsTup s.heap b items2)(hi:IntsAre items.toList ns)(hj:IntsAre items2.toList ms)
 (hu:A.units<cLine)(h:Q (.bool (lexLt ns ms)) s):wpAny (model prog w) A (compareOp .Lt (.ref l) (.ref b)) Q E s:=by
 obtain⟨⟨cls,dd,data,sl⟩,ho,hc,n,hd⟩:=id hl;obtain⟨⟨cls2,dd2,data2,sl2⟩,ic,i0,n2,hd2⟩:=id hb;simp only at hc hd i0 hd2;subst hc hd i0 hd2;exact richCompare_meets_room (op:=.Lt) ⟨_,ho,rfl⟩ ⟨_,ic,rfl⟩ PySem.F.slot_tuple_lt PySem.F.entry_tuple_lt (PySem.F.args_tuple_lt_2 _ _) (dH l b items items2 n n2 dd dd2 sl sl2 ns ms hi hj)
  ⟨ho,ic,show Value.bool (lexLt ns ms)≠Value.notImplemented/\Q (.bool (lexLt ns ms)) s from ⟨(fun x=>nomatch x),h⟩⟩ hu
theorem cat_tup (ht:IsTup s.heap t vs.toArray)(hb:IsTup s.heap b ws.toArray)(hv:vs≠[])
 (h1:ws=[]->Q (.ref t) s)(h2:ws≠[]->Q (.ref s.heap.objs.size) { s with heap:=s.heap.push { cls:=.type "tuple",data:=.seq (vs++ws).toArray } })
 (hsz:vs.length+ws.length<=sizeLine):wpAny (model prog w) A (binaryOp .Add (.ref t) (.ref b)) Q E s:=by
 obtain⟨⟨cls,dd,data,sl⟩,ho,hc,n,hd⟩:=id ht;obtain⟨⟨cls2,dd2,data2,sl2⟩,ic,i0,n2,hd2⟩:=id hb;simp only at hc hd i0 hd2;subst hc hd i0 hd2;have e:vs.toArray++ws.toArray=(vs++ws).toArray:=by simp
 by_cases hw:ws=[]
 . exact concat_meets ⟨_,ho,rfl⟩ ⟨_,ic,rfl⟩ noFill_tuple_add seq_tuple_add PySem.F.slot_tuple_add PySem.F.entry_tuple_add (PySem.F.args_tuple_add_2 _ _)
    (tuple_addW1 t b vs.toArray ws.toArray n n2 dd dd2 sl sl2 (by simpa using hv) (by simp[hw])) ⟨ho,ic,h1 hw⟩
 . refine concat_meets ⟨_,ho,rfl⟩ ⟨_,ic,rfl⟩ noFill_tuple_add seq_tuple_add PySem.F.slot_tuple_add PySem.F.entry_tuple_add (PySem.F.args_tuple_add_2 _ _)
    (tuple_addW2 t b vs.toArray ws.toArray n n2 dd dd2 sl sl2 (by simpa using hv) (by simpa using hw) (by rw[ze,ze];exact hsz)) ⟨ho,ic,?_⟩
   rw[e];exact h2 hw
noncomputable def sIx (n d:Nat):Option Int->Nat
 | none=>d
 | some v=>if v<0 then (v+(n:Int)).toNat else min v.toNat n
theorem sIx_none (n d):sIx n d none=d:=rfl
theorem sIx_nat (n d k:Nat):sIx n d (some (k:Int))=min k n:=by
 show (if (k:Int)<0 then ((k:Int)+(n:Int)).toNat else min (k:Int).toNat n)=min k n
 rw[if_neg (by lia),B0]
end HT
namespace L2
open PySem PySem.Spec PyProof.Rows
abbrev TO:=St->Hp->(Option Int->Hp->Prop)->Prop
def PO (X:Cx)(e:Option Expr)(t:TO):Prop:=
 ∀pins s σ H Q,AA X pins σ H s->t σ H Q ->
  wpAny (model X.prog X.w) X.A (evalPart e X.env) (fun u s'=>∃o H',AA X pins σ H' s'/\IsPart u o/\Q o H') X.xe s
def dB:TO:=fun _ H Q=>Q none H
def PB (t:TE):TO:=fun σ H Q=>t σ H fun x H1=>∃i,x=.int i/\Q (some i) H1
theorem ET :∀{us:List Value},AR (ns.map V.int) us->IntsAre us ns:=by
 induction ns with
 | nil=>intro us r;rw[List.map_nil] at r;cases r;exact .nil
 | cons n ns ih=>
  intro us r;rw[BJ] at r;cases r with
  | cons r1 r2=>obtain⟨t,e⟩:=r1;subst e;exact .cons n t (ih r2)
section
variable {X:Cx}{e:Expr}{te:TE}{lo hi:Option Expr}{tl th:TO}{pos p2:Pos}
theorem Wq:PO X none dB:=by intro pins s σ H Q I h;rw[evalPart_none];exact zE ⟨none,H,I,.none,h⟩
theorem Yp (h:PE X e te):PO X (some e) (PB te):=by intro pins s σ H Q I hw;rw[evalPart_some];refine AM (h pins s σ H _ I hw) fun u s1 ⟨x,H1,I1,r1,q1⟩=>?_;obtain⟨i,rfl,q⟩:=q1;obtain⟨t,rfl⟩:=r1;exact⟨some i,H1,I1,.int i t,q⟩
def ZE (X:Cx)(r:V->Option Int->Option Int->Hp->VK->Prop):Prop:=
 ∀pins s σ H x v vl vu lo hi sl Q,AA X pins σ H s->AS x v->s.heap.IsSliceOf sl vl vu .none->IsPart vl lo->IsPart vu hi->r x lo hi H Q ->
  ∃T id,typeLookup (.type T) "__getitem__"=pure (some (.builtin id))/\s.TypeIs v T/\wpAny (model X.prog X.w) X.A (getItem v (.ref sl)) (EP X pins σ Q) X.xe s
def fX (r:V->Option Int->Option Int->Hp->VK->Prop)(te:TE)(tl th:TO):TE:=fun σ H Q=>te σ H fun x H1=>tl σ H1 fun l H2=>th σ H2 fun u H3=>r x l u H3 Q
theorem YR (hr:ZE X r)(he:PE X e te)(hl:PO X lo tl)(hu:PO X hi th):PE X (.Subscript e (.Slice lo hi none p2) pos) (fX r te tl th):=by intro pins s σ H Q I h;refine Subscript_ (AM (he pins s σ H _ I h) fun v s1 ⟨x,H1,I1,r1,q1⟩=>?_);refine wpAny_Slice (AM (hl pins s1 σ H1 _ I1 q1) fun vl s2 ⟨l,H2,I2,pl,q2⟩=>AM (hu pins s2 σ H2 _ I2 q2) fun vu s3 ⟨u,H3,I3,pu,q3⟩=>?_);rw[evalPart_none];refine zE ?_;have I4:AA X pins σ H3 { s3 with heap:=s3.heap.push { cls:=.type "slice",data:=.fields #[vl,vu,.none] } }:=I3.kept (t':=s3.toks) fun b ob q=>zG _ q;obtain⟨T,id,hT,ht,hg⟩:=hr pins { s3 with heap:=s3.heap.push { cls:=.type "slice",data:=.fields #[vl,vu,.none] } } σ H3 x v vl vu l u s3.heap.objs.size Q I4 r1 (Heap.IsSliceOf.new ..) pl pu q3;show wpAny (model X.prog X.w) X.A (subscriptTail e (.Slice lo hi none p2) v (.ref s3.heap.objs.size)) (EP X pins σ Q) X.xe { s3 with heap:=s3.heap.push { cls:=.type "slice",data:=.fields #[vl,vu,.none] } };exact tail_any (ops:=[.ref s3.heap.objs.size,v]) ht hT hg (by with_unfolding_all rfl)
noncomputable def Jx (xs:List V)(lo hi:Option Int):List V:=(xs.drop (HT.sIx xs.length 0 lo)).take (HT.sIx xs.length xs.length hi-HT.sIx xs.length 0 lo)
theorem cU (xs)(lo hi):(Jx xs lo hi).length<=xs.length:=by
 unfold Jx;rw[zt,List.length_drop]
 lia
def QV (K:AO):R2:=fun x y H Q=>∃a b xs ys,x=.ref a/\y=.ref b/\AB K H a xs/\AB K H b ys/\xs≠[]/\xs.length+ys.length<=sizeLine /\
 (ys=[]->Q (.ref a) H)/\(ys≠[]->∀p,H p=none->Q (.ref p) (upd H p (.tup (xs++ys))))
theorem AR.nil_iff (r:AR xs us):us=[]↔xs=[]:=by
 cases r with
 | nil=>simp
 | cons _ _=>simp
theorem d6:A2 X (binaryOp .Add) (QV X.K):=by intro pins s σ H x y v u Q I rx ry h;obtain⟨a,b,xs,ys,rfl,rfl,ha,hb,hx,hz,q1,q2⟩:=h;cases rx;cases ry;obtain⟨its,r1,p1,_⟩:=I.tuple ha;obtain⟨iL,r2,p2,_⟩:=I.tuple hb;refine HT.cat_tup p1 p2 (fun z=>hx (r1.nil_iff.mp z)) (fun z=>⟨.ref a,H,I,rfl,q1 (r2.nil_iff.mp z)⟩) (fun z=>?_) (by rw[<-r1.length,<-r2.length];exact hz);refine⟨.ref s.heap.objs.size,_,I.laid (t':=s.toks) (o:=.tup (xs++ys)) (fun b ob q=>zG _ q) (zI _) ?_,rfl,q2 (fun w=>z (r2.nil_iff.mpr w)) _ (I.hok.fresh (zI _))⟩;exact⟨⟨by rw[zJ];exact hz,_,zN _ rfl,rfl⟩,_,r1.append r2,IsTup.new _ _⟩
end
noncomputable def Fg (n:Nat)(i:Int):Option Nat:=if 0<=i then (if i<n then some i.toNat else none) else if -(n:Int)<=i then some (i+n).toNat else none
noncomputable def Cm {α:Type}(xs:List α)(i:Int):Option α:=(Fg xs.length i).bind fun j=>xs[j]?
theorem Ws (h:Fg n i=some j):seqIndex? i n=some j/\j<n/\-(n:Int)<=i/\i<n:=by
 unfold Fg at h;by_cases h0:0<=i
 . rw[if_pos h0] at h;by_cases h1:i<n
   . rw[if_pos h1] at h;have e:i.toNat=j:=zV h;exact⟨by rw[seqIndex_of h0 h1,e],by lia,by lia,h1⟩
   . rw[if_neg h1] at h;cases h
 . rw[if_neg h0] at h;by_cases h1 : -(n:Int)<=i
   . rw[if_pos h1] at h;have e:(i+n).toNat=j:=zV h;exact⟨by rw[seqIndex_neg (by lia) h1,e],by lia,h1,by lia⟩
   . rw[if_neg h1] at h;cases h
theorem Yo (h:Cm xs i=some v):∃j,seqIndex? i xs.length=some j/\xs[j]?=some v/\j<xs.length/\-(xs.length:Int)<=i/\i<xs.length:=by
 unfold Cm at h;cases e:Fg xs.length i with
 | none=>rw[e] at h;cases h
 | some j=>rw[e] at h;obtain⟨h1,h2,h3,h4⟩:=Ws e;exact⟨j,h1,h,h2,h3,h4⟩
theorem C5 {j:Nat}(h:xs[j]?=some v):Cm xs (j:Int)=some v:=by
 have hj:j<xs.length:=(zH.mp h).1;have e:Fg xs.length (j:Int)=some j:=by unfold Fg;rw[if_pos (by lia),if_pos (by lia)];simp
 unfold Cm;rw[e];exact h
theorem ZQ (xs)(v:α):Cm (xs++[v]) (-1)=some v:=by
 have hl:(xs++[v]).length=xs.length+1:=by simp
 have e:Fg (xs++[v]).length (-1)=some xs.length:=by
  unfold Fg;rw[hl,if_neg (by decide),if_pos (by lia)];congr 1
  lia
 unfold Cm;rw[e];show (xs++[v])[xs.length]?=some v;simp
def XW (b:Expr):Prop:=∀o i,subscripted b false o i=operate [o,i] (getItem o i)
def My (X:Cx)(r:R2):Prop:=
 ∀value slice pins s σ H x y v u Q,AA X pins σ H s->AS x v->AS y u->r x y H Q ->
  subscripted slice false v u=operate [v,u] (getItem v u)->wpAny (model X.prog X.w) X.A (subscriptTail value slice v u) (EP X pins σ Q) X.xe s
def R9 (X:Cx)(id:String)(r:V->List V->Hp->VK->Prop):Prop:=
 ∀pins s σ H x xs v us Q,AA X pins σ H s->AS x v->AR xs us->r x xs H Q ->
  wpAny (model X.prog X.w) X.A (call (.builtin id) (v::us)) (EP X pins σ Q) X.xe s
section
variable {X:Cx}{a b:Expr}{ta tb:TE}{pos:Pos}
theorem Pa (hr:My X r)(ha:PE X a ta)(hb:PE X b tb)(hs:XW b):PE X (.Subscript a b pos) (QW r ta tb):=by intro pins s σ H Q I h;exact Subscript_ (Lj ha hb I h fun v u s2 x y H2 I2 rx ry q=>hr a b pins s2 σ H2 x y v u Q I2 rx ry q (hs _ _))
inductive V6 (K:AO)(x:V)(y:V)(H:Hp)(Q:VK):Prop
 | mk:∀p xs i v,(x=.ref p)->(y=.int i)->(AE K H p xs)->(Cm xs i=some v)->(Q v H)->V6 K x y H Q
def Pd (K:AO):R2:=fun x y H Q=>V6 K x y H Q
inductive VQ (K:AO)(x:V)(y:V)(H:Hp)(Q:VK):Prop
 | mk:∀p xs i v,(x=.ref p)->(y=.int i)->(AB K H p xs)->(Cm xs i=some v)->(Q v H)->VQ K x y H Q
def Ol (K:AO):R2:=fun x y H Q=>VQ K x y H Q
theorem BU:My X (Pd X.K):=by
 intro value slice pins s σ H x y v u Q I rx ry h hs;obtain⟨p,xs,i,z,rfl,rfl,hq,he,q⟩:=h;cases rx;obtain⟨t,rfl⟩:=ry;obtain⟨its,r,pl,hz⟩:=I.list hq;obtain⟨j,h1,h2,h3,h4,h5⟩:=Yo he;obtain⟨w,ew,il⟩:=r.get h2;have hl:=r.length;have hn:=Nc;have fin:EP X pins σ Q w s:=⟨z,H,I,il,q⟩;by_cases h0:0<=i
 . have hj:i.toNat=j:=by rw[seqIndex_of h0 h5] at h1;exact zV h1
   exact item_listR pl.isList h0 (by lia) (by rw[hj];simpa using ew) fin hs
 . have hj:(i+(its.toArray.size:Int)).toNat=j:=by rw[seqIndex_neg (by lia) h4] at h1;rw[ze,<-hl];exact zV h1
   exact subscriptTail_builtinR (x:=w) pl.isList.typeIs slot_list_getitem.lookup
    (wpAny_getItem_list_neg (Q:=fun r s'=>r=w/\EP X pins σ Q r s') pl.isList (by lia) (by rw[ze] <;> lia) (by lia) (by rw[hj];simpa using ew) ⟨rfl,fin⟩) hs
theorem AX:My X (Ol X.K):=by
 intro value slice pins s σ H x y v u Q I rx ry h hs;obtain⟨p,xs,i,z,rfl,rfl,hq,he,q⟩:=h;cases rx;obtain⟨t,rfl⟩:=ry;obtain⟨its,r,pl,hz⟩:=I.tuple hq;obtain⟨j,h1,h2,h3,h4,h5⟩:=Yo he;obtain⟨w,ew,il⟩:=r.get h2;have hl:=r.length;have hn:=Nc;have fin:EP X pins σ Q w s:=⟨z,H,I,il,q⟩;exact subscriptTail_builtinR (x:=w) pl.typeIs slot_tuple_getitem.lookup
  (getItem_tuple (j:=j) (Q:=fun r s'=>r=w/\EP X pins σ Q r s') pl (by lia) (by lia) (by rw[ze,<-hl];exact h1) (by simpa using ew) ⟨rfl,fin⟩) hs
theorem cK (its:List Value)(n j)(u):Obj.mapSeq (·.setIfInBounds j u) { cls:=.type "list",data:=.seq its.toArray n }={ cls:=.type "list",data:=.seq (its.set j u).toArray n }:=by simp[Obj.mapSeq]
theorem AA.lst {pins:CI}{σ:St}{H:Hp}{s:Shared}{p:Addr}{xs:List V}(I:AA X pins σ H s)(h:H p=some (.lst xs)):
 ∃its n,AR xs its/\s.heap.get? p=some { cls:=.type "list",data:=.seq its.toArray n }/\xs.length<=sizeLine:=by
 obtain⟨z,its,n,r,e⟩:=I.hok p _ h;exact⟨its,n,r,e,z⟩
theorem AA.lstUpd {its:List Value}(I:AA X pins σ H s)(h:H p=some (.lst xs))
 (ho:s.heap.get? p=some { cls:=.type "list",data:=.seq its.toArray n }) (hf:f { cls:=.type "list",data:=.seq its.toArray n }={ cls:=.type "list",data:=.seq its'.toArray n' }) (r:AR ys its')(hz:ys.length<=sizeLine)(t):
 AA X pins σ (upd H p (.lst ys)) { s with heap:=s.heap.update p f,toks:=t }:=by
 have e:(s.heap.update p f).get? p=some { cls:=.type "list",data:=.seq its'.toArray n' }:=by rw[zu f ho (by rw[hf] <;> rfl),hf]
 refine I.write (x:=p) (e:=p) (by rw[h];trivial) (.inl rfl) (fun b u hb q=>(Mh _ _ (Ne.symm hb)).trans q) ⟨_,e⟩ ?_;exact⟨hz,its',n',r,e⟩
def Oq:V->V->V->Hp->(Hp->Prop)->Prop:=fun o i v H Q=>∃p xs k j,o=.ref p/\i=.int k/\H p=some (.lst xs)/\Fg xs.length k=some j/\Q (upd H p (.lst (xs.set j v)))
theorem Nw:PN X Oq:=by
 intro pins s σ H o i v ov iv u Q I ro ri rv h;obtain⟨p,xs,k,j,rfl,rfl,hp,hj,q⟩:=h;cases ro;obtain⟨t,rfl⟩:=ri;obtain⟨its,n,r,ho,hz⟩:=I.lst hp;obtain⟨h1,h2,h3,h4⟩:=Ws hj;have hl:=r.length;have hn:=Nc;have I':AA X pins σ (upd H p (.lst (xs.set j v))) { s with heap:=s.heap.update p (Obj.mapSeq (·.setIfInBounds j u)) }:=
  I.lstUpd hp ho (cK its n j u) (r.set rv j) (by rw[List.length_set];exact hz) s.toks
 by_cases h0:0<=k
 . have hk:k.toNat=j:=by rw[seqIndex_of h0 h4] at h1;exact zV h1
   exact PySem.W.ki_setAt ho h0 (by lia) (by rw[ze,<-hl];exact h4) (by rw[hk];exact⟨_,I',q⟩)
 . have hk:(k+(its.toArray.size:Int)).toNat=j:=by rw[seqIndex_neg (by lia) h3] at h1;rw[ze,<-hl];exact zV h1
   exact PySem.W.ki_setBack ho (by lia) (by rw[ze,<-hl];exact h3) (by lia) (by rw[hk];exact⟨_,I',q⟩)
theorem aZ (lo hi)(n):(sliceBounds lo hi none n).1=((HT.sIx n 0 lo:Nat):Int)/\(sliceBounds lo hi none n).2.1=((HT.sIx n n hi:Nat):Int)/\(sliceBounds lo hi none n).2.2=1:=by
 refine⟨?_,?_,rfl⟩
 . cases lo with
   | none=>simp[sliceBounds,HT.sIx]
   | some i=>
    simp only[sliceBounds,HT.sIx,Option.getD_none,show (1:Int) > 0 by decide,if_true];by_cases h:i<0
    . simp only[h,if_true] <;> lia
    . simp only[h,if_false] <;> lia
 . cases hi with
   | none=>simp[sliceBounds,HT.sIx]
   | some i=>
    simp only[sliceBounds,HT.sIx,Option.getD_none,show (1:Int) > 0 by decide,if_true];by_cases h:i<0
    . simp only[h,if_true] <;> lia
    . simp only[h,if_false] <;> lia
theorem aI (its:List Value)(lo hi):slicePick its.toArray lo hi none=((its.drop (HT.sIx its.length 0 lo)).take (HT.sIx its.length its.length hi-HT.sIx its.length 0 lo)).toArray:=by obtain⟨h1,h2,h3⟩:=aZ lo hi its.toArray.size;unfold slicePick;rw[h1,h2,h3];simp only[sliceRange_one,pick_run,ze] <;> rfl
def Uv (K:AO):V->Option Int->Option Int->Hp->VK->Prop:=fun x lo hi H Q=>∃a xs,x=.ref a/\AE K H a xs/\∀p,H p=none->Q (.ref p) (upd H p (.lst (Jx xs lo hi)))
theorem Yi:ZE X (Uv X.K):=by intro pins s σ H x v vl vu lo hi sl Q I rx hs pl pu h;obtain⟨a,xs,rfl,hx,q⟩:=h;cases rx;obtain⟨its,r,ht,hz⟩:=I.list hx;have hlen:=r.length;refine⟨"list",_,slot_list_getitem.lookup,ht.isList.typeIs,?_⟩;refine wpAny_getItem_list_slice ht.isList hs pl pu .none (by simp) ?_ (by rw[ze] <;> lia);rw[aI,<-hlen];refine⟨.ref s.heap.objs.size,_,I.laid (t':=s.toks) (o:=.lst (Jx xs lo hi)) (fun b ob q=>zG _ q) (zI _) ?_,rfl,q _ (I.hok.fresh (zI _))⟩;exact⟨Cq (cU xs lo hi) hz,_,0,(r.drop (HT.sIx xs.length 0 lo)).take (HT.sIx xs.length xs.length hi-HT.sIx xs.length 0 lo),zN _ rfl⟩
noncomputable def G5:V->Bool
 | .non=>true
 | .bl _=>true
 | .int _=>true
 | .str _=>true
 | _=>false
noncomputable def Gp:V->V->Bool
 | .non,.non=>true
 | .bl a,.bl b=>a==b
 | .bl a,.int b=>(if a then 1 else 0)==b
 | .int a,.bl b=>a==(if b then 1 else 0)
 | .int a,.int b=>a==b
 | .str a,.str b=>a==b
 | _,_=>false
theorem Lq (ry:AS y u)(rx:AS x v)(fy:G5 y=true)(fx:G5 x=true):SeqAt.EqAt A s u v (Gp y x):=by
 cases y with
 | non=>
  cases ry;cases x with
  | non=>cases rx;exact SeqAt.EqAt.same _
  | bl b=>cases rx;exact SeqAt.EqAt.none_bool b
  | int b=>obtain⟨t,rfl⟩:=rx;exact SeqAt.EqAt.none_int b t
  | str b=>obtain⟨t,rfl⟩:=rx;exact SeqAt.EqAt.none_str b t
  | _=>exact absurd (show false=true from fx) zo
 | bl a=>
  cases ry;cases x with
  | non=>cases rx;exact SeqAt.EqAt.bool_none a
  | bl b=>cases rx;exact SeqAt.EqAt.bool_bool a b
  | int b=>obtain⟨t,rfl⟩:=rx;exact SeqAt.EqAt.bool_int a b t
  | str b=>obtain⟨t,rfl⟩:=rx;exact SeqAt.EqAt.bool_str a b t
  | _=>exact absurd (show false=true from fx) zo
 | int a=>
  obtain⟨t',rfl⟩:=ry;cases x with
  | non=>cases rx;exact SeqAt.EqAt.int_none a t'
  | bl b=>cases rx;exact SeqAt.EqAt.int_bool a t' b
  | int b=>obtain⟨t,rfl⟩:=rx;exact SeqAt.EqAt.int_int a t' b t
  | str b=>obtain⟨t,rfl⟩:=rx;exact SeqAt.EqAt.int_str a t' b t
  | _=>exact absurd (show false=true from fx) zo
 | str a=>
  obtain⟨t',rfl⟩:=ry;cases x with
  | non=>cases rx;exact SeqAt.EqAt.str_none a t'
  | bl b=>cases rx;exact SeqAt.EqAt.str_bool a t' b
  | int b=>obtain⟨t,rfl⟩:=rx;exact SeqAt.EqAt.str_int a t' b t
  | str b=>obtain⟨t,rfl⟩:=rx;exact SeqAt.EqAt.str_str a t' b t
  | _=>exact absurd (show false=true from fx) zo
 | _=>exact absurd (show false=true from fy) zo
noncomputable def DA (x:V)(u:Value):Bool:=match u with
 | .none=>Gp .non x
 | .bool b=>Gp (.bl b) x
 | .int i _=>Gp (.int i) x
 | .str z _=>Gp (.str z) x
 | _=>false
theorem YO (r:AS y u)(f:G5 y=true):DA x u=Gp y x:=by
 cases y with
 | non=>cases r;rfl
 | bl b=>cases r;rfl
 | int i=>obtain⟨t,rfl⟩:=r;rfl
 | str z=>obtain⟨t,rfl⟩:=r;rfl
 | _=>exact absurd (show false=true from f) zo
theorem Nj :∀{xs:List V}{us:List Value},AR xs us->xs.all G5=true->us.any (DA x)=xs.any fun y=>Gp y x
 | _,_,.nil,_=>rfl
 | y::xs,u::us,.cons r t,f=>by rw[List.all_cons,Jb] at f;rw[List.any_cons,List.any_cons,YO r f.1,Nj t f.2]
theorem OF (rx:AS x v)(fx:G5 x=true):∀{xs:List V}{us:List Value},AR xs us->xs.all G5=true->∀u∈us,SeqAt.EqAt A s u v (DA x u)
 | _,_,.nil,_=>fun u hu=>by cases hu
 | y::xs,u::us,.cons r t,f=>fun u' hu=>by
  rw[List.all_cons,Jb] at f;rcases zX.mp hu with rfl | hu
  . rw[YO r f.1];exact Lq r rx f.1 fx
  . exact OF rx fx t f.2 u' hu
noncomputable def Dg (x:V)(xs:List V):Bool:=xs.any fun y=>Gp y x
def VA (K:AO)(neg:Bool):R2:=fun x y H Q=>∃p xs,y=.ref p/\(AE K H p xs\/AB K H p xs)/\G5 x=true/\xs.all G5=true/\Q (.bl (if neg then !Dg x xs else Dg x xs)) H
theorem Yk:A2 X (compareOp .In) (VA X.K false):=by
 intro pins s σ H x y v u Q I rx ry h;obtain⟨p,xs,rfl,hq,fx,fs,q⟩:=h;cases ry;rcases hq with hq | hq
 . obtain⟨its,r,pl,hz⟩:=I.list hq;refine SeqAt.in_listAt (DA x) pl.isList (fun w hw=>OF rx fx r fs w (by simpa using hw)) ⟨.bl _,H,I,rfl,?_⟩;rw[show its.toArray.any (DA x)=its.any (DA x) by simp,Nj r fs];exact q
 . obtain⟨its,r,pl,hz⟩:=I.tuple hq;refine SeqAt.in_tupleAt (DA x) pl (fun w hw=>OF rx fx r fs w (by simpa using hw)) ⟨.bl _,H,I,rfl,?_⟩;rw[show its.toArray.any (DA x)=its.any (DA x) by simp,Nj r fs];exact q
theorem Q8:A2 X (compareOp .NotIn) (VA X.K true):=by
 intro pins s σ H x y v u Q I rx ry h;obtain⟨p,xs,rfl,hq,fx,fs,q⟩:=h;cases ry;rcases hq with hq | hq
 . obtain⟨its,r,pl,hz⟩:=I.list hq;refine SeqAt.notIn_listAt (DA x) pl.isList (fun w hw=>OF rx fx r fs w (by simpa using hw)) ⟨.bl _,H,I,rfl,?_⟩;rw[show its.toArray.any (DA x)=its.any (DA x) by simp,Nj r fs];exact q
 . obtain⟨its,r,pl,hz⟩:=I.tuple hq;refine SeqAt.notIn_tupleAt (DA x) pl (fun w hw=>OF rx fx r fs w (by simpa using hw)) ⟨.bl _,H,I,rfl,?_⟩;rw[show its.toArray.any (DA x)=its.any (DA x) by simp,Nj r fs];exact q
inductive Kl (K:AO)(xs:List V)(H:Hp)(Q:VK):Prop
 | mk:∀p ys,(xs=[.ref p])->((AE K H p ys\/AB K H p ys))->(Q (.int ys.length) H)->Kl K xs H Q
theorem Bz:CO X (.builtin "len") (Kl X.K):=by
 intro pins s σ H xs us Q I r h;obtain⟨p,ys,rfl,hq,q⟩:=h;obtain⟨u,rfl,rx⟩:=B2 r;cases rx;have hn:=Nc;rcases hq with hq | hq
 . obtain⟨its,r',pl,hz⟩:=I.list hq;have hlen:=r'.length;exact Calls.call_len_list pl.isList (by simp only[ze] <;> lia) ⟨.int ys.length,H,I.tok _,⟨s.toks+1,by rw[ze,hlen]⟩,q⟩
 . obtain⟨its,r',pl,hz⟩:=I.tuple hq;have hlen:=r'.length;exact len_tuple pl (by simp only[ze] <;> lia) ⟨.int ys.length,H,I.tok _,⟨s.toks+1,by rw[ze,hlen]⟩,q⟩
inductive QE (K:AO)(xs:List V)(H:Hp)(Q:VK):Prop
 | mk:∀p ys,(xs=[.ref p])->((AE K H p ys\/AB K H p ys))->(∀l,H l=none->Q (.ref l) (upd H l (.lst ys)))->QE K xs H Q
theorem cR:CO X (.type "list") (QE X.K):=by
 intro pins s σ H xs us Q I r h;obtain⟨p,ys,rfl,hq,q⟩:=h;obtain⟨u,rfl,rx⟩:=B2 r;cases rx;have fin:∀(its:List Value),AR ys its->ys.length<=sizeLine->∀(h':Heap)(c':Nat),(∀b o',s.heap.get? b=some o'->h'.get? b=some o') ->
  h'.get? s.heap.objs.size=some { cls:=.type "list",dict:=none,data:=.seq its.toArray c',slots:=#[] }->EP X pins σ Q (.ref s.heap.objs.size) { s with heap:=h' }:=fun its r' hz h' c' kp e=>
  ⟨.ref s.heap.objs.size,_,I.laid (t':=s.toks) kp (zI _) (show A1 X.prog X.w _ h' _ (.lst ys) from ⟨hz,its,c',r',e⟩),rfl,q _ (I.hok.fresh (zI _))⟩
 rcases hq with hq | hq
 . obtain⟨its,r',pl,hz⟩:=I.list hq;have hlen:=r'.length;obtain⟨o,ho,hc,n,hd⟩:=pl.isList;exact call_list_seq p (.inl rfl) ho hc hd (fun h' c' kp e=>fin its r' hz h' c' kp e) (by simp only[ze] <;> lia)
 . obtain⟨its,r',pl,hz⟩:=I.tuple hq;have hlen:=r'.length;obtain⟨o,ho,hc,n,hd⟩:=pl;exact call_list_seq p (.inr rfl) ho hc hd (fun h' c' kp e=>fin its r' hz h' c' kp e) (by simp only[ze] <;> lia)
inductive Qc (K:AO)(xs:List V)(H:Hp)(Q:VK):Prop
 | mk:∀p ys,(xs=[.ref p])->(((AE K H p ys/\∀l,H l=none->Q (.ref l) (upd H l (.tup ys)))\/(AB K H p ys/\Q (.ref p) H)))->Qc K xs H Q
theorem B9:CO X (.type "tuple") (Qc X.K):=by
 intro pins s σ H xs us Q I r h;obtain⟨p,ys,rfl,h⟩:=h;obtain⟨u,rfl,rx⟩:=B2 r;cases rx;rcases h with ⟨hq,q⟩ | ⟨hq,q⟩
 . obtain⟨its,r',pl,hz⟩:=I.list hq;have hlen:=r'.length;refine call_tuple_list pl.isList (fun h' kp=>?_) (by simp only[ze] <;> lia);have I1:AA X pins σ H { s with heap:=h' }:=I.kept (t':=s.toks) kp;have I2:AA X pins σ (upd H h'.objs.size (.tup ys)) { s with heap:=h'.push { cls:=.type "tuple",data:=.seq its.toArray } }:=
    I1.laid (t':=s.toks) (fun b o e=>zG _ e) (zI _) (show A1 X.prog X.w _ _ _ (.tup ys) from ⟨⟨hz,_,zN _ rfl,rfl⟩,its,r',IsTup.new _ _⟩)
   exact⟨.ref h'.objs.size,_,I2,rfl,q _ (I1.hok.fresh (zI _))⟩
 . obtain⟨its,r',pl,hz⟩:=I.tuple hq;exact call_tuple_same pl ⟨.ref p,H,I,rfl,q⟩
def ZD (K:AO)(T:String)(x:V)(H:Hp):Prop:=match x with
 | .str _=>T="str"
 | .int _=>T="int"
 | .ref p=>(T="list"/\∃xs,AE K H p xs)\/(T="tuple"/\∃o,K.lookup p=some o/\o.cls=.type "tuple"/\o.dict=none) \/
  (T="dict"/\((∃fu,H p=some (.dK fu))\/∃fu,H p=some (.dT fu)))\/(T="set"/\∃S n,H p=some (.set S n))
 | _=>False
theorem MP (I:AA X pins σ H s)(r:AS x v)(ty:ZD X.K T x H):
 s.TypeIs v T/\∀a,v=.ref a->∃ob,s.heap.get? a=some ob/\ob.dict=none:=by
 cases x with
 | str z=>obtain⟨t,rfl⟩:=r;cases (show T="str" from ty);exact⟨typeIs_str s z t,fun _ e=>nomatch e⟩
 | int i=>obtain⟨t,rfl⟩:=r;cases (show T="int" from ty);exact⟨typeIs_int s i t,fun _ e=>nomatch e⟩
 | ref p=>
  cases r;rcases ty with ⟨rfl,xs,hq⟩ | ⟨rfl,o,hk,hc,hd⟩ | ⟨rfl,hk⟩ | ⟨rfl,S,n,hk⟩
  . obtain⟨its,_,pl,_⟩:=I.list hq;refine⟨pl.isList.typeIs,fun a e=>?_⟩;cases e;obtain⟨o,n,e,c,hd,_⟩:=pl;exact⟨o,e,hd⟩
  . refine⟨⟨o,I.kIn p o hk,hc⟩,fun a e=>?_⟩;cases e;exact⟨o,I.kIn _ o hk,hd⟩
  . have z:∃o,s.heap.get? p=some o/\o.ExactDict:=by
     rcases hk with ⟨fu,hk⟩ | ⟨fu,hk⟩
     . obtain⟨_,_,_,_,o,_,_,e,ex,_⟩:=I.hok p _ hk;exact⟨o,e,ex⟩
     . obtain⟨_,_,_,_,o,_,_,e,ex,_⟩:=I.hok p _ hk;exact⟨o,e,ex⟩
    obtain⟨o,e,ex⟩:=z;refine⟨⟨o,e,ex.1⟩,fun a e2=>?_⟩;cases e2;exact⟨o,e,ex.2.1⟩
  . obtain⟨o,_,_,_,e,ex,_⟩:=I.hok p _ hk;refine⟨⟨o,e,ex.1⟩,fun a e2=>?_⟩;cases e2;exact⟨o,e,ex.2.1⟩
 | _=>exact False.elim ty
inductive Iy (K:AO)(T:String)(r:V->List V->Hp->VK->Prop)(t:TA)(σ:St)(Q:VK)(x:V)(H1:Hp):Prop
 | mk:(ZD K T x H1)->(t σ H1 fun xs H2=>r x xs H2 Q)->Iy K T r t σ Q x H1
def fe (K:AO)(T:String)(r:V->List V->Hp->VK->Prop)(to:TE)(t:TA):TE:=fun σ H Q=>to σ H fun x H1=>Iy K T r t σ Q x H1
variable {o e:Expr}{es:List Expr}{to:TE}{t:TA}{name:Str}{apos gG:Pos}{T id:String}{r:V->List V->Hp->VK->Prop}
theorem Gd (pa:PlainAttrs T)(slot:Slot T name id)(hty:typeOf (.builtin id)=pure (.type "method_descriptor")) (hm:R9 X id r)(ho:PE X o to)(ha:PA X (e::es) t)
 (kB:attributeBase o name X.env (eval o X.env)=eval o X.env:=by rfl)
 (hfew:((backTo gG (starEach (e::es) X.env)).all (fun x=>!x.1) && (backToKw gG (keywordEach [] X.env)).all (fun x=>x.1.isSome)
  && decide ((e::es).length+([]:List Keyword).length+(if ([]:List Keyword).isEmpty then 0 else 1)<30))=true:=by rfl)
 (j4:(apos.endLine==gG.line)=true:=by rfl)(hs:starEach (e::es) X.env=(false,eval e X.env)::starEach es X.env:=by rfl)(jD:(backTo gG (starEach es X.env)).any (·.1)=false:=by rfl):
 PE X (.Call (.Attribute o name apos) (e::es) [] gG) (fe X.K T r to t):=by
 intro pins s σ H Q I h;refine wpAny_Call_method_late kB hfew j4 rfl (AM (ho pins s σ H _ I h) fun v s1 ⟨x,H1,I1,r1,ty,q1⟩=>?_);obtain⟨h1,h2⟩:=MP I1 r1 ty;refine⟨T,id,pa,slot,hty,h1,h2,?_⟩;have hA:=ha gG pins s1 σ H1 _ I1 q1;rw[hs] at hA ⊢;refine Calls.callWith_builtin (by show (false || (backTo gG (starEach es X.env)).any (·.1))=false;rw[jD] <;> rfl) (Calls.evalArgs_plain ?_);exact AM hA fun us s2 ⟨vs,H2,I2,r2,q2⟩=>hm pins s2 σ H2 x vs v us Q I2 r1 r2 q2
end
def VG (X:Cx)(id:String)(r:V->List V->Hp->VK->Prop):Prop:=
 ∀pins s σ H x xs v us Q,AA X pins σ H s->AS x v->AR xs us->r x xs H Q ->
  wpAny (model X.prog X.w) X.A (call (.builtin id) (v::us)) (EP X pins σ Q) X.xe s
theorem AR.one:∀{x:V}{us:List Value},AR [x] us->∃u,us=[u]/\AS x u
 | _,_,.cons r .nil=>⟨_,rfl,r⟩
theorem AR.eraseIdx:∀{xs:List V}{us:List Value}(i:Nat),AR xs us->AR (xs.eraseIdx i) (us.eraseIdx i)
 | _,_,_,.nil=>.nil
 | _,_,0,.cons _ t=>t
 | _,_,i+1,.cons r t=>.cons r (AR.eraseIdx i t)
theorem AR.rep (h:AR xs us):∀k:Nat,AR (List.replicate k xs).flatten (List.replicate k us).flatten
 | 0=>.nil
 | k+1=>by rw[GZ,GZ,Ew,Ew];exact AR.append h (AR.rep h k)
theorem X1 {α:Type}:∀(l:List α)(i:Nat),(l.eraseIdx i).length<=l.length
 | [],_=>zI _
 | _::_,0=>DK _
 | _::r,i+1=>Nat.succ_le_succ (X1 r i)
theorem Xl (its:List Value):∀k acc,
 List.foldl (fun x1 x2=>x1++x2) acc.toArray (List.replicate k its.toArray)=(acc++(List.replicate k its).flatten).toArray
 | 0,acc=>by simp
 | k+1,acc=>by
  have e:acc.toArray++its.toArray=(acc++its).toArray:=by simp
  have e2:(acc++its)++(List.replicate k its).flatten=acc++(List.replicate (k+1) its).flatten:=by rw[GZ,Ew,DT]
  rw[<-e2,<-Xl its k (acc++its),<-e,GZ,List.foldl_cons]
theorem AA.lset {its:List Value}(I:AA X pins σ H s)(hH:H l=some (.lst xs))
 (e:s.heap.get? l=some { cls:=.type "list",data:=.seq its.toArray n }) (hf:f its.toArray=its'.toArray)(hv:AR ys its')(hz:ys.length<=sizeLine):
 AA X pins σ (upd H l (.lst ys)) { s with heap:=s.heap.update l (Obj.mapSeq f),toks:=t' }:=by
 have q:=PySem.IsL.update e f;rw[hf] at q;refine I.write (x:=l) (e:=l) (by rw[hH];exact trivial) (.inl rfl) (fun b' u hb hu=>(Mh s.heap (Obj.mapSeq f) (Ne.symm hb)).trans hu) ⟨_,q⟩ ?_;exact⟨hz,its',_,hv,q⟩
theorem AA.lnew (I:AA X pins σ H s)(hv:AR ys its)(hz:ys.length<=sizeLine):
 AA X pins σ (upd H s.heap.objs.size (.lst ys)) { s with heap:=s.heap.push { cls:=.type "list",data:=.seq its.toArray },toks:=t' }:=
 I.laid (fun _ _ q=>zG _ q) (zI _) ⟨hz,its,0,hv,zN _ rfl⟩
theorem AA.fresh (I:AA X pins σ H s):H s.heap.objs.size=none:=I.hok.fresh (zI _)
theorem AA.lstM (I:AA X pins σ H s)(hH:H l=some (.lst xs)):xs.length<=sizeLine/\∃its n,AR xs its/\xs.length=its.length/\s.heap.get? l=some { cls:=.type "list",data:=.seq its.toArray n }:=by obtain⟨z,its,n,r,e⟩:=I.hok l _ hH;exact⟨z,its,n,r,r.length,e⟩
theorem Wn (h:n<=sizeLine):Builtin.List.listTooLong n=false:=by unfold Builtin.List.listTooLong;exact zT (by lia)
inductive Xi (x:V)(vs:List V)(H:Hp)(Q:VK):Prop
 | mk:∀l xs y,(x=.ref l)->(vs=[y])->(H l=some (.lst xs))->(xs.length<sizeLine)->(Q .non (upd H l (.lst (xs++[y]))))->Xi x vs H Q
def eJ:V->List V->Hp->VK->Prop:=fun x vs H Q=>Xi x vs H Q
theorem HB:VG X "list.append" eJ:=by
 intro pins s σ H x vs v us Q I rx rv h;obtain⟨l,xs,y,rfl,rfl,hH,hz,q⟩:=h;cases rx;obtain⟨u,rfl,ru⟩:=rv.one;obtain⟨z,its,n,r,hl,e⟩:=I.lstM hH;refine call_meets F.slot_list_append ⟨_,e,rfl⟩ F.entry_list_append (F.args_list_append_2 _ _) (PySem.list_append l its.toArray n u (by rw[ze];lia)) ⟨e,?_⟩;refine⟨.non,_,I.lset (its':=its++[u]) hH e (by simp) (r.append (.cons ru .nil)) ?_,rfl,q⟩;rw[zJ,Gw]
 lia
def Ld:V->List V->Hp->VK->Prop:=fun x vs H Q=>∃l xs i k y,x=.ref l/\vs=[.int i]/\H l=some (.lst xs)/\-(2 ^ 63)<=i/\i<2 ^ 63/\seqIndex? i xs.length=some k/\xs[k]?=some y/\Q y (upd H l (.lst (xs.eraseIdx k)))
theorem ZN:VG X "list.pop" Ld:=by
 intro pins s σ H x vs v us Q I rx rv h;obtain⟨l,xs,i,k,y,rfl,rfl,hH,h1,h2,hk,hy,q⟩:=h;cases rx;obtain⟨u,rfl,ru⟩:=rv.one;obtain⟨t,rfl⟩:=ru;obtain⟨z,its,n,r,hl,e⟩:=I.lstM hH;obtain⟨w,hw,il⟩:=r.get hy;refine call_meets F.slot_list_pop ⟨_,e,rfl⟩ F.entry_list_pop (F.args_list_pop_2 _ _)
  (MeetsSeq.list_pop_at l its.toArray n i t k w (fitsIndex_both h1 h2) (by rw[ze,<-hl];exact hk) (by rw[<-Array.getElem?_toList];exact hw) (by rw[ze];lia)) ⟨e,?_⟩
 refine⟨y,_,I.lset (its':=its.eraseIdx k) hH e ?_ (r.eraseIdx k) ?_,il,q⟩
 . show its.toArray.eraseIdxIfInBounds k=(its.eraseIdx k).toArray;rw[List.eraseIdxIfInBounds_toArray]
 . have:=X1 xs k
   lia
def U5:R2:=fun x y H Q=>∃l b xs zs,x=.ref l/\y=.ref b/\H l=some (.lst xs)/\H b=some (.lst zs)/\xs.length+zs.length<=sizeLine/\∀p,H p=none->Q (.ref p) (upd H p (.lst (xs++zs)))
theorem Wz:A2 X (binaryOp .Add) U5:=by
 intro pins s σ H x y v u Q I rx ry h;obtain⟨l,b,xs,zs,rfl,rfl,hH,hB,hz,q⟩:=h;cases rx;cases ry;obtain⟨z,its,n,r,hl,e⟩:=I.lstM hH;obtain⟨z2,iL,n2,r2,gS,e2⟩:=I.lstM hB;refine PySem.P.add_list e e2 ?_ (by rw[ze,ze];lia);have ea:its.toArray++iL.toArray=(its++iL).toArray:=by simp
 rw[ea];exact⟨.ref _,_,I.lnew (t':=s.toks) (r.append r2) (by rw[zJ];lia),rfl,q _ I.fresh⟩
def Up:R2:=fun x y H Q=>∃l k xs,x=.ref l/\y=.int k/\H l=some (.lst xs)/\-(2 ^ 63)<=k/\k<2 ^ 63/\xs.length*k.toNat<=sizeLine /\
 ∀p,H p=none->Q (.ref p) (upd H p (.lst (List.replicate k.toNat xs).flatten))
theorem aU {α:Type}(xs:List α)(k):(List.replicate k xs).flatten.length=k*xs.length:=by
 induction k with
 | zero=>simp
 | succ k ih=>rw[GZ,Ew,zJ,ih,Nat.succ_mul,Nat.add_comm]
theorem Vb:A2 X (binaryOp .Mult) Up:=by
 intro pins s σ H x y v u Q I rx ry h;obtain⟨l,k,xs,rfl,rfl,hH,h1,h2,hz,q⟩:=h;cases rx;obtain⟨t,rfl⟩:=ry;obtain⟨z,its,n,r,hl,e⟩:=I.lstM hH;have hlen:its.toArray.size*k.toNat<=sizeLine:=by rw[ze,<-hl];exact hz
 have hcap:¬ its.toArray.size*k.toNat > (2 ^ 63-1)/8:=by
  have:(sizeLine:Nat)<=(2 ^ 63-1)/8:=by decide
  lia
 have hfit:¬ (!Builtin.List.listFitsIndex k)=true:=by rw[fitsIndex_both h1 h2];exact zo
 have iw:¬ Builtin.List.listTooLong (its.toArray.size*k.toNat)=true:=by rw[Wn hlen];exact zo
 have hnew:List.foldl (fun x1 x2=>x1++x2) #[] (List.replicate (if its.toArray.isEmpty=true then 0 else k.toNat) its.toArray)=(List.replicate k.toNat its).flatten.toArray:=by
  have f0:∀m:Nat,List.foldl (fun x1 x2=>x1++x2) #[] (List.replicate m its.toArray)=(List.replicate m its).flatten.toArray:=fun m=>by have:=Xl its m [];rw[List.nil_append] at this;exact this
  rw[f0];cases its with
  | nil=>simp
  | cons a r'=>rw[if_neg (by simp)]
 refine wpAny_binaryOp_repeat_ref (T := "list") (U := "int") (by decide) ⟨_,e,rfl⟩ (fun s'=>typeIs_int s' k t) noFill_list_mul F.fills_int_mul F.slot_int_rmul repeat_list F.slot_int_index.lookup
  (call_meets F.slot_int_rmul (typeIs_int s k t) F.entry_int_rmul (F.args_int_rmul_2 _ _) (int___rmul___int_list k t l its.toArray n)
   ⟨e,rfl,⟨_,e,rfl⟩,call_meets F.slot_list_mul ⟨_,e,rfl⟩ F.entry_list_mul (F.args_list_mul_2 _ _) (AutoListH.list___mul___list_int_3 l its.toArray n k t hfit hcap iw) ⟨e,?_⟩⟩)
 rw[hnew];exact⟨.ref _,_,I.lnew (t':=s.toks) (r.rep k.toNat) (by rw[aU,Nat.mul_comm];exact hz),rfl,q _ I.fresh⟩
end L2
namespace Att
open PySem PySem.W PySem.Calls PyProof.Rows
theorem cu :∀ns vs,WellAll P h vs (ns.map WData.int)->IntsAre vs ns:=by
 intro ns
 induction ns with
 | nil=>intro vs w;rw[List.map_nil] at w;cases w;exact .nil
 | cons n ns ih=>
  intro vs w;rw[BJ] at w;cases w with
  | cons a b=>cases a;exact .cons _ _ (ih _ b)
theorem eh {l:OpenLaw}(hn:l.most=some n)
 (hpre:l.row.toRowW.claim.pre args=true)(hwl:WellAll P h vals args):
 ∃a vs ns,vals=[Value.ref a]/\args=[WData.list (ns.map WData.int)]/\h.get? a=some { cls:=.type "list",data:=.seq vs.toArray }/\IntsAre vs ns/\ns.length<=n:=by
 have hsh:WShape.hasAll [] args [.list .int]=true:=(pre_splitW hpre).1;have hc:l.pre.holds [] { args:=args }=true:=(pre_splitW hpre).2;obtain⟨d,r,rfl,h1,h2⟩:=hasAllW_cons hsh;obtain rfl:=hasAllW_nil h2;obtain⟨xs,rfl,h3⟩:=hasW_list h1;obtain⟨ns,rfl⟩:=items_int h3;have hlen:ns.length<=n:=by
  unfold OpenLaw.pre at hc;have h4:(WTm.not (.lt (.lit (.int (n:Int))) (.len (.arg 0)))).holds [] { args:=[.list (ns.map .int)] }=true:=by have h4:=(holds_andW hc).1;rw[hn] at h4;exact h4
  have h5:=condW_of h4 (w_not (w_lt w_lit (w_len_list (w_arg rfl))));rw[zB] at h5;refine Nat.le_of_not_lt fun q=>?_;have q':(n:Int)<((ns.length:Nat):Int):=by lia
  first
   | (rw[zR q'] at h5;exact absurd h5 (by decide))
   | (simp at h5;lia)
 cases hwl with
 | cons w1 w2=>
  cases w2;cases w1 with
  | list ho gn=>exact⟨_,_,ns,rfl,rfl,ho,cu ns _ gn,hlen⟩
theorem d8 (l:OpenLaw)(args):l.row.toRowW.claim.post args (.bool true) args=true:=
 postW_of (r:=l.row.toRowW) (X:=(true==true))
  (show WShape.has [] (.bool true) .bool=true by first | rfl | decide | simp[WShape.has,WShape.arms,WShape.armsAll])
  (show (WTm.eq .res (.lit (.bool true))).value [] { args:=args,res:=some (.bool true),after:=args }=some (.bool (true==true)) from w_eq_bool (w_res rfl) w_lit) rfl
theorem attach_call {l:OpenLaw}
 (hn:l.most=some n)(hdf:d.params.defaults=[])
 (call:∀w s₀ s₁ mg mb fa o pm cd doc a vs ns,
  Ground q loose [] XP w s₀ mg mb s₁.heap->YP w s₁.heap ->
  s₁.heap.get? fa=some o->o.data=.func (docDef d.name d.params d.body d.scope pm cd doc)->s₁.heap.CodeRec cd d.name->mg d.name=some (.ref fa) ->
  s₁.heap.get? a=some { cls:=.type "list",data:=.seq vs.toArray }->IntsAre vs ns->ns.length<=n->s₁.gens=#[] ->
  codeAny (model l.prog w) callerA (.call (.ref fa) ⟨[.ref a],[]⟩) (fun r s'=>r=.ok (.ret (.bool true))/\OldK s₁.heap s'.heap/\s'.os=s₁.os/\AllBare s'.gens) s₁):
 WalkO q loose XP YP l.row.toRowW d [] (fun f vs=>PySem.call f vs):=by
 intro w s₀ s₁ mg mb G Y fa o pm cd doc dV kV ho hd jG hD hmg hg args vals as hpre hlay hrd hwl ij;obtain rfl:dV=.none:=Dflts.none hD hdf;obtain rfl:kV=.none:=Dflts.noKw hD;obtain⟨a,vs,ns,rfl,rfl,hobj,hints,hlen⟩:=eh hn hpre hwl;refine enter_call (codeAny_mono (call w s₀ s₁ mg mb fa o pm cd doc a vs ns G Y ho (fd_plain hd) jG hmg hobj hints hlen hg) fun r s' hq=>?_);obtain⟨rfl,h2,h3,h4⟩:=hq;exact⟨.inl ⟨.bool true,.bool true,[],rfl,fun _=>rfl,.bool true,d8 l _,fun _=>⟨Ju,fun _ hm=>(nomatch hm)⟩⟩,h2,h3,h4⟩
end Att
namespace L2
open PySem PySem.Spec PyProof.Rows
theorem Yh:∀{vs:List Value}{ns:List Int},IntsAre vs ns->AR (ns.map V.int) vs
 | _,_,.nil=>.nil
 | _,_,.cons n t h=>.cons ⟨t,rfl⟩ (Yh h)
abbrev AL:M9:=fun _ _ _ _ _ _=>False
abbrev E0:XK:=fun _ _ _=>False
theorem Ei :Sj AL X E0:=fun _ _ _ _ _ _ _ h=>h.elim
structure FY (K:AO)(x qual:Str)(st:Stmt)(f:Addr)(fd:FuncData):Prop where
 ex:∃(oc:Value)(od:Option Addr)(kV doc pm:Value)(an:Option Addr)(gP ct:Value)(jL:Array (Option Value)),
  fd=PySem.W.fnOf x qual (defArgs st) (defBody st) (defScope st) .none kV doc pm an gP ct/\K.lookup f=some ⟨oc,od,.func fd,jL⟩/\PySem.W.codeIn K gP qual=true
 kp:PySem.W.keepIn K (.ref f)=true
section
variable {P:Program}{w:World}{K:AO}{mg:Be}{base:Heap}
theorem FY.ok {st:Stmt}(F:FY K x qual st f fd)(S:AW N ps (defScope st))(len:∀vs H Q E,sp vs H Q E->vs.length=ps.length)
 (iB:∀gP A outer s H vs Q E,BD k (A.deeper (envOfC qual (defScope st) s.heap.objs.size f gP))->sp vs H Q E ->
  ∃t,Cj (Hb AL P w K mg base N qual (defScope st) f gP A outer s H E).nox (defBody st) t/\t { nx:=fun _ H'=>Q .non H',rt:=Q } (start N vs) H):AH P w K mg base AL (k+1) f fd ps sp:=by
 obtain⟨oc,od,kV,doc,pm,an,gP,ct,jL,rfl,lk,jG⟩:=F.ex;refine JQ lk jG S len fun A outer s H vs Q E hr jO=>?_;obtain⟨t,h,q⟩:=iB gP A outer s H vs Q E hr jO;exact⟨t,h.nox,q⟩
theorem FY.binds {st:Stmt}(F:FY K x qual st f fd)
 (h:∀kV doc pm an gP ct us,us.length=ps.length->bindArgs (PySem.W.fnOf x qual (defArgs st) (defBody st) (defScope st) .none kV doc pm an gP ct) ⟨us,[]⟩=pure (ps.zip us)):CU K fd ps []:=by
 obtain⟨oc,od,kV,doc,pm,an,gP,ct,jL,rfl,lk,jG⟩:=F.ex;exact .all (h kV doc pm an gP ct)
theorem K5 {st:Stmt}{kV:Value}(l:K.lookup f=some ⟨oc,od,.func (PySem.W.fnOf x qual (defArgs st) (defBody st) (defScope st) .none kV doc pm an gP ct),jL⟩)
 (c:PySem.W.codeIn K gP qual=true)(k:PySem.W.keepIn K (.ref f)=true):FY K x qual st f (PySem.W.fnOf x qual (defArgs st) (defBody st) (defScope st) .none kV doc pm an gP ct):=⟨⟨oc,od,kV,doc,pm,an,gP,ct,jL,rfl,l,c⟩,k⟩
end
theorem Fy (hr:BD k A):A.units+1<cLine:=Cv (Nat.add_le_add_left (by decide:1<=64) _) hr.units
theorem pv (i)(hN:X.N[i]?=some x:=by rfl)(hv:SN X.env.scope x:=by first | exact Or.inl rfl | exact Or.inr (Or.inl rfl) | exact Or.inr (Or.inr rfl))(hd:(x==("__debug__" : Str))=false:=by decide)
 (jG:(x==("__classdict__" : Str))=false:=by decide):PE X (.Name x pos) (OV i):=KZ hN hv hd jG
theorem Am {B:Prop}(h:B):if false=true then A else B:=by rw[if_neg zo];exact h
theorem Aw {B:Prop}(h:A):if true=true then A else B:=by rw[if_pos rfl];exact h
theorem CF {B:Prop} [Decidable c] (h1:c->A)(h2:¬ c->B):if c then A else B:=by
 by_cases h:c
 . rw[if_pos h];exact h1 h
 . rw[if_neg h];exact h2 h
def AF (H H':Hp):Prop:=∀b o,H b=some o->H' b=some o
theorem AF.refl (H):AF H H:=fun _ _ h=>h
theorem AF.trans (a:AF H H1)(b:AF H1 H2):AF H H2:=fun c o h=>b c o (a c o h)
section
variable {κ:Type} [DecidableEq κ]
theorem Xn {k:κ}(h:Ao fu k=none):¬ k∈fu.map (·.1):=by intro m;obtain⟨p,hp,e⟩:=zq.mp m;have q:(fu.any fun kv=>decide (kv.1=k))=true:=Ho.mpr ⟨p,hp,zR e⟩;rw[GK,h] at q;exact absurd q (by simp)
theorem aV {k:κ}(h:Ao fu k=some v):k∈fu.map (·.1):=by
 have q:(fu.any fun kv=>decide (kv.1=k))=true:=by
  rw[GK,h]
  all_goals rfl
 obtain⟨p,hp,e⟩:=Ho.mp q;exact zq.mpr ⟨p,hp,of_decide_eq_true e⟩
theorem TQ:∀{l:List κ}{k:κ},l.Nodup->¬ k∈l->(l++[k]).Nodup
 | [],k,_,_=>by simp
 | a::r,k,h,hk=>by
  obtain⟨h1,h2⟩:=BZ.mp h;show (a::(r++[k])).Nodup;refine BZ.mpr ⟨fun m=>?_,TQ h2 fun m=>hk (zX.mpr (Or.inr m))⟩;rcases zU.mp m with q | q
  . exact h1 q
  . exact hk (zX.mpr (Or.inl (zi.mp q).symm))
theorem Yr {k:κ}(v)(hn:(fu.map (·.1)).Nodup)(h:Ao fu k=none):((Ax fu k v).map (·.1)).Nodup:=by rw[Se v h,zQ];exact TQ hn (Xn h)
theorem Yt {k:κ}(e:p.1=k):BY (p::r) k=BY r k:=by unfold BY;rw[Et,if_neg (by simp[e])]
theorem YV {k:κ}(e:¬ p.1=k):BY (p::r) k=p::BY r k:=by unfold BY;rw[Et,if_pos (by simp[e])]
theorem Xr {k:κ}(h:p∈BY fu k):p∈fu:=(Bf.mp h).1
theorem SY:∀{fu:List (κ×V)}{k:κ},(fu.map (·.1)).Nodup->((BY fu k).map (·.1)).Nodup
 | [],_,_=>Hs
 | p::r,k,h=>by
  have h:(p.1::r.map (·.1)).Nodup:=h;obtain⟨h1,h2⟩:=BZ.mp h;by_cases e:p.1=k
  . rw[Yt e];exact SY h2
  . rw[YV e];show (p.1::(BY r k).map (·.1)).Nodup;refine BZ.mpr ⟨fun m=>h1 ?_,SY h2⟩;obtain⟨q,hq,eq⟩:=zq.mp m;exact zq.mpr ⟨q,Xr hq,eq⟩
end
end L2
set_option Elab.async false
set_option linter.all false
set_option maxRecDepth 100000
set_option maxHeartbeats 4000000
namespace L2
open PySem PySem.Spec PyProof.Rows
theorem ZW (I:Nat->Shared->Prop)
 (turn:∀n s,I n s->wpAny (model prog w) A (pyNext it) (fun r s₁=>match r with
  | none=>R (.ok .next) s₁
  | some v=>wpAny (model prog w) A (letOwnedTupleGo target it v) (fun _ s₁'=>wpAny (model prog w) A (assign target env v) (fun _ s₂=>
   wpAny (model prog w) A (forIn ifs true fun c r=>if r=true then do let ok <-isTrue c env (eval c env);pure (ForInStep.yield ok) else pure (ForInStep.yield r)) (fun ok s₃=>
    if ok=true then wpAny (model prog w) A (eval elt env) (fun x s₄=>
     wpAny (model prog w) A (call (.builtin "list.append") [acc,x]) (fun _ s₅=>∃m,m<n/\I m s₅) (fun _ _=>False) s₄) (fun _ _=>False) s₃
    else ∃m,m<n/\I m s₃) (fun _ _=>False) s₂) (fun _ _=>False) s₁') (fun _ _=>False) s₁) (fun _ _=>False) s)
 (n)(h:I n s):codeAny (model prog w) A (.compLoop (.ListComp elt [⟨target,iter,ifs,0⟩] scope pos) 0 it acc env) R s:=by
 refine codeAny_loop rfl I (fun n s hI=>?_) n h;show wpAny _ A ((compTurn (.ListComp elt [⟨target,iter,ifs,0⟩] scope pos) 0 it acc env).onRaise (fun x=>do noteFrame x env;theTreesLotGoes x)) _ _ s
 refine wpAny_noted ?_;rw[compTurn_list];refine zA (wpAny_standAt (zA (CM (turn n s hI) (fun r s₁ h₁=>?_) fun _ _ h'=>h'.elim)));cases r with
 | none=>exact zE h₁
 | some v=>
  refine zA (CM h₁ (fun _ s₁' h₁'=>?_) fun _ _ h'=>h'.elim);refine zA (CM h₁' (fun _ s₂ h₂=>zA (CM h₂ (fun ok s₃ h₃=>?_) fun _ _ h'=>h'.elim)) fun _ _ h'=>h'.elim);cases ok with
  | false=>exact zE ⟨rfl,h₃⟩
  | true=>exact zA (zA (CM h₃ (fun x s₄ h₄=>zA (CM h₄ (fun _ s₅ h₅=>zE (zE ⟨rfl,h₅⟩)) fun _ _ h'=>h'.elim)) fun _ _ h'=>h'.elim))
def Mx (X:Cx)(ifs:List Expr)(t:TT):Prop:=
 ∀pins s σ H Q,AA X pins σ H s->t σ H Q ->
  wpAny (model X.prog X.w) X.A (forIn ifs true fun c r=>if r=true then do let ok <-isTrue c X.env (eval c X.env);pure (ForInStep.yield ok) else pure (ForInStep.yield r)) (TP X pins σ Q) X.xe s
def Ph:TT:=fun _ H Q=>Q true H
theorem BH {A B:Hp->Prop}(h:A H):Ph σ H (fun b H3=>if b=true then A H3 else B H3):=by
 show (if true=true then A H else B H)
 exact Aw h
theorem BI :Mx X [] Ph:=fun _ _ _ H _ I h=>wpAny_tests_nil ⟨H,I,h⟩
theorem Cn (h:PT X c t):Mx X [c] t:=fun pins s σ H Q I q=>wpAny_tests_one (h pins s σ H Q I q)
noncomputable def BA (cells:List (Str×Addr)):List (Str×NameKind)->List (Str×Addr)->List (Str×Addr)
 | [],acc=>acc
 | (n,k)::r,acc=>if (k == .free)=true then (match cells.lookup n with | some c=>BA cells r ((n,c)::acc) | none=>BA cells r acc) else BA cells r acc
theorem Q4 :∀names acc,(BA cells names acc).lookup x=some c->acc.lookup x=some c\/cells.lookup x=some c
 | [],acc,h=>.inl h
 | (n,k)::r,acc,h=>by
  unfold BA at h;split at h
  . cases hc:cells.lookup n with
    | none=>rw[hc] at h;exact Q4 r acc h
    | some c'=>
     rw[hc] at h;rcases Q4 r _ h with q | q
     . rw[Hm] at q;cases hx:x==n with
       | true=>
        rw[hx] at q;have e:x=n:=by simpa using hx
        have e2:c'=c:=by simpa using q
        rw[e,hc,e2];exact .inr rfl
       | false=>rw[hx] at q;exact .inl q
     . exact .inr q
  . exact Q4 r acc h
theorem Rz :∀names acc,(∃c,acc.lookup x=some c)->∃c,(BA cells names acc).lookup x=some c
 | [],acc,h=>h
 | (n,k)::r,acc,h=>by
  unfold BA;split
  . cases hc:cells.lookup n with
    | none=>exact Rz r acc h
    | some c'=>
     refine Rz r _ ?_;rw[Hm];cases hx:x==n with
     | true=>exact⟨c',rfl⟩
     | false=>exact h
  . exact Rz r acc h
theorem Nt (hx:∃c,cells.lookup x=some c):∀names acc,(x,NameKind.free)∈names->∃c,(BA cells names acc).lookup x=some c
 | [],acc,h=>by simp at h
 | (n,k)::r,acc,h=>by
  rcases zX.mp h with e | h
  . cases e;obtain⟨c,hc⟩:=hx;unfold BA;rw[if_pos (by rfl),hc];exact Rz r _ ⟨c,by rw[Hm];simp⟩
  . unfold BA;split
    . cases hc:cells.lookup n with
      | none=>exact Nt hx r acc h
      | some c'=>exact Nt hx r _ h
    . exact Nt hx r acc h
theorem UP :∀names acc,(∀y∈names,y.2=.free->∃c,env.cells.lookup y.1=some c) ->
 (forIn names acc fun (x:Str×NameKind)(cs:List (Str×Addr))=>(if (x.2 == .free)=true then (do let a <-cellOf env x.1;pure (ForInStep.yield ((x.1,a)::cs))) else pure (ForInStep.yield cs):Sem (ForInStep (List (Str×Addr)))))=pure (BA env.cells names acc)
 | [],acc,_=>rfl
 | (n,k)::r,acc,h=>by
  rw[List.forIn_cons];have hr:∀y∈r,y.2=.free->∃c,env.cells.lookup y.1=some c:=fun y hy=>h y (zZ _ hy);unfold BA;cases hk:(k==NameKind.free) with
  | true=>obtain⟨c,hc⟩:=h (n,k) zS (by simpa using hk);simp only[hk,if_true,cellOf,hc,pure_bind];exact UP r _ hr
  | false=>simp only[hk,Jc,if_false,pure_bind];exact UP r _ hr
theorem WK (h:∀y∈scope.names,y.2=.free->∃c,env.cells.lookup y.1=some c):closureFor scope env=pure (BA env.cells scope.names []):=by have e:=UP scope.names [] h;simp only[closureFor];simp only[bind_pure];exact e
theorem Ti {env:Env}:∀(names:List (Str×NameKind)),
 (names.map fun (n,k)=>if (k==NameKind.free && env.scope.kind == .function && env.kindOf n==some .cell) then (n,NameKind.cell) else (n,k)).lookup x =
  (names.lookup x).map fun k=>if (k==NameKind.free && env.scope.kind == .function && env.kindOf x==some .cell)=true then NameKind.cell else k
 | []=>rfl
 | (n,k)::r=>by
  have ih:=Ti (env:=env) (x:=x) r;rw[BJ];show List.lookup x ((if (k==NameKind.free && env.scope.kind == .function && env.kindOf n==some .cell)=true then (n,NameKind.cell) else (n,k))::_)=_
  by_cases c:(k==NameKind.free && env.scope.kind == .function && env.kindOf n==some .cell)=true
  . rw[if_pos c,Hm,Hm];cases hx:x==n with
    | true=>
     have e:x=n:=by simpa using hx
     subst e;show some NameKind.cell=Option.map _ (some k);rw[Fx,if_pos c]
    | false=>exact ih
  . rw[if_neg c,Hm,Hm];cases hx:x==n with
    | true=>
     have e:x=n:=by simpa using hx
     subst e;show some k=Option.map _ (some k);rw[Fx,if_neg c]
    | false=>exact ih
noncomputable def Bj (X:Cx)(pl:CI)(N':List Str)(scope:Scope)(fp:List Addr)(s3:Shared)(H3:Hp):Cx where
 prog:=X.prog
 w:=X.w
 K:=X.K
 mg:=X.mg
 base:=X.base
 A:=X.A
 N:=N'
 s₀:=s3
 H₀:=H3
 env:=compEnvC scope (BA X.env.cells scope.names []) s3.heap.objs.size X.env
 outer:=X.stack
 stack:=X.stack
 ex:=fp
 fn:=fun _=>false
 calm:=X.calm
 pn:=pl
 xe:=fun _ _=>False
def E8 (X:Cx)(scope:Scope):List Str->List Nat->Prop
 | [],[]=>True
 | x::cn,j::ci=>X.N[j]?=some x/\X.env.kindOf x=some .cell/\scope.names.lookup x=some .free/\E8 X scope cn ci
 | _,_=>False
theorem E8.get :∀{cn:List Str}{ci:List Nat}{k:Nat}{x:Str},E8 X scope cn ci->cn[k]?=some x->∃j,ci[k]?=some j/\X.N[j]?=some x/\X.env.kindOf x=some .cell/\scope.names.lookup x=some .free
 | [],_,_,_,_,h=>by simp at h
 | _::_,[],_,_,c,_=>c.elim
 | y::cn,j::ci,0,x,c,h=>by
  obtain⟨a,b,b',_⟩:=c;have e:y=x:=by simpa using h
  subst e;exact⟨j,rfl,a,b,b'⟩
 | y::cn,j::ci,k+1,x,c,h=>by obtain⟨j',h1,h2⟩:=E8.get (k:=k) c.2.2.2 (by simpa using h);exact⟨j',by simpa using h1,h2⟩
structure Gf (X:Cx)(scope:Scope):Prop where
 kind:scope.kind=.function
 nocell:∀y∈scope.names,y.2 ≠ .cell
 names:∀y∈scope.names,y.2=.local->scope.names.lookup y.1=some .local
 free:∀y∈scope.names,y.2=.free->X.env.kindOf y.1=some .cell
section
variable {X:Cx}{pins:CI}{σ:St}{H3:Hp}{s3:Shared}{scope:Scope}{fp:List Addr}{N' own cn:List Str}{ci:List Nat}{cv:List V}
theorem Vh (ok:X.Ok)(S:Gf X scope)(h:(relabel scope X.env).names.lookup x=some .cell\/(relabel scope X.env).names.lookup x=some .free):
 ∃c,(BA X.env.cells scope.names []).lookup x=some c:=by
 have e:(relabel scope X.env).names.lookup x=(scope.names.lookup x).map fun k=>if (k==NameKind.free && X.env.scope.kind == .function && X.env.kindOf x==some .cell)=true then NameKind.cell else k:=Ti scope.names
 have hf:scope.names.lookup x=some .free:=by
  cases q:scope.names.lookup x with
  | none=>rw[e,q] at h;simp at h
  | some k=>
   by_cases hk:k=.free
   . rw[hk]
   . have hb:(k==NameKind.free)=false:=by simpa using hk
     rw[e,q] at h;simp only[Fx,hb,Bool.false_and,Jc,if_false,Option.some.injEq] at h;rcases h with h | h
     . exact absurd h (S.nocell _ (PySem.mem_of_lookup q))
     . exact absurd h hk
 exact Nt (ok.has x (.inl (S.free _ (PySem.mem_of_lookup hf) rfl))) scope.names [] (PySem.mem_of_lookup hf)
theorem Ez (h:(BA X.env.cells scope.names []).lookup x=some c):X.env.cells.lookup x=some c:=by
 rcases Q4 _ _ h with q | q
 . simp at q
 . exact q
theorem bo (I:AA X pins σ H3 s3)(S:Gf X scope)(f:∀b∈fp,BP X pins H3 b)(fz:∀b∈fp,b<s3.heap.objs.size):(Bj X (X.pn++pins) N' scope fp s3 H3).Ok where
 mod:=I.ok.mod
 kind:=S.kind
 glob:=I.ok.glob
 blt:=I.ok.blt
 above:=zI _
 inj:=fun x y c h1 h2=>I.ok.inj x y c (Ez h1) (Ez h2)
 has:=fun x h=>Vh I.ok S h
 cab:=fun x c h=>by cases h
 hd:=I.ok.hd
 frames:=I.ok.frames
 stk:=.inl rfl
 exf:=fun b hb=>⟨zj (fz b hb),fun x c h=>(f b hb).2.2.2.2.1 x c (Ez h)⟩
 bs:=I.bs
 bsz:=Cq I.ok.bsz I.sz
 noex:=fun b o e hb=>by
  rcases (f b hb).2.2.2.1 with z | z
  . exact I.ok.noex b o e z
  . exact absurd (zx (zd e) (Cq I.ok.bsz z)) (E5 _)
 exfs:=fun b hb z=>by
  rcases zX.mp (I.stkSub b z) with q | q
  . exact (f b hb).2.1 q
  . exact (f b hb).2.2.1 q
 funs:=I.stack
 frf:=I.stkFree
theorem d7 (I:AA X pins σ H3 s3)(S:Gf X scope)(f:∀b∈fp,BP X pins H3 b)(fz:∀b∈fp,b<s3.heap.objs.size)
 (hN:N'=own++cn)(hc:E8 X scope cn ci)(hv:ci.map (fun j=>σ[j]?)=cv.map fun v=>some (some v))(hl:cn.length=ci.length)
 (hns:h1.Ns s3.heap.objs.size (fun _=>none))(hk:∀b o,s3.heap.get? b=some o->h1.get? b=some o):
 AA (Bj X (X.pn++pins) N' scope fp s3 H3) [] (List.replicate own.length none++cv.map some) H3 { s3 with heap:=h1,toks:=t }:=by
 have lenv:cv.length=ci.length:=by have:=congrArg List.length hv;simpa using this.symm
 refine⟨bo I S f fz,rfl,I.bare,Un.kept hk,⟨_,hns,fun i x v e1 e2 e3=>?_⟩,fun x c e=>?_,I.hok.fresh (zI _),fun x c e=>I.freeC x c (Ez e),fun p hp=>?_,I.hok.kept hk,?_⟩
 . -- a captured name
   have hi:own.length<=i:=by
    by_cases hi:own.length<=i
    . exact hi
    . rw[zc (by simpa using hi),NK] at e2;split at e2 <;> cases e2
   rw[za (by simpa using hi),Ey,zM] at e2;have e1':(own++cn)[i]?=some x:=by rw[<-hN];exact e1
   rw[za hi] at e1';obtain⟨j,hj,hNj,hkx,hfr⟩:=hc.get e1';have hcv:cv[i-own.length]?=some v:=by
    cases q:cv[i-own.length]? with
    | none=>rw[q] at e2;cases e2
    | some v'=>rw[q] at e2;cases e2;rfl
   have hσ:σ[j]?=some (some v):=by have:=congrArg (fun l:List (Option (Option V))=>l[i-own.length]?) hv;simp only[zM,hj,hcv,Fx,Option.some.injEq] at this;exact this
   obtain⟨m,_,gm⟩:=I.loc;obtain⟨u,r,q⟩:=gm j x v hNj hσ (.inr (.inl hkx));have hkd:(relabel scope X.env).names.lookup x=some .cell\/(relabel scope X.env).names.lookup x=some .free:=by
    have e:(relabel scope X.env).names.lookup x=(scope.names.lookup x).map fun k=>if (k==NameKind.free && X.env.scope.kind == .function && X.env.kindOf x==some .cell)=true then NameKind.cell else k:=Ti scope.names
    rw[e,hfr,Fx];by_cases cc:(NameKind.free==NameKind.free && X.env.scope.kind == .function && X.env.kindOf x==some .cell)=true
    . rw[if_pos cc];exact .inl rfl
    . rw[if_neg cc];exact .inr rfl
   obtain⟨c',jj⟩:=Vh I.ok S hkd;refine⟨u,r,.inr ⟨hkd,c',jj,?_⟩⟩;rcases q with ⟨z,_⟩ | ⟨_,c,hcc,o,ho,hd⟩
   . rw[hkx] at z;cases z
   . have e:c=c':=zV (hcc.symm.trans (Ez jj));subst e;exact⟨o,hk c o ho,hd⟩
 . obtain⟨v,o,ho,hd⟩:=I.cell x c (Ez e);exact⟨v,o,hk c o ho,hd⟩
 . have hp':p∈X.pn++pins:=by rw[BR] at hp;exact hp
   obtain⟨e,n,ne,nf,d⟩:=I.pin p hp';refine⟨hk _ _ e,n,zj (zd e),fun z=>?_,d⟩;rcases zX.mp (I.stkSub p.1 z) with q | q
   . exact ne q
   . exact nf q
 . show (List.replicate own.length none++cv.map some).length=N'.length;rw[hN,zJ,zJ,Ey,zB,lenv,hl]
def OB (J:It)(own:Nat)(cv:List V)(g:TG)(ti:TT)(te:TE)(D:Addr)(H1:Hp)(Q:VK):Prop:=∃W:Nat->Nat->List V->Hp->Prop,(∃m,W 0 m [] (upd H1 D (.lst [])))/\∀i m ys H,W i m ys H ->
 (J.stop i H/\Q (.ref D) H)\/(J.go i H/\ys.length<sizeLine/\∃N:List V->Hp->Prop,(∀jo H',N jo H'->∃m',m'<m/\W (i+1) m' jo H') /\
  ∀x H',J.yld i H x H'->g x (List.replicate own none++cv.map some) H' fun σ2 H2=>(σ2.length=own+cv.length/\σ2.drop own=cv.map some) /\
   ti σ2 H2 fun b H3=>if b=true then te σ2 H3 fun y H4=>H4 D=some (.lst ys)/\N (ys++[y]) (upd H4 D (.lst (ys++[y]))) else N ys H3)
def UX (own:Nat)(ci:List Nat)(wi:TI)(g:TG)(ti:TT)(te:TE):TE:=fun σ H Q=>wi σ H fun J H1=>∃cv:List V,ci.map (fun j=>σ[j]?)=cv.map (fun v=>some (some v)) /\
 ∀D,H1 D=none->OB J own cv g ti te D H1 Q
theorem V3 (iz:X.calm=true)(S:Gf X scope)(hc:E8 X scope cn ci)(hl:cn.length=ci.length)
 (hi:PI X target iter wi)(hg:∀pl fp s3 H3,PG (Bj X pl (own++cn) scope fp s3 H3) target g)(ht:∀pl fp s3 H3,Mx (Bj X pl (own++cn) scope fp s3 H3) ifs ti)
 (he:∀pl fp s3 H3,PE (Bj X pl (own++cn) scope fp s3 H3) elt te)(hs:∀x,foldedSetIterable iter X.env x=pure x)(I:AA X pins σ H s)(h:UX own.length ci wi g ti te σ H Q)
 (fin:∀D C H5 s6 m6,AA X pins σ H5 s6->s6.heap.Ns C m6->H5 C=none->C≠X.env.locals->X.s₀.heap.objs.size<=C->(∀x c,X.env.cells.lookup x=some c->c≠C) ->
  (∀p∈X.pn++pins,p.1≠C)->Q (.ref D) H5->compPost (model X.prog X.w) X.A X.xe use Q0 (.ref D) C (.ok .next) s6):
 wpAny (model X.prog X.w) X.A (comprehension (.ListComp elt [⟨target,iter,ifs,0⟩] scope pos) scope X.env gG (newList []) false (eval iter X.env) use) Q0 X.xe s:=by
 have jF:closureFor scope X.env=pure (BA X.env.cells scope.names []):=WK fun y hy hf=>I.ok.has y.1 (.inl (S.free y hy hf));refine wpAny_comprehension_free (use:=use) rfl hs jF S.kind S.names ?_;refine AM (hi pins s σ H _ I h) fun v s1 h1=>AM h1 fun itv s2 h2=>?_;obtain⟨it,fp,tn,J,H2,e,I2,T,st2,f2,cv,hv,hD⟩:=h2;subst e;have lenv:cv.length=ci.length:=by have:=congrArg List.length hv;simpa using this.symm
 have I3:=I2.lnew (ys:=[]) (its:=[]) (t':=s2.toks) .nil (zg _);obtain⟨W,⟨m0,w0⟩,turn⟩:=hD s2.heap.objs.size I2.fresh;have fz:∀b∈fp,b<s2.heap.objs.size:=fun b hb=>by obtain⟨o,ho,_⟩:=T.obj _ _ st2 b hb;exact zd ho
 refine EX ?_;refine wpAny_newFunctionEnv S.nocell (by intro y hy;simp at hy) (fun h4 hns4 hsb4=>?_) S.kind;generalize hs3:({ s2 with heap:=s2.heap.push { cls:=.type "list",dict:=none,data:=.seq ([]:List Value).toArray } }:Shared)=s3 at hns4 hsb4 ⊢;have I3':AA X pins σ (upd H2 s2.heap.objs.size (.lst [])) s3:=by rw[<-hs3];exact I3
 have hsz3:s3.heap.objs.size=s2.heap.objs.size+1:=by rw[<-hs3];exact C2 ..
 have k23:∀b o,s2.heap.get? b=some o->s3.heap.get? b=some o:=fun b o e=>by rw[<-hs3];exact zG _ e
 have k34:∀b o,s3.heap.get? b=some o->h4.get? b=some o:=fun b o e=>hsb4.extBut b o (zj (zd e)) (zG _ e);have nD:∀b∈fp,b≠s2.heap.objs.size:=fun b hb=>zj (fz b hb);have f3:∀b∈fp,BP X pins (upd H2 s2.heap.objs.size (.lst [])) b:=fun b hb=>⟨by rw[zf (nD b hb)];exact (f2 b hb).1,(f2 b hb).2⟩;have fz3:∀b∈fp,b<s3.heap.objs.size:=fun b hb=>by rw[hsz3];exact Dp (fz b hb)
 have I4:AA (Bj X (X.pn++pins) (own++cn) scope fp s3 (upd H2 s2.heap.objs.size (.lst []))) [] (List.replicate own.length none++cv.map some) (upd H2 s2.heap.objs.size (.lst [])) { s3 with heap:=h4,toks:=s3.toks+([]:List (Str×Value)).length }:=
  d7 I3' S f3 fz3 rfl hc hv hl hns4 k34
 have st4:tn 0 h4:=T.keep _ _ _ st2 fun b hb o e=>k34 b o (k23 b o e);generalize hX:Bj X (X.pn++pins) (own++cn) scope fp s3 (upd H2 s2.heap.objs.size (.lst []))=X' at I4;have hg':PG X' target g:=by rw[<-hX];exact hg _ _ _ _
 have ht':Mx X' ifs ti:=by rw[<-hX];exact ht _ _ _ _
 have jS:PE X' elt te:=by rw[<-hX];exact he _ _ _ _
 have ePr:X'.prog=X.prog:=by rw[<-hX];rfl
 have eW:X'.w=X.w:=by rw[<-hX];rfl
 have eK:X'.K=X.K:=by rw[<-hX];rfl
 have eA:X'.A=X.A:=by rw[<-hX];rfl
 have eE:X'.env=compEnvC scope (BA X.env.cells scope.names []) s3.heap.objs.size X.env:=by rw[<-hX];rfl
 have eXe:X'.xe=fun _ _=>False:=by rw[<-hX];rfl
 have eC:X'.calm=true:=by rw[<-hX];exact iz
 have eex:X'.ex=fp:=by rw[<-hX];rfl
 have epn:X'.pn=X.pn++pins:=by rw[<-hX];rfl
 have es0:X'.s₀=s3:=by rw[<-hX];rfl
 have eH0:X'.H₀=upd H2 s2.heap.objs.size (.lst []):=by rw[<-hX];rfl
 have efs:X'.fs=De X.stack:=by rw[<-hX];rfl
 have ok':=I4.ok;have i9:∀{H':Hp},(∀b∈fp,H' b=none)->∀b∈fp,BP X' [] H' b:=fun hn b hb=>by
  have iU:b∈X'.ex:=by rw[eex];exact hb
  refine⟨hn b hb,(ok'.exf b iU).1,ok'.exfs b iU,.inl iU,(ok'.exf b iU).2,fun p hp=>?_⟩;rw[epn,BR] at hp;exact (f2 b hb).2.2.2.2.2 p hp
 have wk:∀(σ2:St),(σ2.length=own.length+cv.length/\σ2.drop own.length=cv.map some)->∀{pl:CI}{H':Hp}{s':Shared},AA X' pl σ2 H' s'->AA X' pl (List.replicate own.length none++cv.map some) H' s':=fun σ2 hq pl H' s' I'=>by
  refine I'.weak (by rw[hq.1,zJ,Ey,zB]) fun i v hi=>?_;by_cases gD:i<own.length
  . rw[zc (by simpa using gD),NK] at hi;split at hi <;> cases hi
  . rw[za (by simpa using gD),Ey,<-hq.2,List.getElem?_drop] at hi;rw[show own.length+(i-own.length)=i by lia] at hi;exact hi
 have loop:codeAny (model X.prog X.w) X.A (.compLoop (.ListComp elt [⟨target,iter,ifs,0⟩] scope pos) 0 (.ref it) (.ref s2.heap.objs.size) (compEnvC scope (BA X.env.cells scope.names []) s3.heap.objs.size X.env))
  (compPost (model X.prog X.w) X.A X.xe use Q0 (.ref s2.heap.objs.size) s3.heap.objs.size) { s3 with heap:=h4,toks:=s3.toks+([]:List (Str×Value)).length }:=by
  refine ZW (fun n s'=>∃i ys H',AA X' [] (List.replicate own.length none++cv.map some) H' s'/\tn i s'.heap/\(∀b∈fp,H' b=none)/\W i n ys H') ?_ m0
   ⟨0,[],_,I4,st4,fun b hb=>(f3 b hb).1,w0⟩
  rintro n s5 ⟨i,ys,H5,I5,st5,fr5,w5⟩;rcases turn i n ys H5 w5 with ⟨stop,qn⟩ | ⟨go,hsz,N,hN,step⟩
  . have d:=T.done X' ePr eW eK eC i [] s5 _ H5 (fun _ _=>False) I5 (i9 fr5) st5 stop;rw[eA] at d;refine AM d fun r s6 ⟨hr,I6⟩=>?_;subst hr;obtain⟨m6,hn6,_⟩:=I6.loc;rw[eE] at hn6;have hn6':s6.heap.Ns s3.heap.objs.size m6:=hn6;have un6:Un (De X.stack) fp (upd H2 s2.heap.objs.size (.lst [])) H5 s3.heap s6.heap:=by have b6:=I6.base;rw[efs,eex,eH0,es0] at b6;exact b6
    have os6:s6.os=s3.os:=by have o6:=I6.os;rw[es0] at o6;exact o6
    have hok6:A7 X.prog X.w H5 s6.heap:=by have o6:=I6.hok;rw[ePr,eW] at o6;exact o6
    have I7:AA X pins σ H5 s6:=I3'.call' (ch:=fp) os6 un6 hok6 I6.bare fun b hb=>⟨(f2 b hb).2.2.2.1,(f2 b hb).2.1,(f2 b hb).2.2.2.2.1,(f2 b hb).2.2.2.2.2⟩;have fr6:H5 s3.heap.objs.size=none:=by have q:=I6.free;rw[eE] at q;exact q
    refine fin s2.heap.objs.size s3.heap.objs.size H5 s6 m6 I7 hn6' fr6 (Nat.ne_of_gt I3'.lt) I3'.sz (fun x c e=>?_) (fun p hp=>?_) qn
    . obtain⟨_,o,ho,_⟩:=I3'.cell x c e;exact zj (zd ho)
    . exact zj (zd (I3'.pin p hp).1)
  . have d:=T.item X' ePr eW eK eC i [] s5 _ H5 (fun _ _=>False) I5 (i9 fr5) st5 go;rw[eA] at d;refine AM d fun r s6 ⟨u,hr,h6⟩=>?_;subst hr;refine AM h6 fun _ s7 ⟨x,H7,I7,r7,y7,st7,fr7⟩=>?_;have I7':=I7.pinned (i9 fr7) (T.obj _ _ st7);have g7:=hg' _ s7 _ H7 x u _ I7' r7 (step x H7 y7);rw[ePr,eW,eA,eE,eXe] at g7;refine AM g7 fun _ s8 ⟨σ8,H8,I8,q8,ti8⟩=>?_;have t8:=ht' _ s8 σ8 H8 _ I8 ti8;rw[ePr,eW,eA,eE,eXe] at t8;refine AM t8 fun ok s9 ⟨H9,I9,q9⟩=>?_;have again:∀{jo:List V}{H':Hp}{s':Shared},AA X' ([]++NF fp s7.heap) σ8 H' s'->N jo H' ->
     ∃m,m<n/\∃i ys H',AA X' [] (List.replicate own.length none++cv.map some) H' s'/\tn i s'.heap/\(∀b∈fp,H' b=none)/\W i m ys H':=fun {jo H' s'} I' n'=>by
     obtain⟨m',hm,w'⟩:=hN jo H' n';refine⟨m',hm,i+1,jo,H',(wk σ8 q8 I').unpinned,T.keep _ _ _ st7 fun b hb o e=>(I'.pin (b,o) (C3 _ (C3 _ (Ra hb e)))).1,fun b hb=>?_,w'⟩;obtain⟨o,e,_⟩:=T.obj _ _ st7 b hb;exact (I'.pin (b,o) (C3 _ (C3 _ (Ra hb e)))).2.1
    cases ok with
    | false=>exact again I9 q9
    | true=>have e9:=jS _ s9 σ8 H9 _ I9 q9;rw[ePr,eW,eA,eE,eXe] at e9;refine AM e9 fun u10 s10 ⟨y,H10,I10,r10,hD10,n10⟩=>?_;have a10:=HB (X:=X') _ s10 σ8 H10 (.ref s2.heap.objs.size) [y] (.ref s2.heap.objs.size) [u10] (fun _ H'=>N (ys++[y]) H') I10 rfl (.cons r10 .nil) ⟨_,_,_,rfl,rfl,hD10,hsz,n10⟩;rw[ePr,eW,eA,eXe] at a10;exact AM a10 fun _ s11 ⟨_,H11,I11,_,n11⟩=>again I11 n11
 exact codeAny_compStart_list loop (T.self X.A 0 _ _ _ st4 loop)
theorem A0 (iz:X.calm=true)(S:Gf X scope)(hc:E8 X scope cn ci)(hl:cn.length=ci.length)
 (hi:PI X target iter wi)(hg:∀pl fp s3 H3,PG (Bj X pl (own++cn) scope fp s3 H3) target g)(ht:∀pl fp s3 H3,Mx (Bj X pl (own++cn) scope fp s3 H3) ifs ti)
 (he:∀pl fp s3 H3,PE (Bj X pl (own++cn) scope fp s3 H3) elt te)(hs:∀x,foldedSetIterable iter X.env x=pure x:=by intro _;rfl):
 PE X (.ListComp elt [⟨target,iter,ifs,0⟩] scope pos) (UX own.length ci wi g ti te):=by
 intro pins s σ H Q I h;rw[eval_ListComp];exact V3 iz S hc hl hi hg ht he hs I h fun D C H5 s6 m6 I7 hn fr nL ge nC nP q=>⟨m6,hn,fun h' jP=>⟨.ref D,H5,I7.turned (t':=s6.toks) (it:=C) (fun b o hb e=>jP.extBut b o hb e) fr nL (.inr ge) nC nP,rfl,q⟩⟩
theorem IE (hN:X.N.Nodup)(hix:X.N[i]?=some x)(hx:HF X.env.scope x)(iz:X.calm=true)(S:Gf X scope)(hc:E8 X scope cn ci)(hl:cn.length=ci.length)
 (hi:PI X target iter wi)(hg:∀pl fp s3 H3,PG (Bj X pl (own++cn) scope fp s3 H3) target g)(ht:∀pl fp s3 H3,Mx (Bj X pl (own++cn) scope fp s3 H3) ifs ti)
 (he:∀pl fp s3 H3,PE (Bj X pl (own++cn) scope fp s3 H3) elt te)(hs:∀x,foldedSetIterable iter X.env x=pure x:=by intro _;rfl)
 (hsw:swapsWith (.ListComp elt [⟨target,iter,ifs,0⟩] scope gG) (some (.Name x pos')) pos.line X.env=pure true:=by rfl)
 (hf:X.fn x=true\/X.env.scope.names.lookup x=some .local:=by first | exact .inl rfl | exact .inr rfl | assumption):
 PS X (.Assign [.Name x pos'] (.ListComp elt [⟨target,iter,ifs,0⟩] scope gG) pos) (HH (UX own.length ci wi g ti te) (J4 i)):=by
 intro pins s σ H D I h;rw[exec_Assign_Name_used _ _ _ _ hsw];refine zA (wpAny_standAt (zA ?_));show wpAny _ X.A (do let _ <-comprehension (.ListComp elt [⟨target,iter,ifs,0⟩] scope gG) scope X.env _ (newList []) false (eval iter X.env) (some (assign (.Name x pos') X.env))) _ _ s
 refine zA (CM (V3 (use:=some (assign (.Name x pos') X.env)) (Q0:=fun _ s'=>SP X pins D .next s') iz S hc hl hi hg ht he hs I h (fun D' C H5 s6 m6 I7 hn fr nL ge nC nP q=>?_)) (fun _ s' hq=>zE (zE hq)) fun _ _ e=>e);obtain⟨oC,es,ep,hoC,hd,r1⟩:=hn;have nf:C∉X.fs:=fun hb=>by obtain⟨_,o,ho,_⟩:=I7.ok.funs.mem hb;exact absurd (zx (zd ho) ge) (E5 _)
 have I7':AA X (pins++[(C,oC)]) σ H5 s6:=I7.pins_of fun p hp=>by
  rcases zU.mp hp with z | z
  . exact I7.pin p (C3 _ z)
  . rw[zi.mp z];exact⟨hoC,fr,nL,nf,fun v e=>by rw[hd] at e;cases e⟩
 show wpAny _ X.A (assign (.Name x pos') X.env (.ref D')) _ _ s6;refine wpAny_assign_Name (RG I7' hN hix hx (show AS (.ref D') (.ref D') from rfl) (fun s' I'=>?_) hf);have hC':=(I'.pin (C,oC) (C3 _ (C3 _ (zi.mpr rfl)))).1;refine⟨m6,⟨oC,es,ep,hC',hd,r1⟩,fun h' jP=>⟨_,H5,?_,q⟩⟩;have I2:AA X pins (σ.set i (some (.ref D'))) H5 s':=I'.pins_of fun p hp=>I'.pin p (C3 _ (Di _ hp));exact I2.turned (t':=s'.toks) (it:=C) (fun b o hb e=>jP.extBut b o hb e) fr nL (.inr ge) nC nP
end
noncomputable def Qh (outer inner:Scope):Bool:=inner.names.all fun y=>(y.2 != .cell) && (y.2 != .local || inner.names.lookup y.1==some .local) && (y.2 != .free || outer.names.lookup y.1==some .cell)
theorem An (hk:scope.kind=.function)(h:Qh X.env.scope scope=true):Gf X scope:=by
 have a:=GU.mp h;refine⟨hk,fun y hy e=>?_,fun y hy e=>?_,fun y hy e=>?_⟩
 . have:=a y hy;rw[e] at this;simp at this
 . have:=a y hy;rw[e] at this;simpa using this
 . have:=a y hy;rw[e] at this;have h2:X.env.scope.names.lookup y.1=some .cell:=by simpa using this
   exact h2
theorem Ex {l:List Str}(h:decide l.Nodup=true):l.Nodup:=of_decide_eq_true h
theorem Bg:My (Bj X pl N' sc fp s3 H3) (Ol X.K):=AX
theorem Yu:My (Bj X pl N' sc fp s3 H3) (Pd X.K):=BU
theorem Mn (hc:X.calm=true)(h:OW (Bj X pl N' sc fp s3 H3) es t)
 (hn:(assignEach es (Bj X pl N' sc fp s3 H3).env).length=n:=by rfl)(hst:(assignEach es (Bj X pl N' sc fp s3 H3).env).findIdx? (·.1)=none:=by rfl):PG (Bj X pl N' sc fp s3 H3) (.Tuple es k pos) (Pn X.K n t):=Ml hc h hn hst
theorem TY:A2 (Bj X pl N' sc fp s3 H3) (compareOp .NotIn) (VA X.K true):=Q8
theorem DM {K:AO}(Pv:Nat->List V->Hp->Prop)(h0:Pv 0 [] (upd H1 D (.lst [])))(hl:∀i ys H,Pv i ys H->AE K H a xs)(hz:∀i ys H,Pv i ys H->ys.length<sizeLine)
 (hs:∀i x ys H,xs[i]?=some x->Pv i ys H->g x (List.replicate own none++cv.map some) H fun σ2 H2=>(σ2.length=own+cv.length/\σ2.drop own=cv.map some) /\
  ti σ2 H2 fun b H3=>if b=true then te σ2 H3 fun y H4=>H4 D=some (.lst ys)/\Pv (i+1) (ys++[y]) (upd H4 D (.lst (ys++[y]))) else Pv (i+1) ys H3)
 (hd:∀ys H,Pv xs.length ys H->Q (.ref D) H):
 OB (M5 K a) own cv g ti te D H1 Q:=by
 refine⟨fun i m ys H=>m=xs.length-i/\i<=xs.length/\Pv i ys H,⟨xs.length,rfl,zg _,h0⟩,?_⟩;rintro i m ys H ⟨rfl,hi,p⟩;have q:=hl i ys H p;by_cases gD:i<xs.length
 . refine .inr ⟨⟨xs,xs[i],q,by simp[gD]⟩,hz i ys H p,Pv (i+1),fun jo H' p'=>⟨xs.length-(i+1),by lia,rfl,gD,p'⟩,fun x H' y=>?_⟩;obtain⟨e,y⟩:=y;subst e;exact hs i x ys _ (y xs q) p
 . have e:i=xs.length:=by lia
   subst e;exact .inl ⟨⟨xs,q,zI _⟩,hd ys H p⟩
theorem C8 {K:AO}(Pv:Nat->List V->Hp->Prop)(h0:Pv 0 [] (upd H1 D (.lst [])))(hl:∀i ys H,Pv i ys H->AB K H a xs)(hz:∀i ys H,Pv i ys H->ys.length<sizeLine)
 (hs:∀i x ys H,xs[i]?=some x->Pv i ys H->g x (List.replicate own none++cv.map some) H fun σ2 H2=>(σ2.length=own+cv.length/\σ2.drop own=cv.map some) /\
  ti σ2 H2 fun b H3=>if b=true then te σ2 H3 fun y H4=>H4 D=some (.lst ys)/\Pv (i+1) (ys++[y]) (upd H4 D (.lst (ys++[y]))) else Pv (i+1) ys H3)
 (hd:∀ys H,Pv xs.length ys H->Q (.ref D) H):
 OB (M7 K a) own cv g ti te D H1 Q:=by
 refine⟨fun i m ys H=>m=xs.length-i/\i<=xs.length/\Pv i ys H,⟨xs.length,rfl,zg _,h0⟩,?_⟩;rintro i m ys H ⟨rfl,hi,p⟩;have q:=hl i ys H p;by_cases gD:i<xs.length
 . refine .inr ⟨⟨xs,xs[i],q,by simp[gD]⟩,hz i ys H p,Pv (i+1),fun jo H' p'=>⟨xs.length-(i+1),by lia,rfl,gD,p'⟩,fun x H' y=>?_⟩;obtain⟨e,y⟩:=y;subst e;exact hs i x ys _ (y xs q) p
 . have e:i=xs.length:=by lia
   subst e;exact .inl ⟨⟨xs,q,zI _⟩,hd ys H p⟩
theorem Dv {lo:Int}(Pv:Nat->List V->Hp->Prop)(h0:Pv 0 [] (upd H1 D (.lst [])))(hz:∀i ys H,Pv i ys H->ys.length<sizeLine)
 (hs:∀i ys H,i<n->Pv i ys H->g (.int (lo+i)) (List.replicate own none++cv.map some) H fun σ2 H2=>(σ2.length=own+cv.length/\σ2.drop own=cv.map some) /\
  ti σ2 H2 fun b H3=>if b=true then te σ2 H3 fun y H4=>H4 D=some (.lst ys)/\Pv (i+1) (ys++[y]) (upd H4 D (.lst (ys++[y]))) else Pv (i+1) ys H3)
 (hd:∀ys H,Pv n ys H->Q (.ref D) H):
 OB (II lo n) own cv g ti te D H1 Q:=by
 refine⟨fun i m ys H=>m=n-i/\i<=n/\Pv i ys H,⟨n,rfl,zg _,h0⟩,?_⟩;rintro i m ys H ⟨rfl,hi,p⟩;by_cases gD:i<n
 . refine .inr ⟨gD,hz i ys H p,Pv (i+1),fun jo H' p'=>⟨n-(i+1),by lia,rfl,gD,p'⟩,fun x H' y=>?_⟩;obtain⟨e,y⟩:=y;subst e;subst y;exact hs i ys _ gD p
 . have e:i=n:=by lia
   subst e;exact .inl ⟨zI _,hd ys H p⟩
end L2
namespace SortT
open PySem.W PyProof.Rows
noncomputable def ev {α:Type}(lt:Nat->Nat->Bool):KasT α->α
 | .ret a=>a
 | .ask i j k=>ev lt (k (lt i j))
theorem Mb (lt:Nat->Nat->Bool)(f:α->KasT β):∀t:KasT α,ev lt (t.bind f)=ev lt (f (ev lt t))
 | .ret _=>rfl
 | .ask i j k=>Mb lt f (k (lt i j))
section
variable {O:KeyOrd}{key:Nat->O.α}
noncomputable def kk (key:Nat->O.α)(p:Array Nat)(i:Nat):O.α:=key (p.getD i 0)
def Sr (key:Nat->O.α)(p:Array Nat)(n:Nat):Prop:=∀i j,i<=j->j<n->O.kle (kk key p i) (kk key p j)
def Fl (key:Nat->O.α)(p:Array Nat)(n:Nat):Prop:=∀i j,i<=j->j<n->O.kle (kk key p j) (kk key p i)
theorem OG (h:p[i]?=q[j]?):kk key p i=kk key q j:=by unfold kk;rw[Array.getD_eq_getD_getElem?,Array.getD_eq_getD_getElem?,h]
theorem Tu (hj:j<=p.size)(k):kk key (kas_rev p i j) k=if i<=k/\k<j then kk key p (i+j-1-k) else kk key p k:=by
 have e:=getElem?_mirror_all (i:=i) hj k;unfold kas_rev;by_cases h1:i<=k/\k<j
 . rw[if_pos h1] at e ⊢;exact OG e
 . rw[if_neg h1] at e ⊢;exact OG e
theorem Td (hj:j<=p.size)(he:∀k,i<=k->k<j->kk key p k=kk key p (j-1))(k):kk key (kas_rev p i j) k=kk key p k:=by
 rw[Tu hj];split
 . rw[he _ (by lia) (by lia),he k (by lia) (by lia)]
 . rfl
theorem WA (hs:src<p.size)(hd:d<=src)(k):
 kk key (bubble p src d) k=if k=src-d then kk key p src else if src-d<k/\k<=src then kk key p (k-1) else kk key p k:=by
 have e:=getElem?_bubble hs d hd k;by_cases h1:k=src-d
 . rw[if_pos h1] at e ⊢;exact OG e
 . rw[if_neg h1] at e ⊢;by_cases h2:src-d<k/\k<=src
   . rw[if_pos h2] at e ⊢;exact OG e
   . rw[if_neg h2] at e ⊢;exact OG e
noncomputable def BW (key:Nat->O.α)(i j:Nat):Bool:=O.blt (key i) (key j)
theorem GH (p)(i j):(kas_rev p i j).Perm p:=mirror_perm _ _ _ _
theorem UH (p)(i j):(kas_rev p i j).size=p.size:=(GH p i j).size_eq
theorem UQ :∀f n,1<=n->Sr key p n->∃m,ev (BW key) (kas_asc p f n)=m/\n<=m/\m<=n+f/\Sr key p m/\(m=n+f\/O.klt (kk key p m) (kk key p (m-1)))
 | 0,n,_,hs=>⟨n,rfl,zI _,zI _,hs,.inl rfl⟩
 | f+1,n,h1,hs=>by
  show ∃m,ev (BW key) (if BW key (p.getD n 0) (p.getD (n-1) 0)=true then KasT.ret n else kas_asc p f (n+1))=m/\_
  cases hl:BW key (p.getD n 0) (p.getD (n-1) 0) with
  | true=>exact⟨n,by simp[ev],zI _,by lia,hs,.inr hl⟩
  | false=>
   have jP:Sr key p (n+1):=fun i j gu hj=>by
    by_cases hjn:j<n
    . exact hs i j gu hjn
    . have hj':j=n:=by lia
      subst hj';by_cases i6:i=j
      . subst i6;exact KeyOrd.kle_refl _
      . exact KeyOrd.kle_trans (hs i (j-1) (by lia) (by lia)) hl
   obtain⟨m,e,a,b,c,d⟩:=UQ f (n+1) (by lia) jP;refine⟨m,by simpa using e,by lia,by lia,c,?_⟩;rcases d with d | d
   . exact .inl (by lia)
   . exact .inr d
theorem Vd (h1:1<=n)(hn:n<=nrem)(hz:nrem<=p.size)(hs:Fl key p n):
 ∃m q,ev (BW key) (kas_tail3 n nrem p)=(m,q)/\q.Perm p/\1<=m/\m<=nrem/\Sr key q m:=by
 unfold kas_tail3;have jP:Sr key (kas_rev p 0 n) n:=fun i j gu hj=>by rw[Tu (by lia),Tu (by lia),if_pos (by lia),if_pos (by lia)];exact hs _ _ (by lia) (by lia)
 obtain⟨m,e,a,b,c,_⟩:=UQ (nrem-n) n h1 jP;exact⟨m,kas_rev p 0 n,by rw[Mb,e];rfl,GH _ _ _,by lia,by lia,c⟩
theorem RZ:∀f n q p,1<=n->n+f<=p.size->Fl key p n->q+1<=n->(∀i,n-(q+1)<=i->i<n->kk key p i=kk key p (n-1)) ->
 ∃p' n' q',ev (BW key) (kas_desc f p n q)=(p',n',q')/\p'.Perm p/\n<=n'/\n'<=n+f/\Fl key p' n'/\q'+1<=n'/\(∀i,n'-(q'+1)<=i->i<n'->kk key p' i=kk key p' (n'-1))
 | 0,n,q,p,_,_,hs,hq,he=>⟨p,n,q,rfl,.refl _,zI _,zI _,hs,hq,he⟩
 | f+1,n,q,p,h1,hz,hs,hq,he=>by
  show ∃p' n' q',ev (BW key) (if BW key (p.getD n 0) (p.getD (n-1) 0)=true then _ else KasT.ask _ _ _)=(p',n',q')/\_
  cases hl:BW key (p.getD n 0) (p.getD (n-1) 0) with
  | true=>
   have step:∀xs:Array Nat,(∀k,kk key xs k=kk key p k)->Fl key xs (n+1):=fun xs hk i j gu hj=>by
    rw[hk,hk];by_cases hjn:j<n
    . exact hs i j gu hjn
    . have hj':j=n:=by lia
      subst hj';by_cases i6:i=j
      . subst i6;exact KeyOrd.kle_refl _
      . exact KeyOrd.kle_trans (KeyOrd.kle_of_klt hl) (hs i (j-1) (by lia) (by lia))
   by_cases hq0:q > 0
   . have hk:=Td (key:=key) (p:=p) (i:=n-(q+1)) (j:=n) (by lia) he;obtain⟨p',n',q',e,a,b,c,d⟩:=RZ f (n+1) 0 (kas_rev p (n-(q+1)) n) (by lia) (by rw[UH];lia) (step _ hk) (by lia) (fun i h1 h2=>by congr 1;lia);exact⟨p',n',q',by simpa [hq0] using e,a.trans (GH _ _ _),by lia,by lia,d⟩
   . obtain⟨p',n',q',e,a,b,c,d⟩:=RZ f (n+1) 0 p (by lia) (by lia) (step _ fun _=>rfl) (by lia) (fun i h1 h2=>by congr 1;lia);exact⟨p',n',q',by simpa [hq0] using e,a,by lia,by lia,d⟩
  | false=>
   show ∃p' n' q',ev (BW key) (if BW key (p.getD (n-1) 0) (p.getD n 0)=true then KasT.ret (p,n,q) else kas_desc f p (n+1) (q+1))=(p',n',q')/\_
   cases hr:BW key (p.getD (n-1) 0) (p.getD n 0) with
   | true=>exact⟨p,n,q,by simp[ev],.refl _,zI _,by lia,hs,hq,he⟩
   | false=>
    have heq:kk key p n=kk key p (n-1):=KeyOrd.kle_antisymm hr hl;have jP:Fl key p (n+1):=fun i j gu hj=>by
     by_cases hjn:j<n
     . exact hs i j gu hjn
     . have hj':j=n:=by lia
       subst hj';by_cases i6:i=j
       . subst i6;exact KeyOrd.kle_refl _
       . rw[heq];exact hs i (j-1) (by lia) (by lia)
    obtain⟨p',n',q',e,a,b,c,d⟩:=RZ f (n+1) (q+1) p (by lia) (by lia) jP (by lia) (fun i h1 h2=>by
     rw[show n+1-1=n by lia];by_cases hix:i=n
     . subst hix;rfl
     . rw[heq];exact he i (by lia) (by lia))
    exact⟨p',n',q',by simpa using e,a,by lia,by lia,d⟩
theorem Vu (hn:n+1<=nrem)(hz:nrem<=p.size)(hs:Fl key p (n+1)):
 ∃m q,ev (BW key) (kas_descPart n nrem p)=(m,q)/\q.Perm p/\1<=m/\m<=nrem/\Sr key q m:=by
 unfold kas_descPart;rw[Mb];obtain⟨p',n',q',e,a,b,c,d,hq,he⟩:=RZ (nrem-(n+1)) (n+1) 0 p (by lia) (by lia) hs (by lia) (fun i h1 h2=>by congr 1;lia);rw[e];dsimp only;have hz':p'.size=p.size:=a.size_eq;by_cases hq0:q' > 0
 . rw[if_pos hq0];have hk:=Td (key:=key) (p:=p') (i:=n'-(q'+1)) (j:=n') (by lia) he;obtain⟨m,r,e2,a2,b2,c2,d2⟩:=Vd (key:=key) (p:=kas_rev p' (n'-(q'+1)) n') (n:=n') (nrem:=nrem) (by lia) (by lia) (by rw[UH];lia) (fun i j gu hj=>by rw[hk,hk];exact d i j gu hj);exact⟨m,r,e2,a2.trans ((GH _ _ _).trans a),b2,c2,d2⟩
 . rw[if_neg hq0];obtain⟨m,r,e2,a2,b2,c2,d2⟩:=Vd (key:=key) (p:=p') (n:=n') (nrem:=nrem) (by lia) (by lia) (by lia) d;exact⟨m,r,e2,a2.trans a,b2,c2,d2⟩
theorem aQ (h1:1<=nrem)(hz:nrem<=p.size):∃m q,ev (BW key) (kas_count nrem p)=(m,q)/\q.Perm p/\1<=m/\m<=nrem/\Sr key q m:=by
 unfold kas_count;rw[Mb];obtain⟨n,e,a,b,hsn,hor⟩:=UQ (key:=key) (p:=p) (nrem-1) 1 (zI _) (fun i j gu hj=>by have:i=j:=(by lia);subst this;exact KeyOrd.kle_refl _);rw[e];by_cases hnn:n=nrem
 . rw[if_pos (by simpa using hnn)];exact⟨n,p,rfl,.refl _,a,by lia,hsn⟩
 . rw[if_neg (by simpa using hnn)];have gD:O.klt (kk key p n) (kk key p (n-1)):=hor.resolve_left (by lia);by_cases BE:n > 1
   . rw[if_pos BE];show ∃m q,ev (BW key) (if BW key (p.getD 0 0) (p.getD (n-1) 0)=true then KasT.ret (n,p) else kas_descPart n nrem (kas_rev p 0 n))=(m,q)/\_
     cases hr:BW key (p.getD 0 0) (p.getD (n-1) 0) with
     | true=>exact⟨n,p,by simp[ev],.refl _,a,by lia,hsn⟩
     | false=>
      have gn:∀k,0<=k->k<n->kk key p k=kk key p (n-1):=fun k _ hk=>
       KeyOrd.kle_antisymm (hsn k (n-1) (by lia) (by lia)) (KeyOrd.kle_trans hr (hsn 0 k (by lia) hk))
      have hk:=Td (key:=key) (p:=p) (i:=0) (j:=n) (by lia) gn;obtain⟨m,q,e2,a2,b2,c2,d2⟩:=Vu (key:=key) (p:=kas_rev p 0 n) (n:=n) (nrem:=nrem) (by lia) (by rw[UH];lia) (fun i j gu hj=>by
       rw[hk,hk];by_cases hjn:j<n
       . rw[gn i (by lia) (by lia),gn j (by lia) hjn];exact KeyOrd.kle_refl _
       . have hj':j=n:=by lia
         subst hj';by_cases i6:i=j
         . subst i6;exact KeyOrd.kle_refl _
         . rw[gn i (by lia) (by lia)];exact KeyOrd.kle_of_klt gD)
      exact⟨m,q,by simpa using e2,a2.trans (GH _ _ _),b2,c2,d2⟩
   . rw[if_neg BE];have iI:n=1:=by lia
     subst iI;refine Vu (by lia) hz fun i j gu hj=>?_;by_cases i6:i=j
     . subst i6;exact KeyOrd.kle_refl _
     . have hi0:i=0:=by lia
       have hj1:j=1:=by lia
       subst hi0;subst hj1;exact KeyOrd.kle_of_klt gD
theorem Tx (hs:Sr key p k):∀f l r,l<=r->r<=k->r-l<=f->(∀i,i<l->O.kle (kk key p i) (kk key p k))->(∀i,r<=i->i<k->O.klt (kk key p k) (kk key p i)) ->
 ∃m,ev (BW key) (kas_place p k f l r)=m/\m<=k/\(∀i,i<m->O.kle (kk key p i) (kk key p k))/\(∀i,m<=i->i<k->O.klt (kk key p k) (kk key p i))
 | 0,l,r,hlr,hrk,hf,ij,hhi=>⟨l,rfl,by lia,ij,fun i h1 h2=>hhi i (by lia) h2⟩
 | f+1,l,r,hlr,hrk,hf,ij,hhi=>by
  unfold kas_place;by_cases ja:l ≥ r
  . rw[if_pos ja];exact⟨l,rfl,by lia,ij,fun i h1 h2=>hhi i (by lia) h2⟩
  . rw[if_neg ja];show ∃m,ev (BW key) (if BW key (p.getD k 0) (p.getD ((l+r)/2) 0)=true then kas_place p k f l ((l+r)/2) else kas_place p k f ((l+r)/2+1) r)=m/\_
    cases hl:BW key (p.getD k 0) (p.getD ((l+r)/2) 0) with
    | true=>obtain⟨m,e,x⟩:=Tx hs f l ((l+r)/2) (by lia) (by lia) (by lia) ij (fun i h1 h2=>KeyOrd.klt_of_klt_of_kle hl (hs _ _ h1 h2));exact⟨m,by simpa using e,x⟩
    | false=>obtain⟨m,e,x⟩:=Tx hs f ((l+r)/2+1) r (by lia) (by lia) (by lia) (fun i h1=>KeyOrd.kle_trans (hs i ((l+r)/2) (by lia) (by lia)) (show O.kle _ _ from hl)) hhi;exact⟨m,by simpa using e,x⟩
theorem XH:∀f p k,k+f=p.size->Sr key p k->∃q,ev (BW key) (kas_bin f p k)=q/\q.Perm p/\Sr key q (k+f)
 | 0,p,k,_,hs=>⟨p,rfl,.refl _,hs⟩
 | f+1,p,k,hz,hs=>by
  unfold kas_bin;rw[Mb];obtain⟨l,e,hlk,ij,hhi⟩:=Tx (key:=key) hs k 0 k (by lia) (by lia) (by lia) (fun i h=>by lia) (fun i h1 h2=>by lia);rw[e];have jP:Sr key (bubble p k (k-l)) (k+1):=fun i j gu hj=>by
   rw[WA (by lia) (by lia),WA (by lia) (by lia),show k-(k-l)=l by lia]
   repeat' split
   all_goals first
    | (exfalso;lia)
    | exact KeyOrd.kle_refl _
    | exact ij _ (by lia)
    | exact KeyOrd.kle_of_klt (hhi _ (by lia) (by lia))
    | exact hs _ _ (by lia) (by lia)
  obtain⟨q,e2,a,b⟩:=XH f (bubble p k (k-l)) (k+1) (by rw[(bubble_perm p k (k-l)).size_eq];lia) jP;exact⟨q,e2,a.trans (bubble_perm _ _ _),by rw[show k+(f+1)=k+1+f by lia];exact b⟩
theorem au (n)(h1:1<=n):∃q,ev (BW key) (kas_sort n)=q/\q.Perm (List.range n).toArray/\Sr key q n:=by
 unfold kas_sort;rw[Mb];have hz:(List.range n).toArray.size=n:=by simp
 obtain⟨m,q,e,a,b,c,d⟩:=aQ (key:=key) (p:=(List.range n).toArray) h1 (by lia);rw[e];dsimp only;have hq:q.size=n:=by rw[a.size_eq,hz]
 by_cases hm:m<n
 . rw[if_pos hm];obtain⟨r,e2,a2,b2⟩:=XH (key:=key) (n-max m 1) q (max m 1) (by lia) (by rw[show max m 1=m by lia];exact d);exact⟨r,e2,a2.trans a,by rw[show max m 1+(n-max m 1)=n by lia] at b2;exact b2⟩
 . rw[if_neg hm];have:m=n:=by lia
   subst this;exact⟨q,rfl,a,d⟩
end
def Bp {α:Type}(n:Nat)(R:α->Prop):KasT α->Prop
 | .ret a=>R a
 | .ask i j k=>i<n/\j<n/\∀b,Bp n R (k b)
theorem Bp.bind {R:α->Prop}(hf:∀a,R a->Bp n R' (f a)):∀t,Bp n R t->Bp n R' (t.bind f)
 | .ret a,h=>hf a h
 | .ask _ _ k,h=>⟨h.1,h.2.1,fun b=>Bp.bind hf (k b) (h.2.2 b)⟩
def Bd (n:Nat)(p:Array Nat):Prop:=∀i,p.getD i 0<n
theorem Bd.perm (h:Bd n q)(hp:p.Perm q):Bd n p:=fun i=>by
 have h0:0<n:=Cv (zg _) (h 0);by_cases hi:i<p.size
 . have e:p.getD i 0=p[i]:=by simp[Array.getD,hi]
   rw[e];have hm:p[i]∈q.toList:=(Array.perm_iff_toList_perm.mp hp).mem_iff.mp (by simp);obtain⟨j,hj,ej⟩:=zp hm;have hj':j<q.size:=by simpa using hj
   have:=h j;rw[show q.getD j 0=q[j] by simp[Array.getD,hj']] at this;rw[<-ej];simpa using this
 . have e:p.getD i 0=0:=by simp[Array.getD,hi]
   rw[e];exact h0
theorem S9 (hp:Bd n p):∀f m,Bp n (fun _=>True) (kas_asc p f m)
 | 0,_=>trivial
 | f+1,m=>⟨hp _,hp _,fun b=>by
  cases b with
  | true=>exact trivial
  | false=>exact S9 hp f (m+1)⟩
theorem RD :∀f p m q,Bd n p->Bp n (fun r=>Bd n r.1) (kas_desc f p m q)
 | 0,_,_,_,hp=>hp
 | f+1,p,m,q,hp=>⟨hp _,hp _,fun b=>by
  cases b with
  | true=>
   show Bp n _ (if q > 0 then kas_desc f (kas_rev p (m-(q+1)) m) (m+1) 0 else kas_desc f p (m+1) 0)
   split
   . exact RD f _ _ _ (hp.perm (GH _ _ _))
   . exact RD f _ _ _ hp
  | false=>
   refine⟨hp _,hp _,fun d=>?_⟩;cases d with
   | true=>exact hp
   | false=>exact RD f _ _ _ hp⟩
theorem Xq (hp:Bd n p):Bp n (fun r=>Bd n r.2) (kas_tail3 m nrem p):=by unfold kas_tail3;exact Bp.bind (R:=fun _=>True) (R':=fun r=>Bd n r.2) (f:=fun k=>KasT.ret (k,kas_rev p 0 m)) (fun a _=>hp.perm (GH p 0 m)) _ (S9 (hp.perm (GH p 0 m)) _ _)
theorem Xd (hp:Bd n p):Bp n (fun r=>Bd n r.2) (kas_descPart m nrem p):=
 Bp.bind (fun r hr=>by
  split
  . exact Xq (hr.perm (GH _ _ _))
  . exact Xq hr) _ (RD _ _ _ _ hp)
theorem cX (hp:Bd n p):Bp n (fun r=>Bd n r.2) (kas_count nrem p):=
 Bp.bind (fun r _=>by
  split
  . exact hp
  . split
    . refine⟨hp _,hp _,fun b=>?_⟩;cases b with
      | true=>exact hp
      | false=>exact Xd (hp.perm (GH _ _ _))
    . exact Xd hp) _ (S9 hp _ _)
theorem TU (hp:Bd n p):∀f l r,Bp n (fun _=>True) (kas_place p k f l r)
 | 0,_,_=>trivial
 | f+1,l,r=>by
  unfold kas_place;split
  . exact trivial
  . refine⟨hp _,hp _,fun b=>?_⟩;cases b with
    | true=>exact TU hp f _ _
    | false=>exact TU hp f _ _
theorem YC :∀f p k,Bd n p->Bp n (fun _=>True) (kas_bin f p k)
 | 0,_,_,_=>trivial
 | f+1,p,k,hp=>Bp.bind (fun l _=>YC f _ _ (hp.perm (bubble_perm _ _ _))) _ (TU hp _ _ _)
theorem ZU (h:0<n):Bp n (fun _=>True) (kas_sort n):=
 Bp.bind (fun r hr=>by
  split
  . exact YC _ _ _ hr
  . exact trivial) _ (cX fun i=>by
    by_cases hi:i<n
    . simp[Array.getD,hi]
    . simp[Array.getD,hi];exact h)
end SortT
namespace SortT
open PySem PySem.W PySem.Calls PyProof.Rows
theorem Iz (hc:∀i j C,i<n->j<n->C (lt i j) s->cmp i j C s):
 ∀t:KasT α,Bp n R t->Q (ev lt t) s->t.kasWp cmp Q s
 | .ret _,_,h=>h
 | .ask i j k,w,h=>hc i j _ w.1 w.2.1 (Iz hc (k (lt i j)) (w.2.2 _) h)
structure Put {O:KeyOrd}(key:Nat->O.α)(n:Nat)(out:List Nat):Prop where
 perm:out.Perm (List.range n)
 rise:∀(i j a b:Nat),i<=j->out[i]?=some a->out[j]?=some b->O.kle (key a) (key b)
theorem MF {O:KeyOrd}{key:Nat->O.α}{n:Nat}{q:Array Nat}(hp:q.Perm (List.range n).toArray)(hs:Sr key q n):Put key n q.toList:=by
 have hl:q.toList.Perm (List.range n):=Array.perm_iff_toList_perm.mp hp;refine⟨hl,fun i j a b gu ha hb=>?_⟩;have hz:q.size=n:=by have:=hp.size_eq;simpa using this
 have hj:j<q.toList.length:=(zH.mp hb).1;have hj':j<n:=by rw[<-hz];simpa using hj
 have h:=hs i j gu hj';have ga:q.getD i 0=a:=by rw[Array.getD_eq_getD_getElem?,<-Array.getElem?_toList,ha];rfl
 have gb:q.getD j 0=b:=by rw[Array.getD_eq_getD_getElem?,<-Array.getElem?_toList,hb];rfl
 unfold kk at h;rw[ga,gb] at h;exact h
structure Asks (prog:Program)(w:World)(A:Around)(s:Shared)(a:Addr)(vs:List Value){O:KeyOrd}(key:Nat->O.α)(κ:SortKind):Prop where
 kind:∀(h':Heap)(Q:SortKind->Shared->Prop)(E:Df),(∀b o,b≠a->s.heap.get? b=some o->h'.get? b=some o)->Q κ { s with heap:=h' }->wpAny (model prog w) A (keyKind' vs.toArray) Q E { s with heap:=h' }
 less:∀(h':Heap)(i j:Nat)(Q:Bool->Shared->Prop)(E:Df),(∀b o,b≠a->s.heap.get? b=some o->h'.get? b=some o)->i<vs.length->j<vs.length->Q (O.blt (key i) (key j)) { s with heap:=h' } ->
  wpAny (model prog w) A (keyLt' κ (vs.getD i Value.none) (vs.getD j Value.none)) Q E { s with heap:=h' }
theorem list_sort {a:Addr}{vs:List Value}{n:Nat}{P:PySem.Fin->Shared->Prop}{O:KeyOrd}{key:Nat->O.α}{κ:SortKind}(ho:s.heap.get? a=some (seqObj "list" vs.toArray n)) (iE:vs.length<64)
 (ask:2<=vs.length->Asks prog w A s a vs key κ)
 (h:∀out:List Nat,Put key vs.length out->P (.done (.ret .none)) { s with heap:=sortedHeap s.heap a vs (out.map fun i=>vs.getD i Value.none).toArray }):
 wpAny (model prog w) A (Builtin.«list.sort» ⟨[.ref a],[]⟩) P E s:=by
 rw[list_sort_plain];have ha:a<s.heap.objs.size:=zd ho;refine zA (listItems_at ho rfl ?_);refine zA (listUpdate_at ho rfl ?_ (by rw[ze,sizeLine_eq];lia) (zg _));obtain⟨e1,ho1⟩:∃e1,(s.heap.update a (Obj.mapSeq fun _=>#[])).get? a=some (seqObj "list" #[] e1):=⟨_,get?_update_seq ho (fun _=>#[])⟩;refine zA (seqEpoch_at ho1 rfl ?_);refine zA (wpAny_newTuple ?_ (by show vs.length<=_;rw[sizeLine_eq];lia));refine zA (Gg ?_ (zg _));refine Az ?_;have ho6:(((s.heap.update a (Obj.mapSeq fun _=>#[])).push (seqObj "tuple" vs.toArray 0)).push (seqObj "list" #[] 0)).get? a=some (seqObj "list" #[] e1):=by rw[Heap.get?_push_ne _ _ _ (by rw[size_push',Heap.size_update];exact zj (Dp ha)),Heap.get?_push_ne _ _ _ (by rw[Heap.size_update];exact zj ha)];exact ho1
 have keep:∀b o,b≠a->s.heap.get? b=some o->(((s.heap.update a (Obj.mapSeq fun _=>#[])).push (seqObj "tuple" vs.toArray 0)).push (seqObj "list" #[] 0)).get? b=some o:=fun b o hb e=>by refine zG _ (zG _ ?_);rw[DV _ _ _ _ hb];exact e
 show wpAny (model prog w) A _ P E { s with heap:=((s.heap.update a (Obj.mapSeq fun _=>#[])).push (seqObj "tuple" vs.toArray 0)).push (seqObj "list" #[] 0) };dsimp only;by_cases h2:vs.toArray.size<2
 . rw[if_pos h2,if_pos h2];refine zA (zE ?_);rw[StateT.run_pure];refine zA (zE ?_);dsimp only;refine zA (seqEpoch_at ho6 rfl ?_);refine zA (listUpdate_at ho6 rfl ?_ (zg _) (by rw[Array.size_map];show (pairsOf vs).size<=_;rw[pairsOf_size,sizeLine_eq];lia));simp only[bne_self_eq_false,Jc,if_false];refine zE ?_;have hlen:vs.length<2:=by simpa using h2
   have hout:(arrOf (SortSt.mk' general' (vs.toArray.zip vs.toArray) #[] 7 none)).map (·.2)=((List.range vs.length).map fun i=>vs.getD i Value.none).toArray:=by
    show (vs.toArray.zip vs.toArray).map (·.2)=_
    match vs,hlen with
    | [],_=>simp
    | [v],_=>simp
    | _::_::_,h=>exfalso;simp only[zk] at h;lia
   have fin:=h (List.range vs.length) ⟨.refl _,fun i j x y gu hx hy=>by
    have hj:j<(List.range vs.length).length:=(zH.mp hy).1;rw[Bv] at hj;have e:i=j:=by lia
    subst e;rw[hx] at hy;cases hy;exact KeyOrd.kle_refl _⟩
   rw[<-hout] at fin;exact fin
 . rw[if_neg h2,if_neg h2];have h2':2<=vs.length:=by
    have:¬ vs.length<2:=by simpa using h2
    lia
   have K:=ask h2';refine zA (K.kind _ _ _ keep ?_);obtain⟨q,eq,hp,hs⟩:=au (key:=key) vs.length (by lia);have run:(kas_sort vs.length).kasWp (kas_ask prog w A κ vs) (fun p s'=>p=q/\s'={ s with heap:=((s.heap.update a (Obj.mapSeq fun _=>#[])).push (seqObj "tuple" vs.toArray 0)).push (seqObj "list" #[] 0) })
    { s with heap:=((s.heap.update a (Obj.mapSeq fun _=>#[])).push (seqObj "tuple" vs.toArray 0)).push (seqObj "list" #[] 0) }:=
    Iz (lt:=BW key) (n:=vs.length) (fun i j C hi hj hC=>K.less _ i j C _ keep hi hj hC) _ (ZU (by lia)) ⟨eq,rfl⟩
   refine zA (CM (kat_run (ks:=vs) (vs:=vs) (Q:=fun iY s'=>∃p:Array Nat,p.size=vs.length/\arrOf iY=p.map (kas_item (vs.toArray.zip vs.toArray))/\failedOf iY=none/\p=q/\s'={ s with heap:=((s.heap.update a (Obj.mapSeq fun _=>#[])).push (seqObj "tuple" vs.toArray 0)).push (seqObj "list" #[] 0) })
    rfl h2' iE (fun p' iY s' a1 a2 a3 a4=>⟨p',a1,a2,a3,a4⟩) run) ?_ fun _ _ e=>e)
   rintro ⟨⟨⟩,iY⟩ s' ⟨p,hsz,har,hf,rfl,rfl⟩;dsimp only;refine zA (seqEpoch_at ho6 rfl ?_);refine zA (listUpdate_at ho6 rfl ?_ (zg _) (by rw[Array.size_map,har,Array.size_map,hsz,sizeLine_eq];lia));rw[hf];simp only[bne_self_eq_false,Jc,if_false];refine zE ?_;have hout:=kat_snds (ks:=vs) (vs:=vs) rfl har;have fin:=h p.toList (MF hp hs);rw[<-hout] at fin;exact fin
theorem sorted_list {l:Addr}{vs:List Value}{Q:Df}{O:KeyOrd}{key:Nat->O.α}{κ:SortKind}(hl:s.heap.IsList l vs.toArray)(iE:vs.length<64)
 (ask:2<=vs.length->∀(s':Shared)(a:Addr),(∀b o,s.heap.get? b=some o->b≠a)->(∀b o,s.heap.get? b=some o->s'.heap.get? b=some o)->Asks prog w A.in1.in1 s' a vs key κ)
 (h:∀(D:Addr)(h':Heap)(out:List Nat)(c:Nat),Put key vs.length out->s.heap.objs.size<=D->(∀b o,s.heap.get? b=some o->h'.get? b=some o) ->
  h'.get? D=some (seqObj "list" (out.map fun i=>vs.getD i Value.none).toArray c)->Q (.ref D) { s with heap:=h' }):
 wpAny (model prog w) A (call (.builtin "sorted") [.ref l]) Q E s:=by
 refine Calls.call_function_entry kind_sorted plain_sorted entry_sorted (args_sorted1 _) ?_;unfold Builtin.«sorted»;refine zA (m:=checkCount "sorted" 1 1 _) (zE ?_);refine zA (collect_list hl ?_ (by rw[sizeLine_eq];lia));refine zA (Gg ?_ (by rw[sizeLine_eq];lia));have hsz:((s.heap.push (seqObj "list" #[] 0)).update s.heap.objs.size (Obj.mapSeq (· ++ vs.toArray))).objs.size=s.heap.objs.size+1:=by rw[Heap.size_update,size_push']
 have ji:(((s.heap.push (seqObj "list" #[] 0)).update s.heap.objs.size (Obj.mapSeq (· ++ vs.toArray))).push (seqObj "list" vs.toArray 0)).get? (s.heap.objs.size+1)=some (seqObj "list" vs.toArray 0):=by rw[<-hsz];exact zN _ rfl
 have keep:∀b o,s.heap.get? b=some o->(((s.heap.push (seqObj "list" #[] 0)).update s.heap.objs.size (Obj.mapSeq (· ++ vs.toArray))).push (seqObj "list" vs.toArray 0)).get? b=some o:=fun b o q=>by have gD:b<s.heap.objs.size:=zd q;rw[Heap.get?_push_ne _ _ _ (by rw[hsz];exact zj (Dp gD)),DV _ _ _ _ (zj gD),Heap.get?_push_ne _ _ _ (zj gD)];exact q
 show wpAny _ _ _ _ _ { s with heap:=((s.heap.push (seqObj "list" #[] 0)).update s.heap.objs.size (Obj.mapSeq (· ++ vs.toArray))).push (seqObj "list" vs.toArray 0) };rw[hsz];refine zA (Az (C7 slot_list_sort ⟨_,ji,rfl⟩ entry_list_sort (list_sort (O:=O) (key:=key) (κ:=κ) ji iE (fun h2=>ask h2 _ _ (fun b o e=>zj (Dp (zd e))) keep) fun out hp=>⟨_,rfl,?_⟩) (args_list_sort _)));refine zE ⟨_,rfl,?_⟩;obtain⟨c,hc⟩:=sortedAll_at s.heap vs (out.map fun i=>vs.getD i Value.none).toArray;exact h _ _ out c hp (DK _) (fun b o e=>sortedAll_old e) hc
end SortT
namespace DRaw
open PySem PySem.W PySem.Calls PyProof.Rows
def At (h:Heap)(d:Addr)(es:Array DictEntry)(ep:Nat):Prop:=∃o,h.get? d=some o/\o.ExactDict/\o.data=.dict es ep
theorem At.keep (x:At h d es ep)(k:∀o,h.get? d=some o->h'.get? d=some o):At h' d es ep:=
 let ⟨o,ho,r⟩:=x;⟨o,k o ho,r⟩
theorem At.lt (x:At h d es ep):d<h.objs.size:=let ⟨_,ho,_⟩:=x;zd ho
theorem At.typeIs {s:Shared}(x:At s.heap d es ep):s.TypeIs (.ref d) "dict" := let ⟨o,ho,hc,_⟩:=x;⟨o,ho,hc.1⟩
theorem iter (hd:(d==sysModules)=false)(hm:At s.heap d es ep)
 (hQ:Q (.ref s.heap.objs.size) { s with heap:=s.heap.push { cls:=.type "dict_keyiterator",data:=.fields #[.ref d,.int 0 0,.int es.size 0,.int ep 0] } }):
 wpAny (model prog w) A (pyIter (.ref d)) Q E s:=by
 obtain⟨o,ho,hc,hV⟩:=id hm;have hT:=hm.typeIs;refine wpAny_pyIter_slot hT F.slot_dict_iter (C7 F.slot_dict_iter hT F.entry_dict_iter ?_ (F.args_dict_iter_1 _));unfold Builtin.«dict.__iter__»;refine zA ?_;unfold Builtin.Dict.dictSlotNone;refine zA (wpAny_notOrdered_dict hT ?_);show wpAny _ _ (pure (Value.ref d)) _ _ s;refine zE ?_;show wpAny _ _ (Builtin.Dict.showsAll d >>= _) _ _ s;unfold Builtin.Dict.showsAll;rw[if_neg (by rw[hd];exact zo)];refine zA (zE ?_);refine zA (wpAny_dictEntries ho hV ?_);refine zA (wpAny_dictEpoch ho hV ?_);refine zA (EX (zE ⟨_,rfl, "dict_keyiterator",_,⟨_,zN _ rfl,rfl⟩,F.slot_dict_keyiterator_next.lookup,?_⟩));simpa [rawInt] using hQ
theorem next (hit:s.heap.IsKeyIter it d i es.size ep)(hm:At s.heap d es ep)(hlt':i<es.size)
 (hQ:∀h',h'.IsKeyIter it d (i+1) es.size ep->Heap.SameBut it s.heap h'->Q (some es[i].key) { s with heap:=h' }):wpAny (model prog w) A (pyNext (.ref it)) Q E s:=by
 obtain⟨o,ho,hc,hd⟩:=id hit;obtain⟨od,hod,jG,hdd⟩:=id hm;unfold pyNext;refine zA (G6 (G0 (name:=Str.ofString "__next__") hit.typeIs F.slot_dict_keyiterator_next
  (C7 F.slot_dict_keyiterator_next hit.typeIs F.entry_dict_keyiterator_next ?_ (F.args_dict_keyiterator_next_1 _))))
 refine zA (zE ?_);refine zA ?_;refine zA ?_
 first | refine zA (Rc hit.typeIs (zE ?_)) | refine zA (wpAny_typeNameOf_keyiter hit.typeIs (zE ?_))
 refine zA (wpAny_fieldsOf ho hd ?_);have hown:Builtin.Dict_items.ownsTuple "dict_keyiterator"=false:=by decide
 simp only[hown,Jc,if_false];show wpAny _ _ (if (Value.ref d==Value.none)=true then _ else _) _ _ s
 rw[if_neg (show ¬ ((Value.ref d==Value.none)=true) from zo)];refine zA (zE ?_);refine zA (wpAny_dictEntries hod hdd ?_);rw[if_neg (by simp)];refine zA (zE ?_);refine zA (wpAny_dictEpoch hod hdd ?_);rw[if_neg (by simp)];refine zE ?_;simp only[show ¬ ((i:Int)<0) from by lia,if_false,B0,Array.getElem?_eq_getElem hlt'];refine zA ?_
 first | refine zA (Rc hit.typeIs (zE ?_)) | refine zA (wpAny_typeNameOf_keyiter hit.typeIs (zE ?_))
 refine zA (wpAny_isOneOf_keyiter hit.typeIs ?_);show wpAny _ _ (setField (.ref it) 1 (rawInt ((i:Int)+1)) >>= _) _ _ s;refine zA (GY ho hd (by simp) ?_);have gJ:(s.heap.update it (Obj.mapFields (·.setIfInBounds 1 (rawInt ((i:Int)+1))))).IsKeyIter it d (i+1) es.size ep:=
  ⟨_,zu _ ho (Obj.isFreed_of_fields (Obj.data_mapFields hd _)),(Obj.cls_mapFields ..).trans hc,by rw[Obj.data_mapFields hd];simp[rawInt]⟩
 refine zA (Az ?_);refine zA (wpAny_isOneOf_keyiter (s:={ s with heap:=s.heap.update it (Obj.mapFields (·.setIfInBounds 1 (rawInt ((i:Int)+1)))) }) gJ.typeIs ?_);show wpAny _ _ (pure es[i].key) _ _ _;exact zE (zE ⟨_,rfl,zE (hQ _ gJ (Eh ..))⟩)
theorem stop (hh:A.handled=none)(hit:s.heap.IsKeyIter it d i es.size ep)(hm:At s.heap d es ep)(ja:es.size<=i)
 (hQ:∀h',Heap.ExtBut it s.heap h'->Q none { s with heap:=h' }):wpAny (model prog w) A (pyNext (.ref it)) Q E s:=by
 obtain⟨o,ho,hc,hd⟩:=id hit;obtain⟨od,hod,jG,hdd⟩:=id hm;unfold pyNext;refine zA (G6 (G0 (name:=Str.ofString "__next__") hit.typeIs F.slot_dict_keyiterator_next
  (C7 F.slot_dict_keyiterator_next hit.typeIs F.entry_dict_keyiterator_next ?_ (F.args_dict_keyiterator_next_1 _))))
 refine zA (zE ?_);refine zA ?_;refine zA ?_
 first | refine zA (Rc hit.typeIs (zE ?_)) | refine zA (wpAny_typeNameOf_keyiter hit.typeIs (zE ?_))
 refine zA (wpAny_fieldsOf ho hd ?_);have hown:Builtin.Dict_items.ownsTuple "dict_keyiterator"=false:=by decide
 simp only[hown,Jc,if_false];show wpAny _ _ (if (Value.ref d==Value.none)=true then _ else _) _ _ s
 rw[if_neg (show ¬ ((Value.ref d==Value.none)=true) from zo)];refine zA (zE ?_);refine zA (wpAny_dictEntries hod hdd ?_);rw[if_neg (by simp)];refine zA (zE ?_);refine zA (wpAny_dictEpoch hod hdd ?_);rw[if_neg (by simp)];refine zE ?_;simp only[show ¬ ((i:Int)<0) from by lia,if_false,B0,Array.getElem?_eq_none ja];refine zA ?_
 first | refine zA (Rc hit.typeIs (zE ?_)) | refine zA (wpAny_typeNameOf_keyiter hit.typeIs (zE ?_))
 show wpAny _ _ (setField (.ref it) 0 .none >>= _) _ _ s;refine zA (GY ho hd (by simp) ?_);show wpAny _ _ (newExc (.type "StopIteration") [] >>= _) _ _ _;refine zA ?_;simp only[newExc,newTuple];refine zA (EX ?_ (by size_fits));refine zA (m:=firstArgMember _ _) (wpAny_of_eq (a:=Value.none) (by first | rfl | (simp only[firstArgMember];rfl)) ?_);refine EX ?_ (by size_fits);simp only[raiseNew];refine zA (wpAny_handled ?_);rw[show A.in1.handled=none from hh];refine zA (zE (wpAny_throw ?_));refine zA (Dr (T := "StopIteration") (b:=true) ⟨_,zN _ rfl,rfl⟩ isSubtype_stop ?_);exact zE (hQ _ (((Eh ..).extBut.push _).push _))
theorem QF (hh:A.handled=none)(I:Addr)(gL:d≠I):Walks prog w A I [I,d] [I] es.size (fun i v=>∃e,es[i]?=some e/\v=e.key) (fun i h=>h.IsKeyIter I d i es.size ep/\At h d es ep) where
 sub:=fun b hb=>by simp at hb;simp[hb]
 frame:=fun _ _ _ st hk=>⟨st.1.at fun o e=>hk I (by simp) o e,st.2.keep fun o e=>hk d (by simp) o e⟩
 item:=fun i s Q E hi st hQ=>next st.1 st.2 hi fun h' gJ jP=>
  hQ _ h' s.toks ⟨es[i],by simp[hi],rfl⟩ ⟨gJ,st.2.keep fun o e=>jP.extBut d o gL e⟩ fun b o hb e=>jP.extBut b o (fun h=>hb (by simp[h])) e
 done:=fun s Q E st hQ=>stop hh st.1 st.2 (zI _) fun h' jS=>hQ h' s.toks fun b o hb e=>jS b o (fun h=>hb (by simp[h])) e
 self:=fun _ _ _ _ st hQ=>wpAny_pyIter_keyiter st.1 hQ
theorem src (lo:(d==sysModules)=false):KdlSrc prog w "dict" d d es.size (fun i v=>∃e,es[i]?=some e/\v=e.key) (fun h=>At h d es ep) where
 type:=fun _ hm=>hm.typeIs
 there:=fun _ hm=>⟨hm.lt,hm.lt⟩
 keep:=fun _ _ hm hk=>hm.keep fun o e=>hk d (.inl rfl) o e
 notList:=by decide
 notTuple:=by decide
 hint:=fun _ _ _ _ hm hq=>kdl_hint_dict hm.typeIs hq
 iter:=fun _ _ hh hm=>⟨_,_,(fun _ _ hq=>iter lo hm hq),QF hh _ (zj hm.lt),⟨⟨_,zN _ rfl,rfl,rfl⟩,hm.keep fun o e=>zG _ e⟩⟩
end DRaw
namespace SortT
open PySem PySem.W PySem.Calls PyProof.Rows
theorem sorted_dict {prog:Program}{w:World}{A:Around}{E:Df}{s:Shared}{d:Addr}{es:Array DictEntry}{ep:Nat}{vs:List Value}{Q:Df}{O:KeyOrd}{key:Nat->O.α}{κ:SortKind}
 (hh:A.handled=none)(lo:(d==sysModules)=false)(hm:DRaw.At s.heap d es ep)(hvs:vs=es.toList.map (·.key))(iE:vs.length<64)
 (ask:2<=vs.length->∀(s':Shared)(a:Addr),(∀b o,s.heap.get? b=some o->b≠a)->(∀b o,s.heap.get? b=some o->s'.heap.get? b=some o)->Asks prog w A.in1.in1 s' a vs key κ)
 (h:∀(h1:Heap)(D:Addr)(h':Heap)(t':Nat)(out:List Nat)(c:Nat),Put key vs.length out->(∀b o,s.heap.get? b=some o->h1.get? b=some o)->h1.objs.size<=D->(∀b o,h1.get? b=some o->h'.get? b=some o) ->
  h'.get? D=some (seqObj "list" (out.map fun i=>vs.getD i Value.none).toArray c)->Q (.ref D) { s with heap:=h',toks:=t' }):
 wpAny (model prog w) A (call (.builtin "sorted") [.ref d]) Q E s:=by
 have hlen:vs.length=es.size:=by rw[hvs];simp
 refine call_function_entry kind_sorted plain_sorted entry_sorted (args_sorted1 _) ?_;unfold Builtin.«sorted»;refine zA (m:=checkCount "sorted" 1 1 _) (zE ?_);refine zA (kdu_collect (A:=A.in1) (DRaw.src (es:=es) (ep:=ep) lo) hh hm (by rw[sizeLine_eq];lia) fun h1 tk acc hk hacc=>?_);have el:acc.toList=vs:=by
  apply J7;intro j;by_cases hj:j<es.size
  . have hz:j<acc.size:=by rw[hacc.1];exact hj
    obtain⟨e,he,hv⟩:=hacc.2 j acc[j] (by simp[hz]);rw[Array.getElem?_toList,Array.getElem?_eq_getElem hz,hv,hvs,zM,Array.getElem?_toList,he];rfl
  . rw[CQ (by rw[Array.length_toList,hacc.1];lia),CQ (by lia)]
 rw[el];refine zA (Gg ?_ (by rw[sizeLine_eq];lia));have ji:(h1.push (seqObj "list" vs.toArray 0)).get? h1.objs.size=some (seqObj "list" vs.toArray 0):=zN _ rfl;have keep1:∀b o,h1.get? b=some o->(h1.push (seqObj "list" vs.toArray 0)).get? b=some o:=fun b o q=>zG _ q;refine zA (Az (C7 slot_list_sort ⟨_,ji,rfl⟩ entry_list_sort (list_sort (O:=O) (key:=key) (κ:=κ) ji iE
  (fun h2=>ask h2 _ _ (fun b o e=>zj (zd (hk b o e))) fun b o e=>keep1 b o (hk b o e)) fun out hp=>⟨_,rfl,?_⟩) (args_list_sort _)))
 refine zE ⟨_,rfl,?_⟩;obtain⟨c,hc⟩:=sortedHeap_at (vs:=vs) (out:=(out.map fun i=>vs.getD i Value.none).toArray) ji;refine h h1 _ _ _ out c hp hk (zI _) (fun b o e=>?_) hc;have hb:b<h1.objs.size:=zd e;rw[sortedHeap_old (zj hb) (by rw[C2];exact Dp hb)];exact keep1 b o e
end SortT
namespace L2
open PySem PySem.Spec PyProof.Rows
theorem Xu:∀a:List Int,HT.lexLt a a=false
 | []=>rfl
 | x::r=>by rw[HT.lexLt_cons,if_pos rfl];exact Xu r
theorem UU:∀a b c:List Int,HT.lexLt a b=true->HT.lexLt b c=true->HT.lexLt a c=true
 | [],[],_,h,_=>by cases h
 | [],_::_,[],_,h=>by cases h
 | [],_::_,_::_,_,_=>rfl
 | _::_,[],_,h,_=>by cases h
 | _::_,_::_,[],_,h=>by cases h
 | x::a,y::b,z::c,h1,h2=>by
  rw[HT.lexLt_cons] at h1 h2 ⊢;by_cases e1:x=y
  . subst e1;rw[if_pos rfl] at h1;by_cases e2:x=z
    . subst e2;rw[if_pos rfl] at h2 ⊢;exact UU a b c h1 h2
    . rw[if_neg e2] at h2 ⊢;exact h2
  . rw[if_neg e1] at h1;have l1:x<y:=of_decide_eq_true h1;by_cases e2:y=z
    . subst e2;rw[if_neg e1];exact h1
    . rw[if_neg e2] at h2;have l2:y<z:=of_decide_eq_true h2;rw[if_neg (by lia)];exact zR (by lia)
theorem To:∀a b:List Int,HT.lexLt a b=false->HT.lexLt b a=false->a=b
 | [],[],_,_=>rfl
 | [],_::_,h,_=>by cases h
 | _::_,[],_,h=>by cases h
 | x::a,y::b,h1,h2=>by
  rw[HT.lexLt_cons] at h1 h2;by_cases e:x=y
  . subst e;rw[if_pos rfl] at h1 h2;rw[To a b h1 h2]
  . rw[if_neg e] at h1;rw[if_neg (Ne.symm e)] at h2;have l1:=of_decide_eq_false h1;have l2:=of_decide_eq_false h2
    lia
theorem eD (a b c)(h:HT.lexLt a c=true):HT.lexLt a b=true\/HT.lexLt b c=true:=by
 cases h1:HT.lexLt a b with
 | true=>exact .inl rfl
 | false=>
  cases h2:HT.lexLt b a with
  | true=>exact .inr (UU b a c h2 h)
  | false=>rw[<-To a b h1 h2];exact .inr h
noncomputable def Gz:KeyOrd:=⟨List Int,HT.lexLt,Xu,UU,eD,To⟩
def NM (ms:List (List Int)):Prop:=ms.Pairwise fun a b=>HT.lexLt b a=false
def Ag (H:Hp):List V->List (List Int)->Prop
 | [],[]=>True
 | x::xs,k::ks=>(∃a,x=.ref a/\H a=some (.tup (k.map V.int))/\k≠[])/\Ag H xs ks
 | _,_=>False
theorem Ag.length :∀{xs:List V}{ks:List (List Int)},Ag H xs ks->xs.length=ks.length
 | [],[],_=>rfl
 | [],_::_,h=>h.elim
 | _::_,[],h=>h.elim
 | _::_,_::_,h=>by rw[zk,zk,Ag.length h.2]
theorem Ag.get :∀{xs:List V}{ks:List (List Int)}{i:Nat}{x:V},Ag H xs ks->xs[i]?=some x->∃a k,x=.ref a/\ks[i]?=some k/\H a=some (.tup (k.map V.int))/\k≠[]
 | [],_,_,_,_,h=>by simp at h
 | _::_,[],_,_,h,_=>h.elim
 | y::_,k::_,0,x,h,e=>by
  obtain⟨⟨a,h1,h2,h3⟩,_⟩:=h;have e':y=x:=by simpa using e
  subst e';exact⟨a,k,h1,rfl,h2,h3⟩
 | _::_,_::_,i+1,x,h,e=>by obtain⟨a,k,h1,h2,h3⟩:=Ag.get (i:=i) h.2 (by simpa using e);exact⟨a,k,h1,by simpa using h2,h3⟩
theorem Ag.mk :∀{xs:List V}{ks:List (List Int)},xs.length=ks.length->(∀(i:Nat)x(k:List Int),xs[i]?=some x->ks[i]?=some k->∃a,x=V.ref a/\H a=some (.tup (k.map V.int))/\k≠[])->Ag H xs ks
 | [],[],_,_=>trivial
 | [],_::_,e,_=>by simp at e
 | _::_,[],e,_=>by simp at e
 | x::xs,k::ks,e,h=>⟨h 0 x k rfl rfl,Ag.mk (by simpa using e) fun i x' k' h1 h2=>h (i+1) x' k' (by simpa using h1) (by simpa using h2)⟩
theorem Ag.keep (h:Ag H xs ks)(k:∀b ys,H b=some (.tup ys)->H' b=some (.tup ys)):Ag H' xs ks:=
 Ag.mk h.length fun i x c h1 h2=>by obtain⟨a,c',e1,e2,e3,e4⟩:=h.get h1;rw[h2] at e2;cases e2;exact⟨a,e1,k a _ e3,e4⟩
theorem Ag.snoc :∀{xs:List V}{ks:List (List Int)}{x:V}{k:List Int},Ag H xs ks->(∃a,x=.ref a/\H a=some (.tup (k.map V.int))/\k≠[])->Ag H (xs++[x]) (ks++[k])
 | [],[],_,_,_,h=>⟨h,trivial⟩
 | [],_::_,_,_,t,_=>t.elim
 | _::_,[],_,_,t,_=>t.elim
 | _::_,_::_,_,_,t,h=>⟨t.1,Ag.snoc t.2 h⟩
theorem Y4 :∀ns ms us ws i,IntsAre us ns->IntsAre ws ms->fin=decide (ns.length<ms.length)->Q (HT.lexLt ns ms) s ->
 PySem.W.KatLex prog w A true fin Q (us.zip ws) i s
 | [],[],_,_,_,.nil,.nil,e,q=>by subst e;exact q
 | [],_::_,_,_,_,.nil,.cons _ _ _,e,q=>by subst e;exact q
 | _::_,[],_,_,_,.cons _ _ _,.nil,e,q=>by subst e;exact q
 | n::ns,m::ms,_,_,i,.cons _ t hu,.cons _ u hw,e,q=>by
  rw[HT.lexLt_cons] at q;refine PySem.W.kat_cons (wpAny_eqBool_int ?_);by_cases h:n=m
  . rw[if_pos h] at q;rw[show (n==m)=true by simpa using h];exact PySem.W.kat_yes (Y4 ns ms _ _ (i+1) hu hw (by rw[e];simp) q)
  . rw[if_neg h] at q;rw[show (n==m)=false by simpa using h];refine PySem.W.kat_no ?_;cases i with
    | zero=>exact oneLt_int q
    | succ j=>exact PySem.W.kat_one _ _ (PyProof.Rows.lt_int q)
theorem VX (I:AA X pins σ H s)(T:Ag H ys ks)(r:AR ys vs)(gL:0<vs.length)
 (fa:∀b o,s.heap.get? b=some o->b≠a)(kp:∀b o,s.heap.get? b=some o->s'.heap.get? b=some o):SortT.Asks X.prog X.w A s' a vs (O:=Gz) (fun i=>ks.getD i []) (tuples' true):=by
 have hl:=T.length;have hv:=r.length;have at_:∀(h':Heap),(∀b o,b≠a->s'.heap.get? b=some o->h'.get? b=some o)->∀i,i<vs.length->∃(p:Addr)(k:List Int)(us:List Value)(o:Obj)(n:Nat),vs[i]?=some (Value.ref p)/\ks[i]?=some k/\k≠[]/\IntsAre us k/\h'.get? p=some o/\o.cls=.type "tuple"/\o.data=.seq us.toArray n:=fun h' kh i hi=>by
  have hy:i<ys.length:=by lia
  obtain⟨p,k,e1,e2,e3,e4⟩:=T.get (i:=i) (x:=ys[i]) (by simp[hy]);obtain⟨u,hu,ru⟩:=r.get (i:=i) (x:=ys[i]) (by simp[hy]);rw[e1] at ru;cases (show u=Value.ref p from ru);obtain⟨_,its,rv,o,ho,hc,n,hd⟩:=I.hok p _ e3;exact⟨p,k,its,o,n,hu,e2,e4,ET rv,kh p o (fa p o ho) (kp p o ho),hc,hd⟩
 refine⟨fun h' Q E kh q=>?_,fun h' i j Q E kh hi hj q=>?_⟩
 . -- all keys are tuples whose first items are ints
   have tups:∀(m:Nat),m<=vs.length->∃fs:List Value,PySem.W.KatTups h' (vs.drop (vs.length-m)) fs/\fs.length=m/\∀f∈fs,∃x t,f=Value.int x t:=by
    intro m
    induction m with
    | zero=>intro _;exact⟨[],by rw[Nat.sub_zero,List.drop_length];exact trivial,rfl,fun f hf=>by simp at hf⟩
    | succ m ih=>
     intro hm;obtain⟨fs,t,e,hf⟩:=ih (by lia);obtain⟨p,k,us,o,n,hu,hk,j7,hI,ho,hc,hd⟩:=at_ h' kh (vs.length-(m+1)) (by lia);have ed:vs.drop (vs.length-(m+1))=Value.ref p::vs.drop (vs.length-m):=by
      have gD:vs.length-(m+1)<vs.length:=by lia
      rw[List.drop_eq_getElem_cons gD,show vs.length-(m+1)+1=vs.length-m by lia];have:vs[vs.length-(m+1)]=Value.ref p:=by rw[zC gD] at hu;exact zV hu
      rw[this]
     cases hI with
     | nil=>exact absurd rfl j7
     | cons x tx hI'=>
      refine⟨Value.int x tx::fs,by rw[ed];exact PySem.W.KatTups.cons ho hc hd rfl t,by rw[zk,e],fun f hf'=>?_⟩;rcases zX.mp hf' with rfl | hf'
      . exact⟨x,tx,rfl⟩
      . exact hf f hf'
   obtain⟨fs,t,e,hf⟩:=tups vs.length (zI _);rw[Ge,List.drop_zero] at t;refine PySem.W.kat_kind (T:=Value.type "int") t (by lia) (fun v hv=>?_) (by rfl) q;obtain⟨x,tx,rfl⟩:=hf v hv;exact PySem.W.Looks.of_pure rfl
 . obtain⟨p,k,us,o,n,hu,hk,_,hI,ho,hc,hd⟩:=at_ h' kh i hi;obtain⟨p2,k2,us2,o2,n2,hu2,hk2,_,hI2,ic,i0,hd2⟩:=at_ h' kh j hj;have e1:vs.getD i Value.none=.ref p:=by rw[zF,hu];rfl
   have e2:vs.getD j Value.none=.ref p2:=by rw[zF,hu2];rfl
   have g1:ks.getD i []=k:=by rw[zF,hk];rfl
   have g2:ks.getD j []=k2:=by rw[zF,hk2];rfl
   rw[e1,e2];refine PySem.W.kat_lt (s:={ s' with heap:=h' }) ho hd ic hd2 ?_;have q':Q (HT.lexLt k k2) { s' with heap:=h' }:=by
    have:Gz.blt (ks.getD i []) (ks.getD j [])=HT.lexLt k k2:=by rw[g1,g2];rfl
    rw[<-this];exact q
   have l1:=hI.length;have l2:=hI2.length;exact Y4 k k2 us us2 0 hI hI2 (by simp only[ze];rw[l1,l2]) q'
theorem Y7 (T:Ag H ys ks)(r:AR ys vs)(p:SortT.Put (O:=Gz) (fun i=>ks.getD i []) vs.length out):
 ∃zs ms,Ag H zs ms/\ms.Perm ks/\NM ms/\AR zs (out.map fun i=>vs.getD i Value.none)/\zs.length=ys.length:=by
 have hl:=T.length;have hv:=r.length;have hb:∀i∈out,i<vs.length:=fun i hi=>Cr.mp (p.perm.mem_iff.mp hi);refine⟨out.map fun i=>ys.getD i .non,out.map fun i=>ks.getD i [],Ag.mk (by rw[zB,zB]) fun j x k hx hk=>?_,?_,?_,?_,?_⟩
 . rw[zM] at hx hk;cases e:out[j]? with
   | none=>rw[e] at hx;cases hx
   | some i=>
    rw[e] at hx hk;have hi:=hb i (zP e);have hy:i<ys.length:=by lia
    obtain⟨a,c,e1,e2,e3,e4⟩:=T.get (i:=i) (x:=ys[i]) (by simp[hy]);have ex:ys.getD i .non=x:=zV hx;have ek:ks.getD i []=k:=zV hk;rw[zF,zC hy] at ex;rw[zF,e2] at ek;have ex':ys[i]=x:=ex;have ek':c=k:=ek;subst ek';exact⟨a,by rw[<-ex'];exact e1,e3,e4⟩
 . have h1:=p.perm.map fun i=>ks.getD i [];have h2:(List.range vs.length).map (fun i=>ks.getD i [])=ks:=by
    rw[show vs.length=ks.length by lia];apply J7;intro j;rw[zM];by_cases hj:j<ks.length
    . rw[List.getElem?_range hj,zC hj];simp[hj]
    . rw[CQ (by rw[Bv];lia),CQ (by lia)];rfl
   rw[h2] at h1;exact h1
 . refine Cz.mpr fun i j hi hj gu=>?_;rw[zB] at hi hj;have:=p.rise i j out[i] out[j] (Ea gu) (by simp) (by simp);have h3:HT.lexLt (ks.getD out[j] []) (ks.getD out[i] [])=false:=this;simpa using h3
 . have:∀l:List Nat,(∀i∈l,i<vs.length)->AR (l.map fun i=>ys.getD i .non) (l.map fun i=>vs.getD i Value.none):=by
    intro l
    induction l with
    | nil=>intro _;exact .nil
    | cons i l ih=>
     intro h;have hi:=h i zS;have hy:i<ys.length:=by lia
     obtain⟨u,hu,ru⟩:=r.get (i:=i) (x:=ys[i]) (by simp[hy]);refine .cons ?_ (ih fun j hj=>h j (zZ _ hj));show AS (ys.getD i V.non) (vs.getD i Value.none);rw[zF,zC hy,zF,hu];exact ru
   exact this out hb
 . rw[zB,p.perm.length_eq,Bv];lia
theorem Ng (I:AA X pins σ H s)(hD:s.heap.objs.size<=D)(kp:∀b o,s.heap.get? b=some o->h'.get? b=some o)
 (ho:h'.get? D=some (seqObj "list" us.toArray c)) (r:AR zs us)(hz:zs.length<=sizeLine):AA X pins σ (upd H D (.lst zs)) { s with heap:=h',toks:=t' }:=
 I.laid kp hD (show A1 X.prog X.w _ _ _ (.lst zs) from ⟨hz,us,c,r,ho⟩)
inductive Pl (K:AO)(xs:List V)(H:Hp)(Q:VK):Prop
 | mk:∀p ys ks,(xs=[.ref p])->(AE K H p ys)->(Ag H ys ks)->(ks.length<64)->(∀l zs ms,H l=none->Ag H zs ms->ms.Perm ks->NM ms->Q (.ref l) (upd H l (.lst zs)))->Pl K xs H Q
theorem Xa:CO X (.builtin "sorted") (Pl X.K):=by intro pins s σ H xs us Q I r h;obtain⟨p,ys,ks,rfl,hq,T,iE,q⟩:=h;obtain⟨u,rfl,rx⟩:=B2 r;cases rx;obtain⟨its,r',pl,hz⟩:=I.list hq;have hl:=T.length;have hv:=r'.length;refine SortT.sorted_list (O:=Gz) (key:=fun i=>ks.getD i []) (κ:=tuples' true) pl.isList (by lia) (fun h2 s' a fa kp=>VX I T r' (by lia) fa kp) fun D h' out c pt hD kp ho=>?_;obtain⟨zs,ms,T2,hp,hr,rz,hlz⟩:=Y7 T r' pt;exact⟨.ref D,_,Ng (t':=s.toks) I hD kp ho rz (by lia),rfl,q D zs ms (I.hok.fresh hD) T2 hp hr⟩
inductive QR (xs:List V)(H:Hp)(Q:VK):Prop
 | mk:∀p fu ks,(xs=[.ref p])->(H p=some (.dT fu))->(fu.map (·.1)=ks.map (List.map Sum.inl))->((∀k∈ks,k≠[]))->(ks.length<64)->(∀l zs ms,H l=none->Ag H zs ms->ms.Perm ks->NM ms->Q (.ref l) (upd H l (.lst zs)))->QR xs H Q
theorem ee (hc:X.calm=true):CO X (.builtin "sorted") QR:=by
 intro pins s σ H xs us Q I r h;obtain⟨p,fu,ks,rfl,hd,hks,j7,iE,q⟩:=h;obtain⟨u,rfl,rx⟩:=B2 r;cases rx;obtain⟨hz,lo,xs,rel,o,es,ep,ho,hx,hV,hes,hnd⟩:=I.hok p _ hd;have key:∀(fu:List (List AU×V))(xs:List (List AU×Addr×Value))(ks:List (List Int)),KT H fu xs->fu.map (·.1)=ks.map (List.map Sum.inl)->(∀k∈ks,k≠[]) ->
  Ag H (xs.map fun q=>V.ref q.2.1) ks/\AR (xs.map fun q=>V.ref q.2.1) ((xs.map (entryOfKey (tupleKind (A5 X.prog X.w)))).map (·.key)):=by
  intro fu xs ks rel
  induction rel generalizing ks with
  | nil=>
   intro e _;cases ks with
   | nil=>exact⟨trivial,.nil⟩
   | cons k ks=>simp at e
  | cons hpq _ ih=>
   intro e h0;cases ks with
   | nil=>simp at e
   | cons k ks=>simp only[BJ,List.cons.injEq] at e;obtain⟨T,V⟩:=ih ks e.2 fun c hc=>h0 c (zZ _ hc);obtain⟨e1,e2,_⟩:=hpq;refine⟨⟨⟨_,rfl,?_,h0 k zS⟩,T⟩,.cons rfl V⟩;rw[e2,e.1,Ec];rfl
 obtain⟨T,rv⟩:=key fu xs ks rel hks j7;have hl:=T.length;have hv:=rv.length;have evs:(xs.map (entryOfKey (tupleKind (A5 X.prog X.w)))).map (·.key)=es.toList.map (·.key):=by rw[hes]
 refine SortT.sorted_dict (O:=Gz) (key:=fun i=>ks.getD i []) (κ:=tuples' true) (vs:=(xs.map (entryOfKey (tupleKind (A5 X.prog X.w)))).map (·.key)) (I.ok.hd hc) lo ⟨o,ho,hx,hV⟩ evs (by lia) (fun h2 s' a fa kp=>VX I T rv (by lia) fa kp) fun h1 D h' t' out c pt k1 hD k2 ho=>?_;obtain⟨zs,ms,T2,hp,hr,rz,hlz⟩:=Y7 T rv pt;have I1:AA X pins σ H { s with heap:=h1,toks:=s.toks }:=I.kept k1;refine⟨.ref D,_,Ng (s:={ s with heap:=h1,toks:=s.toks }) (t':=t') I1 hD k2 ho rz ?_,rfl,q D zs ms (I1.hok.fresh hD) T2 hp hr⟩;have:sizeLine=16777216:=rfl
 lia
mutual
inductive A4 (H:Hp):V->PyData->Prop
 | non:A4 H .non .none
 | bl (b:Bool):A4 H (.bl b) (.bool b)
 | int (i:Int):A4 H (.int i) (.int i)
 | str (x:Str):A4 H (.str x) (.str x)
 | tup {a:Addr}{xs:List V}{ds:List PyData}:H a=some (.tup xs)->Br H xs ds->A4 H (.ref a) (.tuple ds)
 | lst {a:Addr}{xs:List V}{ds:List PyData}:H a=some (.lst xs)->Br H xs ds->A4 H (.ref a) (.list ds)
inductive Br (H:Hp):List V->List PyData->Prop
 | nil:Br H [] []
 | cons {x:V}{xs:List V}{d:PyData}{ds:List PyData}:A4 H x d->Br H xs ds->Br H (x::xs) (d::ds)
end
mutual
theorem A4.reads (ok:A7 P w H h):∀{x:V}{d:PyData},A4 H x d->∀{u:Value},AS x u->∃as,Reads h u d as
 | _,_,.non,u,r=>by cases (show u=Value.none from r);exact⟨_,.none⟩
 | _,_,.bl b,u,r=>by cases (show u=Value.bool b from r);exact⟨_,.bool b⟩
 | _,_,.int i,u,r=>by obtain⟨t,rfl⟩:=r;exact⟨_,.int i t⟩
 | _,_,.str x,u,r=>by obtain⟨t,rfl⟩:=r;exact⟨_,.str x t⟩
 | _,_,.tup (a:=a) e s,u,r=>by cases (show u=Value.ref a from r);obtain⟨_,its,rv,o,ho,hc,n,hd⟩:=ok a _ e;obtain⟨as,ra⟩:=Br.reads ok s rv;exact⟨_,.tuple ho hc hd (by simpa using ra)⟩
 | _,_,.lst (a:=a) e s,u,r=>by cases (show u=Value.ref a from r);obtain⟨_,its,n,rv,ho⟩:=ok a _ e;obtain⟨as,ra⟩:=Br.reads ok s rv;exact⟨_,.list ho rfl rfl (by simpa using ra)⟩
theorem Br.reads (ok:A7 P w H h):∀{xs:List V}{ds:List PyData},Br H xs ds->∀{us:List Value},AR xs us->∃as,ReadsAll h us ds as
 | _,_,.nil,us,r=>by cases r;exact⟨_,.nil⟩
 | _,_,.cons s t,us,r=>by
  cases r with
  | cons r1 r2=>obtain⟨a1,h1⟩:=A4.reads ok s r1;obtain⟨a2,h2⟩:=Br.reads ok t r2;exact⟨_,.cons h1 h2⟩
end
theorem Bw {i j pos} (hr:PA X es t):PA X (.Constant (.int i) j pos::es) (Sb (tC (.int i)) t):=zD zm hr (by rfl)
theorem KN {pos} (h:PA X xs t1)(hr:PA X es t):PA X (.List xs pos::es) (Sb (QU t1) t):=zD (DR h) hr (by rfl)
inductive OC:List Expr->List Int->Prop where
 | nil:OC [] []
 | cons {i:Int}{j:Nat}{pos:Pos}{es:List Expr}{ns:List Int}:OC es ns->OC (.Constant (.int i) j pos::es) (i::ns)
theorem bh (h:OC es ns):PA X es (fun _ H Q=>Q (ns.map V.int) H):=by
 induction h with
 | nil=>exact zO
 | cons _ ih=>intro pos pins s σ H Q I q;exact (Bw ih) pos pins s σ H Q I q
inductive OH:List Expr->List (List Int)->Prop where
 | nil:OH [] []
 | cons {xs:List Expr}{ns:List Int}{pos:Pos}{es:List Expr}{nss:List (List Int)}:OC xs ns->ns.length<=sizeLine->OH es nss->OH (.List xs pos::es) (ns::nss)
def Xw:List (List Int)->TA
 | []=>QA
 | ns::r=>fun σ H Q=>∀p,H p=none->Xw r σ (upd H p (.lst (ns.map V.int))) fun xs H2=>Q (.ref p::xs) H2
theorem Zk (h:OH es nss):PA X es (Xw nss):=by
 induction h with
 | nil=>exact zO
 | cons hx hl _ ih=>intro pos pins s σ H Q I q;exact (KN (bh hx) ih) pos pins s σ H Q I ⟨by rw[zB];exact hl,fun p hp=>q p hp⟩
end L2
namespace WM
theorem DG {α:Type} [DecidableEq α]:∀{l₁ l₂:List α},l₁.Nodup->(∀x∈l₁,x∈l₂)->l₁.length<=l₂.length
 | [],_,_,_=>zg _
 | x::r,l₂,h,s=>by
  obtain⟨h1,h2⟩:=BZ.mp h;have hx:x∈l₂:=s x zS;have ih:=DG (l₁:=r) (l₂:=l₂.erase x) h2 fun y hy=>by have gL:y≠x:=fun e=>h1 (e ▸ hy);exact (List.mem_erase_of_ne gL).mpr (s y (zZ _ hy))
  rw[List.length_erase_of_mem hx] at ih;have:0<l₂.length:=List.length_pos_of_mem hx;rw[zk]
  lia
noncomputable def lowTo (n:Nat):List Int:=(List.range n).map fun (i:Nat)=>(i:Int)
theorem Cs :x∈lowTo n↔0<=x/\x<n:=by
 unfold lowTo;rw[zq];constructor
 . rintro ⟨i,hi,rfl⟩;have:=Cr.mp hi
   lia
 . rintro ⟨h0,h1⟩;exact⟨x.toNat,Cr.mpr (by lia),by lia⟩
theorem nd_len {n:Nat}{l:List Int}(h:l.Nodup)(hb:∀x∈l,0<=x/\x<n):l.length<=n:=by have:=DG h (l₂:=lowTo n) fun x hx=>Cs.mpr (hb x hx);simpa [lowTo] using this
theorem Wv:∀{l₁ l₂:List Int},l₁.Pairwise (· < ·)->l₂.Pairwise (· < ·)->(∀x,x∈l₁↔x∈l₂)->l₁=l₂
 | [],[],_,_,_=>rfl
 | [],y::_,_,_,h=>by have:=(h y).mpr zS;simp at this
 | x::_,[],_,_,h=>by have:=(h x).mp zS;simp at this
 | x::r,y::q,h1,h2,h=>by
  obtain⟨a1,b1⟩:=Hn.mp h1;obtain⟨a2,b2⟩:=Hn.mp h2;have e:x=y:=by
   rcases zX.mp ((h x).mp zS) with e | e
   . exact e
   . rcases zX.mp ((h y).mpr zS) with e' | e'
     . exact e'.symm
     . have:=a2 x e;have:=a1 y e';lia
  subst e;refine congrArg (x :: ·) (Wv b1 b2 fun z=>?_);constructor
  . intro hz;rcases zX.mp ((h z).mp (zZ _ hz)) with e | e
    . subst e;have:=a1 z hz;lia
    . exact e
  . intro hz;rcases zX.mp ((h z).mpr (zZ _ hz)) with e | e
    . subst e;have:=a2 z hz;lia
    . exact e
theorem J5 (n):(lowTo n).Pairwise (· < ·):=by unfold lowTo;rw[DO];exact List.pairwise_lt_range.imp fun h=>by lia
abbrev T3:=Int×Int×Int
noncomputable def tl (t:T3):List Int:=[t.1,t.2.1,t.2.2]
structure GW (n:Int)(ts:List T3):Prop where
 n1:1<=n
 n24:n<=24
 len:ts.length<64
 rng:∀t∈ts,0<=t.1/\t.1<t.2.1/\t.2.1<n/\1<=t.2.2/\t.2.2<=99
 dis:ts.Pairwise fun s t=>¬ (s.1=t.1/\s.2.1=t.2.1)
def Ah (ts:List T3)(x y l:Int):Prop:=(x,y,l)∈ts\/(y,x,l)∈ts
theorem Ah.symm (h:Ah ts x y l):Ah ts y x l:=h.elim .inr .inl
theorem GW.uniq (g:GW n ts)(h:Ah ts x y l)(h':Ah ts x y l'):l=l':=by
 have key:∀{ts:List T3},ts.Pairwise (fun s t=>¬ (s.1=t.1/\s.2.1=t.2.1))->∀{a b l l':Int},(a,b,l)∈ts->(a,b,l')∈ts->l=l':=by
  intro ts
  induction ts with
  | nil=>intro _ a b l l' h;simp at h
  | cons t r ih=>
   intro hp a b l l' h h';obtain⟨q,hr⟩:=Hn.mp hp;rcases zX.mp h with e | e
   . rcases zX.mp h' with e' | e'
     . rw[<-e] at e';injection e' with _ e2;injection e2 with _ e3;exact e3.symm
     . exact absurd (by rw[<-e];exact⟨rfl,rfl⟩) (q _ e')
   . rcases zX.mp h' with e' | e'
     . exact absurd (by rw[<-e'];exact⟨rfl,rfl⟩) (q _ e)
     . exact ih hr e e'
 rcases h with h | h <;> rcases h' with h' | h'
 . exact key g.dis h h'
 . have:=g.rng _ h;have:=g.rng _ h';simp only at *;lia
 . have:=g.rng _ h;have:=g.rng _ h';simp only at *;lia
 . exact key g.dis h h'
theorem GW.adj (g:GW n ts)(h:Ah ts x y l):0<=x/\x<n/\0<=y/\y<n/\x≠y/\1<=l/\l<=99:=by rcases h with h | h <;> (have:=g.rng _ h;simp only at *;lia)
noncomputable def fd (p:Int):List T3->List (List Int)
 | []=>[]
 | t::r=>(if t.1=p then [[t.2.1,t.2.2]] else [])++(if t.2.1=p then [[t.1,t.2.2]] else [])++fd p r
theorem Wt (p):∀a b:List T3,fd p (a++b)=fd p a++fd p b
 | [],b=>rfl
 | t::r,b=>by show _++_++fd p (r++b)=_;rw[Wt p r b];simp[fd,DT]
theorem Fv :∀{ts:List T3},k∈fd p ts↔∃y l,k=[y,l]/\Ah ts p y l
 | []=>by simp[fd,Ah]
 | (a,b,c)::r=>by
  have ih:=Fv (p:=p) (k:=k) (ts:=r);show k∈_++_++fd p r↔_;rw[zU,zU,ih];simp only;constructor
  . rintro ((h | h) | ⟨y,l,e,h⟩)
    . split at h
      . rename_i e;simp at h;subst e;exact⟨b,c,h,.inl zS⟩
      . simp at h
    . split at h
      . rename_i e;simp at h;subst e;exact⟨a,c,h,.inr zS⟩
      . simp at h
    . exact⟨y,l,e,h.elim (fun z=>.inl (zZ _ z)) fun z=>.inr (zZ _ z)⟩
  . rintro ⟨y,l,e,h⟩;rcases h with h | h
    . rcases zX.mp h with q | q
      . injection q with q1 q2;injection q2 with q2 q3;subst q1 q2 q3;exact .inl (.inl (by simp[e]))
      . exact .inr ⟨y,l,e,.inl q⟩
    . rcases zX.mp h with q | q
      . injection q with q1 q2;injection q2 with q2 q3;subst q1 q2 q3;exact .inl (.inr (by simp[e]))
      . exact .inr ⟨y,l,e,.inr q⟩
theorem Nf {n:Int}(p:Int):∀{ts:List T3},(∀t∈ts,t.1<t.2.1)->(fd p ts).length<=ts.length
 | [],_=>zI _
 | t::r,h=>by
  have ih:=Nf (n:=n) p (ts:=r) fun t ht=>h t (zZ _ ht);have h0:=h t zS;show (_++_++fd p r).length<=_;rw[zJ,zJ,zk];have:(if t.1=p then [[t.2.1,t.2.2]] else ([]:List (List Int))).length+(if t.2.1=p then [[t.1,t.2.2]] else ([]:List (List Int))).length<=1:=by split <;> split <;> simp <;> lia
  lia
noncomputable def hd (k:List Int):Int:=k.getD 0 0
theorem Wr (g:GW n ts)(p):((fd p ts).map hd).Nodup:=by
 have key:∀(ts:List T3),(∀t∈ts,t.1<t.2.1)->ts.Pairwise (fun s t=>¬ (s.1=t.1/\s.2.1=t.2.1))->((fd p ts).map hd).Nodup:=by
  intro ts
  induction ts with
  | nil=>intro _ _;exact Hs
  | cons t r ih=>
   intro gD hp;obtain⟨q,hr⟩:=Hn.mp hp;have h0:=gD t zS;have gW:∀t∈r,t.1<t.2.1:=fun t ht=>gD t (zZ _ ht);have ih':=ih gW hr;have no:∀y c,(∀l,Ah r p y l->False)->([y,c]:List Int)=[y,c]->¬ y∈(fd p r).map hd:=by intro y c hn _ hm;obtain⟨k,hk,e⟩:=zq.mp hm;obtain⟨y',l,ek,ha⟩:=Fv.mp hk;subst ek;have:y'=y:=e;subst this;exact hn l ha
   show ((_++_++fd p r).map hd).Nodup;by_cases h1:t.1=p
   . have h2:¬ t.2.1=p:=by lia
     rw[if_pos h1,if_neg h2];show (t.2.1::(fd p r).map hd).Nodup;refine BZ.mpr ⟨no _ t.2.2 (fun l ha=>?_) rfl,ih'⟩;rcases ha with ha | ha
     . exact q _ ha ⟨h1,rfl⟩
     . have:=gW _ ha;simp only at this;lia
   . by_cases h2:t.2.1=p
     . rw[if_neg h1,if_pos h2];show (t.1::(fd p r).map hd).Nodup;refine BZ.mpr ⟨no _ t.2.2 (fun l ha=>?_) rfl,ih'⟩;rcases ha with ha | ha
       . have:=gW _ ha;simp only at this;lia
       . exact q _ ha ⟨rfl,h2⟩
     . rw[if_neg h1,if_neg h2];exact ih'
 exact key ts (fun t ht=>(g.rng t ht).2.1) g.dis
inductive Au (ts:List T3):Int->Int->Int->Prop where
 | nil (x:Int):Au ts x x 0
 | cons {x z y l d:Int}:Ah ts x z l->Au ts z y d->Au ts x y (l+d)
theorem Au.nn (g:GW n ts)(h:Au ts x y d):0<=d:=by
 induction h with
 | nil=>exact E3 _
 | cons ha _ ih=>have:=g.adj ha;lia
theorem Au.one (h:Ah ts x y l):Au ts x y l:=by have:=Au.cons h (.nil y);rwa [Int.add_zero] at this
theorem Au.trans (h:Au ts x y d)(h':Au ts y z e):Au ts x z (d+e):=by
 induction h with
 | nil=>rw[Ca];exact h'
 | cons ha _ ih=>rw[Int.add_assoc];exact .cons ha (ih h')
theorem Au.symm (h:Au ts x y d):Au ts y x d:=by
 induction h with
 | nil=>exact .nil _
 | cons ha _ ih=>have:=ih.trans (.one ha.symm);rwa [Int.add_comm] at this
theorem Au.snoc (h:Au ts x y d)(ha:Ah ts y z l):Au ts x z (d+l):=h.trans (.one ha)
def IsD (ts:List T3)(x y d:Int):Prop:=Au ts x y d/\∀e,Au ts x y e->d<=e
def A6 (ts:List T3)(x y:Int):Option Int->Prop
 | some d=>IsD ts x y d
 | none=>∀d,¬ Au ts x y d
theorem IsD.uniq (h:IsD ts x y d)(h':IsD ts x y e):d=e:=Int.le_antisymm (h.2 _ h'.1) (h'.2 _ h.1)
theorem A6.uniq (h:A6 ts x y o)(h':A6 ts x y o'):o=o':=by
 cases o with
 | none=>
  cases o' with
  | none=>rfl
  | some e=>exact absurd h'.1 (h e)
 | some d=>
  cases o' with
  | none=>exact absurd h.1 (h' d)
  | some e=>exact congrArg some (IsD.uniq h h')
theorem IsD.symm (h:IsD ts x y d):IsD ts y x d:=⟨h.1.symm,fun e he=>h.2 e he.symm⟩
theorem A6.symm (h:A6 ts x y o):A6 ts y x o:=by
 cases o with
 | none=>exact fun d hd=>h d hd.symm
 | some d=>exact IsD.symm h
theorem NG (g:GW n ts)(x):IsD ts x x 0:=⟨.nil x,fun _ h=>h.nn g⟩
structure Dj (ts:List T3)(s:Int)(kn wt:Int->Option Int):Prop where
 kd:∀p d,kn p=some d->IsD ts s p d
 wk:∀p d,wt p=some d->kn p=none/\Au ts s p d
 ord:∀p d q e,kn p=some d->wt q=some e->d<=e
 nb:∀p d q l,kn p=some d->Ah ts p q l->(∃e,kn q=some e)\/∃e,wt q=some e/\e<=d+l
 st:(∃d,kn s=some d)\/wt s=some 0
theorem Dj.front (g:GW n ts)(h:Dj ts s kn wt)(w:Au ts s y d):(∃e,kn y=some e)\/∃q e,wt q=some e/\e<=d:=by
 have key:∀{x y d:Int},Au ts x y d->∀dx,kn x=some dx->(∃e,kn y=some e)\/∃q e,wt q=some e/\e<=dx+d:=by
  intro x y d w
  induction w with
  | nil=>intro dx hx;exact .inl ⟨dx,hx⟩
  | cons ha w' ih=>
   intro dx hx
   rename_i x z y l d
   have hl:=g.adj ha;have hw:=w'.nn g;rcases h.nb x dx z l hx ha with ⟨e,he⟩ | ⟨e,he,hle⟩
   . have hez:e<=dx+l:=(h.kd z e he).2 _ ((h.kd x dx hx).1.snoc ha);rcases ih e he with q | ⟨q,e',hq,hle⟩
     . exact .inl q
     . exact .inr ⟨q,e',hq,by lia⟩
   . exact .inr ⟨z,e,he,by lia⟩
 rcases h.st with ⟨ds,hs⟩ | hs
 . have:ds=0:=IsD.uniq (h.kd s ds hs) (NG g s);subst this;rcases key w 0 hs with q | ⟨q,e,a,b⟩
   . exact .inl q
   . exact .inr ⟨q,e,a,by lia⟩
 . exact .inr ⟨s,0,hs,w.nn g⟩
theorem Dj.pick (g:GW n ts)(h:Dj ts s kn wt)(hp:wt p=some d)(hm:∀q e,wt q=some e->d<=e):IsD ts s p d:=by
 obtain⟨hk,hw⟩:=h.wk p d hp;refine⟨hw,fun e he=>?_⟩;rcases h.front g he with ⟨e',q⟩ | ⟨q,e',hq,hle⟩
 . rw[hk] at q;cases q
 . exact Int.le_trans (hm q e' hq) hle
theorem Dj.done (g:GW n ts)(h:Dj ts s kn wt)(hw:∀q,wt q=none)(y):A6 ts s y (kn y):=by
 cases e:kn y with
 | some d=>exact h.kd y d e
 | none=>
  intro d w;rcases h.front g w with ⟨e',q⟩ | ⟨q,e',hq,_⟩
  . rw[e] at q;cases q
  . rw[hw] at hq;cases hq
structure Dm (ts:List T3)(s p d:Int)(kn wt:Int->Option Int)(seen:Int->Prop):Prop where
 kd:∀q e,kn q=some e->IsD ts s q e
 wk:∀q e,wt q=some e->kn q=none/\Au ts s q e
 ord:∀q e r f,kn q=some e->wt r=some f->e<=f
 nb:∀q e r l,kn q=some e->Ah ts q r l->(q=p/\¬ seen r)\/(∃f,kn r=some f)\/∃f,wt r=some f/\f<=e+l
 st:∃e,kn s=some e
 pd:kn p=some d
 mx:∀q e,kn q=some e->e<=d
theorem Dj.enter (g:GW n ts)(h:Dj ts s kn wt)(hp:wt p=some d)(hm:∀q e,wt q=some e->d<=e):
 Dm ts s p d (fun q=>if q=p then some d else kn q) (fun q=>if q=p then none else wt q) (fun _=>False):=by
 have hd:=h.pick g hp hm;have hk:=(h.wk p d hp).1;refine⟨fun q e hq=>?_,fun q e hq=>?_,fun q e r f hq hr=>?_,fun q e r l hq ha=>?_,?_,if_pos rfl,fun q e hq=>?_⟩
 . by_cases jC:q=p
   . rw[if_pos jC] at hq;cases hq;rw[jC];exact hd
   . rw[if_neg jC] at hq;exact h.kd q e hq
 . by_cases jC:q=p
   . rw[if_pos jC] at hq;cases hq
   . rw[if_neg jC] at hq ⊢;exact h.wk q e hq
 . by_cases hrp:r=p
   . rw[if_pos hrp] at hr;cases hr
   . rw[if_neg hrp] at hr;by_cases jC:q=p
     . rw[if_pos jC] at hq;cases hq;exact hm r f hr
     . rw[if_neg jC] at hq;exact h.ord q e r f hq hr
 . by_cases jC:q=p
   . exact .inl ⟨jC,fun z=>z⟩
   . rw[if_neg jC] at hq;by_cases hrp:r=p
     . exact .inr (.inl ⟨d,if_pos hrp⟩)
     . rcases h.nb q e r l hq ha with ⟨f,hf⟩ | ⟨f,hf,hle⟩
       . exact .inr (.inl ⟨f,by rw[if_neg hrp];exact hf⟩)
       . exact .inr (.inr ⟨f,by rw[if_neg hrp];exact hf,hle⟩)
 . by_cases jO:s=p
   . exact⟨d,if_pos jO⟩
   . rcases h.st with ⟨e,he⟩ | he
     . exact⟨e,by rw[if_neg jO];exact he⟩
     . -- s waits with 0: then d is 0 too,and p is come to by a way of 0
       have h0:=hm s 0 he;have:=hd.1.nn g;have hd0:d=0:=by lia
       subst hd0;exfalso;have:∀{x y d:Int},Au ts x y d->d=0->x=y:=by
        intro x y d w;cases w with
        | nil=>intro _;rfl
        | cons ha w'=>intro e;have:=g.adj ha;have:=w'.nn g;lia
       exact jO (this hd.1 rfl)
 . by_cases jC:q=p
   . rw[if_pos jC] at hq;cases hq;exact E3 _
   . rw[if_neg jC] at hq;exact h.ord q e p d hq hp
theorem Dm.skip (h:Dm ts s p d kn wt seen)(hr:∃f,kn r=some f):Dm ts s p d kn wt (fun x=>seen x\/x=r):=
 ⟨h.kd,h.wk,h.ord,fun q e x l hq ha=>by
  rcases h.nb q e x l hq ha with ⟨a,b⟩ | c
  . by_cases hx:x=r
    . subst hx;exact .inr (.inl hr)
    . exact .inl ⟨a,fun z=>z.elim b hx⟩
  . exact .inr c,h.st,h.pd,h.mx⟩
theorem Dm.wait (g:GW n ts)(h:Dm ts s p d kn wt seen)(ha:Ah ts p r l)(hr:kn r=none)
 (hf:(wt r=none/\f=d+l)\/∃e,wt r=some e/\f=min (d+l) e):Dm ts s p d kn (fun x=>if x=r then some f else wt x) (fun x=>seen x\/x=r):=by
 have hl:=g.adj ha;have hway:Au ts s r (d+l):=(h.kd p d h.pd).1.snoc ha;have hf1:f<=d+l:=by
  rcases hf with ⟨_,e⟩ | ⟨e,_,e'⟩
  . lia
  . lia
 have hf2:Au ts s r f:=by
  rcases hf with ⟨_,rfl⟩ | ⟨e,he,rfl⟩
  . exact hway
  . by_cases hle:d+l<=e
    . rw[Int.min_eq_left hle];exact hway
    . rw[Int.min_eq_right (by lia)];exact (h.wk r e he).2
 have hf3:d<=f:=by
  rcases hf with ⟨_,rfl⟩ | ⟨e,he,rfl⟩
  . lia
  . have:=h.ord p d r e h.pd he;lia
 refine⟨h.kd,fun q e hq=>?_,fun q e x y hq hx=>?_,fun q e x k hq hax=>?_,h.st,h.pd,h.mx⟩
 . by_cases hqr:q=r
   . rw[if_pos hqr] at hq;cases hq;rw[hqr];exact⟨hr,hf2⟩
   . rw[if_neg hqr] at hq;exact h.wk q e hq
 . by_cases jg:x=r
   . rw[if_pos jg] at hx;cases hx;have:=h.mx q e hq;lia
   . rw[if_neg jg] at hx;exact h.ord q e x y hq hx
 . by_cases jg:x=r
   . subst jg;refine .inr (.inr ⟨f,if_pos rfl,?_⟩);rcases h.nb q e x k hq hax with ⟨a,_⟩ | ⟨y,hy⟩ | ⟨y,hy,hle⟩
     . subst a;rw[h.pd] at hq;cases hq;rw[g.uniq hax ha];exact hf1
     . rw[hr] at hy;cases hy
     . rcases hf with ⟨e1,_⟩ | ⟨e1,he1,e2⟩
       . rw[e1] at hy;cases hy
       . rw[he1] at hy;cases hy;lia
   . rcases h.nb q e x k hq hax with ⟨a,b⟩ | c | ⟨y,hy,hle⟩
     . exact .inl ⟨a,fun z=>z.elim b jg⟩
     . exact .inr (.inl c)
     . exact .inr (.inr ⟨y,by rw[if_neg jg];exact hy,hle⟩)
theorem Dm.leave (h:Dm ts s p d kn wt seen)(hs:∀r l,Ah ts p r l->seen r):Dj ts s kn wt:=
 ⟨h.kd,h.wk,h.ord,fun q e r l hq ha=>by
  rcases h.nb q e r l hq ha with ⟨a,b⟩ | c
  . subst a;exact absurd (hs r l ha) b
  . exact c,.inl h.st⟩
noncomputable def AV (kn:List (Option Int))(p:Int):Option Int:=if 0<=p then kn.getD p.toNat none else none
noncomputable def CJ (kn:List (Option Int)):Nat:=(kn.filter Option.isSome).length
theorem SW (kn):CJ kn<=kn.length:=CH _ _
theorem aW (h0:0<=p)(h1:p.toNat<kn.length)(q):AV (kn.set p.toNat o) q=if q=p then o else AV kn q:=by
 unfold AV;by_cases hq:0<=q
 . rw[if_pos hq,if_pos hq,zF,zF,List.getElem?_set];by_cases e:q=p
   . subst e;simp[h1]
   . have:¬ p.toNat=q.toNat:=by lia
     rw[if_neg this,if_neg e]
 . rw[if_neg hq,if_neg (by lia),if_neg hq]
theorem Th:∀{kn:List (Option Int)}{j:Nat}{d:Int},kn[j]?=some none->CJ (kn.set j (some d))=CJ kn+1
 | [],_,_,h=>by simp at h
 | o::r,0,d,h=>by
  have:o=none:=by simpa using h
  subst this;simp[CJ,List.set]
 | o::r,j+1,d,h=>by
  have ih:=Th (kn:=r) (j:=j) (d:=d) (by simpa using h);unfold CJ at ih ⊢;rw[List.set_cons_succ];cases o with
  | none=>rw[Gu (by simp),Gu (by simp)];exact ih
  | some x=>rw[Hl (by simp),Hl (by simp),zk,zk,ih]
theorem dI (n):CJ (List.replicate n none)=0:=by unfold CJ;rw[List.filter_replicate];simp
theorem Nl (n)(q):AV (List.replicate n none) q=none:=by
 unfold AV;split
 . rw[zF,NK];split <;> rfl
 . rfl
structure Dl (ts:List T3)(n s:Int)(kn:List (Option Int))(wt:Int->Option Int):Prop where
 dj:Dj ts s (AV kn) wt
 ln:kn.length=n.toNat
 bk:∀p d,AV kn p=some d->d<=99*CJ kn
 bw:∀p e,wt p=some e->e<=99*CJ kn/\0<=p/\p<n
structure Dn (ts:List T3)(n s p d:Int)(kn:List (Option Int))(wt:Int->Option Int)(seen:Int->Prop):Prop where
 dm:Dm ts s p d (AV kn) wt seen
 ln:kn.length=n.toNat
 bk:∀q e,AV kn q=some e->e<=99*CJ kn
 bd:d+99<=99*CJ kn
 bw:∀q e,wt q=some e->e<=99*CJ kn/\0<=q/\q<n
theorem Dl.start (g:GW n ts)(h0:0<=s)(h1:s<n):Dl ts n s (List.replicate n.toNat none) (fun q=>if q=s then some 0 else none):=by
 refine⟨⟨fun p d h=>?_,fun p d h=>?_,fun p d q e h=>?_,fun p d q l h=>?_,.inr (if_pos rfl)⟩,Ey,fun p d h=>?_,fun p e h=>?_⟩
 . rw[Nl] at h;cases h
 . by_cases e:p=s
   . rw[if_pos e] at h;cases h;rw[e];exact⟨Nl _ _,.nil s⟩
   . rw[if_neg e] at h;cases h
 . rw[Nl] at h;cases h
 . rw[Nl] at h;cases h
 . rw[Nl] at h;cases h
 . by_cases e:p=s
   . rw[if_pos e] at h;cases h;rw[e,dI];exact⟨by simp,h0,h1⟩
   . rw[if_neg e] at h;cases h
theorem Dl.enter (g:GW n ts)(h:Dl ts n s kn wt)(hp:wt p=some d)(hm:∀q e,wt q=some e->d<=e):
 kn[p.toNat]?=some none/\0<=p/\p<n/\CJ (kn.set p.toNat (some d))=CJ kn+1/\Dn ts n s p d (kn.set p.toNat (some d)) (fun q=>if q=p then none else wt q) (fun _=>False):=by
 obtain⟨hb,h0,h1⟩:=h.bw p d hp;have hl:=h.ln;have gD:p.toNat<kn.length:=by lia
 have hk:=(h.dj.wk p d hp).1;have hn:kn[p.toNat]?=some none:=by unfold AV at hk;rw[if_pos h0,zF,zC gD] at hk;rw[zC gD];exact congrArg some hk
 have hc:=Th (d:=d) hn;have ef:AV (kn.set p.toNat (some d))=fun q=>if q=p then some d else AV kn q:=funext fun q=>aW h0 gD q
 refine⟨hn,h0,h1,hc,⟨?_,by rw[List.length_set];exact hl,fun q e hq=>?_,by rw[hc];lia,fun q e hq=>?_⟩⟩
 . rw[ef];exact h.dj.enter g hp hm
 . rw[ef] at hq;simp only at hq;rw[hc];by_cases e':q=p
   . rw[if_pos e'] at hq;cases hq;lia
   . rw[if_neg e'] at hq;have:=h.bk q e hq;lia
 . by_cases e':q=p
   . rw[if_pos e'] at hq;cases hq
   . rw[if_neg e'] at hq;have:=h.bw q e hq;rw[hc];exact⟨by lia,this.2⟩
theorem Dn.skip (h:Dn ts n s p d kn wt seen)(hr:AV kn r=some f):Dn ts n s p d kn wt (fun x=>seen x\/x=r):=
 ⟨h.dm.skip ⟨f,hr⟩,h.ln,h.bk,h.bd,h.bw⟩
theorem Dn.wait (g:GW n ts)(h:Dn ts n s p d kn wt seen)(ha:Ah ts p r l)(hr:AV kn r=none):
 Dn ts n s p d kn (fun x=>if x=r then some (if (wt r).getD (d+l)<d+l then (wt r).getD (d+l) else d+l) else wt x) (fun x=>seen x\/x=r):=by
 have hl:=g.adj ha;have hf:(wt r=none/\(if (wt r).getD (d+l)<d+l then (wt r).getD (d+l) else d+l)=d+l)\/∃e,wt r=some e/\(if (wt r).getD (d+l)<d+l then (wt r).getD (d+l) else d+l)=min (d+l) e:=by
  cases e:wt r with
  | none=>exact .inl ⟨rfl,by simp⟩
  | some x=>refine .inr ⟨x,rfl,?_⟩;simp only[Option.getD_some];split <;> lia
 refine⟨h.dm.wait g ha hr hf,h.ln,h.bk,h.bd,fun q e hq=>?_⟩;by_cases e':q=r
 . rw[if_pos e'] at hq;have hd:=h.bd;have e2:=zV hq;refine⟨?_,by lia,by lia⟩;split at e2 <;> lia
 . rw[if_neg e'] at hq;exact h.bw q e hq
theorem Dn.leave (h:Dn ts n s p d kn wt seen)(hs:∀r l,Ah ts p r l->seen r):Dl ts n s kn wt:=
 ⟨h.dm.leave hs,h.ln,h.bk,h.bw⟩
structure GX (ts:List T3)(n s:Int)(kn:List (Option Int)):Prop where
 ln:kn.length=n.toNat
 len:∀y,0<=y->y<n->A6 ts s y (AV kn y)
 bd:∀o∈kn,∀d,o=some d->0<=d/\d<=2376
theorem Dl.done (g:GW n ts)(h:Dl ts n s kn wt)(hw:∀q,wt q=none):GX ts n s kn:=by
 refine⟨h.ln,fun y _ _=>h.dj.done g hw y,fun o ho d e=>?_⟩;obtain⟨j,hj,ej⟩:=zp ho;have hf:AV kn (j:Int)=some d:=by unfold AV;rw[if_pos (by lia),zF,B0,zC hj,ej,e];rfl
 have h1:=h.bk _ _ hf;have h2:=(h.dj.kd _ _ hf).1.nn g;have h3:=SW kn;have:=h.ln;have:=g.n24
 lia
def Rows (ts:List T3)(n:Int)(M:M6):Prop:=M.length=n.toNat/\∀x,0<=x->x<n->GX ts n x (M.getD x.toNat [])
theorem cC (g:GW n ts)(x y)(hx:0<=x)(hx':x<n)(d)(h:IsD ts x y d):0<=d/\d<=2376:=by
 have ex:∀(m:Nat)(kn:List (Option Int))(wt:Int->Option Int),Dl ts n x kn wt->n.toNat-CJ kn<=m->(∃L:List Int,∀q e,wt q=some e->q∈L)->∃kn',GX ts n x kn':=by
  intro m
  induction m with
  | zero=>
   intro kn wt D hm _;refine⟨kn,D.done g fun q=>?_⟩;cases e:wt q with
   | none=>rfl
   | some d=>
    have hk:=(D.dj.wk q d e).1;obtain⟨_,h0,h1⟩:=D.bw q d e;have hl:=D.ln;have gD:q.toNat<kn.length:=by lia
    have hn:kn[q.toNat]?=some none:=by unfold AV at hk;rw[if_pos h0,zF,zC gD] at hk;rw[zC gD];exact congrArg some hk
    have h1:=Th (d:=0) hn;have h2:=SW (kn.set q.toNat (some 0));rw[List.length_set] at h2
    lia
  | succ m ih=>
   intro kn wt D hm hL;by_cases hw:∀q,wt q=none
   . exact⟨kn,D.done g hw⟩
   . -- pick the nearest
     obtain⟨L,hL⟩:=hL;have pick:∀L:List Int,(∃q∈L,(wt q).isSome)->∃p d,wt p=some d/\∀q∈L,∀e,wt q=some e->d<=e:=by
      intro L
      induction L with
      | nil=>rintro ⟨q,hq,_⟩;simp at hq
      | cons z L ihL=>
       rintro ⟨q,hq,hs⟩;by_cases hr:∃q∈L,(wt q).isSome
       . obtain⟨p,d,hp,gf⟩:=ihL hr;cases ez:wt z with
         | none=>
          refine⟨p,d,hp,fun q' iG e he=>?_⟩;rcases zX.mp iG with rfl | iG
          . rw[ez] at he;cases he
          . exact gf q' iG e he
         | some dz=>
          by_cases hz:dz<d
          . refine⟨z,dz,ez,fun q' iG e he=>?_⟩;rcases zX.mp iG with rfl | iG
            . rw[ez] at he;cases he;exact E3 _
            . have:=gf q' iG e he;lia
          . refine⟨p,d,hp,fun q' iG e he=>?_⟩;rcases zX.mp iG with rfl | iG
            . rw[ez] at he;cases he;lia
            . exact gf q' iG e he
       . rcases zX.mp hq with rfl | hq
         . obtain⟨d,hd⟩:=Ni.mp hs;refine⟨q,d,hd,fun q' iG e he=>?_⟩;rcases zX.mp iG with rfl | iG
           . rw[hd] at he;cases he;exact E3 _
           . exact absurd ⟨q',iG,by rw[he];rfl⟩ hr
         . exact absurd ⟨q,hq,hs⟩ hr
     obtain⟨p,d,hp,gf⟩:=pick L (by
      apply zw;intro hno;refine hw fun q=>?_;cases e:wt q with
      | none=>rfl
      | some d=>exact absurd ⟨q,hL q d e,by rw[e];rfl⟩ hno)
     obtain⟨hn,h0,h1,hc,N⟩:=D.enter g hp (fun q e he=>gf q (hL q e he) e he);have all:∀(ns:List (Int×Int))(iP:Int->Option Int)(seen:Int->Prop),Dn ts n x p d (kn.set p.toNat (some d)) iP seen->(∃L:List Int,∀q e,iP q=some e->q∈L)->(∀r l,(r,l)∈ns->Ah ts p r l) ->
      ∃(wt'':Int->Option Int)(jq:Int->Prop),Dn ts n x p d (kn.set p.toNat (some d)) wt'' jq/\(∃L:List Int,∀q e,wt'' q=some e->q∈L)/\(∀r,seen r->jq r)/\∀r l,(r,l)∈ns->jq r:=by
      intro ns
      induction ns with
      | nil=>intro iP seen N hL _;exact⟨iP,seen,N,hL,fun _ z=>z,fun r l z=>by simp at z⟩
      | cons t ns ih'=>
       intro iP seen N hL' ha;obtain⟨r,l⟩:=t;have har:=ha r l zS;have ha':∀r l,(r,l)∈ns->Ah ts p r l:=fun r l z=>ha r l (zZ _ z);cases ek:AV (kn.set p.toNat (some d)) r with
       | some f=>
        obtain⟨w2,s2,N2,L2,m2,a2⟩:=ih' iP _ (N.skip ek) hL' ha';refine⟨w2,s2,N2,L2,fun q z=>m2 q (.inl z),fun q l' z=>?_⟩;rcases zX.mp z with e | z
        . cases e;exact m2 _ (.inr rfl)
        . exact a2 q l' z
       | none=>
        obtain⟨L',hL'⟩:=hL';obtain⟨w2,s2,N2,L2,m2,a2⟩:=ih' _ _ (N.wait g har ek) ⟨r::L',fun q e he=>by
         by_cases e':q=r
         . rw[e'];exact zS
         . rw[if_neg e'] at he;exact zZ _ (hL' q e he)⟩ ha'
        refine⟨w2,s2,N2,L2,fun q z=>m2 q (.inl z),fun q l' z=>?_⟩;rcases zX.mp z with e | z
        . cases e;exact m2 _ (.inr rfl)
        . exact a2 q l' z
     have nbr:∃ns:List (Int×Int),(∀r l,(r,l)∈ns->Ah ts p r l)/\∀r l,Ah ts p r l->(r,l)∈ns:=by
      refine⟨(ts.filterMap fun t=>if t.1=p then some (t.2.1,t.2.2) else none)++(ts.filterMap fun t=>if t.2.1=p then some (t.1,t.2.2) else none),fun r l z=>?_,fun r l z=>?_⟩
      . rcases zU.mp z with z | z
        . obtain⟨⟨a,b,c⟩,ht,e⟩:=Hq.mp z;split at e
          . rename_i c1
            have c1':a=p:=c1;have e':=zV e;simp only[Prod.mk.injEq] at e';obtain⟨rfl,rfl⟩:=e';subst c1';exact .inl ht
          . cases e
        . obtain⟨⟨a,b,c⟩,ht,e⟩:=Hq.mp z;split at e
          . rename_i c1
            have c1':b=p:=c1;have e':=zV e;simp only[Prod.mk.injEq] at e';obtain⟨rfl,rfl⟩:=e';subst c1';exact .inr ht
          . cases e
      . rcases z with z | z
        . exact Di _ (Hq.mpr ⟨_,z,by simp⟩)
        . exact C3 _ (Hq.mpr ⟨_,z,by simp⟩)
     obtain⟨ns,hns1,hns2⟩:=nbr;obtain⟨w2,s2,N2,L2,_,a2⟩:=all ns _ _ N ⟨L,fun q e he=>by
      by_cases e':q=p
      . rw[if_pos e'] at he;cases he
      . rw[if_neg e'] at he;exact hL q e he⟩ hns1
     exact ih _ _ (N2.leave fun r l ha=>a2 r l (hns2 r l ha)) (by lia) L2
 obtain⟨kn,K⟩:=ex n.toNat _ _ (Dl.start g hx hx') (by lia) ⟨[x],fun q e he=>by
  by_cases e':q=x
  . simp[e']
  . rw[if_neg e'] at he;cases he⟩
 have hy:(0<=y/\y<n)\/y=x:=by
  have:∀{x y d:Int},Au ts x y d->x=y\/(0<=y/\y<n):=by
   intro x y d w
   induction w with
   | nil=>exact .inl rfl
   | cons ha _ ih=>
    rcases ih with rfl | q
    . have:=g.adj ha;exact .inr ⟨this.2.2.1,this.2.2.2.1⟩
    . exact .inr q
  rcases this h.1 with e | q
  . exact .inr e.symm
  . exact .inl q
 have hy':0<=y/\y<n:=hy.elim id fun e=>by lia
 have hl:=K.len y hy'.1 hy'.2;have hlen:=K.ln;have gD:y.toNat<kn.length:=by lia
 have e1:AV kn y=kn[y.toNat]:=by unfold AV;rw[if_pos hy'.1,zF,zC gD];rfl
 have e2:=A6.uniq hl (show A6 ts x y (some d) from h);exact K.bd _ (DF gD) d (by rw[<-e1];exact e2)
def A8 (ts:List T3)(x y p:Int):Prop:=∃a b,IsD ts x p a/\IsD ts p y b/\IsD ts x y (a+b)
def ER (ts:List T3)(x y p:Int):Prop:=∃l b,Ah ts x p l/\IsD ts p y b/\IsD ts x y (l+b)
theorem A8.symm (h:A8 ts x y p):A8 ts y x p:=by obtain⟨a,b,h1,h2,h3⟩:=h;exact⟨b,a,h2.symm,h1.symm,by rw[Int.add_comm];exact h3.symm⟩
theorem Au.zero (g:GW n ts)(h:Au ts x y 0):x=y:=by
 have:∀{x y d:Int},Au ts x y d->d=0->x=y:=by
  intro x y d w;cases w with
  | nil=>intro _;rfl
  | cons ha w'=>intro e;have:=g.adj ha;have:=w'.nn g;lia
 exact this h rfl
theorem Au.in_ (g:GW n ts)(w:Au ts x y d)(hx:0<=x)(hx':x<n):0<=y/\y<n:=by
 induction w with
 | nil=>exact⟨hx,hx'⟩
 | cons ha _ ih=>have:=g.adj ha;exact ih this.2.2.1 this.2.2.2.1
theorem A8.self (g:GW n ts)(h:IsD ts x y d):A8 ts x y x:=⟨0,d,NG g x,h,by rw[Ca];exact h⟩
theorem ae (g:GW n ts)(h:IsD ts x y d):d=0↔x=y:=by
 constructor
 . intro e;subst e;exact h.1.zero g
 . intro e;subst e;exact IsD.uniq h (NG g x)
theorem A8.trans (h:A8 ts x y p)(h':A8 ts x p q):A8 ts x y q:=by
 obtain⟨a,b,h1,h2,h3⟩:=h;obtain⟨c,e,k1,k2,k3⟩:=h';have e1:a=c+e:=IsD.uniq h1 k3;refine⟨c,e+b,k1,⟨k2.1.trans h2.1,fun f hf=>?_⟩,?_⟩
 . have:=h3.2 _ (k1.1.trans hf)
   lia
 . rw[e1,Int.add_assoc] at h3;exact h3
theorem Au.least (g:GW n ts)(h:Au ts x y d):∃e,IsD ts x y e:=by
 have:∀(m:Nat)(d:Int),Au ts x y d->d.toNat<=m->∃e,IsD ts x y e:=by
  intro m
  induction m with
  | zero=>
   intro d hd hm;have:=hd.nn g;have e:d=0:=by lia
   subst e;exact⟨0,hd,fun f hf=>hf.nn g⟩
  | succ m ih=>
   intro d hd hm;by_cases hl:∃f,Au ts x y f/\f<d
   . obtain⟨f,hf,gD⟩:=hl;have:=hf.nn g;exact ih f hf (by lia)
   . refine⟨d,hd,fun f hf=>?_⟩;apply zw;intro hn;exact hl ⟨f,hf,by lia⟩
 exact this _ d h (zI _)
theorem ER.exists (g:GW n ts)(h:IsD ts x y d)(gL:x≠y):∃p,ER ts x y p:=by
 obtain⟨hw,gf⟩:=h;cases hw with
 | nil=>exact absurd rfl gL
 | cons ha w=>
  rename_i z l e
  obtain⟨f,hf⟩:=w.least g;have h1:=hf.2 _ w;have h2:=gf _ (.cons ha hf.1);have:f=e:=by lia
  subst this;exact⟨z,l,f,ha,hf,.cons ha hf.1,gf⟩
theorem ER.btw (g:GW n ts)(h:A8 ts x y p)(h':ER ts p y q):A8 ts x y q:=by
 obtain⟨a,b,h1,h2,h3⟩:=h;obtain⟨l,c,ha,hc,hd⟩:=h';have e1:b=l+c:=IsD.uniq h2 hd;refine⟨a+l,c,⟨h1.1.snoc ha,fun f hf=>?_⟩,hc,?_⟩
 . have:=h3.2 _ (hf.trans hc.1)
   lia
 . rw[e1,<-Int.add_assoc] at h3;exact h3
theorem A6.via (h1:IsD ts x p a)(h2:IsD ts x y d)(h3:A6 ts p y o):∃b,o=some b/\d<=a+b:=by
 cases o with
 | none=>exact absurd (h1.1.symm.trans h2.1) (h3 _)
 | some b=>exact⟨b,rfl,h2.2 _ (h1.1.trans h3.1)⟩
end WM
namespace L2
open PySem PySem.Spec PyProof.Rows
noncomputable def Fc:KeyOrd:=⟨Int,fun a b=>decide (a<b),fun a=>zT (by lia),fun a b c h1 h2=>zR (by have:=of_decide_eq_true h1;have:=of_decide_eq_true h2;lia),
 fun a b c h=>by
  have h':a<c:=of_decide_eq_true h;by_cases jH:a<b
  . exact .inl (zR jH)
  . exact .inr (zR (by lia)),
 fun a b h1 h2=>by have:=of_decide_eq_false h1;have:=of_decide_eq_false h2;lia⟩
theorem Ss (hI:IntsAre vs ns)(h2:2<=vs.length):
 SortT.Asks prog w A s a vs (O:=Fc) (fun i=>ns.getD i 0) oneType':=by
 have hl:=hI.length;have at_:∀i,i<vs.length->∃t,vs.getD i Value.none=.int (ns.getD i 0) t:=fun i hi=>by obtain⟨n,hn⟩:∃n,ns[i]?=some n:=⟨_,zC (by lia)⟩;obtain⟨t,ht⟩:=hI.get i n hn;exact⟨t,by rw[zF,zF,ht,hn];rfl⟩
 refine⟨fun h' Q E kh q=>?_,fun h' i j Q E kh hi hj q=>?_⟩
 . rw[ksk_kind (keys:=vs.toArray) (kz:=ns) (by simpa using hI) (by simpa using h2)];exact zE q
 . obtain⟨t,e1⟩:=at_ i hi;obtain⟨u,e2⟩:=at_ j hj;rw[e1,e2];exact PySem.W.kat_lt_int q
theorem UD (hI:IntsAre vs ns)(p:SortT.Put (O:=Fc) (fun i=>ns.getD i 0) vs.length out):
 ∃ms:List Int,ms.Perm ns/\ms.Pairwise (· <= ·)/\AR (ms.map V.int) (out.map fun i=>vs.getD i Value.none)/\ms.length=ns.length:=by
 have hl:=hI.length;have hb:∀i∈out,i<vs.length:=fun i hi=>Cr.mp (p.perm.mem_iff.mp hi);refine⟨out.map fun i=>ns.getD i 0,?_,?_,?_,?_⟩
 . have h1:=p.perm.map fun i=>ns.getD i 0;have h2:(List.range vs.length).map (fun i=>ns.getD i 0)=ns:=by
    rw[show vs.length=ns.length by lia];apply J7;intro j;rw[zM];by_cases hj:j<ns.length
    . rw[List.getElem?_range hj,zC hj];simp[hj]
    . rw[CQ (by rw[Bv];lia),CQ (by lia)];rfl
   rw[h2] at h1;exact h1
 . refine Cz.mpr fun i j hi hj gu=>?_;rw[zB] at hi hj;have:=p.rise i j out[i] out[j] (Ea gu) (by simp) (by simp);have h3:decide (ns.getD out[j] 0<ns.getD out[i] 0)=false:=this;have h4:=of_decide_eq_false h3;rw[List.getElem_map,List.getElem_map]
   lia
 . have:∀l:List Nat,(∀i∈l,i<vs.length)->AR ((l.map fun i=>ns.getD i 0).map V.int) (l.map fun i=>vs.getD i Value.none):=by
    intro l
    induction l with
    | nil=>intro _;exact .nil
    | cons i l ih=>intro h;have hi:=h i zS;obtain⟨n,hn⟩:∃n,ns[i]?=some n:=⟨_,zC (by lia)⟩;obtain⟨t,ht⟩:=hI.get i n hn;refine .cons ?_ (ih fun j hj=>h j (zZ _ hj));show AS (V.int (ns.getD i 0)) (vs.getD i Value.none);rw[zF,zF,ht,hn];exact⟨t,rfl⟩
   exact this out hb
 . rw[zB,p.perm.length_eq,Bv];lia
inductive Of (xs:List V)(H:Hp)(Q:VK):Prop
 | mk:∀p fu ns,(xs=[.ref p])->(H p=some (.dK fu))->(fu.map (·.1)=ns.map Sum.inl)->(ns.length<64)->(∀(l:Addr)(ms:List Int),H l=none->ms.Perm ns->ms.Pairwise (· <= ·)->Q (.ref l) (upd H l (.lst (ms.map V.int))))->Of xs H Q
theorem aN (hc:X.calm=true):CO X (.builtin "sorted") Of:=by
 intro pins s σ H xs us Q I r h;obtain⟨p,fu,ns,rfl,hd,hks,iE,q⟩:=h;obtain⟨u,rfl,rx⟩:=B2 r;cases rx;obtain⟨hz,lo,vs,rel,o,es,ep,ho,hx,hV,_,hpr,hnd⟩:=R3 I.hok hd;have key:∀(es:List DictEntry)(fu:List (AU×V))(vs:List (AU×Value))(ns:List Int),KV fu vs->Pairs (A5 X.prog X.w) es vs->fu.map (·.1)=ns.map Sum.inl->IntsAre (es.map (·.key)) ns:=by
  intro es
  induction es with
  | nil=>
   intro fu vs ns rel pr e;cases pr;cases rel;cases ns with
   | nil=>exact .nil
   | cons n ns=>simp at e
  | cons d es ih=>
   intro fu vs ns rel pr e;cases pr with
   | cons k1 k2 k3=>
    cases rel with
    | cons hpq t=>
     cases ns with
     | nil=>simp at e
     | cons n ns=>simp only[BJ,List.cons.injEq] at e;rw[<-hpq.1,e.1] at k1;obtain⟨t0,e0⟩:=Value.isInt_shape (k:=n) (v:=d.key) k1;rw[BJ,e0];exact .cons n t0 (ih _ _ _ t k3 e.2)
 have hI:IntsAre (es.toList.map (·.key)) ns:=key _ _ _ _ rel hpr hks;have hl:=hI.length;refine SortT.sorted_dict (O:=Fc) (key:=fun i=>ns.getD i 0) (κ:=oneType') (vs:=es.toList.map (·.key)) (I.ok.hd hc) lo ⟨o,ho,hx,hV⟩ rfl (by lia) (fun h2 s' a fa kp=>Ss hI h2) fun h1 D h' t' out c pt k1 hD k2 ho=>?_;obtain⟨ms,hp,hr,rz,hlz⟩:=UD hI pt;have I1:AA X pins σ H { s with heap:=h1,toks:=s.toks }:=I.kept k1;refine⟨.ref D,_,Ng (s:={ s with heap:=h1,toks:=s.toks }) (t':=t') I1 hD k2 ho rz ?_,rfl,q D ms (I1.hok.fresh hD) hp hr⟩;have:sizeLine=16777216:=rfl;rw[zB]
 lia
def TL (c:Addr)(q:Str):Heap->Prop:=fun h=>∃o vs t,h.get? c=some o/\o.data=.fields vs/\vs[1]?=some (.str q t)
def TabAt (H:Hp)(P:Addr)(pos:Pos)(q:Str):Prop:=∃ps,H P=some (.tbl ps)/\TriplesOk ps.toList/\(codeAmong pos ps.toList=none\/∃c,codeAmong pos ps.toList=some (.ref c)/\H c=some (.ext (TL c q)))
def BG (H H':Hp):Prop:=∀b o,H b=some o->(∃ps,o=.tbl ps)\/H' b=some o
theorem BG.of (h:AF H H'):BG H H':=fun b o e=>.inr (h b o e)
theorem BG.trans (a:BG H H1)(b:BG H1 H2):BG H H2:=fun c o e=>by
 rcases a c o e with z | z
 . exact .inl z
 . exact b c o z
theorem TabAt.keep (h:TabAt H P pos q)(k:∀o,H P=some o->H' P=some o)(k2:∀c φ,H c=some (.ext φ)->H' c=some (.ext φ)):TabAt H' P pos q:=by obtain⟨ps,a,b,c⟩:=h;exact⟨ps,k _ a,b,c.imp id fun ⟨c,e,f⟩=>⟨c,e,k2 _ _ f⟩⟩
theorem TabAt.same (h:TabAt H P pos q)(k:AF H H'):TabAt H' P pos q:=h.keep (fun _=>k _ _) fun _ _=>k _ _
def Co (mg:Be)(h:Heap):Prop:=∃bm ob,mg "__builtins__"=some (.ref bm)/\bm≠builtinsNs/\h.get? bm=some ob/\ob.cls=.type "module"/\ob.dict=some builtinsNs/\ob.data=.plain
theorem AA.growL (I:AA X pins σ H s)(hP:H Pt=some (.tbl ps))(hp:s.heap.objs.size<=c')(k:∀b u,b≠Pt->s.heap.get? b=some u->h'.get? b=some u)
 (newP:h'.get? Pt=some (PySem.W.tabObj (ps++more)))(new:A1 X.prog X.w (upd (upd H Pt (.tbl (ps++more))) c' o) h' c' o):
 AA X pins σ (upd (upd H Pt (.tbl (ps++more))) c' o) { s with heap:=h',toks:=t' }:=by
 have hc:H c'=none:=I.hok.fresh hp;have nP:∀b,H b=none->b≠Pt:=fun b n z=>by rw[z,hP] at n;cases n
 have nc:∀b u,s.heap.get? b=some u->b≠c':=fun b u e=>zj (zx (zd e) hp);have up:∀b u,H b=some u->b≠Pt->(upd (upd H Pt (.tbl (ps++more))) c' o) b=some u:=fun b u e hb=>by rw[zf (zn e hc),zf hb];exact e
 refine I.un ⟨fun b u e n _ _=>k b u (nP b n) e,fun b u e n _ _=>⟨u.slots,k b u (nP b n) e⟩,fun b u e n _=>by rw[zf (nc b u e),zf (nP b n)];exact n,fun b u e _=>?_,fun b xs e=>up b _ e (Ar e hP (by intro z;cases z)),fun b ob u e=>up b _ e (Ar e hP (by intro z;cases z)),fun b qs e=>?_⟩ ?_
 . by_cases hb:b=Pt
   . rw[hb];exact⟨_,newP⟩
   . exact⟨u,k b u hb e⟩
 . by_cases hb:b=Pt
   . subst hb;rw[hP] at e;cases e;exact⟨more,by rw[zf (zn hP hc),zK]⟩
   . exact⟨#[],by rw[up b _ e hb];simp⟩
 . intro b u e;by_cases hbc:b=c'
   . subst hbc;rw[zK] at e;cases e;exact new
   . rw[zf hbc] at e;by_cases hb:b=Pt
     . subst hb;rw[zK] at e;cases e;exact newP
     . rw[zf hb] at e;refine (I.hok b u e).stay (fun d v hd q=>k d v ?_ q) (fun d q=>up d _ q (Ar q hP (by intro z;cases z))) fun d xs q=>up d _ q (Ar q hP (by intro z;cases z));rcases hd with z | z
       . rw[z];exact hb
       . exact Ar z hP (by intro z';cases z')
theorem Za {X:Cx}{sc:Scope}(h:(sc.names.all fun y=>y.2 != .free || X.env.kindOf y.1==some .cell)=true):∀y∈sc.names,y.2=.free->X.env.kindOf y.1=some .cell:=fun y hy e=>by have a:=GU.mp h y hy;rw[e] at a;simpa using a
structure Ct (K:AO)(x qual:Str)(st:Stmt)(f:Addr)(fd:FuncData)(c:Addr):Prop where
 ex:∃(oc:Value)(od:Option Addr)(kV doc pm:Value)(an:Option Addr)(ct:Value)(jL:Array (Option Value)),
  fd=PySem.W.fnOf x qual (defArgs st) (defBody st) (defScope st) .none kV doc pm an (.ref c) ct/\K.lookup f=some ⟨oc,od,.func fd,jL⟩/\PySem.W.codeIn K (.ref c) qual=true
 kp:PySem.W.keepIn K (.ref f)=true
theorem Ct.fn {K:AO}{st:Stmt}(F:Ct K x qual st f fd c):FY K x qual st f fd:=by obtain⟨oc,od,kV,doc,pm,an,ct,jL,h⟩:=F.ex;exact⟨⟨oc,od,kV,doc,pm,an,.ref c,ct,jL,h⟩,F.kp⟩
theorem Ct.ok {K:AO}{st:Stmt}(F:Ct K x qual st f fd c)(S:AW N ps (defScope st))(len:∀vs H Q E,sp vs H Q E->vs.length=ps.length)
 (iB:∀A outer s H vs Q E,BD k (A.deeper (envOfC qual (defScope st) s.heap.objs.size f (.ref c)))->sp vs H Q E ->
  ∃t,Cj (Hb AL P w K mg base N qual (defScope st) f (.ref c) A outer s H E).nox (defBody st) t/\t { nx:=fun _ H'=>Q .non H',rt:=Q } (start N vs) H):AH P w K mg base AL (k+1) f fd ps sp:=by
 obtain⟨oc,od,kV,doc,pm,an,ct,jL,rfl,lk,jG⟩:=F.ex;refine JQ lk jG S len fun A outer s H vs Q E hr jO=>?_;obtain⟨t,h,q⟩:=iB A outer s H vs Q E hr jO;exact⟨t,h.nox,q⟩
theorem aM {K:AO}{st:Stmt}{kV:Value}(l:K.lookup f=some ⟨oc,od,.func (PySem.W.fnOf x qual (defArgs st) (defBody st) (defScope st) .none kV doc pm an (.ref c) ct),jL⟩)
 (hc:PySem.W.codeIn K (.ref c) qual=true)(k:PySem.W.keepIn K (.ref f)=true):Ct K x qual st f (PySem.W.fnOf x qual (defArgs st) (defBody st) (defScope st) .none kV doc pm an (.ref c) ct) c:=⟨⟨oc,od,kV,doc,pm,an,ct,jL,rfl,l,hc⟩,k⟩
section
variable {κ:Type} [DecidableEq κ]
theorem dY {k:κ}(h:kv∈Ax fu k v):kv∈fu\/kv=(k,v):=by
 unfold Ax at h;split at h
 . obtain⟨q,hq,e⟩:=zq.mp h;by_cases hk:q.1=k
   . rw[if_pos hk] at e;rw[<-e,hk];exact .inr rfl
   . rw[if_neg hk] at e;rw[<-e];exact .inl hq
 . rcases zU.mp h with q | q
   . exact .inl q
   . exact .inr (zi.mp q)
theorem MH {k:κ}(h:(fu.map (·.1)).Nodup):((Ax fu k v).map (·.1)).Nodup:=by
 cases e:Ao fu k with
 | none=>exact Yr v h e
 | some x=>
  have ha:(fu.any fun kv=>decide (kv.1=k))=true:=by rw[GK,e];rfl
  unfold Ax;rw[if_pos ha];have e3:(fu.map fun kv=>if kv.1=k then (kv.1,v) else kv).map (·.1)=fu.map (·.1):=by
   rw[Ec];refine Gy fun kv _=>?_;show (if kv.1=k then (kv.1,v) else kv).1=kv.1
   split <;> rfl
  rw[e3];exact h
theorem XI (k j:κ):∀fu:List (κ×V),Ao (BY fu k) j=if j=k then none else Ao fu j
 | []=>by show (none:Option V)=_;split <;> rfl
 | p::r=>by
  have ih:=XI k j r;by_cases e:p.1=k
  . rw[Yt e,ih];by_cases hj:j=k
    . rw[if_pos hj,if_pos hj]
    . rw[if_neg hj,if_neg hj,C4 fun z=>hj (z.symm.trans e)]
  . rw[YV e];by_cases hj:p.1=j
    . rw[DH hj,DH hj,if_neg fun z=>e (hj.trans z)]
    . rw[C4 hj,C4 hj,ih]
end
noncomputable def VF:AU->Int
 | .inl i=>i
 | .inr _=>0
structure WD (n:Int)(fu:List (AU×V))(wt:Int->Option Int):Prop where
 sh:∀kv∈fu,∃p d,kv=(Sum.inl p,V.int d)/\0<=p/\p<n
 nd:(fu.map (·.1)).Nodup
 at_:∀p:Int,Ao fu (Sum.inl p)=(wt p).map V.int
noncomputable def Gk (fu:List (AU×V)):List Int:=fu.map fun kv=>VF kv.1
theorem WD.keys (h:WD n fu wt):fu.map (·.1)=(Gk fu).map Sum.inl:=by unfold Gk;rw[Ec];refine Gy fun kv gq=>?_;obtain⟨p,d,e,_⟩:=h.sh kv gq;rw[e];rfl
theorem WD.nds (h:WD n fu wt):(Gk fu).Nodup:=by have e:=h.nd;rw[h.keys,List.Nodup,DO] at e;exact e.imp fun h e'=>h (by rw[e'])
theorem WD.len (h:WD n fu wt)(h0:0<=n):(fu.length:Int)<=n:=by
 have:=WM.nd_len (n:=n.toNat) h.nds fun x hx=>by
  obtain⟨kv,gq,e⟩:=zq.mp hx;obtain⟨p,d,e2,h1,h2⟩:=h.sh kv gq;have:x=p:=by rw[<-e,e2];rfl
  lia
 unfold Gk at this;rw[zB] at this
 lia
theorem WD.mem (h:WD n fu wt):p∈Gk fu↔∃e,wt p=some e:=by
 have e:p∈Gk fu↔(Sum.inl p:AU)∈fu.map (·.1):=by
  rw[h.keys];constructor
  . intro m;exact zq.mpr ⟨p,m,rfl⟩
  . intro m;obtain⟨q,hq,e⟩:=zq.mp m;cases e;exact hq
 rw[e];have ha:=h.at_ p;constructor
 . intro m;cases hw:wt p with
   | some d=>exact⟨d,rfl⟩
   | none=>rw[hw] at ha;exact absurd m (Xn ha)
 . rintro ⟨d,hw⟩;rw[hw] at ha;exact aV ha
theorem WD.one (h0:0<=s)(h1:s<n):WD n [(Sum.inl s,V.int 0)] (fun q=>if q=s then some 0 else none):=by
 refine⟨fun kv gq=>?_,by simp,fun p=>?_⟩
 . rw[zi.mp gq];exact⟨s,0,rfl,h0,h1⟩
 . by_cases e:p=s
   . rw[if_pos e,e];exact DH rfl
   . rw[if_neg e];exact (C4 fun z=>e (Sum.inl.inj z).symm).trans YE
theorem WD.put (h:WD n fu wt)(h0:0<=p)(h1:p<n):WD n (Ax fu (Sum.inl p) (.int d)) (fun q=>if q=p then some d else wt q):=by
 refine⟨fun kv gq=>?_,MH h.nd,fun q=>?_⟩
 . rcases dY gq with z | z
   . exact h.sh kv z
   . exact⟨p,d,z,h0,h1⟩
 . rw[YJ];by_cases e:q=p
   . rw[if_pos e,if_pos (by rw[e])];rfl
   . rw[if_neg e,if_neg fun z=>e (Sum.inl.inj z)];exact h.at_ q
theorem WD.drop (h:WD n fu wt):WD n (BY fu (Sum.inl p)) (fun q=>if q=p then none else wt q):=by
 refine⟨fun kv gq=>h.sh kv (Xr gq),SY h.nd,fun q=>?_⟩;rw[XI];by_cases e:q=p
 . rw[if_pos e,if_pos (by rw[e])];rfl
 . rw[if_neg e,if_neg fun z=>e (Sum.inl.inj z)];exact h.at_ q
noncomputable def oV:Option Int->V
 | none=>.non
 | some d=>.int d
theorem Vk {n:Nat}{i:Int}(h0:0<=i)(h1:i<n):Fg n i=some i.toNat:=by unfold Fg;rw[if_pos h0,if_pos h1]
theorem BB (h0:0<=i)(h:xs[i.toNat]?=some v):Cm xs i=some v:=by have:=C5 h;rwa [Ja h0] at this
theorem BG.get (k:BG H H')(e:H b=some o)(h:∀ps,o ≠ .tbl ps):H' b=some o:=by
 rcases k b o e with ⟨ps,z⟩ | z
 . exact absurd z (h ps)
 . exact z
theorem TabAt.chg (T:TabAt H P pos q)(h:H l=some (.lst xs)):TabAt (upd H l o) P pos q:=by
 obtain⟨ps,i5,_⟩:=id T;refine T.keep (fun u hu=>?_) fun c φ hc=>?_
 . rw[zf (Ar i5 h (by intro z;cases z))];exact hu
 . rw[zf (Ar hc h (by intro z;cases z))];exact hc
inductive PV (K:AO)(xs:List V)(H:Hp)(Q:VK):Prop
 | mk:∀(p:Addr)(ns:List Int),(xs=[.ref p])->(AE K H p (ns.map V.int))->(Q (.int ns.sum) H)->PV K xs H Q
theorem UE (hc:X.calm=true):CO X (.builtin "sum") (PV X.K):=by
 intro pins s σ H xs us Q I r h;obtain⟨p,ns,rfl,hq,q⟩:=h;obtain⟨u,rfl,rx⟩:=B2 r;cases rx;obtain⟨its,r',pl,hz⟩:=I.list hq;have hi:=ET r';have hl:=pl.isList;obtain⟨zs,ez⟩:=hi.allInts.items;have en:=hi.numsOf;rw[ez] at hl;have es:preSum (numAt zs) zs.size=ns.sum:=by rw[preSum_eq,zY (by simp),<-en,show its=its.toArray.toList from rfl,ez,nums_intItems]
 refine sum_intListG (I.ok.hd hc) hl fun h' tk t' hk=>⟨.int ns.sum,H,I.kept hk,⟨t',?_⟩,q⟩;rw[es]
def ar (ta:TA):TE:=fun σ H Q=>ta σ H fun vs H1=>∃j:Int,vs=[.int j]/\0<=j/\j<=1000/\∀l,H1 l=none->Q (.ref l) (upd H1 l (.lst ((WM.lowTo j.toNat).map V.int)))
theorem cz:∀vs(n:Nat),vs.length=n->(∀(j:Nat)v,vs[j]?=some v->∃t,v=.int (0+(j:Int)*1) t)->AR ((WM.lowTo n).map V.int) vs:=by
 have key:∀(vs:List Value)(a:Nat),(∀(j:Nat)(v:Value),vs[j]?=some v->∃t,v=.int ((a+j:Nat):Int) t)->AR ((List.range' a vs.length).map fun (i:Nat)=>V.int (i:Int)) vs:=by
  intro vs
  induction vs with
  | nil=>intro _ _;exact .nil
  | cons v r ih=>intro a h;obtain⟨t,ht⟩:=h 0 v rfl;rw[zk,List.range'_succ,BJ];refine .cons ⟨t,by rw[ht];rfl⟩ (ih (a+1) fun j u hj=>?_);obtain⟨t',ht'⟩:=h (j+1) u hj;exact⟨t',by rw[ht'];congr 1;lia⟩
 intro vs n e h;subst e;have:=key vs 0 fun j v hj=>by obtain⟨t,ht⟩:=h j v hj;exact⟨t,by rw[ht];congr 1;lia⟩
 unfold WM.lowTo;rw[Ec,List.range_eq_range'];exact this
theorem Rw (hc:X.calm=true)(hgL:Gl X "list") (hmL:X.mg "list"=none) (hgR:Gl X "range") (hmR:X.mg "range"=none) (ha:PA X [a] ta)(hs:starEach [a] X.env=[(false,eval a X.env)]:=by rfl)
 (he:starEach [.Call (.Name "range" p2) [a] [] pos2] X.env=[(false,eval (.Call (.Name "range" p2) [a] [] pos2) X.env)]:=by rfl):PE X (.Call (.Name "list" p1) [.Call (.Name "range" p2) [a] [] pos2] [] pos1) (ar ta):=by
 intro pins s σ H Q I h;refine Gx (C9 I hgL hmL (by decide +kernel:bootBuiltins "list"=some (.type "list")) ?_ (by decide) (by decide));refine PyProof.Rows.callWith_type1 ?_ he rfl;rw[he];refine Calls.spliced_cons ?_;refine Call_ (C9 I hgR hmR boot_range (PyProof.Rows.callWith_type1 (AM (ha pos2 pins s σ H _ I h) fun us s1 ⟨vs,H1,I1,r1,q1⟩=>?_) hs rfl));obtain⟨j,e,h0,h1,q⟩:=q1;subst e;cases r1 with
 | cons r rr=>
  cases rr;obtain⟨t,rfl⟩:=r;refine call_range_1 ?_;refine Calls.spliced_nil ?_;have hz:Builtin.Range.rangeSize 0 j 1=(j.toNat:Int):=by rw[rangeSize_one];split <;> lia
  refine call_list_range (I.ok.hd hc) (IsRange.new ..) (small_one (by lia) (by lia) (by lia) (by lia)) hz (by lia) fun h' tk acc c' kp hD hI=>?_;have kp1:∀b o,s1.heap.get? b=some o->h'.get? b=some o:=fun b o e=>kp b o (zG _ e);have rv:AR ((WM.lowTo j.toNat).map V.int) acc.toList:=cz acc.toList _ (by rw[Array.length_toList];exact hI.1) fun i v hi=>hI.2 i v (by rw[<-hi,Array.getElem?_toList]);have hsz:s1.heap.objs.size<=(s1.heap.push { cls:=.type "range",data:=.fields #[.int 0 s1.toks,.int j t,.int 1 (s1.toks+1)] }).objs.size:=by rw[C2];exact DK _
  refine⟨.ref _,_,I1.laid (t':=tk) kp1 hsz (show A1 X.prog X.w _ h' _ (.lst ((WM.lowTo j.toNat).map V.int)) from ⟨?_,acc.toList,c',rv,by rw[Array.toArray_toList];exact hD⟩),rfl,q _ (I1.hok.fresh hsz)⟩;rw[zB,WM.lowTo,zB,Bv];have:sizeLine=16777216:=rfl
  lia
inductive O0 (K:AO)(xs:List V)(H:Hp)(Q:VK):Prop
 | mk:∀(p:Addr)(ns:List Int),(xs=[.ref p])->(AE K H p (ns.map V.int))->(ns.length<64)->(∀(l:Addr)(ms:List Int),H l=none->ms.Perm ns->ms.Pairwise (· <= ·)->Q (.ref l) (upd H l (.lst (ms.map V.int))))->O0 K xs H Q
theorem eP:CO X (.builtin "sorted") (O0 X.K):=by
 intro pins s σ H xs us Q I r h;obtain⟨p,ns,rfl,hq,iE,q⟩:=h;obtain⟨u,rfl,rx⟩:=B2 r;cases rx;obtain⟨its,r',pl,hz⟩:=I.list hq;have hI:IntsAre its ns:=ET r';have hl:=hI.length;refine SortT.sorted_list (O:=Fc) (key:=fun i=>ns.getD i 0) (κ:=oneType') pl.isList (by lia) (fun h2 s' a fa kp=>Ss hI h2) fun D h' out c pt hD kp ho=>?_;obtain⟨ms,hp,hr,rz,hlz⟩:=UD hI pt;refine⟨.ref D,_,Ng (t':=s.toks) I hD kp ho rz ?_,rfl,q D ms (I.hok.fresh hD) hp hr⟩;have:sizeLine=16777216:=rfl;rw[zB]
 lia
theorem UM:CO (Bj X pl N' sc fp s3 H3) (.builtin "len") (Kl X.K):=Bz
def UY (K:AO):R2:=fun x y H Q=>∃a b xs,x=.ref a/\y=.ref b/\AE K H a xs/\AE K H b []/\Q (.bl (!xs.isEmpty)) H
theorem MR (hu:X.A.units<cLine):A2 X (compareOp .NotEq) (UY X.K):=by
 intro pins s σ H x y v u Q I rx ry h;obtain⟨a,b,xs,rfl,rfl,ha,hb,q⟩:=h;cases rx;cases ry;obtain⟨its,r,pl,hz⟩:=I.list ha;obtain⟨iL,r2,pl2,hz2⟩:=I.list hb;have l1:=r.length;have l2:=r2.length;cases xs with
 | nil=>refine PySem.EqBoolInt.of_rcne (SeqAt.RcNeAt.lists (e:=fun _=>true) pl.isList pl2.isList (by rw[ze,ze,<-l1,<-l2]) hu (fun j a b=>absurd a (by rw[ze,<-l1];exact HC _))) ⟨.bl _,H,I,rfl,?_⟩;rw[ze,<-l1];exact q
 | cons x xs=>refine PySem.EqBoolInt.of_rcne (SeqAt.RcNeAt.lists_lengths pl.isList pl2.isList (by rw[ze,ze,<-l1,<-l2];rfl) hu) ⟨.bl _,H,I,rfl,?_⟩;exact q
end L2
namespace L2
open PySem PyProof.Rows
def Kp (s0:Shared)(h:Heap):Prop:=∀b o,s0.heap.get? b=some o->h.get? b=some o
structure Ma (prog:Program)(w:World)(A:Around)(s0:Shared)(I:Addr)(its:List Value)(itAt:Nat->Heap->Prop):Prop where
 stay:∀j h h',itAt j h->h'.get? I=h.get? I->itAt j h'
 next:∀(j:Nat)(h:Heap)(tk:Nat)(v:Value)(Q:Option Value->Shared->Prop)(E:Df),Kp s0 h->itAt j h->its[j]?=some v ->
  (∀h',itAt (j+1) h'->(∀b,b≠I->h'.get? b=h.get? b)->Q (some v) { s0 with heap:=h',toks:=tk })->wpAny (model prog w) A (pyNext (.ref I)) Q E { s0 with heap:=h,toks:=tk }
 fin:∀(j:Nat)(h:Heap)(tk:Nat)(Q:Option Value->Shared->Prop)(E:Df),Kp s0 h->itAt j h->its[j]?=none ->
  (∀h',(∀b o,b≠I->h.get? b=some o->h'.get? b=some o)->Q none { s0 with heap:=h',toks:=tk })->wpAny (model prog w) A (pyNext (.ref I)) Q E { s0 with heap:=h,toks:=tk }
theorem Kp.upd (K:Kp s0 h)(hS:s0.heap.objs.size<=S):Kp s0 (h.update S f):=fun b o e=>by rw[DV _ _ _ _ (zj (zx (zd e) hS))];exact K b o e
theorem Kp.but (K:Kp s0 h)(hI:s0.heap.objs.size<=I)(k:∀b o,b≠I->h.get? b=some o->h'.get? b=some o):Kp s0 h':=fun b o e=>
 k b o (zj (zx (zd e) hI)) (K b o e)
theorem Em:0<=sizeLine:=by decide
theorem R7:1<=sizeLine:=by decide
theorem BO:2<=sizeLine:=by decide
theorem KS:3<=sizeLine:=by decide
theorem SD:4<=sizeLine:=by decide
theorem Z4 (M:Ma prog w A.in1 s0 I its itAt)(bt:Nat->Nat->Bool)(hS:s0.heap.objs.size<=S)(hI:s0.heap.objs.size<=I)(g8:S≠I)
 (cmp:∀i j vi vj h tk Q E,Kp s0 h->its[i]?=some vi->its[j]?=some vj->Q (.bool (bt i j)) { s0 with heap:=h,toks:=tk }->wpAny (model prog w) A.in1 (richCompare .Lt vi vj) Q E { s0 with heap:=h,toks:=tk })
 (hR:∀v h tk,its[argBest bt (its.length-1)]?=some v->Kp s0 h->R (.ok (.ret v)) { s0 with heap:=h,toks:=tk })
 : ∀r j h tk vb c,its.length-(j+1)=r->j+1<=its.length->Kp s0 h->itAt (j+1) h->its[argBest bt j]?=some vb ->
  h.get? S=some { cls:=.type "list",data:=.seq #[vb,vb] c }->codeAny (model prog w) A (.builtin "min.loop" { pos:=[.ref I,.none,.ref S],kw:=kw }) R { s0 with heap:=h,toks:=tk }:=by
 intro r
 induction r with
 | zero=>intro j h tk vb c hr hj K hit hv gY;refine codeAny_builtin PySem.F.entry_min_loop ?_;unfold Builtin.«min.loop»;refine zA (Bx gY rfl ?_);dsimp only;refine zA (BS (M.fin (j+1) h tk _ _ K hit (CQ (by lia)) fun h' k=>?_));have gR:=k S _ g8 gY;refine zA (Cf gR rfl (zA (Cb (zE ?_))) BO (by show 0<=sizeLine+1;decide));refine hR vb _ tk ?_ ((K.but hI k).upd hS);rw[show its.length-1=j by lia];exact hv
 | succ r ih=>
  intro j h tk vb c hr hj K hit hv gY;obtain⟨x,hx⟩:∃x,its[j+1]?=some x:=⟨_,zC (by lia)⟩;refine codeAny_builtin PySem.F.entry_min_loop ?_;unfold Builtin.«min.loop»;refine zA (Bx gY rfl ?_);dsimp only;refine zA (BS (M.next (j+1) h tk x _ _ K hit hx fun h' gJ k=>?_));have K':Kp s0 h':=K.but hI fun b o hb e=>by rw[k b hb];exact e
  have gR:h'.get? S=some { cls:=.type "list",data:=.seq #[vb,vb] c }:=by rw[k S g8];exact gY
  refine zA (zE ?_);refine zA (BS (Az (zA (cmp (j+1) (argBest bt j) x vb h' tk _ _ K' hx hv ?_))));refine zA (Az (Dx (zA (Cb (zE ?_)))));have eb:argBest bt (j+1)=if bt (j+1) (argBest bt j)=true then j+1 else argBest bt j:=argBest.eq_2 bt j
  cases e:bt (j+1) (argBest bt j) with
  | true=>rw[if_pos e] at eb;refine zA (Cf gR rfl (zA (Cb (zE ⟨rfl,?_⟩))) BO (by show 2<=sizeLine+1;decide));exact ih (j+1) _ tk x c (by lia) (by lia) (K'.upd hS) (M.stay _ _ _ gJ (DV _ _ _ _ (Ne.symm g8))) (by rw[eb];exact hx) (zu _ gR rfl)
  | false=>rw[e,if_neg (by decide)] at eb;refine zA (Cb (zE ⟨rfl,?_⟩));exact ih (j+1) h' tk vb c (by lia) (by lia) K' gJ (by rw[eb];exact hv) gR
theorem YQ (M:Ma prog w A.in1 s0 I its itAt)(bt:Nat->Nat->Bool)(hS:s0.heap.objs.size<=S)(hI:s0.heap.objs.size<=I)(g8:S≠I)
 (cmp:∀i j vi vj h tk Q E,Kp s0 h->its[i]?=some vi->its[j]?=some vj->Q (.bool (bt i j)) { s0 with heap:=h,toks:=tk }->wpAny (model prog w) A.in1 (richCompare .Lt vi vj) Q E { s0 with heap:=h,toks:=tk })
 (hR:∀v h tk,its[argBest bt (its.length-1)]?=some v->Kp s0 h->R (.ok (.ret v)) { s0 with heap:=h,toks:=tk })
 (h0:its=[]->∀h tk,Kp s0 h->R (.ok (.ret d)) { s0 with heap:=h,toks:=tk })
 (h)(tk)(c)(K:Kp s0 h)(hit:itAt 0 h)(gY:h.get? S=some { cls:=.type "list",data:=.seq #[] c }):
 codeAny (model prog w) A (.builtin "min.loop" { pos:=[.ref I,.none,.ref S],kw:=[(Str.ofString "default",d)] }) R { s0 with heap:=h,toks:=tk }:=by
 refine codeAny_builtin PySem.F.entry_min_loop ?_;unfold Builtin.«min.loop»;refine zA (Bx gY rfl ?_);dsimp only;cases e:its with
 | nil=>subst e;refine zA (BS (M.fin 0 h tk _ _ K hit rfl fun h' k=>?_));exact zA (EV (zE (h0 rfl h' tk (K.but hI k))))
 | cons x xs=>
  have hx:its[0]?=some x:=by rw[e];rfl
  refine zA (BS (M.next 0 h tk x _ _ K hit hx fun h' gJ k=>?_));have K':Kp s0 h':=K.but hI fun b o hb e=>by rw[k b hb];exact e
  have gR:h'.get? S=some { cls:=.type "list",data:=.seq #[] c }:=by rw[k S g8];exact gY
  refine zA (zE ?_);refine zA (Cf gR rfl (zE ⟨rfl,?_⟩) Em (by show 2<=sizeLine+1;decide));refine Z4 M bt hS hI g8 cmp hR (its.length-1) 0 _ tk x (c+1) rfl (by rw[e];simp) (K'.upd hS) (M.stay _ _ _ gJ (DV _ _ _ _ (Ne.symm g8))) hx (zu _ gR rfl)
theorem wpAny_of_eq (e:m=m')(h:wpAny M A m' Q E s):wpAny M A m Q E s:=by subst e;exact h
theorem XB {O:KeyOrd}(ky:Nat->O.α):∀k,argBest (fun i j=>O.blt (ky i) (ky j)) k<=k/\∀j,j<=k->O.blt (ky j) (ky (argBest (fun i j=>O.blt (ky i) (ky j)) k))=false
 | 0=>⟨zI _,fun j hj=>by obtain rfl:j=0:=(by lia);exact O.irrefl _⟩
 | k+1=>by
  obtain⟨h1,h2⟩:=XB ky k;rw[argBest.eq_2];cases e:O.blt (ky (k+1)) (ky (argBest (fun i j=>O.blt (ky i) (ky j)) k)) with
  | true=>
   rw[if_pos rfl];refine⟨zI _,fun j hj=>?_⟩;by_cases c:j=k+1
   . subst c;exact O.irrefl _
   . cases e2:O.blt (ky j) (ky (k+1)) with
     | false=>rfl
     | true=>rw[<-h2 j (by lia)];exact (O.trans _ _ _ e2 e).symm
  | false=>
   rw[if_neg (by decide)];refine⟨by lia,fun j hj=>?_⟩;by_cases c:j=k+1
   . subst c;exact e
   . exact h2 j (by lia)
theorem YM (hA:A.handled=none)(bt:Nat->Nat->Bool)(hp:s.heap.IsList p its.toArray\/s.heap.IsTuple p its.toArray)
 (cmp:∀i j vi vj h tk Q E,Kp s h->its[i]?=some vi->its[j]?=some vj->Q (.bool (bt i j)) { s with heap:=h,toks:=tk }->wpAny (model prog w) A.in1 (richCompare .Lt vi vj) Q E { s with heap:=h,toks:=tk })
 (hR:∀v h tk,its[argBest bt (its.length-1)]?=some v->Kp s h->Q v { s with heap:=h,toks:=tk })
 (h0:its=[]->∀h tk,Kp s h->Q d { s with heap:=h,toks:=tk }):
 wpAny (model prog w) A (call (.builtin "min") [.ref p] [(Str.ofString "default",d)]) Q E s:=by
 refine Cu (codeAny_call_builtin PySem.F.plain_min PySem.F.entry_min (wpAny_of_eq (show checkBuiltinCall "min" { pos:=[.ref p],kw:=[(Str.ofString "default",d)] }=pure () from rfl) (zE ?_)));unfold Builtin.min;refine zA (wpAny_of_eq (show Builtin.Builtins.bindParams "min" ["key", "default"] 0 { kw:=[(Str.ofString "default",d)] }=pure [none,some d] from rfl) (zE ?_));dsimp only;refine zA (zE ?_);have kp0:∀(o1 o2:Obj),Kp s ((s.heap.push o1).push o2):=fun o1 o2 b o e=>zG _ (zG _ e);rcases hp with hp | hp
 . refine zA (Hk hp (zA (Gg (zE ⟨rfl,?_⟩) Em)));have ik:(s.heap.push { cls:=.type "list_iterator",data:=.fields #[.ref p,.int 0 0] }).objs.size=s.heap.objs.size+1:=C2 ..;rw[ik];refine YQ (s0:=s) (I:=s.heap.objs.size) (S:=s.heap.objs.size+1) (itAt:=fun j h=>h.IsListIter s.heap.objs.size p j) ⟨fun j h h' a e=>?_,fun j h tk v Q E K hit hv q=>?_,fun j h tk Q E K hit hv q=>?_⟩ bt (DK _) (zI _) (JY _) cmp hR h0 _ s.toks 0 (kp0 _ _) ?_ ?_
   . obtain⟨o,ho,hc⟩:=a;exact⟨o,by rw[e];exact ho,hc⟩
   . obtain⟨o,ho,hc⟩:=hp;exact IC hit ⟨o,K _ _ ho,hc⟩ (by rw[Bn];exact hv) fun h' a b=>q h' a fun c hc=>b.2 c hc
   . obtain⟨o,ho,hc⟩:=hp;exact J1 hA hit ⟨o,K _ _ ho,hc⟩ (by rw[Bn];exact hv) fun h' b=>q h' b
   . exact⟨_,zG _ (zN _ rfl),rfl,rfl⟩
   . rw[<-ik];exact zN _ rfl
 . refine zA (Jv hp (zA (Gg (zE ⟨rfl,?_⟩) Em)));have ik:(s.heap.push { cls:=.type "tuple_iterator",data:=.fields #[.ref p,.int 0 0] }).objs.size=s.heap.objs.size+1:=C2 ..;rw[ik];refine YQ (s0:=s) (I:=s.heap.objs.size) (S:=s.heap.objs.size+1) (itAt:=fun j h=>h.IsTupleIter s.heap.objs.size p j) ⟨fun j h h' a e=>?_,fun j h tk v Q E K hit hv q=>?_,fun j h tk Q E K hit hv q=>?_⟩ bt (DK _) (zI _) (JY _) cmp hR h0 _ s.toks 0 (kp0 _ _) ?_ ?_
   . obtain⟨o,ho,hc⟩:=a;exact⟨o,by rw[e];exact ho,hc⟩
   . obtain⟨o,ho,hc⟩:=hp;exact wpAny_pyNext_tuple_item hit ⟨o,K _ _ ho,hc⟩ (by rw[Bn];exact hv) fun h' a b=>q h' a fun c hc=>b.2 c hc
   . obtain⟨o,ho,hc⟩:=hp;exact wpAny_pyNext_tuple_end hA hit ⟨o,K _ _ ho,hc⟩ (by rw[Bn];exact hv) fun h' b=>q h' b
   . exact⟨_,zG _ (zN _ rfl),rfl,rfl⟩
   . rw[<-ik];exact zN _ rfl
def JV (K:AO)(x dv:V)(H:Hp)(Q:VK):Prop:=∃p ys,x=.ref p/\(AE K H p ys\/AB K H p ys)/\(ys=[]->Q dv H) /\
 ((∃ks,Ag H ys ks/\∀(i:Nat)y(k:List Int),ys[i]?=some y->ks[i]?=some k->(∀k'∈ks,HT.lexLt k' k=false)->Q y H)\/(∃ns:List Int,ys=ns.map V.int/\∀n∈ns,(∀m∈ns,n<=m)->Q (.int n) H))
def Od (K:AO)(t:TA)(td:TE):TE:=fun σ H Q=>t σ H fun vs H1=>∃x,vs=[x]/\td σ H1 fun dv H2=>JV K x dv H2 Q
theorem OE (hc:X.calm=true)(hu:X.A.units+1<cLine)(hg:Gl X "min") (hm:X.mg "min"=none) (he:PA X [e] t)(hd:PE X de td)
 (jh:backTo pos (starEach [e] X.env)=(false,eval e X.env)::backTo pos (starEach [] X.env):=by rfl)(iM:(backTo pos (starEach [e] X.env)).any (·.1)=false:=by rfl):
 PE X (.Call (.Name "min" np) [e] [⟨some "default",de,kpos⟩] pos) (Od X.K t td):=by
 intro pins s σ H Q I h;refine Gx (C9 I hg hm (by decide +kernel:bootBuiltins "min"=some (.builtin "min")) ?_);refine PyProof.Rows.callWith_kw (AM (he pos pins s σ H _ I h) fun us s1 ⟨vs,H1,I1,r,q1⟩=>?_) jh iM;obtain⟨x,rfl,q1⟩:=q1;obtain⟨u,rfl,rx⟩:=B2 r;show wpAny _ _ (evalAll ((do let v <-eval de X.env;standAt pos;pure v)::[])) _ _ s1
 refine wpAny_evalAll_cons (zA (AM (hd pins s1 σ H1 _ I1 q1) fun ud s2 ⟨dv,H2,I2,rd,q2⟩=>zA (wpAny_standAt (zE (wpAny_evalAll_nil ?_)))));show wpAny _ _ (call (.builtin "min") [u] [(Str.ofString "default",ud)]) _ _ s2;obtain⟨p,ys,rfl,hp,q0,hk⟩:=q2;cases rx;obtain⟨its,rv,hpp⟩:∃its:List Value,AR ys its/\(s2.heap.IsList p its.toArray\/s2.heap.IsTuple p its.toArray):=by
  rcases hp with hp | hp
  . obtain⟨its,r',pl,_⟩:=I2.list hp;exact⟨its,r',.inl pl.isList⟩
  . obtain⟨its,r',pl,_⟩:=I2.tuple hp;exact⟨its,r',.inr pl⟩
 have hlen:=rv.length;have e0:its=[]->ys=[]:=fun z=>Ep.mp (by rw[hlen,z];rfl);rcases hk with ⟨ks,T,q⟩ | ⟨ns,rfl,q⟩
 . have hl:=T.length;refine YM (I2.ok.hd hc) (fun i j=>Gz.blt (ks.getD i []) (ks.getD j [])) hpp (fun i j vi vj h tk Q E K hi hj q=>?_) (fun v h tk hv K=>?_) (fun z h tk K=>⟨dv,H2,I2.kept K,rd,q0 (e0 z)⟩)
   . have look:∀(i:Nat)(v:Value),its[i]?=some v->∃(p:Addr)(k:List Int)(us:List Value),v=.ref p/\ks[i]?=some k/\IntsAre us k/\IsTup h p us.toArray:=fun i v hv=>by
      have hi:i<ys.length:=by have:=(zH.mp hv).1;lia
      obtain⟨p,k,e1,e2,e3,_⟩:=T.get (i:=i) (x:=ys[i]) (by simp[hi]);obtain⟨u,hu,ru⟩:=rv.get (i:=i) (x:=ys[i]) (by simp[hi]);rw[hv] at hu;cases hu;rw[e1] at ru;cases (show v=Value.ref p from ru);obtain⟨_,us,rv',o,ho,hc⟩:=I2.hok p _ e3;exact⟨p,k,us,rfl,e2,ET rv',o,K _ _ ho,hc⟩
     obtain⟨p1,k1,us1,rfl,g1,i1,t1⟩:=look i vi hi;obtain⟨p2,k2,us2,rfl,g2,i2,t2⟩:=look j vj hj;refine HT.lt_tupInts (ns:=k1) (ms:=k2) t1 t2 i1 i2 hu ?_;have:Gz.blt (ks.getD i []) (ks.getD j [])=HT.lexLt k1 k2:=by rw[zF,zF,g1,g2];rfl
     rw[<-this];exact q
   . obtain⟨b1,b2⟩:=XB (O:=Gz) (fun i=>ks.getD i []) (its.length-1);have gD:=(zH.mp hv).1;generalize eb:argBest (fun i j=>Gz.blt (ks.getD i []) (ks.getD j [])) (its.length-1)=bi at hv gD b1 b2;have hy:bi<ys.length:=by lia
     obtain⟨u,hu,ru⟩:=rv.get (i:=bi) (x:=ys[bi]) (by simp[hy]);rw[hv] at hu;cases hu;obtain⟨pa,k,e1,e2,e3,_⟩:=T.get (i:=bi) (x:=ys[bi]) (by simp[hy]);refine⟨ys[bi],H2,I2.kept K,ru,q bi ys[bi] k (by simp[hy]) e2 fun k' iS=>?_⟩;obtain⟨j,hj,ej⟩:=zp iS;have:=b2 j (by lia);have g1:ks.getD j []=k':=by rw[zF,zC hj,ej];rfl
     have g2:ks.getD bi []=k:=by rw[zF,e2];rfl
     rw[g1,g2] at this;exact this
 . have hI:IntsAre its ns:=ET rv;have hl:=hI.length;have look:∀(i:Nat)(v:Value),its[i]?=some v->∃t,v=.int (ns.getD i 0) t:=fun i v hv=>by
    have hi:i<ns.length:=by have:=(zH.mp hv).1;lia
    obtain⟨u,hu,ru⟩:=rv.get (i:=i) (x:=.int ns[i]) (by simp[hi]);rw[hv] at hu;cases hu;obtain⟨t,rfl⟩:=(show ∃t,v=Value.int ns[i] t from ru);exact⟨t,by rw[zF,zC hi];rfl⟩
   refine YM (I2.ok.hd hc) (fun i j=>decide (ns.getD i 0<ns.getD j 0)) hpp (fun i j vi vj h tk Q E K hi hj q=>?_) (fun v h tk hv K=>?_) (fun z h tk K=>⟨dv,H2,I2.kept K,rd,q0 (e0 z)⟩)
   . obtain⟨t1,rfl⟩:=look i vi hi;obtain⟨t2,rfl⟩:=look j vj hj;exact PyProof.Rows.lt_int q
   . obtain⟨b1,b2⟩:=argBest_lt (fun i=>ns.getD i 0) (its.length-1);have gD:=(zH.mp hv).1;generalize eb:argBest (fun i j=>decide (ns.getD i 0<ns.getD j 0)) (its.length-1)=bi at hv gD b1 b2;obtain⟨t,rfl⟩:=look bi v hv;have hy:bi<ns.length:=by lia
     refine⟨.int (ns.getD bi 0),H2,I2.kept K,⟨t,rfl⟩,q _ ?_ fun m hm=>?_⟩
     . rw[zF,zC hy];exact DF hy
     . obtain⟨j,hj,ej⟩:=zp hm;have:=b2 j (by lia);have g1:ns.getD j 0=m:=by rw[zF,zC hj,ej];rfl
       rw[g1] at this;exact this
theorem bH (hA:A.handled=none)(hl:PlainL s.heap l its)
 (q:∀h' tk,Kp s h'->Q none { s with heap:=h',toks:=tk }):wpAny (model prog w) A (getAttr? (.ref l) (Str.ofString "keys")) Q E s:=by
 have ty:∀tk,Shared.TypeIs { s with toks:=tk } (.ref l) "list" := fun tk=>by obtain⟨o,ho,hc,_⟩:=hl.isList;exact⟨o,ho,hc⟩
 unfold getAttr?;refine zA (zA (wpAny_fresh (zE ?_)));unfold getAttrBy?;refine zA (G6 ?_);unfold getAttrBy;refine Az (zA (Dw (ty _) (zA (wpAny_of_eq (show typeLookup (.type "list") (Str.ofString "__getattribute__")=pure (some (.builtin "list.__getattribute__")) from rfl) (zE ?_)))));show wpAny _ _ (getAttrByItsOwn _ _ _ _ _ _) _ _ _;unfold getAttrByItsOwn;refine zA (wpAny_of_eq (show hookBefore (.type "list")=pure none from rfl) (zE (zA (G6 (Az ?_)))));show wpAny _ _ (boundAndCalled _ _ _) _ _ _;unfold boundAndCalled;refine zA (wpAny_of_eq (show bindSpecial (.builtin "list.__getattribute__") (.ref l)=pure (.builtin "list.__getattribute__",[.ref l]) from rfl) (zE ?_));refine Cu (codeAny_call_builtin (by decide +kernel) PySem.am_entry_list_getattribute ?_);refine zA (Dr (ty _) (b:=true) rfl ?_);refine wpAny_of_eq (m':=pure ()) rfl (zE ?_);unfold Builtin.«object.__getattribute__»;refine zA (wpAny_of_eq (m':=pure (Value.ref l,[Value.str (Str.ofString "keys") s.toks])) rfl (zE ?_));refine zA (zE (zA (Dw (ty _) (zA ?_))));unfold Builtin.ObjectAttr.find;refine zA (wpAny_of_eq (m':=pure none) rfl (zE (zA (zE (zA (zE ?_))))));obtain⟨o,n,ho,hc,hd,hV⟩:=id hl;obtain⟨cls,dict,data,slots⟩:=o;obtain rfl:cls=_:=hc;obtain rfl:dict=_:=hd;obtain rfl:data=_:=hV
 refine zA (zA (zA (wpAny_loadPart ho (zA (wpAny_loadPart ho (zE (zE ?_)))))));refine zA (wpAny_of_eq (m':=pure ()) rfl (zE (zA (EV (zE ?_)))));show wpAny _ _ (Builtin.ObjectAttr.noSuchAttribute (Value.ref l) (Str.ofString "keys")) _ _ _;unfold Builtin.ObjectAttr.noSuchAttribute;refine zA (zA (zA (Dw (ty _) (wpAny_of_eq (m':=pure (Value.type "list")) rfl (zE (wpAny_of_eq (m':=pure "list") rfl (zE ?_)))))));refine wpAny_raiseAttrError hA (fun h' tk e ne=>?_) (by decide +kernel);obtain⟨t,u,he⟩:=ne.there;have tye:∀tk,Shared.TypeIs { s with heap:=h',toks:=tk } (.ref e) "AttributeError" := fun tk=>⟨_,he,rfl⟩;show wpAny _ _ (getattributeRaised _ _ _ _ _ _ _) _ _ _;unfold getattributeRaised;refine zA (Dr (tye _) (b:=true) rfl ?_);refine zA (wpAny_of_eq (m':=pure none) rfl (zE ?_));refine zA (wpAny_throw ?_);refine zA (Dr (tye _) (b:=true) rfl (zE ?_));exact q h' tk ne.keeps
theorem Vg (a):(Code.builtin "dict.update.loop" a).quiet=true:=plainId_quiet (id := "dict.update.loop") (by decide +kernel) a
theorem du [DecidableEq κ] (fu)(k:κ)(v):(stored fu k v).length<=fu.length+1:=by
 unfold stored;split
 . rw[zB];lia
 . rw[zJ];exact zI _
noncomputable def F8 (qs:List (AU×Value)):List (AU×Value):=qs.foldl (fun a q=>stored a q.1 q.2) []
theorem ZK (qs)(q:AU×Value):F8 (qs++[q])=stored (F8 qs) q.1 q.2:=by unfold F8;rw[List.foldl_append];rfl
theorem b7 (qs):(F8 qs).length<=qs.length:=by
 have:∀(qs:List (AU×Value))(a:List (AU×Value)),(qs.foldl (fun a q=>stored a q.1 q.2) a).length<=a.length+qs.length:=by
  intro qs
  induction qs with
  | nil=>intro a;exact zI _
  | cons q qs ih=>intro a;have h1:=ih (stored a q.1 q.2);have h2:=du a q.1 q.2;rw[List.foldl_cons,zk];lia
 have:=this qs [];simpa [F8] using this
section
variable {prog:Program}{w:World}{A:Around}{s0:Shared}{D I l:Addr}{its:List Value}{qs:List (AU×Value)}
theorem ag (hA:A.handled=none)(hD:s0.heap.objs.size<=D)(hI:s0.heap.objs.size<=I)(hDI:D≠I)(hl:s0.heap.IsList l its.toArray)(hz:its.length<=sizeLine)(hqs:qs.length=its.length)
 (look:∀(i:Nat)v,its[i]?=some v->∃p kv u k,v=.ref p/\IsTup s0.heap p #[kv,u]/\(A5 prog w).is k kv=true/\qs[i]?=some (k,u))
 (hR:∀h(tk:Nat),Kp s0 h->h.DictOf (A5 prog w) D (F8 qs)->R (.ok (.ret .none)) { s0 with heap:=h,toks:=tk }):
 ∀(r j:Nat)h(tk:Nat),its.length-j=r->j<=its.length->Kp s0 h->h.IsListIter I l j->h.DictOf (A5 prog w) D (F8 (qs.take j)) ->
  codeAny (model prog w) A (.builtin "dict.update.loop" { pos:=[.ref D,.ref I,rawInt j,.none] }) R { s0 with heap:=h,toks:=tk }:=by
 have gm:∀h,Kp s0 h->h.IsList l its.toArray:=fun h K=>by obtain⟨o,ho,hc⟩:=hl;exact⟨o,K _ _ ho,hc⟩
 intro r
 induction r with
 | zero=>intro j h tk hr hj K hit hd;refine codeAny_builtin (b:=Builtin.«dict.update.loop») (by rfl) ?_;unfold Builtin.«dict.update.loop»;refine zA (J1 hA hit (gm h K) (by rw[Bn];exact CQ (by lia)) fun h' b=>?_);refine zA (wpAny_of_eq (m':=pure ()) rfl (zE (zE ?_)));refine hR h' tk (K.but hI b) ?_;obtain⟨o,es,ep,ho,iR⟩:=hd;rw[zY (by lia)] at iR;exact⟨o,es,ep,b D o hDI ho,iR⟩
 | succ r ih=>
  intro j h tk hr hj K hit hd;obtain⟨x,hx⟩:∃x,its[j]?=some x:=⟨_,zC (by lia)⟩;obtain⟨p,kv,u,k,rfl,tp,hk,hq⟩:=look j x hx;refine codeAny_builtin (b:=Builtin.«dict.update.loop») (by rfl) ?_;unfold Builtin.«dict.update.loop»;refine zA (IC hit (gm h K) (by rw[Bn];exact hx) fun h' gJ b=>?_);have K':Kp s0 h':=K.but hI fun c o hc e=>by rw[b.2 c hc];exact e
  obtain⟨o,ho,hc,n,hV⟩:=tp;refine zA (Az (zA (BS ?_)));unfold Builtin.Dict.pairItems;refine zA (Dw (T := "tuple") ⟨o,K' _ _ ho,hc⟩ ?_);refine zA (Bx (K' _ _ ho) hV (zE ?_));have hd':h'.DictOf (A5 prog w) D (F8 (qs.take j)):=by obtain⟨o,es,ep,ho,iR⟩:=hd;exact⟨o,es,ep,by rw[b.2 D hDI];exact ho,iR⟩
  refine Az (wpAny_dictSet_pairs hk hd' (fun h2 hd2 b2=>?_) (Cq (b7 _) (by rw[zt];lia)));refine zE ⟨Vg _,?_⟩;refine ih (j+1) h2 (tk+1) (by lia) (by lia) (fun c o e=>?_) ?_ ?_
  . rw[b2.2 c (zj (zx (zd e) hD))];exact K' c o e
  . obtain⟨o,ho,hc⟩:=gJ;exact⟨o,by rw[b2.2 I (Ne.symm hDI)];exact ho,hc⟩
  . rw[zy,hq];show h2.DictOf _ D (F8 (qs.take j++[(k,u)]));rw[ZK];exact hd2
end
theorem dy (h:Heap):(h.push { cls:=.type "dict",data:=.dict #[] }).DictOf (A5 prog w) h.objs.size []:=
 ⟨_,#[],0,zN _ rfl,⟨rfl,rfl,rfl⟩,rfl,by
  first | exact KeysOf.nil | (intro x hx;simp at hx) | trivial | decide,by
  first | exact .nil | trivial,Hs⟩
theorem aX {its:List Value}(hA:A.handled=none)(hl:PlainL s.heap l its.toArray)(hz:its.length<=sizeLine)(hqs:qs.length=its.length)
 (look:∀(i:Nat)v,its[i]?=some v->∃p kv u k,v=.ref p/\IsTup s.heap p #[kv,u]/\(A5 prog w).is k kv=true/\qs[i]?=some (k,u))
 (q:∀D h(tk:Nat),s.heap.objs.size<=D->Kp s h->h.DictOf (A5 prog w) D (F8 qs)->Q (.ref D) { s with heap:=h,toks:=tk }):
 wpAny (model prog w) A (call (.type "dict") [.ref l]) Q E s:=by
 refine callType_codes (Q₁:=fun obj s₁=>obj=.ref s.heap.objs.size/\s₁={ s with heap:=s.heap.push { cls:=.type "dict",data:=.dict #[] } }) PySem.F.kt_called_dict (PySem.F.kt_typeCall_dict_1 _) PySem.F.entry_dict_init ?_ (fun obj s₁ e=>?_)
 . refine codeAny_call_builtin (by decide +kernel) PySem.F.kt_entry_dict_new (wpAny_of_eq (PySem.F.kt_newCall_dict_1 _) (zE ?_));unfold Builtin.«dict.__new__»;refine zA (wpAny_of_eq (m':=pure true) rfl (zE (zA (wpAny_of_eq (m':=pure true) rfl (zE (zA (wpAny_of_eq (m':=pure [Value.type "dict",Value.type "object"]) rfl (zE ?_))))))));exact zA (wpAny_newObjAsIs_type (zE ⟨rfl,rfl⟩))
 . obtain⟨rfl,rfl⟩:=e;refine⟨⟨_,zN _ rfl,rfl⟩,PySem.F.args_dict_init_2 _ _,?_⟩;unfold Builtin.«dict.__init__»;have h0:Kp s (s.heap.push { cls:=.type "dict",data:=.dict #[] }):=fun b o e=>zG _ e;have hW:∀h,Kp s h->PlainL h l its.toArray:=fun h K=>by obtain⟨o,n,ho,hr⟩:=hl;exact⟨o,n,K _ _ ho,hr⟩
   refine zA (zA (zA (Dw (T := "dict") ⟨_,zN _ rfl,rfl⟩ (zE (zA (zE (zE ?_)))))));show wpAny _ _ (Builtin.Dict.updateFrom "dict.__init__" s.heap.objs.size (.ref l) [] .none) _ _ _;unfold Builtin.Dict.updateFrom;refine zA (Dw (T := "list") (let ⟨o,ho,hc,_⟩:=(hW _ h0).isList;⟨o,ho,hc⟩) ?_);refine zA (bH hA (hW _ h0) fun h1 tk1 K1=>?_);have K1':Kp s h1:=fun b o e=>K1 b o (h0 b o e);refine zA (EV (zA (Hk (hW _ K1').isList (zE ⟨Vg _,?_⟩))));have hsz:s.heap.objs.size<h1.objs.size:=zd (K1 _ _ (zN _ rfl));refine ag (A:=A.in1) (s0:=s) (l:=l) (its:=its) (qs:=qs) hA (zI _) (Ea hsz) (zj hsz) hl.isList hz hqs look ?_ its.length 0 _ tk1 rfl (zg _) (fun b o e=>zG _ (K1' b o e)) ?_ ?_
   . exact fun h tk K hd=>⟨rfl,q _ h tk (zI _) K hd⟩
   . exact⟨_,zN _ rfl,rfl,rfl⟩
   obtain⟨o,es,ep,ho,hr⟩:=dy (prog:=prog) (w:=w) s.heap;exact⟨o,es,ep,zG _ (K1 _ _ ho),hr⟩
def aq (H:Hp)(ys:List V)(ps:List (AU×V)):Prop:=ps.length=ys.length/\∀(i:Nat)y,ys[i]?=some y->∃p k v,y=.ref p/\H p=some (.tup [kV k,v])/\ps[i]?=some (k,v)
noncomputable def Mf (ps:List (AU×V)):List (AU×V):=ps.foldl (fun a p=>Ax a p.1 p.2) []
theorem Wa:∀(ps:List (AU×V))(qs:List (AU×Value))(a:List (AU×V))(b:List (AU×Value)),KV ps qs->KV a b->KV (ps.foldl (fun a p=>Ax a p.1 p.2) a) (qs.foldl (fun a q=>stored a q.1 q.2) b)
 | [],[],_,_,_,h=>h
 | p::ps,q::qs,a,b,h,h'=>by
  cases h with
  | cons h1 h2=>rw[List.foldl_cons,List.foldl_cons];refine Wa ps qs _ _ h2 ?_;rw[<-h1.1];exact KV.put h' p.1 h1.2
 | [],_::_,_,_,h,_=>by cases h
 | _::_,[],_,_,h,_=>by cases h
theorem bZ (ps):(Mf ps).length<=ps.length:=by
 have:∀(ps:List (AU×V))(a:List (AU×V)),(ps.foldl (fun a p=>Ax a p.1 p.2) a).length<=a.length+ps.length:=by
  intro ps
  induction ps with
  | nil=>intro a;exact zI _
  | cons q qs ih=>intro a;have h1:=ih (Ax a q.1 q.2);have h2:=N4 a q.1 q.2;rw[List.foldl_cons,zk];lia
 have:=this ps [];simpa [Mf] using this
inductive QI (K:AO)(xs:List V)(H:Hp)(Q:VK):Prop
 | mk:∀l ys ps,(xs=[.ref l])->(AE K H l ys)->(aq H ys ps)->(∀d,H d=none->Q (.ref d) (upd H d (.dK (Mf ps))))->QI K xs H Q
theorem ZP (hc:X.calm=true):CO X (.type "dict") (QI X.K):=by
 intro pins s σ H xs us Q I r h;obtain⟨l,ys,ps,rfl,hq,⟨gZ,i5⟩,q⟩:=h;obtain⟨u,rfl,rx⟩:=B2 r;cases rx;obtain⟨its,rv,pl,hz⟩:=I.list hq;have hlen:=rv.length;have both:∀(i:Nat),i<its.length->∃(p:Addr)(kv u:Value)(k:AU)(v:V),its[i]?=some (.ref p)/\IsTup s.heap p #[kv,u]/\(A5 X.prog X.w).is k kv=true/\AS v u/\ps[i]?=some (k,v):=fun i hi=>by
  have hy:i<ys.length:=by lia
  obtain⟨p,k,v,e1,e2,e3⟩:=i5 i ys[i] (by simp[hy]);obtain⟨u,hu,ru⟩:=rv.get (i:=i) (x:=ys[i]) (by simp[hy]);rw[e1] at ru;cases (show u=Value.ref p from ru);obtain⟨_,us,rv',tp⟩:=I.hok p _ e2;obtain⟨a,b,rfl,ra,rb⟩:=Tt rv';exact⟨p,a,b,k,v,hu,tp,Hi ra,rb,e3⟩
 obtain⟨qs,hql,hqk⟩:∃qs:List (AU×Value),qs.length=its.length/\∀(i:Nat),i<its.length->∃(p:Addr)(kv u:Value)(k:AU)(v:V),its[i]?=some (.ref p)/\IsTup s.heap p #[kv,u]/\(A5 X.prog X.w).is k kv=true/\AS v u/\ps[i]?=some (k,v)/\qs[i]?=some (k,u):=by
  have:∀m,m<=its.length->∃qs:List (AU×Value),qs.length=m/\∀(i:Nat),i<m->∃(p:Addr)(kv u:Value)(k:AU)(v:V),its[i]?=some (.ref p)/\IsTup s.heap p #[kv,u]/\(A5 X.prog X.w).is k kv=true/\AS v u/\ps[i]?=some (k,v)/\qs[i]?=some (k,u):=by
   intro m
   induction m with
   | zero=>intro _;exact⟨[],rfl,fun i hi=>absurd hi (HC _)⟩
   | succ m ih=>
    intro hm;obtain⟨qs,h1,h2⟩:=ih (by lia);obtain⟨p,kv,u,k,v,g1,g2,g3,g4,g5⟩:=both m (by lia);refine⟨qs++[(k,u)],by rw[zJ,h1];rfl,fun i hi=>?_⟩;by_cases c:i=m
    . subst c;exact⟨p,kv,u,k,v,g1,g2,g3,g4,g5,by rw[za (by lia),h1,Ge];rfl⟩
    . obtain⟨p,kv,u,k,v,f1,f2,f3,f4,f5,f6⟩:=h2 i (by lia);exact⟨p,kv,u,k,v,f1,f2,f3,f4,f5,by rw[zc (by lia)];exact f6⟩
  exact this its.length (zI _)
 have kv:KV ps qs:=by
  have:∀(ps:List (AU×V))(qs:List (AU×Value)),ps.length=qs.length->(∀i,i<ps.length->∃k v u,ps[i]?=some (k,v)/\qs[i]?=some (k,u)/\AS v u)->KV ps qs:=by
   intro ps
   induction ps with
   | nil=>intro qs e _;cases qs with
    | nil=>exact .nil
    | cons _ _=>simp at e
   | cons p ps ih=>
    intro qs e h;cases qs with
    | nil=>simp at e
    | cons q qs=>obtain⟨k,v,u,h1,h2,h3⟩:=h 0 (by simp);simp at h1 h2;subst h1 h2;refine .cons ⟨rfl,h3⟩ (ih qs (by simpa using e) fun i hi=>?_);obtain⟨k,v,u,h1,h2,h3⟩:=h (i+1) (by simp;lia);exact⟨k,v,u,by simpa using h1,by simpa using h2,h3⟩
  refine this ps qs (by lia) fun i hi=>?_;obtain⟨p,kv,u,k,v,_,_,_,f4,f5,f6⟩:=hqk i (by lia);exact⟨k,v,u,f5,f6,f4⟩
 refine aX (its:=its) (qs:=qs) (I.ok.hd hc) pl (by lia) hql (fun i v hv=>?_) (fun D h tk hD K dd=>?_)
 . obtain⟨p,kv,u,k,v',f1,f2,f3,f4,f5,f6⟩:=hqk i (zH.mp hv).1;rw[hv] at f1;cases f1;exact⟨p,kv,u,k,rfl,f2,f3,f6⟩
 . have hfr:H D=none:=I.hok.fresh hD;have zz:(Mf ps).length<=sizeLine:=Cq (bZ ps) (by lia);refine⟨.ref D,_,I.laid (a:=D) (o:=.dK (Mf ps)) (t':=tk) K hD (Ru zz (beq_eq_false_iff_ne.mpr (Ne.symm (zj (zx I.big hD)))) (Wa ps qs [] [] kv .nil) dd),rfl,q D hfr⟩
end L2
namespace L2
open PySem PySem.Spec PyProof.Rows
theorem J9 (hm:X.mg x=none)(hg:Gl X x:=by rfl)(hv:bootBuiltins x=some (.type T):=by decide +kernel)(hn:x ≠ "__name__" := by decide) (hdb:(x==("__debug__" : Str))=false:=by decide):PE X (.Name x pos) (tC (.ty T)):=
 fun pins s σ H Q I h=>C9 I hg hm hv ⟨.ty T,H,I,rfl,h⟩ hn hdb
inductive JM (K:AO)(xs:List V)(H:Hp)(Q:VK):Prop
 | mk:∀x T t b,(xs=[x,.ty T])->(Dq K H x t)->(PySem.W.kitOne K t (.type T)=some b)->(Q (.bl b) H)->JM K xs H Q
theorem Jo:CO X (.builtin "isinstance") (JM X.K):=by intro pins s σ H xs us Q I r h;obtain⟨x,T,t,b,rfl,ty,e,q⟩:=h;obtain⟨u,w',rfl,rx,rT⟩:=Tt r;cases (show w'=Value.type T from rT);exact bx I rx ty e fun tk=>⟨.bl b,H,I.tok tk,rfl,q⟩
theorem Ii {st:Stmt}:PS X st (fun _ _ _=>False):=fun _ _ _ _ _ _ h=>h.elim
section
variable {prog:Program}{w:World}{A:Around}{s0:Shared}{I l:Addr}{bs:List Bool}
theorem Zj (hA:A.handled=none)(hI:s0.heap.objs.size<=I)(hl:s0.heap.IsList l (bs.map Value.bool).toArray)
 (hR:∀h tk,Kp s0 h->R (.ok (.ret (.bool (bs.all id)))) { s0 with heap:=h,toks:=tk }):
 ∀r j h tk,bs.length-j=r->j<=bs.length->Kp s0 h->h.IsListIter I l j->(bs.take j).all id=true ->
  codeAny (model prog w) A (.builtin "all.loop" { pos:=[.ref I] }) R { s0 with heap:=h,toks:=tk }:=by
 have gm:∀h,Kp s0 h->h.IsList l (bs.map Value.bool).toArray:=fun h K=>by obtain⟨o,ho,hc⟩:=hl;exact⟨o,K _ _ ho,hc⟩
 intro r
 induction r with
 | zero=>intro j h tk hr hj K hit ha;refine codeAny_builtin PySem.F.entry_all_loop ?_;unfold Builtin.«all.loop»;refine zA (J1 hA hit (gm h K) (by rw[Bn];exact CQ (by rw[zB];lia)) fun h' b=>?_);refine zA (EV (zE ?_));rw[zY (by lia)] at ha;have:=hR h' tk (K.but hI b);rw[ha] at this;exact this
 | succ r ih=>
  intro j h tk hr hj K hit ha;obtain⟨x,hx⟩:∃x,bs[j]?=some x:=⟨_,zC (by lia)⟩;refine codeAny_builtin PySem.F.entry_all_loop ?_;unfold Builtin.«all.loop»;refine zA (IC hit (gm h K) (x:=.bool x) (by rw[Bn,zM,hx];rfl) fun h' gJ b=>?_);have K':Kp s0 h':=K.but hI fun c o hc e=>by rw[b.2 c hc];exact e
  refine zA (Az (Dx (zA (Cb ?_))));cases x with
  | true=>refine zE ⟨rfl,?_⟩;exact ih (j+1) h' tk (by lia) (by lia) K' gJ (by rw[zy,hx,List.all_append,ha];rfl)
  | false=>
   refine zA (EV (zE ?_));have e:bs.all id=false:=by
    cases z:bs.all id with
    | false=>rfl
    | true=>have:=GU.mp z false (zP hx);simp at this
   have:=hR h' tk K';rw[e] at this;exact this
end
theorem Vt:∀{bs:List Bool}{its:List Value},AR (bs.map V.bl) its->its=bs.map Value.bool
 | [],[],_=>rfl
 | b::bs,u::its,h=>by
  cases h with
  | cons h1 h2=>rw[BJ,<-Vt h2,show u=Value.bool b from h1]
 | [],_::_,h=>by cases h
 | _::_,[],h=>by cases h
inductive Iu (K:AO)(xs:List V)(H:Hp)(Q:VK):Prop
 | mk:∀(p:Addr)(bs:List Bool),(xs=[.ref p])->(AE K H p (bs.map V.bl))->(Q (.bl (bs.all id)) H)->Iu K xs H Q
theorem Jy (hc:X.calm=true):CO X (.builtin "all") (Iu X.K):=by
 intro pins s σ H xs us Q I r h;obtain⟨p,bs,rfl,hq,q⟩:=h;obtain⟨u,rfl,rx⟩:=B2 r;cases rx;obtain⟨its,r',pl,hz⟩:=I.list hq;rw[Vt r'] at pl;refine Cu (codeAny_call_builtin PySem.F.plain_all PySem.F.entry_all (wpAny_of_eq (m':=pure ()) rfl (zE ?_)));unfold Builtin.all;refine zA (wpAny_of_eq (m':=pure (Value.ref p)) rfl (zE (zA (Hk pl.isList (zE ⟨rfl,?_⟩)))));refine Zj (s0:=s) (l:=p) (bs:=bs) (I.ok.hd hc) (zI _) pl.isList ?_ bs.length 0 _ s.toks rfl (zg _) (fun b o e=>zG _ e) ?_ rfl
 . exact fun h tk K=>⟨.bl _,H,I.kept K,rfl,q⟩
 . exact⟨_,zN _ rfl,rfl,rfl⟩
theorem Zl {h:Heap}(led:Bool):(h.push { cls:=.type "set",data:=.set #[] 0 (SetTable.fresh 0 0 led) }).SetOf (intKind prog w) h.objs.size (fun _=>false) 0:=by
 refine⟨_,#[],0,_,zN _ rfl,⟨rfl,rfl,rfl⟩,rfl,?_,fun k=>⟨fun z=>by simp at z,fun ⟨e,he,_⟩=>by simp at he⟩,by decide,?_,rfl⟩
 . first | exact ElemsOf.nil | trivial | (intro e he;simp at he)
 . cases led <;> first | rfl | decide +kernel
theorem cT (hA:A.handled=none)(hl:s.heap.IsTuple l its.toArray)(hi:IntsAre its ns)(hz:its.length+1<scanBound)
 (q:∀h tk,Kp s h->h.SetOf (intKind prog w) s.heap.objs.size (fun k'=>(firstMet (fun i=>ns.getD i 0) its.length).any fun x=>x==k') (firstMet (fun i=>ns.getD i 0) its.length).length->Q (.ref s.heap.objs.size) { s with heap:=h,toks:=tk }):
 wpAny (model prog w) A (call (.type "set") [.ref l]) Q E s:=by
 refine Cu (codeAny_of_tree (zE ⟨Code.quiet_builtin _ (by decide +kernel),codeAny_builtin PySem.F.entry_type_call ?_⟩));unfold Builtin.«type.__call__»;dsimp only;rw[if_neg (by rw[PySem.F.called_set.notType];decide)];rw[if_neg (by rw[PySem.F.called_set.canCreate];decide)];obtain⟨c,tl,hm⟩:=PySem.F.called_set.mro;refine zA (wpAny_of_eq (PySem.F.typeCall_set_1 _) (zE (zA (wpAny_of_eq hm (zE ?_)))));refine zA (wpAny_of_eq PySem.F.called_set.made (zE (zA (zE ?_))));refine zA (Az (Cu (codeAny_mono (code_set_new_1 (E:=E) (.ref l) (Q₁:=fun obj s₁=>obj=.ref s.heap.objs.size/\∃led,s₁={ s with heap:=s.heap.push { cls:=.type "set",data:=.set #[] 0 (SetTable.fresh 0 0 led) } }) fun led=>⟨rfl,led,rfl⟩) fun r s₁ e=>?_)))
 match r,e with
 | .ok (.ret obj),e=>
  obtain⟨rfl,led,rfl⟩:=e;have h0:Kp s (s.heap.push { cls:=.type "set",data:=.set #[] 0 (SetTable.fresh 0 0 led) }):=fun b o e=>zG _ e;have ht:∀h,Kp s h->h.IsTuple l its.toArray:=fun h K=>by obtain⟨o,ho,hr⟩:=hl;exact⟨o,K _ _ ho,hr⟩
  have gD:l<s.heap.objs.size:=by obtain⟨o,ho,_⟩:=hl;exact zd ho
  have tyS:Shared.TypeIs { s with heap:=s.heap.push { cls:=.type "set",data:=.set #[] 0 (SetTable.fresh 0 0 led) } } (.ref s.heap.objs.size) "set" := ⟨_,zN _ rfl,rfl⟩;show wpAny _ _ _ _ _ _;refine zA (Dr tyS PySem.F.called_set.sub ?_);refine zA (Az ?_);unfold callSpecial?;refine zA (wpAny_specialOf tyS PySem.F.called_set.init.lookup (Az (zA (wpAny_of_eq (PySem.F.called_set.init.bind _) (zE (zA (Cu (codeAny_call_builtin PySem.F.called_set.init.plain PySem.F.entry_set_init (check_set_init_1 tyS ?_)))))))));unfold Builtin.«set.__init__»;refine zA (wpAny_of_eq (m':=pure ()) rfl (zE ?_));dsimp only;refine zA (zA (zA (Dw tyS (wpAny_of_eq (m':=pure (Value.type "set")) rfl (zE (wpAny_of_eq (m':=pure "set") rfl (zE ?_)))))));refine zA (wpAny_of_eq (m':=pure ()) rfl (zE (zA (zE ?_))));refine zA (zA (zA (wpAny_load (zN _ rfl) ?_)));refine wpAny_of_eq (m':=pure (#[],0,SetTable.fresh 0 0 led)) (by cases led <;> rfl) (zE (wpAny_of_eq (m':=pure false) (by cases led <;> rfl) (zE ?_)));have tyT:∀h tk,Kp s h->Shared.TypeIs { s with heap:=h,toks:=tk } (.ref l) "tuple" := fun h tk K=>by obtain⟨o,ho,hr⟩:=ht h K;exact⟨o,ho,hr.1⟩
  show wpAny _ _ (Builtin.Frozenset.updateFrom "set.__init__" s.heap.objs.size (.ref l) >>= _) _ _ _;unfold Builtin.Frozenset.updateFrom;refine zA (zA (zA (Dr (tyT _ _ h0) PySem.F.sub_tuple_set (Dr (tyT _ _ h0) (b:=false) rfl ?_))));refine zA (Dw (tyT _ _ h0) ?_);refine zA (Jv (ht _ h0) (zA (wpAny_runValue ?_)));have hsz:(s.heap.push { cls:=.type "set",data:=.set #[] 0 (SetTable.fresh 0 0 led) }).objs.size=s.heap.objs.size+1:=C2 ..;refine codeAny_set_update_loopS (Walks.toS (Walks.tuple (A:=(A.under (Code.builtin "type.__call__" { pos:=[.type "set",.ref l] })).in1.in1) hA (s.heap.push { cls:=.type "set",data:=.set #[] 0 (SetTable.fresh 0 0 led) }).objs.size l (zj (by rw[hsz];exact Dp gD)) its.toArray)) s.heap.objs.size ?_ (fun i=>ns.getD i 0) ?_ (by simpa using hz) its.toArray.size 0 _ rfl (zg _) ?_ ?_ ?_
  . rw[hsz];intro z;rcases zX.mp z with z | z
    . exact absurd z (zj (Nat.lt_succ_self _))
    . exact absurd (zi.mp z) (Nat.ne_of_gt gD)
  . intro i v hv;rw[Bn] at hv;exact hi.int_at i v hv
  . exact⟨⟨_,zN _ rfl,rfl,rfl⟩,ht _ fun b o e=>zG _ (h0 b o e)⟩
  . have:=Zl (prog:=prog) (w:=w) (h:=s.heap) led;obtain⟨o,es,ep,t,ho,hr⟩:=this;exact⟨o,es,ep,t,zG _ ho,hr⟩
  . intro s' mv so;refine zE (zE (zE (zE ?_)));obtain⟨h',g',d',t',o'⟩:=s';obtain rfl:g'=s.gens:=mv.gens;obtain rfl:d'=s.drawn:=mv.drawn;obtain rfl:o'=s.os:=mv.os;refine q h' t' (fun b o e=>mv.heap b o ?_ (zG _ (h0 b o e))) (by simpa using so);have hb:b<s.heap.objs.size:=zd e;intro z;rw[hsz] at z;rcases zX.mp z with z | z
    . exact absurd z (zj hb)
    . exact absurd (zi.mp z) (zj (Dp hb))
 | .ok .next,e=>exact e.elim
 | .ok .brk,e=>exact e.elim
 | .ok .cont,e=>exact e.elim
 | .error v,e=>exact e
theorem Xs {ns:List Int}(h:ns.Nodup):∀k,k<=ns.length->firstMet (fun i=>ns.getD i 0) k=ns.take k
 | 0,_=>rfl
 | k+1,hk=>by
  rw[firstMet_succ,Xs h k (by lia)];have hx:ns[k]?=some (ns.getD k 0):=by rw[zF,zC (by lia)];rfl
  unfold step_dedup;rw[if_neg,zy,hx]
  . rfl
  . intro z;obtain⟨y,hy,e⟩:=Ho.mp z;have e':y=ns.getD k 0:=by simpa using e
    obtain⟨j,hj,ej⟩:=zp hy;rw[zt] at hj;rw[List.getElem_take] at ej;obtain⟨iS,ek⟩:=zH.mp hx;have:=(DN.mp h);have:=Cz.mp this j k (by lia) (by lia) (by lia);exact this (by rw[ej,ek,e'])
section
variable {X:Cx}
inductive JR (K:AO)(xs:List V)(H:Hp)(Q:VK):Prop
 | mk:∀(p:Addr)(ns:List Int),(xs=[.ref p])->(AB K H p (ns.map V.int))->(ns.length<=1000)->(∀d S,H d=none->Q (.ref d) (upd H d (.set S (firstMet (fun i=>ns.getD i 0) ns.length).length)))->JR K xs H Q
theorem ZL (hc:X.calm=true):CO X (.type "set") (JR X.K):=by intro pins s σ H xs us Q I r h;obtain⟨p,ns,rfl,hq,hl,q⟩:=h;obtain⟨u,rfl,rx⟩:=B2 r;cases rx;obtain⟨its,rv,pl,hz⟩:=I.tuple hq;have hi:=ET rv;have j9:=hi.length;refine cT (I.ok.hd hc) pl hi (by have:scanBound=4096:=rfl;lia) fun h tk K so=>?_;rw[j9] at so;exact⟨.ref s.heap.objs.size,_,I.laid (a:=s.heap.objs.size) (t':=tk) K (zI _) (show A1 X.prog X.w _ _ _ (.set _ _) from so),rfl,q _ _ I.fresh⟩
inductive IW (xs:List V)(H:Hp)(Q:VK):Prop
 | mk:∀(a:Addr)(S:Int->Bool)(n:Nat),(xs=[.ref a])->(H a=some (.set S n))->(Q (.int n) H)->IW xs H Q
theorem eZ:CO X (.builtin "len") IW:=by intro pins s σ H xs us Q I r h;obtain⟨a,S,n,rfl,ha,q⟩:=h;obtain⟨u,rfl,rx⟩:=B2 r;cases rx;obtain⟨o,es,ep,t,ho,ex,hd,_,_,hb,hf,hn⟩:=(show A1 X.prog X.w H s.heap a (.set S n) from I.hok a _ ha);refine call_len_set ho ex hd hf (by have:scanBound=4096:=rfl;lia) ⟨.int n,H,I.tok _,⟨_,by rw[hn]⟩,q⟩
def Uu (r:V->List V->Hp->VK->Prop)(to:TE)(t:TA):TE:=fun σ H Q=>to σ H fun x H1=>(∃p ys,x=.ref p/\H1 p=some (.tup ys))/\t σ H1 fun xs H2=>r x xs H2 Q
variable {o e:Expr}{es:List Expr}{to:TE}{t:TA}{name:Str}{apos gG:Pos}{id:String}{r:V->List V->Hp->VK->Prop}
theorem ML (slot:Slot "tuple" name id) (hty:typeOf (.builtin id)=pure (.type "method_descriptor")) (hm:R9 X id r)(ho:PE X o to)(ha:PA X (e::es) t)
 (kB:attributeBase o name X.env (eval o X.env)=eval o X.env:=by rfl)
 (hfew:((backTo gG (starEach (e::es) X.env)).all (fun x=>!x.1) && (backToKw gG (keywordEach [] X.env)).all (fun x=>x.1.isSome)
  && decide ((e::es).length+([]:List Keyword).length+(if ([]:List Keyword).isEmpty then 0 else 1)<30))=true:=by rfl)
 (j4:(apos.endLine==gG.line)=true:=by rfl)(hs:starEach (e::es) X.env=(false,eval e X.env)::starEach es X.env:=by rfl)(jD:(backTo gG (starEach es X.env)).any (·.1)=false:=by rfl):
 PE X (.Call (.Attribute o name apos) (e::es) [] gG) (Uu r to t):=by
 intro pins s σ H Q I h;refine wpAny_Call_method_late kB hfew j4 rfl (AM (ho pins s σ H _ I h) fun v s1 ⟨x,H1,I1,r1,⟨p,ys,ex,hp⟩,q1⟩=>?_);subst ex;cases (show v=Value.ref p from r1);obtain⟨⟨_,o2,ic,hd2⟩,its,rv,ob,hob,jF,_⟩:=(show A1 X.prog X.w H1 s1.heap p (.tup ys) from I1.hok p _ hp);refine⟨"tuple",id,PySem.F.plainAttrs_tuple,slot,hty,⟨ob,hob,jF⟩,fun a ea=>?_,?_⟩
 . cases ea;exact⟨o2,ic,hd2⟩
 have hA:=ha gG pins s1 σ H1 _ I1 q1;rw[hs] at hA ⊢;refine Calls.callWith_builtin (by show (false || (backTo gG (starEach es X.env)).any (·.1))=false;rw[jD] <;> rfl) (Calls.evalArgs_plain ?_);exact AM hA fun us s2 ⟨vs,H2,I2,r2,q2⟩=>hm pins s2 σ H2 (.ref p) vs (.ref p) us Q I2 rfl r2 q2
end
theorem Z8 {its:Array Value}(hi:IntsAre its.toList ns)(hv:ns[i]?=some v)(hno:∀j,j<i->ns[j]?≠some v)
 (f:Nat->Option PySem.Fin×Unit->Sem (ForInStep (Option PySem.Fin×Unit)))
 (hf:∀j x,f j x=(match its[j]? with
  | some y=>do
   let b <-eqBool y (.int v tv)
   if b=true then do
    let r <-retInt j
    pure (.done (some r,()))
   else pure (.yield (none,()))
  | _=>pure (.yield (none,()))))
 (s)(hR:∀tk,R (some (.done (.ret (.int i s.toks))),()) { s with toks:=tk }):
 ∀r j b,i-j=r->j<=i->wpAny (model prog w) A (forIn (List.range' j (its.size-j) 1) b f) R E s:=by
 have hsz:its.size=ns.length:=by have:=hi.length;simpa using this
 have j9:i<ns.length:=(zH.mp hv).1;have look:∀j,j<ns.length->∃t,its[j]?=some (.int (ns.getD j 0) t):=fun j hj=>by
  have hj':j<its.size:=by lia
  obtain⟨t,ht⟩:=hi.int_at j (its[j]'hj') (by rw[Array.getElem?_toList,Array.getElem?_eq_getElem hj']);exact⟨t,by rw[Array.getElem?_eq_getElem hj',ht]⟩
 intro r
 induction r with
 | zero=>
  intro j b hr hj;obtain rfl:j=i:=by lia
  rw[show its.size-j=(its.size-j-1)+1 by lia,List.range'_succ,List.forIn_cons,hf];obtain⟨t,ht⟩:=look j j9;rw[ht];refine zA (zA (wpAny_eqBool_int ?_));have e:ns.getD j 0=v:=by rw[zF,hv];rfl
  rw[e,show (v==v)=true by simp];refine zA (zA (wpAny_mkInt (zE (zE (zE ?_)))));exact hR _
 | succ r ih=>
  intro j b hr hj;rw[show its.size-j=(its.size-(j+1))+1 by lia,List.range'_succ,List.forIn_cons,hf];obtain⟨t,ht⟩:=look j (by lia);rw[ht];refine zA (zA (wpAny_eqBool_int ?_));have hj':ns[j]?=some (ns.getD j 0):=by rw[zF,zC (by lia)];rfl
  have e:¬ ns.getD j 0=v:=fun z=>hno j (by lia) (by rw[hj',z]);rw[show (ns.getD j 0==v)=false by simpa using e];refine zE ?_;exact ih (j+1) _ (by lia) (by lia)
theorem ak:R9 X "tuple.index" (fun x xs H Q=>∃p,∃(ns:List Int)(i:Nat)(v:Int),x=.ref p/\xs=[.int v]/\AB X.K H p (ns.map V.int)/\ns[i]?=some v/\(∀j,j<i->ns[j]?≠some v)/\Q (.int i) H):=by
 intro pins s σ H x xs v us Q I rx r h;obtain⟨p,ns,i,k,rfl,rfl,hq,hi,hno,q⟩:=h;cases (show v=Value.ref p from rx);obtain⟨u,rfl,t,rfl⟩:=B2 r;obtain⟨its,rv,⟨ob,hob,jF,n,hV⟩,hz⟩:=I.tuple hq;have hI:=ET rv;refine Cu (codeAny_call_builtin PySem.F.slot_tuple_index.plain PySem.F.entry_tuple_index (PySem.F.slot_tuple_index.check _ _ _ _ _ _ _ _ ⟨ob,hob,jF⟩ (PySem.F.args_tuple_index_2 _ _) ?_));unfold Builtin.«tuple.index»;refine zA (wpAny_of_eq (m':=pure (Value.ref p,[Value.int k t])) rfl (zE ?_));refine zA (zA (Bx hob hV (zE ?_)));refine zA (zE (zA (zE (zA ?_))));rw[Std.Legacy.Range.forIn_eq_forIn_range'];have hsz:(Std.Legacy.Range.mk 0 (min its.toArray.size its.toArray.size) 1 (by decide)).size=its.toArray.size-0:=by show (min its.toArray.size its.toArray.size-0+1-1)/1=_;rw[Nat.min_self];lia
 rw[hsz];refine Z8 (its:=its.toArray) (ns:=ns) (v:=k) (tv:=t) (i:=i) hI hi hno _ (fun j x=>by rfl) s (fun tk=>?_) i 0 _ (by lia) (zg _);exact zE ⟨.int i,H,I.tok _,⟨_,rfl⟩,q⟩
theorem cM:R9 (Bj X pl N' sc fp s3 H3) "tuple.index" (fun x xs H Q=>∃p,∃(ns:List Int)(i:Nat)(v:Int),x=.ref p/\xs=[.int v]/\AB X.K H p (ns.map V.int)/\ns[i]?=some v/\(∀j,j<i->ns[j]?≠some v)/\Q (.int i) H):=ak
inductive JP (K:AO)(xs:List V)(H:Hp)(Q:VK):Prop
 | mk:∀(p:Addr)(ns:List Int),(xs=[.ref p])->(AE K H p (ns.map V.int))->(ns≠[])->(∀M,M∈ns->(∀a∈ns,a<=M)->Q (.int M) H)->JP K xs H Q
theorem ZV (hc:X.calm=true):CO X (.builtin "max") (JP X.K):=by
 intro pins s σ H xs us Q I r h;obtain⟨p,ns,rfl,hq,gL,q⟩:=h;obtain⟨u,rfl,rx⟩:=B2 r;cases rx;obtain⟨its,rv,pl,hz⟩:=I.list hq;have hi:=ET rv;have j9:=hi.length;have hlp:p<s.heap.objs.size:=by obtain⟨o,_,ho,_⟩:=pl;exact zd ho
 have hpos:0<ns.length:=Gv.mpr gL;refine call_max_walk (Hk pl.isList ⟨s.heap.objs.size,[s.heap.objs.size,p],[s.heap.objs.size],its.toArray.size,_,_,fun i j=>decide (ns.getD i 0 > ns.getD j 0),rfl,Walks.list (A:=X.A.in1) (I.ok.hd hc) s.heap.objs.size p (zj hlp) its.toArray,⟨?_,?_⟩,?_,by simpa [j9] using hpos,?_,fun v h' tk hv kp=>?_⟩)
 . exact⟨_,zN _ rfl,rfl,rfl⟩
 . obtain⟨o,ho,hr⟩:=pl.isList;exact⟨o,zG _ ho,hr⟩
 . intro b hb;rw[C2];rcases zX.mp hb with rfl | hb
   . exact Nat.lt_succ_self _
   . rw[zi.mp hb];exact Dp hlp
 . intro i j vi vj s' Q' E' hvi hvj q';have hvi':its[i]?=some vi:=by simpa using hvi
   have hvj':its[j]?=some vj:=by simpa using hvj
   obtain⟨t1,rfl⟩:=hi.int_at i vi hvi';obtain⟨t2,rfl⟩:=hi.int_at j vj hvj';exact PyProof.Rows.gt_int q'
 . obtain⟨b1,b2⟩:=argBest_gt (fun i=>ns.getD i 0) (its.toArray.size-1);have hv':its[argBest (fun i j=>decide (ns.getD i 0 > ns.getD j 0)) (its.toArray.size-1)]?=some v:=by simpa using hv
   generalize eb:argBest (fun i j=>decide (ns.getD i 0 > ns.getD j 0)) (its.toArray.size-1)=bi at hv' b1 b2;obtain⟨t,rfl⟩:=hi.int_at bi v hv';have gD:bi<ns.length:=by have:=(zH.mp hv').1;lia
   have hK:Kp s h':=fun b o e=>kp b o (fun z=>absurd (zi.mp z) (zj (zd e))) (zG _ e);refine⟨.int (ns.getD bi 0),H,I.kept hK,⟨t,rfl⟩,q _ ?_ fun m hm=>?_⟩
   . rw[zF,zC gD];exact DF gD
   . obtain⟨j,hj,ej⟩:=zp hm;have:=b2 j (by rw[ze];lia);have g1:ns.getD j 0=m:=by rw[zF,zC hj,ej];rfl
     rw[g1] at this;exact this
end L2
namespace WM
open L2
structure En where
 h:Int
 l:Int
 u:Option Int
 d:Option Int
def Cd (es fs:List En)(c:Int×Int):Prop:=∃e∈es,∃f∈fs,f.h=e.h/\c=(e.l+f.l,e.h)
def HD (P:Int×Int->Prop):Option (Int×Int)->Prop
 | none=>∀c,¬ P c
 | some c=>P c/\∀c',P c'->c.1<c'.1\/(c.1=c'.1/\c.2<=c'.2)
def Mu (es:List En):Prop:=es.Pairwise fun a b=>a.h<b.h
noncomputable def Jw (es:List En)(h:Int):Option En:=es.find? fun e=>decide (e.h=h)
theorem Xv (hs:Mu es):Jw es h=some e↔e∈es/\e.h=h:=by
 unfold Jw;constructor
 . intro z;exact⟨List.mem_of_find?_eq_some z,of_decide_eq_true (List.find?_some (p:=fun e:En=>decide (e.h=h)) z)⟩
 . rintro ⟨hm,rfl⟩
   induction es with
   | nil=>simp at hm
   | cons a es ih=>
    rw[List.find?_cons];rcases zX.mp hm with rfl | hm'
    . simp
    . have hp:=Hn.mp hs;have:=hp.1 e hm';rw[zT (show ¬ a.h=e.h by lia)];exact ih hp.2 hm'
noncomputable def Gm (fs:List En)(e:En):Option (Int×Int):=(Jw fs e.h).map fun f=>(e.l+f.l,e.h)
theorem aB (hf:Mu fs)(c:Int×Int):c∈es.filterMap (Gm fs)↔Cd es fs c:=by
 rw[Hq];constructor
 . rintro ⟨e,he,z⟩;unfold Gm at z;cases q:Jw fs e.h with
   | none=>rw[q] at z;cases z
   | some f=>rw[q] at z;obtain⟨h1,h2⟩:=(Xv hf).mp q;exact⟨e,he,f,h1,h2,(zV z).symm⟩
 . rintro ⟨e,he,f,hfm,h1,rfl⟩;refine⟨e,he,?_⟩;unfold Gm;rw[(Xv hf).mpr ⟨hfm,h1⟩];rfl
theorem c6 {α β:Type}{l:List α}{x:α}(f:α->Option β)(h:l[i]?=some x):(l.take (i+1)).filterMap f=(l.take i).filterMap f++(f x).toList:=by
 rw[zy,h,List.filterMap_append];show _++List.filterMap f [x]=_;cases e:f x with
 | none=>rw[List.filterMap_cons_none e];rfl
 | some y=>rw[List.filterMap_cons_some e];rfl
end WM
namespace L2
open PySem PyProof.Rows
theorem dQ (h:(ps.map (·.1)).Nodup):Mf ps=ps:=by
 have:∀(ps a:List (AU×V)),((a++ps).map (·.1)).Nodup->ps.foldl (fun a p=>Ax a p.1 p.2) a=a++ps:=by
  intro ps
  induction ps with
  | nil=>intro a _;rw[BR];rfl
  | cons p ps ih=>
   intro a hn;have e:Ax a p.1 p.2=a++[p]:=by unfold Ax;rw[if_neg];intro z;obtain⟨q,hq,e⟩:=Ho.mp z;have e':=of_decide_eq_true e;rw[zQ,BJ] at hn;have:=(DW.mp hn).2.2 q.1 (List.mem_map_of_mem hq) p.1 zS;exact this e'
   rw[List.foldl_cons,e,ih (a++[p]) (by rw[DT];exact hn),DT];rfl
 exact this ps [] h
end L2
namespace WM
structure EG (ts:List T3)(n v:Int)(e:En):Prop where
 rng:0<=e.h/\e.h<n
 len:IsD ts v e.h e.l
 up:e.h≠v->∃p,e.u=some p/\ER ts v e.h p
 dn:e.h≠v->∃p,e.d=some p/\ER ts e.h v p
structure LG (ts:List T3)(n v:Int)(es:List En):Prop where
 hub:Mu es
 ent:∀e∈es,EG ts n v e
 own:∃e∈es,e.h=v
def Qr (ts:List T3)(v w:Int)(es fs:List En):Prop:=∀d,IsD ts v w d->∃h,A8 ts v w h/\(∃e∈es,e.h=h)/\∃f∈fs,f.h=h
theorem told_right (g:GW n ts)(L1:LG ts n v es)(L2:LG ts n w fs)(C:Qr ts v w es fs)(h:HD (Cd es fs) lm):
 A6 ts v w (lm.map (·.1))/\∀c,lm=some c->A8 ts v w c.2:=by
 cases lm with
 | none=>refine⟨fun d hd=>?_,fun c z=>by cases z⟩;obtain⟨d',hd'⟩:=Au.least g hd;obtain⟨x,_,⟨e,he,e1⟩,⟨f,hf,f1⟩⟩:=C d' hd';exact h _ ⟨e,he,f,hf,by rw[f1,e1],rfl⟩
 | some c=>
  obtain⟨⟨e,he,f,hf,hfe,rfl⟩,gf⟩:=h;have ie:=(L1.ent e he).len;have if':=(L2.ent f hf).len;rw[hfe] at if';have wy:Au ts v w (e.l+f.l):=ie.1.trans if'.1.symm;obtain⟨d,hd⟩:=Au.least g wy;obtain⟨x,⟨a,b,ia,ib,iab⟩,⟨e',jS,e1⟩,⟨f',hf',f1⟩⟩:=C d hd;have ed:a+b=d:=iab.uniq hd;have ea:e'.l=a:=by have:=(L1.ent e' jS).len;rw[e1] at this;exact this.uniq ia
  have eb:f'.l=b:=by have:=(L2.ent f' hf').len;rw[f1] at this;exact this.uniq ib.symm
  have hm:=gf (e'.l+f'.l,e'.h) ⟨e',jS,f',hf',by rw[f1,e1],rfl⟩;have h1:=hd.2 _ wy;have es:e.l+f.l=d:=by
   rcases hm with z | z
   . have:e.l+f.l<e'.l+f'.l:=z
     lia
   . have:e.l+f.l=e'.l+f'.l:=z.1
     lia
  have id':IsD ts v w (e.l+f.l):=by rw[es];exact hd
  refine⟨id',fun c z=>?_⟩;cases z;exact⟨e.l,f.l,ie,if'.symm,id'⟩
theorem Wf {P:Int->Prop}(rk:Int->Int):∀m p,P p->(rk p).toNat<=m->∃q,P q/\∀r,P r->(rk q).toNat<=(rk r).toNat
 | 0,p,hp,h=>⟨p,hp,fun r _=>by lia⟩
 | m+1,p,hp,h=>by
  by_cases c:∃r,P r/\(rk r).toNat<(rk p).toNat
  . obtain⟨r,hr,gD⟩:=c;exact Wf rk m r hr (by lia)
  . exact⟨p,hp,fun r hr=>Nat.le_of_not_lt fun z=>c ⟨r,hr,z⟩⟩
end WM
namespace L2
open PySem PySem.Spec PyProof.Rows
end L2
namespace WM
theorem Rj:∀i x j,x.testBit i=false->(2 ^ i+x).testBit j=(decide (j=i) || x.testBit j)
 | 0,x,0,h=>by
  have hx:x%2=0:=by
   rw[Nat.testBit_zero] at h;have:=of_decide_eq_false h
   lia
  rw[Nat.testBit_zero];have:(2 ^ 0+x)%2=1:=by rw[Nat.pow_zero];lia
  rw[this];rfl
 | 0,x,j+1,h=>by
  have hx:x%2=0:=by
   rw[Nat.testBit_zero] at h;have:=of_decide_eq_false h
   lia
  rw[Nat.testBit_succ,Nat.testBit_succ];have:(2 ^ 0+x)/2=x/2:=by rw[Nat.pow_zero];lia
  rw[this,zT (by lia),Bool.false_or]
 | i+1,x,0,h=>by
  rw[Nat.testBit_zero,Nat.testBit_zero];have:(2 ^ (i+1)+x)%2=x%2:=by rw[Nat.pow_succ];lia
  rw[this,zT (p:=0=i+1) (by lia),Bool.false_or]
 | i+1,x,j+1,h=>by
  rw[Nat.testBit_succ,Nat.testBit_succ];rw[Nat.testBit_succ] at h;have:(2 ^ (i+1)+x)/2=2 ^ i+x/2:=by rw[Nat.pow_succ];lia
  rw[this,Rj i (x/2) j h];congr 1;exact decide_eq_decide.mpr (by lia)
noncomputable def Ab (l:List Nat):Nat:=(l.map (2 ^ ·)).sum
theorem Hw:∀{l:List Nat},l.Nodup->∀j,(Ab l).testBit j=decide (j∈l)
 | [],_,j=>by simp[Ab]
 | a::l,h,j=>by
  obtain⟨h1,h2⟩:=BZ.mp h;have ih:=Hw h2;have e:Ab (a::l)=2 ^ a+Ab l:=by simp[Ab]
  rw[e,Rj a (Ab l) j (by rw[ih a];exact zT h1),ih j];by_cases c:j=a
  . subst c;simp
  . simp[c]
theorem Z6 :Ab l=0↔l=[]:=by
 cases l with
 | nil=>simp[Ab]
 | cons a l=>
  have:0<2 ^ a:=Nat.pow_pos (by decide);have e:Ab (a::l)=2 ^ a+Ab l:=by simp[Ab]
  rw[e];simp
theorem Ze (h1:l.Nodup)(h2:k.Nodup):Ab l &&& Ab k=0↔∀x∈l,x∉k:=by
 constructor
 . intro e x hx hk;have:=congrArg (Nat.testBit · x) e;simp only[Nat.testBit_and,Hw h1,Hw h2,Nat.zero_testBit,zR hx,zR hk] at this;cases this
 . intro h;apply Nat.eq_of_testBit_eq;intro j;rw[Nat.testBit_and,Hw h1,Hw h2,Nat.zero_testBit];by_cases c:j∈l
   . rw[zT (h j c),Bool.and_false]
   . rw[zT c,Bool.false_and]
noncomputable def sn (ps:List Int):Int:=(ps.map fun p=>(1:Int)*2 ^ p.toNat).sum
theorem Mm:∀ps,sn ps=((Ab (ps.map Int.toNat):Nat):Int)
 | []=>rfl
 | p::ps=>by
  have ih:=Mm ps;have e1:sn (p::ps)=1*2 ^ p.toNat+sn ps:=by simp[sn]
  have e2:Ab ((p::ps).map Int.toNat)=2 ^ p.toNat+Ab (ps.map Int.toNat):=by simp[Ab]
  rw[e1,e2,ih,Int.one_mul,Int.natCast_add];congr 1
theorem Sz:∀{ps:List Int},ps.Nodup->(∀p∈ps,0<=p)->(ps.map Int.toNat).Nodup
 | [],_,_=>Hs
 | p::ps,h,h0=>by
  obtain⟨h1,h2⟩:=BZ.mp h;rw[BJ,BZ];refine⟨fun z=>?_,Sz h2 fun q hq=>h0 q (zZ _ hq)⟩;obtain⟨q,hq,e⟩:=zq.mp z;have:=h0 p zS;have:=h0 q (zZ _ hq);have:q=p:=by lia
  exact h1 (this ▸ hq)
theorem eF :sn ps=0↔ps=[]:=by
 rw[Mm];constructor
 . intro h;have:Ab (ps.map Int.toNat)=0:=by lia
   simpa using Z6.mp this
 . rintro rfl;rfl
theorem K3 {ps qs:List Int}(h1:ps.Nodup)(h2:qs.Nodup)(p0:∀p∈ps,0<=p)(q0:∀q∈qs,0<=q):((Ab (ps.map Int.toNat) &&& Ab (qs.map Int.toNat):Nat):Int)=0↔∀p∈ps,p∉qs:=by
 have key:=Ze (Sz h1 p0) (Sz h2 q0);constructor
 . intro h p hp hq;exact key.mp (by lia) p.toNat (zq.mpr ⟨p,hp,rfl⟩) (zq.mpr ⟨p,hq,rfl⟩)
 . intro h;have:Ab (ps.map Int.toNat) &&& Ab (qs.map Int.toNat)=0:=key.mpr fun x hx hy=>by
    obtain⟨p,hp,rfl⟩:=zq.mp hx;obtain⟨q,hq,e⟩:=zq.mp hy;have:=p0 p hp;have:=q0 q hq;have:q=p:=by lia
    exact h p hp (this ▸ hq)
   rw[this];rfl
theorem YS {α:Type}(f:α->Bool):∀l:List α,(l.filter f).length=(l.map fun a=>if f a=true then 1 else 0).sum
 | []=>rfl
 | a::l=>by
  rw[Et,BJ,G9,<-YS f l];by_cases h:f a=true
  . rw[if_pos h,if_pos h,zk];lia
  . rw[if_neg h,if_neg h];lia
theorem WV {α:Type}(f g:α->Nat):∀l:List α,(l.map fun a=>f a+g a).sum=(l.map f).sum+(l.map g).sum
 | []=>rfl
 | a::l=>by simp only[BJ,G9,WV f g l];lia
theorem Ve {α:Type}:∀l:List α,(l.map fun _=>0).sum=0
 | []=>rfl
 | a::l=>by rw[BJ,G9,Ve l]
theorem ZI {α β:Type}(f:α->β->Bool)(k:List β):∀l:List α,(l.map fun a=>(k.filter (f a)).length).sum=(k.map fun b=>(l.filter fun a=>f a b).length).sum
 | []=>by simp[Ve]
 | a::l=>by
  rw[BJ,G9,ZI f k l,YS,<-WV];congr 1;apply Gy;intro b _;rw[Et];by_cases h:f a b=true
  . rw[if_pos h,if_pos h,zk];lia
  . rw[if_neg h,if_neg h];lia
end WM
namespace SortT
open PySem PySem.W PySem.Calls PyProof.Rows
end SortT
namespace L2
open PySem PySem.Spec PyProof.Rows
def Px (K:AO):R2:=fun x y H Q=>∃a b xs ys,x=.ref a/\y=.ref b/\AB K H a xs/\AB K H b ys/\xs.length+ys.length<=sizeLine /\
 (xs=[]->Q (.ref b) H)/\(xs≠[]->ys=[]->Q (.ref a) H)/\(xs≠[]->ys≠[]->∀p,H p=none->Q (.ref p) (upd H p (.tup (xs++ys))))
theorem aT {ws:List Value}(ht:IsTup s.heap t #[])(hb:IsTup s.heap b ws.toArray)
 (h:Q (.ref b) s):wpAny (model prog w) A (binaryOp .Add (.ref t) (.ref b)) Q E s:=by
 obtain⟨⟨cls,dd,data,sl⟩,ho,hc,n,hd⟩:=id ht;obtain⟨⟨cls2,dd2,data2,sl2⟩,ic,i0,n2,hd2⟩:=id hb;simp only at hc hd i0 hd2;subst hc hd i0 hd2;exact concat_meets ⟨_,ho,rfl⟩ ⟨_,ic,rfl⟩ noFill_tuple_add seq_tuple_add PySem.F.slot_tuple_add PySem.F.entry_tuple_add (PySem.F.args_tuple_add_2 _ _)
  (tuple_addW0 t b #[] ws.toArray n n2 dd dd2 sl sl2 rfl) ⟨ho,ic,h⟩
theorem Zf:A2 X (binaryOp .Add) (Px X.K):=by
 intro pins s σ H x y v u Q I rx ry h;obtain⟨a,b,xs,ys,rfl,rfl,ha,hb,hz,q0,q1,q2⟩:=h;by_cases hx:xs=[]
 . subst hx;cases rx;cases ry;obtain⟨its,r1,p1,_⟩:=I.tuple ha;obtain⟨iL,r2,p2,_⟩:=I.tuple hb;cases r1;exact aT p1 p2 ⟨.ref b,H,I,rfl,q0 rfl⟩
 . exact d6 pins s σ H _ _ v u Q I rx ry ⟨a,b,xs,ys,rfl,rfl,ha,hb,hx,hz,q1 hx,q2 hx⟩
end L2
namespace HT
open PySem PySem.Spec PyProof.Rows
end HT
namespace L2
open PySem PySem.Spec PyProof.Rows
end L2
namespace HT
open PySem PySem.Spec PyProof.Rows
end HT
namespace L2
open PySem PySem.Spec PyProof.Rows
end L2
namespace STb
open PySem
def EJ (xs:Array Nat):Prop:=xs.toList.Pairwise (· < ·)
theorem EJ.lt (h:EJ xs){j:Nat}(gu:i<j)(hi:xs[i]?=some a)(hj:xs[j]?=some b):a<b:=by obtain⟨h1,e1⟩:=Array.getElem?_eq_some_iff.mp hi;obtain⟨h2,e2⟩:=Array.getElem?_eq_some_iff.mp hj;have:=Cz.mp h i j (by simpa using h1) (by simpa using h2) gu;simpa [e1,e2] using this
theorem eX (h:EJ xs)(j):∀fuel lo hi,hi-lo<=fuel->lo<=hi->hi<=xs.size->(∀k v,k<lo->xs[k]?=some v->v<j)->(∀k v,hi<=k->xs[k]?=some v->j<=v) ->
 lo<=SetTable.below.go xs j fuel lo hi/\SetTable.below.go xs j fuel lo hi<=hi/\(∀k v,k<SetTable.below.go xs j fuel lo hi->xs[k]?=some v->v<j)/\(∀k v,SetTable.below.go xs j fuel lo hi<=k->xs[k]?=some v->j<=v):=by
 intro fuel
 induction fuel with
 | zero=>
  intro lo hi hf hl hs h1 h2;have:lo=hi:=by lia
  subst this;exact⟨zI _,zI _,h1,h2⟩
 | succ fuel ih=>
  intro lo hi hf hl hs h1 h2;unfold SetTable.below.go;by_cases c:lo<hi
  . rw[if_pos c];have hm:(lo+hi)/2<xs.size:=by lia
    have em:xs[(lo+hi)/2]?=some xs[(lo+hi)/2]:=Array.getElem?_eq_getElem hm;have eg:xs.getD ((lo+hi)/2) j=xs[(lo+hi)/2]:=by simp[Array.getD,hm]
    dsimp only;rw[eg];by_cases d:xs[(lo+hi)/2]<j
    . rw[if_pos d];obtain⟨a,b,c1,c2⟩:=ih ((lo+hi)/2+1) hi (by lia) (by lia) hs (fun k v hk e=>by
       by_cases z:k=(lo+hi)/2
       . subst z;rw[em] at e;cases e;exact d
       . have:=h.lt (i:=k) (j:=(lo+hi)/2) (by lia) e em;lia) h2
      exact⟨by lia,b,c1,c2⟩
    . rw[if_neg d];obtain⟨a,b,c1,c2⟩:=ih lo ((lo+hi)/2) (by lia) (by lia) (by lia) h1 (fun k v hk e=>by
       by_cases z:k=(lo+hi)/2
       . subst z;rw[em] at e;cases e;lia
       . have:=h.lt (i:=(lo+hi)/2) (j:=k) (by lia) em e;lia)
      exact⟨a,by lia,c1,c2⟩
  . rw[if_neg c];have:lo=hi:=by lia
    subst this;exact⟨zI _,zI _,h1,h2⟩
theorem Sy (h:EJ xs)(j):SetTable.below xs j<=xs.size/\(∀k v,k<SetTable.below xs j->xs[k]?=some v->v<j)/\(∀k v,SetTable.below xs j<=k->xs[k]?=some v->j<=v):=by
 obtain⟨_,a,b,c⟩:=eX h j xs.size 0 xs.size (by lia) (by lia) (zI _) (fun k v hk _=>absurd hk (HC _)) (fun k v hk e=>by have:=(Array.getElem?_eq_some_iff.mp e).1;lia)
 exact⟨a,b,c⟩
theorem ZO (h:EJ xs)(e:xs[i]?=some a):SetTable.below xs (a+1)=i+1:=by
 obtain⟨h1,h2,h3⟩:=Sy h (a+1);have hi:=(Array.getElem?_eq_some_iff.mp e).1;rcases Nat.lt_trichotomy (SetTable.below xs (a+1)) (i+1) with c | c | c
 . have:=h3 i a (by lia) e;lia
 . exact c
 . have hl:i+1<xs.size:=by lia
   have e2:xs[i+1]?=some xs[i+1]:=Array.getElem?_eq_getElem hl;have a1:=h2 (i+1) _ c e2;have a2:=h.lt (i:=i) (j:=i+1) (by lia) e e2
   lia
theorem eG (h:EJ xs):SetTable.below xs 0=0:=by
 obtain⟨h1,h2,h3⟩:=Sy h 0;rcases Nat.eq_zero_or_pos (SetTable.below xs 0) with c | c
 . exact c
 . have hl:0<xs.size:=by lia
   have:=h2 0 _ c (Array.getElem?_eq_getElem hl)
   lia
theorem b9 (h:EJ xs)(ne:xs[SetTable.below xs j]?≠some j):EJ (SetTable.insertAt xs (SetTable.below xs j) j):=by
 obtain⟨h1,h2,h3⟩:=Sy h j;unfold EJ;rw[SetTable.toList_insertAt];have hp:(xs.toList.take (SetTable.below xs j)++xs.toList.drop (SetTable.below xs j)).Pairwise (· < ·):=by rw[List.take_append_drop];exact h
 obtain⟨p1,p2,p3⟩:=List.pairwise_append.mp hp;have lo:∀a∈xs.toList.take (SetTable.below xs j),a<j:=fun a ha=>by obtain⟨k,hk,e⟩:=zp ha;rw[zt] at hk;rw[List.getElem_take] at e;exact h2 k a (by lia) (by rw[<-Array.getElem?_toList,zC (by lia),e])
 have hi:∀a∈xs.toList.drop (SetTable.below xs j),j<a:=fun a ha=>by
  obtain⟨k,hk,e⟩:=zp ha;rw[List.length_drop] at hk;rw[List.getElem_drop] at e;have eg:xs[SetTable.below xs j+k]?=some a:=by rw[<-Array.getElem?_toList,zC (by lia),e]
  have:=h3 _ a (by lia) eg;by_cases c:k=0
  . subst c;rw[Nat.add_zero] at eg;have:a≠j:=fun z=>ne (by rw[eg,z])
    lia
  . have hz:SetTable.below xs j<xs.size:=by simp at hk;lia
    have e0:xs[SetTable.below xs j]?=some xs[SetTable.below xs j]:=Array.getElem?_eq_getElem hz;have a0:=h3 _ _ (zI _) e0;have a1:=h.lt (i:=SetTable.below xs j) (j:=SetTable.below xs j+k) (by lia) e0 eg
    lia
 refine List.pairwise_append.mpr ⟨p1,Hn.mpr ⟨hi,p2⟩,fun a ha b hb=>?_⟩;rcases zX.mp hb with rfl | hb
 . exact lo a ha
 . exact p3 a ha b hb
structure GT (led:Bool)(t:SetTable):Prop where
 dm:t.dummies=#[]
 ld:t.led=led
 rs:t.plain=true->EJ t.place
theorem bG (led:Bool):GT led (SetTable.fresh 0 0 led):=⟨rfl,rfl,fun _=>Ju⟩
theorem Vo (j):SetTable.has #[] j=false:=by unfold SetTable.has;simp
theorem X9 {t:SetTable}(hd:t.dummies=#[]):(t.slot j=.empty->t.place[SetTable.below t.place j]?≠some j)/\t.slot j ≠ .dummy:=by
 unfold SetTable.slot;rw[hd,Vo];dsimp only;constructor
 . intro h e;rw[e] at h;simp at h
 . split <;> simp
theorem Z5 (hd:t.dummies=#[]):∀fuel p,p.dummy=none->SetTable.probe.go t ha hh fuel p=some (.empty j d)->t.slot j=.empty/\d=none:=by
 intro fuel
 induction fuel with
 | zero=>intro p _ h;unfold SetTable.probe.go at h;cases h
 | succ fuel ih=>
  intro p hp h;unfold SetTable.probe.go at h;cases e:t.slot p.j with
  | empty=>rw[e] at h;simp only[Option.some.injEq,SetTable.Met.empty.injEq] at h;exact⟨by rw[<-h.1];exact e,by rw[<-h.2];exact hp⟩
  | dummy=>exact absurd e (X9 hd).2
  | live i=>
   rw[e] at h;dsimp only at h;split at h
   . cases h
   . refine ih _ ?_ h;unfold SetTable.advance;split
     . exact hp
     . exact hp
theorem bc {t:SetTable}(hd:t.dummies=#[])(h:t.freeSlot hh=some (j,w)):t.place[SetTable.below t.place j]?≠some j:=by
 unfold SetTable.freeSlot at h;cases e:t.probe (fun _=>hh+1) hh (t.probeStart hh) with
 | none=>rw[e] at h;cases h
 | some met=>
  rw[e] at h;cases met with
  | candidate a b c=>cases h
  | empty j' d=>obtain⟨e1,e2⟩:=Z5 hd _ _ rfl e;subst e2;simp only[Option.getD_none,Option.some.injEq,Prod.mk.injEq] at h;rw[<-h.1];exact (X9 hd).1 e1
theorem Lu (g:GT led t)(h:t.place[SetTable.below t.place j]?≠some j):GT led (t.put j).1:=by unfold SetTable.put;refine⟨?_,g.ld,fun hp=>b9 (g.rs hp) h⟩;dsimp only;rw[g.dm,Vo];rfl
theorem Q6 (g:GT led t)(n):GT led (t.standIn n):=⟨rfl,g.ld,fun h=>by cases h⟩
theorem QH (g:GT led t)(n):GT led (t.orStandIn n):=by
 unfold SetTable.orStandIn;split
 . exact g
 . exact Q6 g n
theorem KW (g:GT led t)(es)(h)(x):GT led (layNew t es h x).2.1:=by
 unfold layNew;cases e:t.freeSlot h with
 | none=>exact Q6 g _
 | some q=>obtain⟨j,w⟩:=q;exact QH (Lu g (bc g.dm e)) _
theorem bE {f:Nat->Option Nat}:∀(l:List Nat),l.Pairwise (· < ·)->((l.filterMap fun j=>(f j).map (j,·)).map (·.1)).Pairwise (· < ·):=by
 intro l h;rw[DO,List.pairwise_filterMap];refine h.imp fun {a b} jH x hx y hy=>?_;cases ea:f a with
 | none=>rw[ea] at hx;cases hx
 | some u=>
  cases eb:f b with
  | none=>rw[eb] at hy;cases hy
  | some v=>rw[ea] at hx;rw[eb] at hy;cases hx;cases hy;exact jH
theorem cN (g:GT led t)(es)(n):GT led (relayAll t es n).2.1:=by
 unfold relayAll;cases e:t.relaid (es.map (·.1)) n with
 | none=>exact Q6 g _
 | some q=>
  obtain⟨t',order⟩:=q;dsimp only;split
  . unfold SetTable.relaid SetTable.laid at e;simp only[Option.bind_eq_bind,Option.bind_eq_some_iff,Option.pure_def,Option.some.injEq,Prod.mk.injEq] at e;obtain⟨owner,_,e1,_⟩:=e;rw[<-e1];refine⟨rfl,g.ld,fun _=>?_⟩;show List.Pairwise _ (List.map _ _).toArray.toList;exact bE _ List.pairwise_lt_range
  . exact Q6 g _
end STb
namespace STb
open PySem PySem.Spec PyProof.Rows L2
structure Uh (prog:Program)(w:World)(led:Bool)(S:Int->Bool)(n:Nat)(el:Array (Int×Value))(tb:SetTable):Prop where
 elm:ElemsOf (intKind prog w) el.toList
 mem:∀k,S k=true↔∃e∈el.toList,(intKind prog w).is k e.2=true
 few:el.size<scanBound
 fit:tb.fits el.size=true
 siz:el.size=n
 gt:GT led tb
def CL (prog:Program)(w:World)(led:Bool)(h:Heap)(a:Addr)(S:Int->Bool)(n:Nat):Prop:=
 ∃ob el ep tb,h.get? a=some ob/\ob.ExactSet/\ob.data=.set el ep tb/\Uh prog w led S n el tb
theorem CL.keep (x:CL prog w led h a S n)(k:∀o,h.get? a=some o->h'.get? a=some o):CL prog w led h' a S n:=
 let ⟨ob,el,ep,tb,g1,g2,g3,g4⟩:=x;⟨ob,el,ep,tb,k _ g1,g2,g3,g4⟩
theorem CL.congr (x:CL prog w led h a S n)(e:∀k,S' k=S k)(en:n'=n):CL prog w led h a S' n':=by obtain⟨ob,el,ep,tb,g1,g2,g3,g4⟩:=x;subst en;exact⟨ob,el,ep,tb,g1,g2,g3,⟨g4.elm,fun k=>by rw[e k];exact g4.mem k,g4.few,g4.fit,g4.siz,g4.gt⟩⟩
theorem WU {h:Heap}(g1:h.get? a=some ob)(g3:ob.data=.set el ep tb)(el')(tb':SetTable):
 (h.update a (Obj.putSet el' tb')).get? a=some { ob with data:=.set el' (ep+1) tb' }:=by
 have q:=zu (Obj.putSet el' tb') g1 (by rw[putSet_of el' tb' g3];rfl);rwa [putSet_of el' tb' g3] at q
theorem Ww {note:Bool->Sem Unit}
 (hn:∀b s₁ Q',Q' () s₁->wpAny (model prog w) A (note b) Q' E s₁)
 (g1:s.heap.get? a=some ob)(g2:ob.ExactSet)(g3:ob.data=.set el ep tb)(B:Uh prog w led S n iJ i8)
 (q:∀h',Heap.SameBut a s.heap h'->CL prog w led h' a S n->R (some true) { s with heap:=h' }):
 wpAny (model prog w) A (storeSet a iJ i8 >>= fun _=>if (!wd && i8.tooFull)=true then (note (relayAll i8 iJ (SetTable.grown iJ.size)).2.2 >>= fun _=>storeSet a (relayAll i8 iJ (SetTable.grown iJ.size)).1 (relayAll i8 iJ (SetTable.grown iJ.size)).2.1 >>= fun _=>pure (some true)) else pure (some true)) R E s:=by
 refine zA (wpAny_storeSet_of g1 g3 ?_ (fits_of_scanBound B.few));have p1:=WU g1 g3 iJ i8;have b1:=Eh s.heap a (Obj.putSet iJ i8);by_cases c:(!wd && i8.tooFull)=true
 . rw[if_pos c];have pm:=relayAll_perm i8 iJ (SetTable.grown iJ.size);have pf:=relayAll_fits i8 iJ (SetTable.grown iJ.size);have pg:=cN B.gt iJ (SetTable.grown iJ.size);generalize relayAll i8 iJ (SetTable.grown iJ.size)=ra at pm pf pg ⊢;obtain⟨el2,tb2,gv⟩:=ra;dsimp only at pm pf pg ⊢;have z:el2.size=iJ.size:=by rw[<-Array.length_toList,pm.length_eq,Array.length_toList]
   refine zA (hn _ _ _ (zA (wpAny_storeSet_of p1 rfl ?_ (fits_of_scanBound (by rw[z];exact B.few)))));refine zE (q _ (b1.trans (Eh _ a _)) ⟨_,el2,_,tb2,WU p1 rfl el2 tb2,g2,rfl,⟨B.elm.perm pm,fun k=>(B.mem k).trans ?_,by rw[z];exact B.few,pf,by rw[z];exact B.siz,pg⟩⟩);exact⟨fun ⟨e,he,u⟩=>⟨e,pm.mem_iff.mpr he,u⟩,fun ⟨e,he,u⟩=>⟨e,pm.mem_iff.mp he,u⟩⟩
 . rw[if_neg c];exact zE (q _ b1 ⟨_,iJ,_,i8,p1,g2,rfl,B⟩)
theorem Pq (G:CL prog w led s.heap a S n)(room:n+1<scanBound)
 (q:∀h',Heap.SameBut a s.heap h'->CL prog w led h' a (fun j=>S j || decide (j=k)) (if S k then n else n+1)->Q (!S k) { s with heap:=h' }):
 wpAny (model prog w) A (setAddHashed a (.int k tk) ((intKind prog w).hash k)) Q E s:=by
 have kk:(intKind prog w).is k (.int k tk)=true:=intKind_is _ _ _ _;obtain⟨ob,el,ep,tb,g1,g2,g3,B⟩:=G;unfold setAddHashed setAddHashedIn;refine Az (zA (Hr g1 g3 B.fit ?_));dsimp only;rw[byScan_of (knd:=intKind prog w) (x:=.int k tk) rfl B.few B.elm];rw[if_pos rfl];unfold setAddByScan;refine zA (zA (EV (zA (wpAny_setScan_of kk g1 g3 B.fit B.elm ?_))));cases fi:el.toList.findIdx? (fun e=>(intKind prog w).is k e.2) with
 | some j=>
  obtain⟨hj,hp,_⟩:=List.findIdx?_eq_some_iff_getElem.mp fi;have yes:S k=true:=(B.mem k).mpr ⟨_,DF hj,hp⟩;refine zE (zE ?_);have r:=q s.heap (Heap.SameBut.refl a s.heap) ⟨ob,el,ep,tb,g1,g2,g3,⟨B.elm,fun i=>?_,B.few,B.fit,by rw[yes];exact B.siz,B.gt⟩⟩
  . rw[yes] at r;exact r
  . rw[Bool.or_eq_true,decide_eq_true_eq,<-B.mem i];exact⟨fun z=>z.elim id fun e=>by rw[e];exact yes,.inl⟩
 | none=>
  have no:S k=false:=by
   cases hk:S k with
   | false=>rfl
   | true=>obtain⟨e,he,hp⟩:=(B.mem k).mp hk;have:=List.findIdx?_eq_none_iff.mp fi e he;rw[hp] at this;cases this
  dsimp only;have pm:=layNew_perm tb el ((intKind prog w).hash k) (.int k tk);have pf:=layNew_fits tb el ((intKind prog w).hash k) (.int k tk);have pg:=KW B.gt el ((intKind prog w).hash k) (.int k tk);generalize layNew tb el ((intKind prog w).hash k) (.int k tk)=la at pm pf pg ⊢;obtain⟨iJ,i8,wd,gv⟩:=la;dsimp only at pm pf pg ⊢;rw[Array.toList_push] at pm;have z:iJ.size=n+1:=by rw[<-Array.length_toList,pm.length_eq,zJ,Array.length_toList,B.siz];rfl
  have B1:Uh prog w led (fun j=>S j || decide (j=k)) (n+1) iJ i8:=⟨(B.elm.push kk rfl).perm pm,mem_push_iff kk B.mem pm,by rw[z];exact room,pf,z,pg⟩;have fin:∀h',Heap.SameBut a s.heap h'->CL prog w led h' a (fun j=>S j || decide (j=k)) (n+1)->Q true { s with heap:=h' }:=fun h' hs hG=>by have r:=q h' hs;rw[no] at r;exact r hG
  have nt:∀(b:Bool)(s₁:Shared)(Q':Unit->Shared->Prop),Q' () s₁->wpAny (model prog w) A (match b with | true=>rule "set.scan.the-table-gave-way" | false=>pure ()) Q' E s₁:=fun b s₁ Q' u=>by
   cases b
   . exact zE u
   . exact EV u
  refine zA (nt gv _ _ ?_);by_cases c:i8.plain=true
  . rw[if_pos c];refine zA (wpAny_of_eq (m':=pure true) rfl (zE ?_));rw[if_pos rfl];exact Ww nt g1 g2 g3 B1 fun h' hs hG=>zE (fin h' hs hG)
  . rw[if_neg c];refine zA (zE ?_);rw[if_pos rfl];exact Ww nt g1 g2 g3 B1 fun h' hs hG=>zE (fin h' hs hG)
theorem E4:Slot "set_iterator" "__next__" "set_iterator.__next__" := .of (owner := "set_iterator") (n := "__next__") (by rw[typeLookup_type,builtinLookup_eq_fast];kernel_rfl) (by decide +kernel) (by decide +kernel) (by decide +kernel) (by first | exact .inl (by decide +kernel) | exact .inr (by decide +kernel)) (by rw[isSubtype_type];kernel_rfl)
theorem Y1:Slot "set_iterator" "__iter__" "set_iterator.__iter__" := .of (owner := "set_iterator") (n := "__iter__") (by rw[typeLookup_type,builtinLookup_eq_fast];kernel_rfl) (by decide +kernel) (by decide +kernel) (by decide +kernel) (by first | exact .inl (by decide +kernel) | exact .inr (by decide +kernel)) (by rw[isSubtype_type];kernel_rfl)
theorem Rn:entryFor table "set_iterator.__next__"=some Builtin.«set_iterator.__next__» := entryFor_of_tree (by kernel_rfl)
theorem dw:entryFor table "set_iterator.__iter__"=some Builtin.«dict_keyiterator.__iter__» := entryFor_alias (id' := "dict_keyiterator.__iter__") (by kernel_rfl) (by first | rfl | decide +kernel) (by decide +kernel) (by kernel_rfl)
theorem cI:entryFor table "set.__iter__"=some Builtin.«frozenset.__iter__» := entryFor_alias (id' := "frozenset.__iter__") (by kernel_rfl) (by first | rfl | decide +kernel) (by decide +kernel) (by kernel_rfl)
theorem Vs:Manifest.owners.lookup (String.ofList ['r','o','t','a','r','e','t','i','_','t','e','s'].reverse)=some Manifest.sig_set_iterator:=by kernel_rfl
theorem Rl (a):argsOk "set_iterator.__next__" ⟨[a],[]⟩:=by
 unfold argsOk;rw[signature?_of (id := "set_iterator.__next__") (n:=['_','_','t','x','e','n','_','_']) (o:=['r','o','t','a','r','e','t','i','_','t','e','s']) (by kernel_rfl) Vs]
 kernel_rfl
theorem Zm (a):argsOk "set_iterator.__iter__" ⟨[a],[]⟩:=by
 unfold argsOk;rw[signature?_of (id := "set_iterator.__iter__") (n:=['_','_','r','e','t','i','_','_']) (o:=['r','o','t','a','r','e','t','i','_','t','e','s']) (by kernel_rfl) Vs]
 kernel_rfl
theorem Sq {α:Type}:∀{l:List α}{k:Nat}{x:α},l[k]?=some x->(x::l.eraseIdx k).Perm l
 | [],_,_,h=>by simp at h
 | _::_,0,_,h=>by simp at h;subst h;exact Hf _
 | y::r,k+1,x,h=>by show (x::y::r.eraseIdx k).Perm (y::r);exact (List.Perm.swap y x _).trans ((Sq (by simpa using h)).cons y)
theorem Yx (next:Nat->Nat):∀(fuel k:Nat)(left:List α)(out:Array α),left.length=fuel->(pickOrder.go next fuel k left out).toList.Perm (out.toList++left)
 | 0,k,left,out,h=>by have:left=[]:=Ep.mp h;subst this;unfold pickOrder.go;rw[BR]
 | fuel+1,k,left,out,h=>by unfold pickOrder.go;have hl:next k%left.length<left.length:=Nat.mod_lt _ (by lia);have e:left[next k%left.length]?=some left[next k%left.length]:=zC hl;rw[e];dsimp only;refine (Yx next fuel (k+1) _ _ (by rw[List.length_eraseIdx,if_pos hl];lia)).trans ?_;rw[Array.toList_push,DT];exact (Sq e).append_left _
theorem Xf (next:Nat->Nat)(xs:Array α):(pickOrder next xs).toList.Perm xs.toList:=by have:=Yx next xs.size 0 xs.toList #[] (by simp);simpa [pickOrder] using this
theorem O8 (hn:n≠0)(h:∀i d',i<n->Q i { s with drawn:=d' }):wpAny (model prog w) A (choose src n) Q E s:=
 fun _ _ _=>⟨hn,h _ _ (Nat.mod_lt _ (Nat.pos_of_ne_zero hn))⟩
theorem YK :∀(k:Nat)(xs:List α)(s:Shared)(Q:List α->Shared->Prop),xs.length=k->(∀ys d',ys.Perm xs->Q ys { s with drawn:=d' })->wpAny (model prog w) A (drawOrder k xs) Q E s
 | 0,xs,s,Q,h,q=>by have:xs=[]:=Ep.mp h;subst this;unfold drawOrder;exact zE (q [] s.drawn (Hf _))
 | k+1,[],s,Q,h,q=>by cases h
 | k+1,x::r,s,Q,h,q=>by unfold drawOrder;refine zA (O8 (by simp) fun i d' hi=>?_);have e:(x::r)[i]?=some (x::r)[i]:=zC hi;rw[e];dsimp only;refine zA (YK k _ _ _ (by rw[List.length_eraseIdx,if_pos hi];lia) fun ys d2 hp=>zE ?_);exact q _ d2 ((hp.cons _).trans (Sq e))
def Bk (h:Heap)(a:Addr)(el:Array (Int×Value))(ep:Nat)(tb:SetTable):Prop:=∃ob,h.get? a=some ob/\ob.ExactSet/\ob.data=.set el ep tb
theorem Bk.keep (x:Bk h a el ep tb)(k:∀o,h.get? a=some o->h'.get? a=some o):Bk h' a el ep tb:=let ⟨ob,g,r⟩:=x;⟨ob,k _ g,r⟩
theorem Bk.typeIs {s:Shared}(x:Bk s.heap a el ep tb):s.TypeIs (.ref a) "set" := let ⟨ob,g,c,_⟩:=x;⟨ob,g,c.1⟩
theorem Bk.lt (x:Bk h a el ep tb):a<h.objs.size:=let ⟨_,g,_⟩:=x;zd g
def SI (h:Heap)(I:Addr)(f:Value)(i n ep:Nat)(a:Addr):Prop:=∃o,h.get? I=some o/\o.cls=.type "set_iterator"/\o.data=.fields #[f,.int i 0,.ref a,.int n 0,.int ep 0]
theorem SI.typeIs {s:Shared}(x:SI s.heap I f i n ep a):s.TypeIs (.ref I) "set_iterator" := let ⟨o,h,c,_⟩:=x;⟨o,h,c⟩
theorem SI.keep (x:SI h I f i n ep a)(k:∀o,h.get? I=some o->h'.get? I=some o):SI h' I f i n ep a:=let ⟨o,g,r⟩:=x;⟨o,k _ g,r⟩
section
variable {prog:Program}{w:World}{A:Around}{E:Df}{s:Shared}{a I:Addr}{el:Array (Int×Value)}{ep:Nat}{tb:SetTable}
noncomputable def EY (f:Value)(n ep:Nat)(a:Addr):Obj:={ cls:=.type "set_iterator",data:=.fields #[f,.int 0 0,.ref a,.int n 0,.int ep 0] }
theorem Z7 (hm:Bk s.heap a el ep tb)(hf:tb.fits el.size=true)
 (qa:(w.params.followText "set-order"=true\/tb.plain=true\/el.size<=1)->Q (.ref s.heap.objs.size) { s with heap:=s.heap.push (EY (.int 0 0) el.size ep a) })
 (qb:∀(ys:List Nat)d',ys.Perm (List.range el.size)->Q (.ref (s.heap.push { cls:=.type "tuple",data:=.seq (ys.map fun (i:Nat)=>rawInt i).toArray }).objs.size) { s with heap:=(s.heap.push { cls:=.type "tuple",data:=.seq (ys.map fun (i:Nat)=>rawInt i).toArray }).push (EY (.ref s.heap.objs.size) el.size ep a),drawn:=d' }) (hz:el.size<=100000):
 wpAny (model prog w) A (pyIter (.ref a)) Q E s:=by
 obtain⟨ob,g1,g2,g3⟩:=id hm;refine wpAny_pyIter_slot hm.typeIs F.slot_set_iter (C7 F.slot_set_iter hm.typeIs cI ?_ (F.args_set_iter_1 _));unfold Builtin.«frozenset.__iter__»;refine zA ?_;refine zA (zE (zE ?_));refine zA ?_;unfold Builtin.Frozenset.sizeOf;refine zA (wpAny_setEntries_of g1 g3 hf (zE ?_));unfold setDrawn setsByText;refine zA (zA (Hr g1 g3 hf (zA (zA (wpAny_askSetting (zE (zE ?_)))))));show wpAny _ _ (if (!w.params.followText "set-order" && (!tb.plain && decide (el.size > 1)))=true then _ else _) _ _ s
 by_cases c:(!w.params.followText "set-order" && (!tb.plain && decide (el.size > 1)))=true
 . rw[if_pos c];refine zA (YK _ _ _ _ (by rw[Bv]) fun ys d' hp=>zA ?_);unfold newTuple;refine EX ?_ ?_
   . unfold setEpoch;refine zA (zA (Hr (zG _ g1) g3 hf (zE ?_)));refine zA (EX (zE ⟨_,rfl, "set_iterator",_,⟨_,zN _ rfl,rfl⟩,E4.lookup,?_⟩));exact qb ys d' hp
   . show (List.toArray _).size<=sizeLine;rw[ze,zB,hp.length_eq,Bv];have:sizeLine=16777216:=rfl
     lia
 . rw[if_neg c];refine zA (zE ?_);unfold setEpoch;refine zA (zA (Hr g1 g3 hf (zE ?_)));refine zA (EX (zE ⟨_,rfl, "set_iterator",_,⟨_,zN _ rfl,rfl⟩,E4.lookup,?_⟩));refine qa ?_;by_cases c1:w.params.followText "set-order"=true
   . exact .inl c1
   . right;by_cases c2:tb.plain=true
     . exact .inl c2
     . right;by_cases c3:el.size<=1
       . exact c3
       . exact absurd (by simp[c1,c2];lia) c
theorem WZ (hm:Bk s.heap a el ep tb)(hf:tb.fits el.size=true)(ht:w.params.followText "set-order"=true)
 (q:Q (((pickOrder (w.params.setOrder a ep) el)[given]?).map fun e=>(e.2,slot)) s):wpAny (model prog w) A (setNext a slot given ep) Q E s:=by
 obtain⟨ob,g1,g2,g3⟩:=id hm;unfold setNext setsByText;refine zA (Hr g1 g3 hf (zA (zA (wpAny_askSetting (zE ?_)))));show wpAny _ _ (if w.params.followText "set-order"=true then _ else _) _ _ s
 rw[if_pos ht];show wpAny _ _ (if (ep != ep)=true then _ else _) _ _ s
 rw[if_neg (by simp)];unfold setWalk setsByText;refine zA (zA (Hr g1 g3 hf (zA (zA (wpAny_askSetting (zE ?_))))));show wpAny _ _ (if w.params.followText "set-order"=true then _ else _) _ _ s
 rw[if_pos ht];refine zA (wpAny_askSetting (zE (zE q)))
theorem X7 (hm:Bk s.heap a el ep tb)(hf:tb.fits el.size=true)(ht:w.params.followText "set-order"=false) (hp:tb.plain=true\/el.size<=1)(hl:tb.led=true)(hi:SetTable.below tb.place slot=i)
 (q:Q (match el[i]?,tb.place[i]? with | some (_,x),some j=>some (x,j+1) | _,_=>none) s):wpAny (model prog w) A (setNext a slot given ep) Q E s:=by
 obtain⟨ob,g1,g2,g3⟩:=id hm;unfold setNext setsByText;refine zA (Hr g1 g3 hf (zA (zA (wpAny_askSetting (zE ?_)))));show wpAny _ _ (if w.params.followText "set-order"=true then _ else _) _ _ s
 rw[if_neg (by rw[ht];simp)];show wpAny _ _ (if (!tb.plain && decide (el.size > 1))=true then _ else _) _ _ s
 rw[if_neg (by rcases hp with z | z <;> simp[z])];show wpAny _ _ ((if (!tb.led && !el.isEmpty)=true then _ else _) >>= _) _ _ s
 rw[if_neg (by rw[hl];simp)];refine zA (zE ?_);dsimp only;rw[hi];exact zE q
def Va (prog:Program)(w:World)(a:Addr)(slot i ep:Nat)(r:Option (Value×Nat))(s:Shared):Prop:=∀A E Q,Q r s->wpAny (model prog w) A (setNext a slot i ep) Q E s
theorem L6 {h:Heap}{i n:Nat}(ho:h.get? I=some o)(hc:o.cls=.type "set_iterator") (hd:o.data=.fields #[f,.int i 0,.ref a,.int n 0,.int ep 0]):
 SI ((h.update I (Obj.mapFields (·.setIfInBounds 0 f'))).update I (Obj.mapFields (·.setIfInBounds 1 (rawInt ((i:Int)+1))))) I f' (i+1) n ep a:=by
 have e1:(h.update I (Obj.mapFields (·.setIfInBounds 0 f'))).get? I=some (Obj.mapFields (·.setIfInBounds 0 f') o):=zu _ ho (Obj.isFreed_of_fields (Obj.data_mapFields hd _));have d1:=Obj.data_mapFields hd (·.setIfInBounds 0 f');refine⟨_,zu _ e1 (Obj.isFreed_of_fields (Obj.data_mapFields d1 _)),(Obj.cls_mapFields ..).trans ((Obj.cls_mapFields ..).trans hc),?_⟩;rw[Obj.data_mapFields d1];simp[rawInt]
theorem Kw {h:Heap}{i n:Nat}(ho:h.get? I=some o)(hc:o.cls=.type "set_iterator") (hd:o.data=.fields #[f,.int i 0,.ref a,.int n 0,.int ep 0]):
 SI (h.update I (Obj.mapFields (·.setIfInBounds 1 (rawInt ((i:Int)+1))))) I f (i+1) n ep a:=by
 refine⟨_,zu _ ho (Obj.isFreed_of_fields (Obj.data_mapFields hd _)),(Obj.cls_mapFields ..).trans hc,?_⟩;rw[Obj.data_mapFields hd];simp[rawInt]
theorem YW {slot:Nat}(hit:SI s.heap I (.int slot 0) i el.size ep a)(hm:Bk s.heap a el ep tb)(hf:tb.fits el.size=true)(hs:Va prog w a slot i ep (some (x,nx)) s)
 (hQ:∀h',SI h' I (.int nx 0) (i+1) el.size ep a->Heap.SameBut I s.heap h'->Q (some x) { s with heap:=h' }):wpAny (model prog w) A (pyNext (.ref I)) Q E s:=by
 obtain⟨o,ho,hc,hd⟩:=id hit;obtain⟨ob,g1,g2,g3⟩:=id hm;unfold pyNext;refine zA (G6 (G0 (name:=Str.ofString "__next__") hit.typeIs E4 (C7 E4 hit.typeIs Rn ?_ (Rl _))));unfold Builtin.«set_iterator.__next__»;refine zA (zE ?_);refine zA (wpAny_fieldsOf ho hd ?_);refine zA (wpAny_setEntries_of g1 g3 hf ?_);rw[if_neg (by simp)];dsimp only;rw[B0,B0,B0];refine zA (hs _ _ _ ?_);dsimp only;refine zA (GY ho hd (by simp) ?_);have e1:(s.heap.update I (Obj.mapFields (·.setIfInBounds 0 (rawInt (nx:Int))))).get? I=some (Obj.mapFields (·.setIfInBounds 0 (rawInt (nx:Int))) o):=zu _ ho (Obj.isFreed_of_fields (Obj.data_mapFields hd _));refine zA (GY e1 (Obj.data_mapFields hd _) (by simp) ?_);refine zE ⟨_,rfl,zE (hQ _ (L6 ho hc hd) ((Eh ..).trans (Eh ..)))⟩
theorem Xx {Q:Option Value->Shared->Prop}(hh:A.handled=none)(hQ:∀h',(∀b o,h0.get? b=some o->h'.get? b=some o)->Q none { s with heap:=h' }):
 wpAny (model prog w) A.in1 (newExc (.type "StopIteration") [] >>= fun e=>raiseNew (α:=Fin) e) R (fun e s'=>wpAny (model prog w) A (isInstance e (.type "StopIteration") >>= fun b=>if b=true then pure none else throw e) Q E s') { s with heap:=h0 }:=by
 refine zA ?_;simp only[newExc,newTuple];refine zA (EX ?_ (by size_fits));refine zA (m:=firstArgMember _ _) (wpAny_of_eq (m':=pure Value.none) (by first | rfl | (simp only[firstArgMember];rfl)) (zE ?_));refine EX ?_ (by size_fits);simp only[raiseNew];refine zA (wpAny_handled ?_);rw[show A.in1.handled=none from hh];refine zA (zE (wpAny_throw ?_));refine zA (Dr (T := "StopIteration") (b:=true) ⟨_,zN _ rfl,rfl⟩ isSubtype_stop ?_);exact zE (hQ _ fun b o e=>zG _ (zG _ e))
theorem Ir {slot:Nat}(hh:A.handled=none)(hit:SI s.heap I (.int slot 0) i el.size ep a)(hm:Bk s.heap a el ep tb)(hf:tb.fits el.size=true)(hs:Va prog w a slot i ep none s)
 (hQ:∀h',(∀b o,b≠I->s.heap.get? b=some o->h'.get? b=some o)->Q none { s with heap:=h' }):wpAny (model prog w) A (pyNext (.ref I)) Q E s:=by
 obtain⟨o,ho,hc,hd⟩:=id hit;obtain⟨ob,g1,g2,g3⟩:=id hm;unfold pyNext;refine zA (G6 (G0 (name:=Str.ofString "__next__") hit.typeIs E4 (C7 E4 hit.typeIs Rn ?_ (Rl _))));unfold Builtin.«set_iterator.__next__»;refine zA (zE ?_);refine zA (wpAny_fieldsOf ho hd ?_);refine zA (wpAny_setEntries_of g1 g3 hf ?_);rw[if_neg (by simp)];dsimp only;rw[B0,B0,B0];refine zA (hs _ _ _ ?_);dsimp only;refine zA (GY ho hd (by simp) ?_);refine Xx hh fun h' k=>hQ h' fun b o' nb e=>k b o' ((Eh s.heap I _).extBut b o' nb e)
end
section
variable {prog:Program}{w:World}{A:Around}{E:Df}{s:Shared}{a I tp:Addr}{el:Array (Int×Value)}{ep:Nat}{tb:SetTable}
def Jf (h:Heap)(tp:Addr)(ys:List Nat):Prop:=∃o n,h.get? tp=some o/\o.data=.seq (ys.map fun (i:Nat)=>rawInt i).toArray n
theorem Jf.keep (x:Jf h tp ys)(k:∀o,h.get? tp=some o->h'.get? tp=some o):Jf h' tp ys:=let ⟨o,n,e,d⟩:=x;⟨o,n,k _ e,d⟩
theorem Lc (hit:SI s.heap I (.ref tp) i el.size ep a)(hm:Bk s.heap a el ep tb)(hf:tb.fits el.size=true)(ht:Jf s.heap tp ys)(hy:ys[i]?=some y)(he:el[y]?=some e)
 (hQ:∀h',SI h' I (.ref tp) (i+1) el.size ep a->Heap.SameBut I s.heap h'->Q (some e.2) { s with heap:=h' }):wpAny (model prog w) A (pyNext (.ref I)) Q E s:=by
 obtain⟨o,ho,hc,hd⟩:=id hit;obtain⟨ob,g1,g2,g3⟩:=id hm;obtain⟨ot,n,t1,t2⟩:=ht;unfold pyNext;refine zA (G6 (G0 (name:=Str.ofString "__next__") hit.typeIs E4 (C7 E4 hit.typeIs Rn ?_ (Rl _))));unfold Builtin.«set_iterator.__next__»;refine zA (zE ?_);refine zA (wpAny_fieldsOf ho hd ?_);refine zA (wpAny_setEntries_of g1 g3 hf ?_);rw[if_neg (by simp)];refine zA (Bx t1 t2 ?_);dsimp only;have ey:(ys.map fun (i:Nat)=>rawInt i).toArray[(i:Int).toNat]?=some (.int (y:Int) 0):=by rw[B0,Bn,zM,hy];rfl
 rw[ey];dsimp only;rw[B0,B0];unfold setNextDrawn;refine zA (zA (Hr g1 g3 hf ?_));show wpAny _ _ (if (ep != ep)=true then _ else _) _ _ s
 rw[if_neg (by simp)];obtain⟨e1,e2⟩:=e;show wpAny _ _ (match el[y]? with | some (_,x)=>_ | _=>_) _ _ s
 rw[he];refine zE ?_;refine zA (GY ho hd (by simp) ?_);exact zE ⟨_,rfl,zE (hQ _ (Kw ho hc hd) (Eh ..))⟩
theorem PD (hh:A.handled=none)(hit:SI s.heap I (.ref tp) i el.size ep a)(hm:Bk s.heap a el ep tb)(hf:tb.fits el.size=true)(ht:Jf s.heap tp ys)(hy:ys[i]?=none)
 (hQ:∀h',(∀b o,b≠I->s.heap.get? b=some o->h'.get? b=some o)->Q none { s with heap:=h' }):wpAny (model prog w) A (pyNext (.ref I)) Q E s:=by
 obtain⟨o,ho,hc,hd⟩:=id hit;obtain⟨ob,g1,g2,g3⟩:=id hm;obtain⟨ot,n,t1,t2⟩:=ht;unfold pyNext;refine zA (G6 (G0 (name:=Str.ofString "__next__") hit.typeIs E4 (C7 E4 hit.typeIs Rn ?_ (Rl _))));unfold Builtin.«set_iterator.__next__»;refine zA (zE ?_);refine zA (wpAny_fieldsOf ho hd ?_);refine zA (wpAny_setEntries_of g1 g3 hf ?_);rw[if_neg (by simp)];refine zA (Bx t1 t2 ?_);dsimp only;have ey:(ys.map fun (i:Nat)=>rawInt i).toArray[(i:Int).toNat]?=none:=by rw[B0,Bn,zM,hy];rfl
 rw[ey];dsimp only;refine zA (GY ho hd (by simp) ?_);have e1:(s.heap.update I (Obj.mapFields (·.setIfInBounds 0 (rawInt 0)))).get? I=some (Obj.mapFields (·.setIfInBounds 0 (rawInt 0)) o):=zu _ ho (Obj.isFreed_of_fields (Obj.data_mapFields hd _));refine zA (GY e1 (Obj.data_mapFields hd _) (by simp) ?_);refine Xx hh fun h' k=>hQ h' fun b o' nb e=>k b o' ((Eh _ I _).extBut b o' nb ((Eh s.heap I _).extBut b o' nb e))
theorem Wx (hit:SI s.heap I f i el.size ep a)(h:Q (.ref I) s):wpAny (model prog w) A (pyIter (.ref I)) Q E s:=by refine wpAny_pyIter_slot hit.typeIs Y1 (C7 Y1 hit.typeIs dw ?_ (Zm _));show wpAny _ _ (ret (.ref I)) _ _ s;exact zE ⟨_,rfl, "set_iterator",_,hit.typeIs,E4.lookup,h⟩
noncomputable def Ds (w:World)(a:Addr)(ep:Nat)(el:Array (Int×Value)):List (Int×Value):=if w.params.followText "set-order"=true then (pickOrder (w.params.setOrder a ep) el).toList else el.toList
theorem UI:(Ds w a ep el).Perm el.toList:=by
 unfold Ds;split
 . exact Xf _ _
 . exact Hf _
theorem Yz (h:xs.size<=1):EJ xs:=by
 unfold EJ;have hl:xs.toList.length<=1:=by simpa using h
 generalize xs.toList=l at hl;cases l with
 | nil=>exact Ju
 | cons x r=>cases r with
  | nil=>exact List.pairwise_singleton _ _
  | cons y r=>simp at hl
theorem Ky (hh:A.handled=none)(hIa:a≠I)(hf:tb.fits el.size=true)(hc:w.params.followText "set-order"=true\/tb.plain=true\/el.size<=1) (gt:GT (!w.params.followText "set-order") tb):
 Walks prog w A I [I,a] [I] el.size (fun i v=>∃e,(Ds w a ep el)[i]?=some e/\v=e.2) (fun i h=>∃slot:Nat,SI h I (.int slot 0) i el.size ep a/\Bk h a el ep tb/\(w.params.followText "set-order"=false->SetTable.below tb.place slot=i)) where
 sub:=fun b hb=>by simp at hb;simp[hb]
 frame:=fun _ _ _ ⟨slot,h1,h2,h3⟩ hk=>⟨slot,h1.keep fun o e=>hk I (by simp) o e,h2.keep fun o e=>hk a (by simp) o e,h3⟩
 item:=fun i s Q E hi ⟨slot,h1,h2,h3⟩ hQ=>by
  have lo:i<(Ds w a ep el).length:=by rw[UI.length_eq];simpa using hi
  cases ht:w.params.followText "set-order" with
  | true=>
   have ei:(pickOrder (w.params.setOrder a ep) el)[i]?=some (Ds w a ep el)[i]:=by
    rw[<-Array.getElem?_toList];have:(pickOrder (w.params.setOrder a ep) el).toList=Ds w a ep el:=by unfold Ds;rw[if_pos ht]
    rw[this];exact zC lo
   refine YW (x:=(Ds w a ep el)[i].2) (nx:=slot) h1 h2 hf (fun A' E' Q' q=>WZ h2 hf ht (by rw[ei];exact q)) fun h' st sb=>?_;exact hQ _ h' s.toks ⟨_,zC lo,rfl⟩ ⟨slot,st,h2.keep fun o e=>sb.extBut a o hIa e,fun z=>by rw[ht] at z;cases z⟩ fun b o hb e=>sb.extBut b o (fun z=>hb (by simp[z])) e
  | false=>
   have hp:tb.plain=true\/el.size<=1:=hc.resolve_left (by rw[ht];simp);have ps:tb.place.size=el.size:=by simp only[SetTable.fits,Jb,beq_iff_eq] at hf;exact hf.1
   have rs:EJ tb.place:=hp.elim gt.rs fun z=>Yz (by lia);have eo:Ds w a ep el=el.toList:=by unfold Ds;rw[if_neg (by rw[ht];simp)]
   have e1:el[i]?=some el[i]:=Array.getElem?_eq_getElem hi;have e2:tb.place[i]?=some (tb.place[i]'(by lia)):=Array.getElem?_eq_getElem (by lia);refine YW (x:=el[i].2) (nx:=tb.place[i]'(by lia)+1) h1 h2 hf (fun A' E' Q' q=>X7 (i:=i) h2 hf ht hp (by rw[gt.ld,ht];rfl) (h3 ht) (by rw[e1,e2];exact q)) fun h' st sb=>?_;exact hQ _ h' s.toks ⟨el[i],by rw[eo,Array.getElem?_toList];exact e1,rfl⟩ ⟨_,st,h2.keep fun o e=>sb.extBut a o hIa e,fun _=>ZO rs e2⟩ fun b o hb e=>sb.extBut b o (fun z=>hb (by simp[z])) e
 done:=fun s Q E ⟨slot,h1,h2,h3⟩ hQ=>by
  cases ht:w.params.followText "set-order" with
  | true=>
   have ei:(pickOrder (w.params.setOrder a ep) el)[el.size]?=none:=by rw[<-Array.getElem?_toList];exact CQ (by rw[(Xf _ _).length_eq];simp)
   exact Ir hh h1 h2 hf (fun A' E' Q' q=>WZ h2 hf ht (by rw[ei];exact q)) fun h' k=>hQ h' s.toks fun b o hb e=>k b o (fun z=>hb (by simp[z])) e
  | false=>have hp:tb.plain=true\/el.size<=1:=hc.resolve_left (by rw[ht];simp);exact Ir hh h1 h2 hf (fun A' E' Q' q=>X7 (i:=el.size) h2 hf ht hp (by rw[gt.ld,ht];rfl) (h3 ht) (by rw[Array.getElem?_eq_none (zI _)];exact q)) fun h' k=>hQ h' s.toks fun b o hb e=>k b o (fun z=>hb (by simp[z])) e
 self:=fun i s Q E ⟨slot,h1,_⟩ h=>Wx h1 h
theorem MD {ys:List Nat}(hh:A.handled=none)(hIa:a≠I)(hIt:tp≠I)(hf:tb.fits el.size=true)(hp:ys.Perm (List.range el.size)):
 Walks prog w A I [I,a,tp] [I] el.size (fun i v=>∃y e,ys[i]?=some y/\el[y]?=some e/\v=e.2) (fun i h=>SI h I (.ref tp) i el.size ep a/\Bk h a el ep tb/\Jf h tp ys) where
 sub:=fun b hb=>by simp at hb;simp[hb]
 frame:=fun _ _ _ ⟨h1,h2,h3⟩ hk=>⟨h1.keep fun o e=>hk I (by simp) o e,h2.keep fun o e=>hk a (by simp) o e,h3.keep fun o e=>hk tp (by simp) o e⟩
 item:=fun i s Q E hi ⟨h1,h2,h3⟩ hQ=>by
  have hl:ys.length=el.size:=by rw[hp.length_eq,Bv]
  have e1:ys[i]?=some ys[i]:=zC (by lia);have hy:ys[i]<el.size:=Cr.mp (hp.mem_iff.mp (DF _));have e2:el[ys[i]]?=some el[ys[i]]:=Array.getElem?_eq_getElem hy;refine Lc h1 h2 hf h3 e1 e2 fun h' st sb=>?_;exact hQ _ h' s.toks ⟨_,_,e1,e2,rfl⟩ ⟨st,h2.keep fun o e=>sb.extBut a o hIa e,h3.keep fun o e=>sb.extBut tp o hIt e⟩ fun b o hb e=>sb.extBut b o (fun z=>hb (by simp[z])) e
 done:=fun s Q E ⟨h1,h2,h3⟩ hQ=>by
  have hl:ys.length=el.size:=by rw[hp.length_eq,Bv]
  exact PD hh h1 h2 hf h3 (CQ (by lia)) fun h' k=>hQ h' s.toks fun b o hb e=>k b o (fun z=>hb (by simp[z])) e
 self:=fun i s Q E ⟨h1,_⟩ h=>Wx h1 h
end
end STb
namespace STb
open PySem PySem.Spec PyProof.Rows PySem.Calls L2
theorem Yq (hT:s.TypeIs (.ref a) "set") (h:Q false s):wpAny (model prog w) A (Builtin.List.listLengthHint (.ref a)) Q E s:=by
 unfold Builtin.List.listLengthHint;refine zA (wpAny_specialOf hT PySem.F.slot_set_len.lookup ?_);generalize hid:("set.__len__" : String)=id0
 wp_delta
 rw[show splitId id0=some ("set", "__len__") from by subst hid;decide +kernel];subst hid;refine zA (Dr (T := "set") (b:=true) hT sub_set_self ?_);refine wpAny_ite_split (fun jH=>absurd jH (by decide)) (fun _=>?_);refine wpAny_ite_split (fun _=>zA (Dw hT (zE h))) (fun jH=>absurd (by decide +kernel) jH)
theorem RE {St:Nat->Heap->Prop}{s0:Shared}(W:Walks prog w A.in1 I fp [I] n P St)(hSf:S∉fp)(hn:n<=sizeLine)(hI:s0.heap.objs.size<=I)
 (k0:∀b o,b≠S->s0.heap.get? b=some o->s.heap.get? b=some o)(st:St 0 s.heap)(hS:s.heap.get? S=some { cls:=.type "list",data:=.seq #[] c })
 (q:∀s' acc c',s'.gens=s.gens->s'.drawn=s.drawn->s'.os=s.os->(∀b o,b≠S->s0.heap.get? b=some o->s'.heap.get? b=some o)->s'.heap.get? S=some { cls:=.type "list",dict:=none,data:=.seq acc c',slots:=#[] }->ItemsOf P acc n->R (.ok (.ret res)) s'):
 codeAny (model prog w) A (.builtin "list.extend.loop" ⟨[.ref S,.ref I,res],[]⟩) R s:=by
 refine codeAny_extend_loopS W.toS hn S hSf res n 0 s #[] c rfl (zg _) st hS (ItemsOf.nil _) fun s' acc c' mv gR ha=>?_;refine q s' acc c' mv.gens mv.drawn mv.os (fun b o hb e=>mv.heap b o (fun z=>?_) (k0 b o hb e)) gR ha;rcases zX.mp z with z | z
 . exact hb z
 . have gD:=zd e;rw[zi.mp z] at gD;exact absurd (zx gD hI) (E5 _)
def FK (el:Array (Int×Value))(acc:Array Value):Prop:=∃l:List (Int×Value),l.Perm el.toList/\acc.toList=l.map (·.2)
theorem V9 (h:ItemsOf (fun i v=>∃e,(Ds w a ep el)[i]?=some e/\v=e.2) acc el.size):FK el acc:=by
 refine⟨Ds w a ep el,UI,?_⟩;have hl:(Ds w a ep el).length=el.size:=by rw[UI.length_eq];simp
 apply J7;intro j;by_cases hj:j<el.size
 . have hz:j<acc.size:=by rw[h.1];exact hj
   obtain⟨e,he,hv⟩:=h.2 j acc[j] (by simp[hz]);rw[Array.getElem?_toList,Array.getElem?_eq_getElem hz,hv,zM,he];rfl
 . rw[CQ (by rw[Array.length_toList,h.1];lia),CQ (by rw[zB];lia)]
theorem fK {α:Type}{l:List α}{ys:List Nat}(h:ys.Perm (List.range l.length)):(ys.filterMap fun i=>l[i]?).Perm l:=by refine (h.filterMap _).trans ?_;rw[List.filterMap_getElem?_range_length]
theorem VO {ys:List Nat}(hp:ys.Perm (List.range el.size))(h:ItemsOf (fun i v=>∃y e,ys[i]?=some y/\el[y]?=some e/\v=e.2) acc el.size):FK el acc:=by
 have hl:ys.length=el.size:=by rw[hp.length_eq,Bv]
 refine⟨ys.map fun y=>el.toList.getD y (0,.none),?_,?_⟩
 . have e:(ys.map fun y=>el.toList.getD y (0,.none))=ys.filterMap fun i=>el.toList[i]?:=by
    rw[<-List.filterMap_eq_map];refine fm_eq fun y hy=>?_;have hy':y<el.toList.length:=by have:=Cr.mp (hp.mem_iff.mp hy);simpa using this
    simp only[Function.comp];rw[zF,zC hy'];rfl
   rw[e];exact fK (by simpa using hp)
 . apply J7;intro j;by_cases hj:j<el.size
   . have hz:j<acc.size:=by rw[h.1];exact hj
     obtain⟨y,e,h1,h2,hv⟩:=h.2 j acc[j] (by simp[hz]);rw[Array.getElem?_toList,Array.getElem?_eq_getElem hz,hv,zM,zM,h1];show some e.2=some (el.toList.getD y (0,.none)).2;rw[zF,Array.getElem?_toList,h2];rfl
   . rw[CQ (by rw[Array.length_toList,h.1];lia),CQ (by rw[zB,zB];lia)]
where
 fm_eq {α β:Type}{f g:α->Option β}:∀{l:List α},(∀m∈l,f m=g m)->l.filterMap f=l.filterMap g
  | [],_=>rfl
  | x::r,h=>by rw[List.filterMap_cons,List.filterMap_cons,h x zS,fm_eq fun m hm=>h m (zZ _ hm)]
theorem cG (hh:A.handled=none)(hm:Bk s.heap a el ep tb)(hf:tb.fits el.size=true)(gt:GT (!w.params.followText "set-order") tb) (hz:el.size<=100000)(hSa:S≠a)
 (hS:s.heap.get? S=some { cls:=.type "list",data:=.seq #[] c })
 (q:∀s' acc c',s'.gens=s.gens->s'.os=s.os->(∀b o,b≠S->s.heap.get? b=some o->s'.heap.get? b=some o)->s'.heap.get? S=some { cls:=.type "list",dict:=none,data:=.seq acc c',slots:=#[] }->FK el acc->R (.ok (.ret res)) s'):
 wpAny (model prog w) A.in1 (Builtin.List.listExtendWith (.ref S) (.ref a) res)
  (fun fin s'=>match fin with | .done f=>R (.ok f) s' | .again c'=>c'.quiet=true/\codeAny (model prog w) A c' R s') (fun e s'=>R (.error e) s') s:=by
 have nS:el.size<=sizeLine:=by have:sizeLine=16777216:=rfl;lia
 unfold Builtin.List.listExtendWith;refine zA (Dw (T := "set") hm.typeIs ?_);have h1:Builtin.List.listSameRef (.ref S) (.ref a)=false:=by simp[Builtin.List.listSameRef,hSa]
 have h2:(Value.type "set" == Value.type "list")=false:=by decide
 have h3:(Value.type "set" == Value.type "tuple")=false:=by decide
 simp only[h1,h2,h3,Bool.or_false,Jc,if_false];have nSI:∀I,s.heap.objs.size<=I->S≠I:=fun I h z=>absurd (zx (zd hS) h) (by rw[z];exact E5 _);have naI:∀I,s.heap.objs.size<=I->a≠I:=fun I h z=>absurd (zx hm.lt h) (by rw[z];exact E5 _);refine zA (Z7 hm hf (fun hc=>?_) (fun ys d' hp=>?_) hz)
 . have W:=Ky (prog:=prog) (w:=w) (A:=A.in1) (I:=s.heap.objs.size) (ep:=ep) hh (naI _ (zI _)) hf hc gt;have nf:S∉[s.heap.objs.size,a]:=by simp only[zX,List.not_mem_nil,or_false,not_or];exact⟨nSI _ (zI _),hSa⟩
   have kp:∀b o,s.heap.get? b=some o->(s.heap.push (EY (.int 0 0) el.size ep a)).get? b=some o:=fun b o e=>zG _ e;have st0:∃slot:Nat,SI (s.heap.push (EY (.int 0 0) el.size ep a)) s.heap.objs.size (.int slot 0) 0 el.size ep a/\Bk (s.heap.push (EY (.int 0 0) el.size ep a)) a el ep tb/\(w.params.followText "set-order"=false->SetTable.below tb.place slot=0):=by
    refine⟨0,⟨_,zN _ rfl,rfl,rfl⟩,hm.keep fun o e=>kp _ o e,fun ht=>eG ?_⟩;have ps:tb.place.size=el.size:=by simp only[SetTable.fits,Jb,beq_iff_eq] at hf;exact hf.1
    exact (hc.resolve_left (by rw[ht];simp)).elim gt.rs fun z=>Yz (by lia)
   refine zA (Az (Yq (Bk.typeIs (hm.keep fun o e=>kp _ o e)) ?_));refine wpAny_ite_split (fun _=>?_) (fun _=>?_)
   . refine zA (EV (zA ?_));show wpAny _ _ (updateSeq S (·.push .none) >>= fun _=>updateSeq S (·.pop)) _ _ _;refine zA (Cf (kp _ _ hS) rfl ?_);have iO:=zu (Obj.mapSeq (·.push Value.none)) (kp _ _ hS) rfl;refine Cf (hz:=by seq_fits) iO rfl ?_;have hS3:=zu (Obj.mapSeq (·.pop)) iO rfl;have up:∀b o,b≠S->(s.heap.push (EY (.int 0 0) el.size ep a)).get? b=some o->(((s.heap.push (EY (.int 0 0) el.size ep a)).update S (Obj.mapSeq (·.push Value.none))).update S (Obj.mapSeq (·.pop))).get? b=some o:=fun b o hb e=>(Mh _ _ (Ne.symm hb)).trans ((Mh _ _ (Ne.symm hb)).trans e);refine zE ⟨plainId_quiet PySem.F.plain_extend_loop _,RE W nf nS (zI _) (fun b o hb e=>up b o hb (kp b o e)) (W.frame 0 _ _ st0 fun b hb o e=>up b o (fun z=>nf (z ▸ hb)) e) hS3 fun s' acc c' e1 _ e3 k gR ha=>q s' acc c' e1 e3 k gR (V9 ha)⟩
   . exact zE ⟨plainId_quiet PySem.F.plain_extend_loop _,RE W nf nS (zI _) (fun b o _ e=>kp b o e) st0 (kp _ _ hS) fun s' acc c' e1 _ e3 k gR ha=>q s' acc c' e1 e3 k gR (V9 ha)⟩
 . have hT:(s.heap.push { cls:=.type "tuple",data:=.seq (ys.map fun (i:Nat)=>rawInt i).toArray }).objs.size=s.heap.objs.size+1:=C2 ..;have hI:s.heap.objs.size<=(s.heap.push { cls:=.type "tuple",data:=.seq (ys.map fun (i:Nat)=>rawInt i).toArray }).objs.size:=by rw[hT];exact DK _
   have ntI:s.heap.objs.size≠(s.heap.push { cls:=.type "tuple",data:=.seq (ys.map fun (i:Nat)=>rawInt i).toArray }).objs.size:=by rw[hT];exact zj (Nat.lt_succ_self _)
   have W:=MD (prog:=prog) (w:=w) (A:=A.in1) (I:=(s.heap.push { cls:=.type "tuple",data:=.seq (ys.map fun (i:Nat)=>rawInt i).toArray }).objs.size) (tp:=s.heap.objs.size) (tb:=tb) (ep:=ep) hh (naI _ hI) ntI hf hp;have nf:S∉[(s.heap.push { cls:=.type "tuple",data:=.seq (ys.map fun (i:Nat)=>rawInt i).toArray }).objs.size,a,s.heap.objs.size]:=by simp only[zX,List.not_mem_nil,or_false,not_or];exact⟨nSI _ hI,hSa,nSI _ (zI _)⟩
   have kp:∀b o,s.heap.get? b=some o->((s.heap.push { cls:=.type "tuple",data:=.seq (ys.map fun (i:Nat)=>rawInt i).toArray }).push (EY (.ref s.heap.objs.size) el.size ep a)).get? b=some o:=fun b o e=>zG _ (zG _ e);have st0:SI ((s.heap.push { cls:=.type "tuple",data:=.seq (ys.map fun (i:Nat)=>rawInt i).toArray }).push (EY (.ref s.heap.objs.size) el.size ep a)) (s.heap.push { cls:=.type "tuple",data:=.seq (ys.map fun (i:Nat)=>rawInt i).toArray }).objs.size (.ref s.heap.objs.size) 0 el.size ep a/\Bk ((s.heap.push { cls:=.type "tuple",data:=.seq (ys.map fun (i:Nat)=>rawInt i).toArray }).push (EY (.ref s.heap.objs.size) el.size ep a)) a el ep tb/\Jf ((s.heap.push { cls:=.type "tuple",data:=.seq (ys.map fun (i:Nat)=>rawInt i).toArray }).push (EY (.ref s.heap.objs.size) el.size ep a)) s.heap.objs.size ys:=
    ⟨⟨_,zN _ rfl,rfl,rfl⟩,hm.keep fun o e=>kp _ o e,⟨_,_,zG _ (zN _ rfl),rfl⟩⟩
   generalize (s.heap.push { cls:=.type "tuple",data:=.seq (ys.map fun (i:Nat)=>rawInt i).toArray }).objs.size=I0 at hT hI ntI W nf st0 kp ⊢;generalize (s.heap.push { cls:=.type "tuple",data:=.seq (ys.map fun (i:Nat)=>rawInt i).toArray }).push (EY (.ref s.heap.objs.size) el.size ep a)=h0 at st0 kp ⊢;refine zA (Az (Yq (Bk.typeIs (hm.keep fun o e=>kp _ o e)) ?_));refine wpAny_ite_split (fun _=>?_) (fun _=>?_)
   . refine zA (EV (zA ?_));show wpAny _ _ (updateSeq S (·.push .none) >>= fun _=>updateSeq S (·.pop)) _ _ _;refine zA (Cf (kp _ _ hS) rfl ?_);have iO:=zu (Obj.mapSeq (·.push Value.none)) (kp _ _ hS) rfl;refine Cf (hz:=by seq_fits) iO rfl ?_;have hS3:=zu (Obj.mapSeq (·.pop)) iO rfl;have up:∀b o,b≠S->h0.get? b=some o->((h0.update S (Obj.mapSeq (·.push Value.none))).update S (Obj.mapSeq (·.pop))).get? b=some o:=fun b o hb e=>(Mh _ _ (Ne.symm hb)).trans ((Mh _ _ (Ne.symm hb)).trans e);refine zE ⟨plainId_quiet PySem.F.plain_extend_loop _,RE (s0:=s) W nf nS hI (fun b o hb e=>up b o hb (kp b o e)) (W.frame 0 _ _ st0 fun b hb o e=>up b o (fun z=>nf (z ▸ hb)) e) hS3 fun s' acc c' e1 _ e3 k gR ha=>q s' acc c' e1 e3 k gR (VO hp ha)⟩
   . exact zE ⟨plainId_quiet PySem.F.plain_extend_loop _,RE (s0:=s) W nf nS hI (fun b o _ e=>kp b o e) st0 (kp _ _ hS) fun s' acc c' e1 _ e3 k gR ha=>q s' acc c' e1 e3 k gR (VO hp ha)⟩
theorem aG (hh:A.handled=none)(hm:Bk s.heap a el ep tb)(hf:tb.fits el.size=true)(gt:GT (!w.params.followText "set-order") tb) (hz:el.size<=100000)
 (q:∀s' acc,s'.gens=s.gens->s'.os=s.os->(∀b o,s.heap.get? b=some o->s'.heap.get? b=some o)->FK el acc->R acc.toList s'):wpAny (model prog w) A (collect (.ref a)) R E s:=by
 unfold collect;refine zA (wpAny_runValue (codeAny_builtin entry_proto_collect' ?_));rw[Around.under_plainId PySem.F.plain_proto_collect _];refine zA (m:=newList []) (EX ?_);refine zE ⟨plainId_quiet PySem.F.plain_list_iadd _,codeAny_builtin entry_list_iadd' ?_⟩;rw[Around.under_plainId PySem.F.plain_list_iadd _];have hS:(s.heap.push { cls:=.type "list",data:=.seq ([]:List Value).toArray }).get? s.heap.objs.size=some { cls:=.type "list",data:=.seq #[] }:=zN _ rfl;show wpAny _ A.in1 (Builtin.List.listExtendWith (.ref s.heap.objs.size) (.ref a) (.ref s.heap.objs.size)) _ _ _;have key:=cG (prog:=prog) (w:=w) (A:=A) (s:={ s with heap:=s.heap.push { cls:=.type "list",data:=.seq ([]:List Value).toArray } }) (res:=.ref s.heap.objs.size)
  (R:=fun (u:Result)(s':Shared)=>∃(acc:Array Value)(c':Nat),u=.ok (.ret (.ref s.heap.objs.size))/\s'.gens=s.gens/\s'.os=s.os/\(∀b o,s.heap.get? b=some o->s'.heap.get? b=some o)/\s'.heap.get? s.heap.objs.size=some { cls:=.type "list",dict:=none,data:=.seq acc c',slots:=#[] }/\FK el acc)
  hh (hm.keep fun o e=>zG _ e) hf gt hz (Nat.ne_of_gt hm.lt) hS (fun s' acc c' e1 e2 k gR g=>⟨acc,c',rfl,e1,e2,fun b o e=>k b o (zj (zd e)) (zG _ e),gR,g⟩)
 refine CM key (fun fin s' x=>?_) fun e s' x=>?_
 . cases fin with
   | done f=>obtain⟨acc,c',e,e1,e2,k,gR,g⟩:=x;cases e;exact zA (wpAny_load gR (zE (q s' acc e1 e2 k g)))
   | again c1=>refine⟨x.1,codeAny_mono x.2 fun u s2 y=>?_⟩;obtain⟨acc,c',rfl,e1,e2,k,gR,g⟩:=y;exact zA (wpAny_load gR (zE (q s2 acc e1 e2 k g)))
 . obtain⟨_,_,e',_⟩:=x;cases e'
end STb
namespace STb
open PySem PySem.Spec PyProof.Rows L2
theorem Lk {St:Nat->Heap->Prop}(W:Walks prog w A.in1 I fp [I] n P St)(hSf:S∉fp)(g8:S≠I)(val:Nat->Int)(hv:∀i v,P i v->∃t,v=.int (val i) t)(hb:n+1<scanBound):
 ∀k i s,n-i=k->i<=n->St i s.heap->CL prog w led s.heap S (fun z=>(firstMet val i).any fun x=>x==z) (firstMet val i).length ->
  (∀s':Shared,s'.gens=s.gens->s'.drawn=s.drawn->s'.os=s.os->(∀b o,b≠S->b≠I->s.heap.get? b=some o->s'.heap.get? b=some o)->CL prog w led s'.heap S (fun z=>(firstMet val n).any fun x=>x==z) (firstMet val n).length->R (.ok (.ret .none)) s') ->
  codeAny (model prog w) A (.builtin "set.update.loop" ⟨[.ref S,.ref I],[]⟩) R s:=by
 intro k
 induction k with
 | zero=>
  intro i s hk hi st G q;obtain rfl:i=n:=by lia
  refine codeAny_builtin PyProof.Rows.F.entry_set_update_loop ?_;rw[Around.under_plainId PyProof.Rows.F.plain_set_update_loop _];refine zA (m:=pyNext (.ref I)) (W.done s _ _ st fun h' tk kp=>?_);refine zE (q _ rfl rfl rfl (fun b o _ hbI e=>kp b o (fun z=>hbI (by simpa using z)) e) (G.keep fun o e=>kp S o (fun z=>g8 (by simpa using z)) e))
 | succ k ih=>
  intro i s hk hi st G q;have gD:i<n:=by lia
  refine codeAny_builtin PyProof.Rows.F.entry_set_update_loop ?_;rw[Around.under_plainId PyProof.Rows.F.plain_set_update_loop _];refine zA (m:=pyNext (.ref I)) (W.item i s _ _ gD st fun v h' tk hP iY kp=>?_);obtain⟨t,rfl⟩:=hv i v hP;have G':CL prog w led h' S (fun z=>(firstMet val i).any fun x=>x==z) (firstMet val i).length:=G.keep fun o e=>kp S o (fun z=>g8 (by simpa using z)) e;refine zA (m:=holding [Value.int (val i) t] (setAdd S (.int (val i) t))) (Az ?_);unfold setAdd;refine Az (zA ((intKind prog w).pyHash (k:=val i) (intKind_is _ _ _ _) ?_));refine Pq (s:={ s with heap:=h',toks:=tk+1 }) G' (by have:=firstMet_length_le val i;lia) fun h2 sb G2=>?_;have Gi:CL prog w led h2 S (fun z=>(firstMet val (i+1)).any fun x=>x==z) (firstMet val (i+1)).length:=G2.congr (fun z=>by rw[firstMet_succ,step_any]) (by rw[firstMet_succ,step_length]);refine zE ⟨plainId_quiet PyProof.Rows.F.plain_set_update_loop _,ih (i+1) _ (by lia) gD (W.frame _ _ _ iY fun b hb o e=>(sb.2 b fun z=>hSf (z ▸ hb)).trans e) Gi fun s'' e1 e2 e3 kp2 G3=>?_⟩;exact q s'' e1 e2 e3 (fun b o hbS hbI e=>kp2 b o hbS hbI ((sb.2 b hbS).trans (kp b o (fun z=>hbI (by simpa using z)) e))) G3
noncomputable def Ft (w:World):Obj:={ cls:=.type "set",dict:=none,data:=.set #[] 0 (.fresh 0 0 (!w.params.followText "set-order")) }
theorem cW (h:Heap):CL prog w (!w.params.followText "set-order") (h.push (Ft w)) h.objs.size (fun _=>false) 0:=
 ⟨_,#[],0,_,zN _ rfl,⟨rfl,rfl,rfl⟩,rfl,⟨fun e he=>by simp at he,fun k=>by simp,by decide,by rfl,rfl,bG _⟩⟩
theorem OU (a)(h:Q₁ (.ref s.heap.objs.size) { s with heap:=s.heap.push (Ft w) }):codeAny (model prog w) A (.call (.builtin "set.__new__") ⟨[.type "set",a],[]⟩) (wants Q₁ E) s:=by
 refine codeAny_of_tree (zA (m:=checkBuiltinCall "set.__new__" ⟨[.type "set",a],[]⟩) (wpAny_of_eq (PySem.F.newCall_set_1 a) (zE ⟨plainId_quiet PySem.F.plain_set_new _,codeAny_builtin PySem.F.entry_set_new ?_⟩)));rw[Around.under_plainId PySem.F.plain_set_new _];unfold Builtin.«set.__new__» Builtin.Frozenset.newClass;have sub:=sub_set_self;obtain⟨hp,g,d,tk,os⟩:=s;dsimp only
 wp_walk
 refine wpAny_askSetting (zE ?_);dsimp only;simp only[newObj];exact zA (wpAny_alloc (zE (zE h)))
theorem Ln (hA:A.handled=none)(hl:s.heap.IsTuple l its.toArray)(hi:IntsAre its ns)(hz:its.length+1<scanBound)
 (q:∀h tk,(∀b o,s.heap.get? b=some o->h.get? b=some o)->CL prog w (!w.params.followText "set-order") h s.heap.objs.size (fun z=>(firstMet (fun i=>ns.getD i 0) its.length).any fun x=>x==z) (firstMet (fun i=>ns.getD i 0) its.length).length->Q (.ref s.heap.objs.size) { s with heap:=h,toks:=tk }):
 wpAny (model prog w) A (call (.type "set") [.ref l]) Q E s:=by
 refine Cu (codeAny_of_tree (zE ⟨Code.quiet_builtin _ (by decide +kernel),codeAny_builtin PySem.F.entry_type_call ?_⟩));unfold Builtin.«type.__call__»;dsimp only;rw[if_neg (by rw[PySem.F.called_set.notType];decide)];rw[if_neg (by rw[PySem.F.called_set.canCreate];decide)];obtain⟨c,tl,hm⟩:=PySem.F.called_set.mro;refine zA (wpAny_of_eq (PySem.F.typeCall_set_1 _) (zE (zA (wpAny_of_eq hm (zE ?_)))));refine zA (wpAny_of_eq PySem.F.called_set.made (zE (zA (zE ?_))));refine zA (Az (Cu (codeAny_mono (OU (E:=E) (.ref l) (Q₁:=fun obj s₁=>obj=.ref s.heap.objs.size/\s₁={ s with heap:=s.heap.push (Ft w) }) ⟨rfl,rfl⟩) fun r s₁ e=>?_)))
 match r,e with
 | .ok (.ret obj),e=>
  obtain⟨rfl,rfl⟩:=e;have h0:∀b o,s.heap.get? b=some o->(s.heap.push (Ft w)).get? b=some o:=fun b o e=>zG _ e;have ht:∀h:Heap,(∀b o,s.heap.get? b=some o->h.get? b=some o)->h.IsTuple l its.toArray:=fun h K=>by obtain⟨o,ho,hr⟩:=hl;exact⟨o,K _ _ ho,hr⟩
  have gD:l<s.heap.objs.size:=by obtain⟨o,ho,_⟩:=hl;exact zd ho
  have tyS:Shared.TypeIs { s with heap:=s.heap.push (Ft w) } (.ref s.heap.objs.size) "set" := ⟨_,zN _ rfl,rfl⟩;show wpAny _ _ _ _ _ _;refine zA (Dr tyS PySem.F.called_set.sub ?_);refine zA (Az ?_);unfold callSpecial?;refine zA (wpAny_specialOf tyS PySem.F.called_set.init.lookup (Az (zA (wpAny_of_eq (PySem.F.called_set.init.bind _) (zE (zA (Cu (codeAny_call_builtin PySem.F.called_set.init.plain PySem.F.entry_set_init (check_set_init_1 tyS ?_)))))))));unfold Builtin.«set.__init__»;refine zA (wpAny_of_eq (m':=pure ()) rfl (zE ?_));dsimp only;refine zA (zA (zA (Dw tyS (wpAny_of_eq (m':=pure (Value.type "set")) rfl (zE (wpAny_of_eq (m':=pure "set") rfl (zE ?_)))))));refine zA (wpAny_of_eq (m':=pure ()) rfl (zE (zA (zE ?_))));refine zA (zA (zA (wpAny_load (zN _ rfl) ?_)));refine wpAny_of_eq (m':=pure (#[],0,SetTable.fresh 0 0 (!w.params.followText "set-order"))) (by unfold Ft;cases w.params.followText "set-order" <;> rfl) (zE (wpAny_of_eq (m':=pure false) (by cases w.params.followText "set-order" <;> rfl) (zE ?_)));have tyT:∀h tk,(∀b o,s.heap.get? b=some o->h.get? b=some o)->Shared.TypeIs { s with heap:=h,toks:=tk } (.ref l) "tuple" := fun h tk K=>by obtain⟨o,ho,hr⟩:=ht h K;exact⟨o,ho,hr.1⟩
  show wpAny _ _ (Builtin.Frozenset.updateFrom "set.__init__" s.heap.objs.size (.ref l) >>= _) _ _ _;unfold Builtin.Frozenset.updateFrom;refine zA (zA (zA (Dr (tyT _ _ h0) PySem.F.sub_tuple_set (Dr (tyT _ _ h0) (b:=false) rfl ?_))));refine zA (Dw (tyT _ _ h0) ?_);refine zA (Jv (ht _ h0) (zA (wpAny_runValue ?_)));have hsz:(s.heap.push (Ft w)).objs.size=s.heap.objs.size+1:=C2 ..;have nli:l≠(s.heap.push (Ft w)).objs.size:=zj (by rw[hsz];exact Dp gD);have nsi:s.heap.objs.size≠(s.heap.push (Ft w)).objs.size:=by rw[hsz];exact zj (Nat.lt_succ_self _)
  refine Lk (led:=!w.params.followText "set-order") (Walks.tuple (prog:=prog) (w:=w) (A:=(A.under (Code.builtin "type.__call__" { pos:=[.type "set",.ref l] })).in1.in1) hA (s.heap.push (Ft w)).objs.size l nli its.toArray) ?_ nsi (fun i=>ns.getD i 0) ?_ (by simpa using hz) its.toArray.size 0 _ rfl (zg _) ?_ ?_ ?_
  . intro z;rcases zX.mp z with z | z
    . exact nsi z
    . exact absurd (zi.mp z) (Nat.ne_of_gt gD)
  . intro i v hv;rw[Bn] at hv;exact hi.int_at i v hv
  . exact⟨⟨_,zN _ rfl,rfl,rfl⟩,ht _ fun b o e=>zG _ (h0 b o e)⟩
  . exact (cW (prog:=prog) (w:=w) s.heap).keep fun o e=>zG _ e
  . intro s' e1 e2 e3 kp so;refine zE (zE (zE (zE ?_)));obtain⟨h',g',d',t',o'⟩:=s';cases e1;cases e2;cases e3;refine q h' t' (fun b o e=>kp b o (zj (zd e)) (fun z=>?_) (zG _ (h0 b o e))) (by simpa using so);have hb:b<s.heap.objs.size:=zd e;rw[z,hsz] at hb;exact absurd hb (Nat.not_lt.mpr (DK _))
 | .ok .next,e=>exact e.elim
 | .ok .brk,e=>exact e.elim
 | .ok .cont,e=>exact e.elim
 | .error v,e=>exact e
end STb
namespace L2
open PySem PySem.Spec PyProof.Rows STb
theorem SS (val:Nat->Int):∀i,(firstMet val i).Nodup
 | 0=>Hs
 | i+1=>by
  have ih:=SS val i;rw[firstMet_succ];unfold step_dedup;split
  . exact ih
  . rename_i h
    refine DW.mpr ⟨ih,by simp,fun a ha b hb e=>h ?_⟩;rw[zi.mp hb] at e;subst e;exact Ho.mpr ⟨_,ha,by simp⟩
theorem V8:∀{l2 l1:List Int},l2.Nodup->(∀x∈l2,x∈l1)->l1.length<=l2.length->l1.Perm l2
 | [],l1,_,_,h=>by have:l1=[]:=Ep.mp (by simpa using h);subst this;exact Hf _
 | x::r,l1,nd,hs,h=>by
  have hx:x∈l1:=hs x zS;have nx:x∉r:=(BZ.mp nd).1;refine (List.perm_cons_erase hx).trans ((V8 (BZ.mp nd).2 (fun y hy=>?_) ?_).cons x)
  . exact (List.mem_erase_of_ne (a:=y) (b:=x) (fun z=>nx (by rw[<-z];exact hy))).mpr (hs y (zZ _ hy))
  . rw[List.length_erase_of_mem hx];simp only[zk] at h
    lia
theorem Xm :∀{l:List (Int×Value)},ElemsOf (intKind prog w) l->∃ns:List Int,IntsAre (l.map (·.2)) ns/\∀z,z∈ns↔∃e∈l,(intKind prog w).is z e.2=true
 | [],_=>⟨[],.nil,fun z=>by simp⟩
 | e::r,h=>by
  obtain⟨ns,h1,h2⟩:=Xm (l:=r) h.tail;obtain⟨⟨k,hk,_⟩,_⟩:=h.head;obtain⟨t,et⟩:=Value.isInt_shape hk;refine⟨k::ns,?_,fun z=>?_⟩
  . rw[BJ,et];exact .cons k t h1
  . rw[zX,h2];constructor
    . rintro (rfl | ⟨e',jS,hz⟩)
      . exact⟨e,zS,hk⟩
      . exact⟨e',zZ _ jS,hz⟩
    . rintro ⟨e',jS,hz⟩;rcases zX.mp jS with rfl | jS
      . exact .inl ((intKind prog w).inj _ _ _ hz hk)
      . exact .inr ⟨e',jS,hz⟩
theorem LK (ns:List Int)(z):((firstMet (fun i=>ns.getD i 0) ns.length).any fun x=>x==z)=true↔z∈ns:=by
 rw[firstMet_any];have e:(List.range ns.length).map (fun i=>ns.getD i 0)=ns:=by
  apply List.ext_getElem
  . simp
  . intro i h1 h2;simp[h2]
 rw[e,Ho];exact⟨fun ⟨x,hx,h⟩=>by rw[<-eq_of_beq h];exact hx,fun h=>⟨z,h,by simp⟩⟩
theorem Su {ms:List Int}(h1:ms.Pairwise (· <= ·))(h2:ms.Nodup):ms.Pairwise (· < ·):=by
 rw[Cz] at h1 ⊢;intro i j hi hj gu;have a:=h1 i j hi hj gu;have b:ms[i]≠ms[j]:=fun z=>by have:=(List.getElem_inj h2).mp z;lia
 lia
section
open PySem.W PySem.Calls SortT
theorem bp (hh:A.handled=none)(G:CL prog w (!w.params.followText "set-order") s.heap a S n) (iE:n<64)
 (q:∀(s1:Shared)(h':Heap)(D:Addr)(ms:List Int)(us:List Value)(c:Nat),s1.gens=s.gens->s1.os=s.os->(∀b o,s.heap.get? b=some o->s1.heap.get? b=some o)->(∀b o,s1.heap.get? b=some o->h'.get? b=some o)->s1.heap.objs.size<=D->h'.get? D=some (seqObj "list" us.toArray c)->AR (ms.map V.int) us->ms.Pairwise (· <= ·)->(∀z,z∈ms↔S z=true)->ms.length=n->Q (.ref D) { s1 with heap:=h' }):
 wpAny (model prog w) A (call (.builtin "sorted") [.ref a]) Q E s:=by
 obtain⟨ob,el,ep,tb,g1,g2,g3,B⟩:=G;refine Calls.call_function_entry kind_sorted plain_sorted entry_sorted (args_sorted1 _) ?_;unfold Builtin.«sorted»;refine zA (m:=checkCount "sorted" 1 1 _) (zE ?_);refine zA (aG (A:=A.in1) hh ⟨ob,g1,g2,g3⟩ B.fit B.gt (by have:=B.siz;lia) fun s1 acc e1 e2 k1 hg=>?_);obtain⟨l,lp,la⟩:=hg;obtain⟨ns,hI,hm⟩:=Xm (B.elm.perm lp);have hl:l.length=n:=by rw[lp.length_eq,Array.length_toList,B.siz]
 have hvl:acc.toList.length=n:=by rw[la,zB,hl]
 rw[<-la] at hI;generalize acc.toList=vs at hI hvl;refine zA (Gg ?_ (by rw[sizeLine_eq];lia));have ji:(s1.heap.push (seqObj "list" vs.toArray 0)).get? s1.heap.objs.size=some (seqObj "list" vs.toArray 0):=zN _ rfl;have kp1:∀b o,s1.heap.get? b=some o->(s1.heap.push (seqObj "list" vs.toArray 0)).get? b=some o:=fun b o z=>zG _ z;refine zA (Az (C7 slot_list_sort ⟨_,ji,rfl⟩ entry_list_sort (SortT.list_sort (O:=Fc) (key:=fun i=>ns.getD i 0) (κ:=oneType') ji (by lia) (fun h2=>Ss hI h2) fun out hp=>⟨_,rfl,?_⟩) (args_list_sort _)));refine zE ⟨_,rfl,?_⟩;obtain⟨c,hc⟩:=sortedHeap_at (vs:=vs) (out:=(out.map fun i=>vs.getD i Value.none).toArray) ji;obtain⟨ms,pm,pr,rz,pl⟩:=UD hI hp;refine q s1 _ _ ms _ c e1 e2 k1 (fun b o z=>?_) (zI _) hc rz pr (fun z=>?_) (by rw[pl,<-hI.length,hvl])
 . have hb:b<s1.heap.objs.size:=zd z;rw[sortedHeap_old (zj hb) (by rw[C2];exact Dp hb)];exact kp1 b o z
 . rw[pm.mem_iff,hm z,B.mem z];exact⟨fun ⟨e,he,u⟩=>⟨e,lp.mem_iff.mp he,u⟩,fun ⟨e,he,u⟩=>⟨e,lp.mem_iff.mpr he,u⟩⟩
end
def bj (K:AO)(ta:TA):TE:=fun σ H Q=>ta σ H fun vs H1=>∃p,∃(ns:List Int),vs=[.ref p]/\AB K H1 p (ns.map V.int)/\ns.length<64/\∀l(ms:List Int),H1 l=none->ms.Pairwise (· < ·)->(∀z:Int,z∈ms↔z∈ns)->Q (.ref l) (upd H1 l (.lst (ms.map V.int)))
theorem bu (hc:X.calm=true)(hgS:Gl X "sorted") (hmS:X.mg "sorted"=none) (hgT:Gl X "set") (hmT:X.mg "set"=none) (ha:PA X [a] ta)(hs:starEach [a] X.env=[(false,eval a X.env)]:=by rfl)
 (iM:starEach [.Call (.Name "set" p2) [a] [] pos2] X.env=[(false,eval (.Call (.Name "set" p2) [a] [] pos2) X.env)]:=by rfl):
 PE X (.Call (.Name "sorted" p1) [.Call (.Name "set" p2) [a] [] pos2] [] pos1) (bj X.K ta):=by
 intro pins s σ H Q I h;refine Gx (C9 I hgS hmS (by decide +kernel:bootBuiltins "sorted"=some (.builtin "sorted")) ?_ (by decide) (by decide));refine PyProof.Rows.callWith_builtin1 ?_ iM rfl;rw[iM];refine Calls.spliced_cons ?_;refine Call_ (C9 I hgT hmT (by decide +kernel:bootBuiltins "set"=some (.type "set")) (PyProof.Rows.callWith_type1 (AM (ha pos2 pins s σ H _ I h) fun us s1 ⟨vs,H1,I1,r1,q1⟩=>?_) hs rfl));obtain⟨p,ns,e,hq,iE,q⟩:=q1;subst e;obtain⟨u,rfl,rx⟩:=B2 r1;cases rx;have lh:(firstMet (fun i=>ns.getD i 0) ns.length).length<=ns.length:=firstMet_length_le _ _;have key:∀(h:Heap)(tk:Nat),(∀b o,s1.heap.get? b=some o->h.get? b=some o)->CL X.prog X.w (!X.w.params.followText "set-order") h s1.heap.objs.size (fun z=>(firstMet (fun i=>ns.getD i 0) ns.length).any fun x=>x==z) (firstMet (fun i=>ns.getD i 0) ns.length).length ->
  wpAny (model X.prog X.w) X.A (call (.builtin "sorted") [.ref s1.heap.objs.size]) (EP X pins σ Q) X.xe { s1 with heap:=h,toks:=tk }:=by
  intro h tk K so;refine bp (I1.ok.hd hc) so (by lia) fun s2 h' D ms us c e1 e2 k1 k2 hD ho rz pr hm hlen=>?_;obtain⟨hp2,g2,d2,t2,o2⟩:=s2;cases e1;cases e2;have kk:∀b o,s1.heap.get? b=some o->hp2.get? b=some o:=fun b o z=>k1 b o (K b o z);have I2:AA X pins σ H1 { s1 with heap:=hp2,gens:=s1.gens,drawn:=d2,toks:=t2 }:=I1.call (ch:=[]) (Un.kept kk) (I1.hok.kept kk) I1.bare fun _ z=>nomatch z;have cov:=V8 (l2:=firstMet (fun i=>ns.getD i 0) ns.length) (l1:=ms) (SS _ _) (fun x hx=>(hm x).mpr (Ho.mpr ⟨x,hx,by simp⟩)) (by lia);refine⟨.ref D,_,Ng (t':=t2) I2 hD k2 ho rz ?_,rfl,q D ms (I2.hok.fresh hD) (Su pr (cov.nodup_iff.mpr (SS _ _))) fun z=>(hm z).trans (LK ns z)⟩;have:sizeLine=16777216:=rfl;rw[zB]
  lia
 have sb:scanBound=4096:=rfl;obtain⟨its,rv,pl,hz⟩:=I1.tuple hq;have hi:=ET rv;have j9:=hi.length;refine Ln (I1.ok.hd hc) pl hi (by lia) fun h tk K so=>?_;rw[j9] at so;exact Calls.spliced_nil (key h tk K so)
end L2
namespace L2
open PySem PyProof.Rows
theorem dX (M:Ma prog w A.in1 s0 I its itAt)(bt:Nat->Nat->Bool)(hS:s0.heap.objs.size<=S)(hI:s0.heap.objs.size<=I)(g8:S≠I)
 (cmp:∀i j vi vj h tk Q E,Kp s0 h->its[i]?=some vi->its[j]?=some vj->Q (.bool (bt i j)) { s0 with heap:=h,toks:=tk }->wpAny (model prog w) A.in1 (richCompare .Gt vi vj) Q E { s0 with heap:=h,toks:=tk })
 (hR:∀v h tk,its[argBest bt (its.length-1)]?=some v->Kp s0 h->R (.ok (.ret v)) { s0 with heap:=h,toks:=tk })
 : ∀r j h tk vb c,its.length-(j+1)=r->j+1<=its.length->Kp s0 h->itAt (j+1) h->its[argBest bt j]?=some vb ->
  h.get? S=some { cls:=.type "list",data:=.seq #[vb,vb] c }->codeAny (model prog w) A (.builtin "max.loop" { pos:=[.ref I,.none,.ref S],kw:=kw }) R { s0 with heap:=h,toks:=tk }:=by
 intro r
 induction r with
 | zero=>intro j h tk vb c hr hj K hit hv gY;refine codeAny_builtin PySem.F.entry_max_loop ?_;unfold Builtin.«max.loop»;refine zA (Bx gY rfl ?_);dsimp only;refine zA (BS (M.fin (j+1) h tk _ _ K hit (CQ (by lia)) fun h' k=>?_));have gR:=k S _ g8 gY;refine zA (Cf gR rfl (zA (Cb (zE ?_))) BO (by show 0<=sizeLine+1;decide));refine hR vb _ tk ?_ ((K.but hI k).upd hS);rw[show its.length-1=j by lia];exact hv
 | succ r ih=>
  intro j h tk vb c hr hj K hit hv gY;obtain⟨x,hx⟩:∃x,its[j+1]?=some x:=⟨_,zC (by lia)⟩;refine codeAny_builtin PySem.F.entry_max_loop ?_;unfold Builtin.«max.loop»;refine zA (Bx gY rfl ?_);dsimp only;refine zA (BS (M.next (j+1) h tk x _ _ K hit hx fun h' gJ k=>?_));have K':Kp s0 h':=K.but hI fun b o hb e=>by rw[k b hb];exact e
  have gR:h'.get? S=some { cls:=.type "list",data:=.seq #[vb,vb] c }:=by rw[k S g8];exact gY
  refine zA (zE ?_);refine zA (BS (Az (zA (cmp (j+1) (argBest bt j) x vb h' tk _ _ K' hx hv ?_))));refine zA (Az (Dx (zA (Cb (zE ?_)))));have eb:argBest bt (j+1)=if bt (j+1) (argBest bt j)=true then j+1 else argBest bt j:=argBest.eq_2 bt j
  cases e:bt (j+1) (argBest bt j) with
  | true=>rw[if_pos e] at eb;refine zA (Cf gR rfl (zA (Cb (zE ⟨rfl,?_⟩))) BO (by show 2<=sizeLine+1;decide));exact ih (j+1) _ tk x c (by lia) (by lia) (K'.upd hS) (M.stay _ _ _ gJ (DV _ _ _ _ (Ne.symm g8))) (by rw[eb];exact hx) (zu _ gR rfl)
  | false=>rw[e,if_neg (by decide)] at eb;refine zA (Cb (zE ⟨rfl,?_⟩));exact ih (j+1) h' tk vb c (by lia) (by lia) K' gJ (by rw[eb];exact hv) gR
theorem XX (M:Ma prog w A.in1 s0 I its itAt)(bt:Nat->Nat->Bool)(hS:s0.heap.objs.size<=S)(hI:s0.heap.objs.size<=I)(g8:S≠I)
 (cmp:∀i j vi vj h tk Q E,Kp s0 h->its[i]?=some vi->its[j]?=some vj->Q (.bool (bt i j)) { s0 with heap:=h,toks:=tk }->wpAny (model prog w) A.in1 (richCompare .Gt vi vj) Q E { s0 with heap:=h,toks:=tk })
 (hR:∀v h tk,its[argBest bt (its.length-1)]?=some v->Kp s0 h->R (.ok (.ret v)) { s0 with heap:=h,toks:=tk })
 (h0:its=[]->∀h tk,Kp s0 h->R (.ok (.ret d)) { s0 with heap:=h,toks:=tk })
 (h)(tk)(c)(K:Kp s0 h)(hit:itAt 0 h)(gY:h.get? S=some { cls:=.type "list",data:=.seq #[] c }):
 codeAny (model prog w) A (.builtin "max.loop" { pos:=[.ref I,.none,.ref S],kw:=[(Str.ofString "default",d)] }) R { s0 with heap:=h,toks:=tk }:=by
 refine codeAny_builtin PySem.F.entry_max_loop ?_;unfold Builtin.«max.loop»;refine zA (Bx gY rfl ?_);dsimp only;cases e:its with
 | nil=>subst e;refine zA (BS (M.fin 0 h tk _ _ K hit rfl fun h' k=>?_));exact zA (EV (zE (h0 rfl h' tk (K.but hI k))))
 | cons x xs=>
  have hx:its[0]?=some x:=by rw[e];rfl
  refine zA (BS (M.next 0 h tk x _ _ K hit hx fun h' gJ k=>?_));have K':Kp s0 h':=K.but hI fun b o hb e=>by rw[k b hb];exact e
  have gR:h'.get? S=some { cls:=.type "list",data:=.seq #[] c }:=by rw[k S g8];exact gY
  refine zA (zE ?_);refine zA (Cf gR rfl (zE ⟨rfl,?_⟩) Em (by show 2<=sizeLine+1;decide));refine dX M bt hS hI g8 cmp hR (its.length-1) 0 _ tk x (c+1) rfl (by rw[e];simp) (K'.upd hS) (M.stay _ _ _ gJ (DV _ _ _ _ (Ne.symm g8))) hx (zu _ gR rfl)
theorem aJ (hA:A.handled=none)(bt:Nat->Nat->Bool)(hp:s.heap.IsList p its.toArray\/s.heap.IsTuple p its.toArray)
 (cmp:∀i j vi vj h tk Q E,Kp s h->its[i]?=some vi->its[j]?=some vj->Q (.bool (bt i j)) { s with heap:=h,toks:=tk }->wpAny (model prog w) A.in1 (richCompare .Gt vi vj) Q E { s with heap:=h,toks:=tk })
 (hR:∀v h tk,its[argBest bt (its.length-1)]?=some v->Kp s h->Q v { s with heap:=h,toks:=tk })
 (h0:its=[]->∀h tk,Kp s h->Q d { s with heap:=h,toks:=tk }):
 wpAny (model prog w) A (call (.builtin "max") [.ref p] [(Str.ofString "default",d)]) Q E s:=by
 refine Cu (codeAny_call_builtin PySem.F.plain_max PySem.F.entry_max (wpAny_of_eq (show checkBuiltinCall "max" { pos:=[.ref p],kw:=[(Str.ofString "default",d)] }=pure () from rfl) (zE ?_)));unfold Builtin.max;refine zA (wpAny_of_eq (show Builtin.Builtins.bindParams "max" ["key", "default"] 0 { kw:=[(Str.ofString "default",d)] }=pure [none,some d] from rfl) (zE ?_));dsimp only;refine zA (zE ?_);have kp0:∀(o1 o2:Obj),Kp s ((s.heap.push o1).push o2):=fun o1 o2 b o e=>zG _ (zG _ e);rcases hp with hp | hp
 . refine zA (Hk hp (zA (Gg (zE ⟨rfl,?_⟩) Em)));have ik:(s.heap.push { cls:=.type "list_iterator",data:=.fields #[.ref p,.int 0 0] }).objs.size=s.heap.objs.size+1:=C2 ..;rw[ik];refine XX (s0:=s) (I:=s.heap.objs.size) (S:=s.heap.objs.size+1) (itAt:=fun j h=>h.IsListIter s.heap.objs.size p j) ⟨fun j h h' a e=>?_,fun j h tk v Q E K hit hv q=>?_,fun j h tk Q E K hit hv q=>?_⟩ bt (DK _) (zI _) (JY _) cmp hR h0 _ s.toks 0 (kp0 _ _) ?_ ?_
   . obtain⟨o,ho,hc⟩:=a;exact⟨o,by rw[e];exact ho,hc⟩
   . obtain⟨o,ho,hc⟩:=hp;exact IC hit ⟨o,K _ _ ho,hc⟩ (by rw[Bn];exact hv) fun h' a b=>q h' a fun c hc=>b.2 c hc
   . obtain⟨o,ho,hc⟩:=hp;exact J1 hA hit ⟨o,K _ _ ho,hc⟩ (by rw[Bn];exact hv) fun h' b=>q h' b
   . exact⟨_,zG _ (zN _ rfl),rfl,rfl⟩
   . rw[<-ik];exact zN _ rfl
 . refine zA (Jv hp (zA (Gg (zE ⟨rfl,?_⟩) Em)));have ik:(s.heap.push { cls:=.type "tuple_iterator",data:=.fields #[.ref p,.int 0 0] }).objs.size=s.heap.objs.size+1:=C2 ..;rw[ik];refine XX (s0:=s) (I:=s.heap.objs.size) (S:=s.heap.objs.size+1) (itAt:=fun j h=>h.IsTupleIter s.heap.objs.size p j) ⟨fun j h h' a e=>?_,fun j h tk v Q E K hit hv q=>?_,fun j h tk Q E K hit hv q=>?_⟩ bt (DK _) (zI _) (JY _) cmp hR h0 _ s.toks 0 (kp0 _ _) ?_ ?_
   . obtain⟨o,ho,hc⟩:=a;exact⟨o,by rw[e];exact ho,hc⟩
   . obtain⟨o,ho,hc⟩:=hp;exact wpAny_pyNext_tuple_item hit ⟨o,K _ _ ho,hc⟩ (by rw[Bn];exact hv) fun h' a b=>q h' a fun c hc=>b.2 c hc
   . obtain⟨o,ho,hc⟩:=hp;exact wpAny_pyNext_tuple_end hA hit ⟨o,K _ _ ho,hc⟩ (by rw[Bn];exact hv) fun h' b=>q h' b
   . exact⟨_,zG _ (zN _ rfl),rfl,rfl⟩
   . rw[<-ik];exact zN _ rfl
def O4 (K:AO)(x dv:V)(H:Hp)(Q:VK):Prop:=∃p ns,x=.ref p/\(AE K H p (ns.map V.int)\/AB K H p (ns.map V.int))/\(ns=[]->Q dv H)/\(∀n∈ns,(∀m∈ns,m<=n)->Q (.int n) H)
def OS (K:AO)(t:TA)(td:TE):TE:=fun σ H Q=>t σ H fun vs H1=>∃x,vs=[x]/\td σ H1 fun dv H2=>O4 K x dv H2 Q
theorem XN (hc:X.calm=true)(hu:X.A.units+1<cLine)(hg:Gl X "max") (hm:X.mg "max"=none) (he:PA X [e] t)(hd:PE X de td)
 (jh:backTo pos (starEach [e] X.env)=(false,eval e X.env)::backTo pos (starEach [] X.env):=by rfl)(iM:(backTo pos (starEach [e] X.env)).any (·.1)=false:=by rfl):
 PE X (.Call (.Name "max" np) [e] [⟨some "default",de,kpos⟩] pos) (OS X.K t td):=by
 intro pins s σ H Q I h;refine Gx (C9 I hg hm (by decide +kernel:bootBuiltins "max"=some (.builtin "max")) ?_);refine PyProof.Rows.callWith_kw (AM (he pos pins s σ H _ I h) fun us s1 ⟨vs,H1,I1,r,q1⟩=>?_) jh iM;obtain⟨x,rfl,q1⟩:=q1;obtain⟨u,rfl,rx⟩:=B2 r;show wpAny _ _ (evalAll ((do let v <-eval de X.env;standAt pos;pure v)::[])) _ _ s1
 refine wpAny_evalAll_cons (zA (AM (hd pins s1 σ H1 _ I1 q1) fun ud s2 ⟨dv,H2,I2,rd,q2⟩=>zA (wpAny_standAt (zE (wpAny_evalAll_nil ?_)))));show wpAny _ _ (call (.builtin "max") [u] [(Str.ofString "default",ud)]) _ _ s2;obtain⟨p,ns,rfl,hp,q0,q⟩:=q2;obtain⟨ys,ey⟩:∃ys,ys=ns.map V.int:=⟨_,rfl⟩;rw[<-ey] at hp;cases rx;obtain⟨its,rv,hpp⟩:∃its:List Value,AR ys its/\(s2.heap.IsList p its.toArray\/s2.heap.IsTuple p its.toArray):=by
  rcases hp with hp | hp
  . obtain⟨its,r',pl,_⟩:=I2.list hp;exact⟨its,r',.inl pl.isList⟩
  . obtain⟨its,r',pl,_⟩:=I2.tuple hp;exact⟨its,r',.inr pl⟩
 have hlen:=rv.length;have e0:its=[]->ns=[]:=fun z=>by have:ys=[]:=Ep.mp (by rw[hlen,z];rfl);rw[ey] at this;exact Jm.mp this
 subst ey;have hI:IntsAre its ns:=ET rv;have hl:=hI.length;have look:∀(i:Nat)(v:Value),its[i]?=some v->∃t,v=.int (ns.getD i 0) t:=fun i v hv=>by
  have hi:i<ns.length:=by have:=(zH.mp hv).1;lia
  obtain⟨u,hu,ru⟩:=rv.get (i:=i) (x:=.int ns[i]) (by simp[hi]);rw[hv] at hu;cases hu;obtain⟨t,rfl⟩:=(show ∃t,v=Value.int ns[i] t from ru);exact⟨t,by rw[zF,zC hi];rfl⟩
 refine aJ (I2.ok.hd hc) (fun i j=>decide (ns.getD i 0 > ns.getD j 0)) hpp (fun i j vi vj h tk Q E K hi hj q=>?_) (fun v h tk hv K=>?_) (fun z h tk K=>⟨dv,H2,I2.kept K,rd,q0 (e0 z)⟩)
 . obtain⟨t1,rfl⟩:=look i vi hi;obtain⟨t2,rfl⟩:=look j vj hj;exact PyProof.Rows.gt_int q
 . obtain⟨b1,b2⟩:=argBest_gt (fun i=>ns.getD i 0) (its.length-1);have gD:=(zH.mp hv).1;generalize eb:argBest (fun i j=>decide (ns.getD i 0 > ns.getD j 0)) (its.length-1)=bi at hv gD b1 b2;obtain⟨t,rfl⟩:=look bi v hv;have hy:bi<ns.length:=by lia
   refine⟨.int (ns.getD bi 0),H2,I2.kept K,⟨t,rfl⟩,q _ ?_ fun m hm=>?_⟩
   . rw[zF,zC hy];exact DF hy
   . obtain⟨j,hj,ej⟩:=zp hm;have:=b2 j (by lia);have g1:ns.getD j 0=m:=by rw[zF,zC hj,ej];rfl
     rw[g1] at this;exact this
end L2
namespace L2
open PySem PySem.Spec PyProof.Rows
theorem cf (l)(items)(n)(b)(o)(items2)(n2)(iw:¬ (!items.isEmpty && Builtin.List.listTooLong (items.size+items2.size))=true)(jh:items.size<=sizeLine)(iM:items.size+items2.size<=sizeLine+1):
 Meets (Builtin.«list.extend» ⟨[.ref l,.ref b],[]⟩) (fun _ R s=>s.heap.get? l=some { cls:=.type "list",dict:=none,data:=.seq items n,slots:=#[] }/\(s.heap.get? b=some o/\o.cls=.type "tuple"/\o.data=.seq items2 n2)/\R (.ok (.ret Value.none)) { s with heap:=s.heap.update l (Obj.mapSeq fun x=>x++items2),toks:=s.toks }):=
 .of_wp fun prog w A R s h=>by
  obtain⟨hl,⟨hb,hc,hd⟩,h⟩:=h;show wpAny _ A.in1 (Builtin.List.listExtendWith (.ref l) (.ref b) .none) _ _ s;unfold Builtin.List.listExtendWith;refine zA (Dw ⟨o,hb,hc⟩ ?_);have h1:(Builtin.List.listSameRef (.ref l) (.ref b) || Value.type "tuple" == Value.type "list" || Value.type "tuple" == Value.type "tuple")=true:=by simp
  simp only[h1,if_true];refine zA ?_;unfold Builtin.List.listItems;refine zA (Bx hb hd (zE ?_));refine zA ?_;refine zA (Bx hl rfl (zE ?_));rw[if_neg iw];show wpAny _ A.in1 (updateSeq l (· ++ items2) >>= fun _=>ret .none) _ _ s;refine zA (Cf hl rfl ?_ (by lia) (by rw[Array.size_append];exact iM));exact zE ⟨_,rfl,h⟩
def dN:V->List V->Hp->VK->Prop:=fun x vs H Q=>∃l b xs zs,x=.ref l/\vs=[.ref b]/\H l=some (.lst xs)/\H b=some (.tup zs)/\xs.length+zs.length<=sizeLine/\Q .non (upd H l (.lst (xs++zs)))
theorem ZJ:VG X "list.extend" dN:=by
 intro pins s σ H x vs v us Q I rx rv h;obtain⟨l,b,xs,zs,rfl,rfl,hH,hB,hz,q⟩:=h;cases rx;obtain⟨u,rfl,ru⟩:=rv.one;cases ru;obtain⟨z,its,n,r,hl,e⟩:=I.lstM hH;obtain⟨z2,iL,r2,o2,ic,i0,n2,hd2⟩:=I.hok b _ hB;have gS:=r2.length;have hsz:its.toArray.size+iL.toArray.size<=sizeLine:=by rw[ze,ze];lia
 have iw:¬ (!its.toArray.isEmpty && Builtin.List.listTooLong (its.toArray.size+iL.toArray.size))=true:=by rw[Wn hsz,Bool.and_false];exact zo
 refine call_meets PySem.F.slot_list_extend ⟨_,e,rfl⟩ PySem.F.entry_list_extend (PySem.F.args_list_extend_2 _ _)
  (cf l its.toArray n b o2 iL.toArray n2 iw (by rw[ze];lia) (by lia)) ⟨e,⟨ic,i0,hd2⟩,?_⟩
 refine⟨.non,_,I.lset (its':=its++iL) hH e (by simp) (r.append r2) ?_,rfl,q⟩;rw[zJ]
 lia
theorem AA.turnedLaid {t':Nat}{fp:List Addr}{a:Addr}{o:HO}(I:AA X pins σ H s)(hf:∀b∈fp,BP X pins H b)(k:∀b u,b∉fp->s.heap.get? b=some u->h'.get? b=some u)(hp:s.heap.objs.size<=a)
 (new:A1 X.prog X.w (upd H a o) h' a o):AA X pins σ (upd H a o) { s with heap:=h',toks:=t' }:=by
 have fr:H a=none:=I.hok.fresh hp;have nfp:∀b u,H b=some u->b∉fp:=fun b u e z=>by rw[(hf b z).1] at e;cases e
 have na:∀b u,H b=some u->b≠a:=fun b u e z=>by rw[z,fr] at e;cases e
 refine I.step (g':=s.gens) (d':=s.drawn) (ch:=fp) (fun b hb=>?_) (fun b u _ _ hc e _=>k b u hc e) (fun b u _ _ hc e _=>⟨u.slots,k b u hc e⟩) (fun b u hc e n=>?_) (fun b u hc e=>⟨u,k b u hc e⟩)
  (fun b xs e=>by rw[zf (na b _ e)];exact e) (fun b u w e=>by rw[zf (na b _ e)];exact e) (fun b ps e=>⟨#[],by rw[zf (na b _ e),e];simp⟩) (fun m hm=>?_) (fun b u e=>?_) I.bare
 . obtain⟨f0,f1,f2,f3,f4,f5⟩:=hf b hb;exact⟨f3,f1,f4,f5⟩
 . rw[zf (zj (zx (zd e) hp))];exact n
 . obtain⟨u,es,ep,ho,r⟩:=hm;exact⟨u,es,ep,k _ u (fun z=>(hf _ z).2.1 rfl) ho,r⟩
 . by_cases z:b=a
   . subst z;rw[zK] at e;cases e;exact new
   . rw[zf z] at e;refine (I.hok b u e).stay (fun c v hc q=>k c v ?_ q) (fun c q=>by rw[zf (na c _ q)];exact q) fun c xs q=>by rw[zf (na c _ q)];exact q
     rcases hc with z | z
     . rw[z];exact nfp b u e
     . exact nfp c _ z
end L2
namespace L2
open PySem PySem.Spec PyProof.Rows
open PySem.AutoSeq1 (wpAny_loadPart')
theorem cm (hi:s.heap.IsTupleIter it t i)(ht:s.heap.IsTuple t items)(hx:items[i]?=some x)
 (hQ:∀h',h'.IsTupleIter it t (i+1)->Heap.SameBut it s.heap h'->Q x { s with heap:=h' }):wpAny (model prog w) A (Builtin.SmallTypes.nextOf (.ref it)) Q E s:=by
 obtain⟨oi,jz,ci,di⟩:=id hi;obtain⟨ot,hot,_,nt,dt⟩:=ht;unfold Builtin.SmallTypes.nextOf;refine zA (G0 (name:=Str.ofString "__next__") hi.typeIs PySem.F.slot_tuple_iterator_next (C7 PySem.F.slot_tuple_iterator_next hi.typeIs PySem.F.entry_tuple_iterator_next ?_ (PySem.F.args_tuple_iterator_next_1 _)));show wpAny (model prog w) _ (field (.ref it) 0 >>= _) _ _ s;refine zA (wpAny_field jz di (x:=.ref t) rfl ?_);show wpAny (model prog w) _ (if (Value.ref t==Value.none)=true then _ else _) _ _ s;rw[if_neg (show ¬ ((Value.ref t==Value.none)=true) from zo)]
 show wpAny (model prog w) _ (field (.ref it) 1 >>= _) _ _ s;refine zA (wpAny_field jz di (x:=.int i 0) rfl ?_);show wpAny (model prog w) _ (seqItems? (.ref t) >>= _) _ _ s;refine zA (Bx hot dt ?_);simp only[hx,B0];refine zA (GY jz di (by simp) (zE ⟨x,rfl,zE (hQ _ ?_ (Eh ..))⟩));refine⟨_,zu _ jz (Obj.isFreed_of_fields (Obj.data_mapFields di _)),(Obj.cls_mapFields ..).trans ci,?_⟩;rw[Obj.data_mapFields di];simp[rawInt]
theorem VZ (hA:A.handled=none)(hi:s.heap.IsTupleIter it t i)(ht:s.heap.IsTuple t items)(hx:items[i]?=none)
 (hE:∀h' e,Heap.ExtBut it s.heap h'->(∃o,h'.get? e=some o/\o.cls=.type "StopIteration")->E (.ref e) { s with heap:=h' }):wpAny (model prog w) A (Builtin.SmallTypes.nextOf (.ref it)) Q E s:=by
 obtain⟨oi,jz,ci,di⟩:=id hi;obtain⟨ot,hot,_,nt,dt⟩:=ht;unfold Builtin.SmallTypes.nextOf;refine zA (G0 (name:=Str.ofString "__next__") hi.typeIs PySem.F.slot_tuple_iterator_next (C7 PySem.F.slot_tuple_iterator_next hi.typeIs PySem.F.entry_tuple_iterator_next ?_ (PySem.F.args_tuple_iterator_next_1 _)));show wpAny (model prog w) _ (field (.ref it) 0 >>= _) _ _ s;refine zA (wpAny_field jz di (x:=.ref t) rfl ?_);show wpAny (model prog w) _ (if (Value.ref t==Value.none)=true then _ else _) _ _ s;rw[if_neg (show ¬ ((Value.ref t==Value.none)=true) from zo)]
 show wpAny (model prog w) _ (field (.ref it) 1 >>= _) _ _ s;refine zA (wpAny_field jz di (x:=.int i 0) rfl ?_);show wpAny (model prog w) _ (seqItems? (.ref t) >>= _) _ _ s;refine zA (Bx hot dt ?_);simp only[hx,B0];refine zA (EV (zA (GY jz di (by simp) ?_)));show wpAny (model prog w) _ (newExc (.type "StopIteration") [] >>= _) _ _ _;refine zA ?_;simp only[newTuple,newExc];refine zA (EX ?_ (by size_fits));refine zA (m:=firstArgMember _ _) (PySem.wpAny_of_eq (a:=Value.none) (by first | rfl | (simp only[firstArgMember];rfl)) ?_);refine EX ?_ (by size_fits);simp only[raiseNew];refine zA (wpAny_handled ?_)
 first
  | rw[show A.in1.handled=none from hA]
  | rw[hA]
 exact zA (zE (wpAny_throw (hE _ _ (((Eh ..).extBut.push _).push _) ⟨_,zN _ rfl,rfl⟩)))
theorem dU {prog:Program}{w:World}{A:Around}(hA:A.handled=none)(it t:Addr)(gL:t≠it)(items:Array Value):
 Draws prog w A it [it,t] items.size (fun i v=>items[i]?=some v) (fun i h=>h.IsTupleIter it t i/\h.IsTuple t items) where
 live:=fun _ _ st=>by obtain⟨⟨o,ho,_⟩,_⟩:=st;exact⟨o,ho⟩
 frame:=fun _ h h' st hk=>by obtain⟨⟨o,ho,r⟩,o2,ic,r2⟩:=st;exact⟨⟨o,hk it (by simp) o ho,r⟩,o2,hk t (by simp) o2 ic,r2⟩
 item:=fun i s Q E hi st hQ=>cm st.1 st.2 (x:=items[i]) (by simp[hi]) fun h' a b=>hQ _ h' s.toks (by simp[hi]) ⟨a,st.2.extBut b.extBut gL⟩ b
 done:=fun s Q E st hE=>VZ hA st.1 st.2 (by simp) hE
theorem d5 (t)(items)(n)(dct)(sl):
 Meets (Builtin.«enumerate.__new__» ⟨[.type "enumerate",.ref t],[]⟩) (fun _ R s=>s.heap.get? t=some { cls:=.type "tuple",dict:=dct,data:=.seq items n,slots:=sl } /\
  R (.ok (.ret (.ref (s.heap.push { cls:=.type "tuple_iterator",data:=.fields #[.ref t,.int 0 0] }).objs.size))) { s with heap:=(s.heap.push { cls:=.type "tuple_iterator",data:=.fields #[.ref t,.int 0 0] }).push { cls:=.type "enumerate",data:=.fields #[.none,.bool false,.ref s.heap.objs.size,rawInt 0,.none,.none] } }):=by
 refine .of_wp fun prog w A R s hs=>?_;obtain⟨hp,g,d,tk,os⟩:=s;obtain⟨ho,hR⟩:=hs;have su:=sub_enumerate;have tT:Heap.IsTuple (Shared.heap ⟨hp,g,d,tk,os⟩) t items:=⟨_,ho,rfl,n,rfl⟩
 wp_walk using wpAny_loadPart' ho
 refine wpAny_stack_any fun stk=>zE ?_;split
 . rename_i c _ _ _ _ _
   cases (c==Value.type "enumerate") <;> (wp_walk using wpAny_loadPart' ho,Jv tT;exact⟨_,rfl,hR⟩)
 . wp_walk using wpAny_loadPart' ho,Jv tT
   exact⟨_,rfl,hR⟩
theorem aP (hT:s.heap.IsTuple t items)
 (h:∀h',IsEnum h' (s.heap.objs.size+1) s.heap.objs.size 0 .none->h'.IsTupleIter s.heap.objs.size t 0->(∀b o,s.heap.get? b=some o->h'.get? b=some o)->Q (.ref (s.heap.objs.size+1)) { s with heap:=h' }):
 wpAny (model prog w) A (call (.type "enumerate") [.ref t]) Q E s:=by
 obtain⟨⟨c,dct,dt,sl⟩,ho,hc,n,hd⟩:=hT;obtain rfl:c=.type "tuple" := hc;obtain rfl:dt=.seq items n:=hd;refine callType_new PySem.F.called_enumerate (by decide) (PySem.F.typeCall_enumerate_1 _) (PySem.F.newCall_enumerate_1 _) (fun obj=>PySem.F.args_object_init_2 obj _) PySem.F.entry_enumerate_new (d5 t items n dct sl) ⟨ho,?_⟩;have hz:(s.heap.push { cls:=.type "tuple_iterator",data:=.fields #[.ref t,.int 0 0] }).objs.size=s.heap.objs.size+1:=C2 ..;show _/\_;rw[hz];have he:IsEnum ((s.heap.push { cls:=.type "tuple_iterator",data:=.fields #[.ref t,.int 0 0] }).push { cls:=.type "enumerate",data:=.fields #[.none,.bool false,.ref s.heap.objs.size,rawInt 0,.none,.none] }) (s.heap.objs.size+1) s.heap.objs.size 0 .none:=by have g:=zN (s.heap.push { cls:=.type "tuple_iterator",data:=.fields #[.ref t,.int 0 0] }) (o:={ cls:=.type "enumerate",data:=.fields #[.none,.bool false,.ref s.heap.objs.size,rawInt 0,.none,.none] }) rfl;rwa [hz] at g
 exact⟨⟨_,he,rfl⟩,h _ he ⟨_,zG _ (zN _ rfl),rfl,rfl⟩ fun b o x=>zG _ (zG _ x)⟩
noncomputable def Dz (K:AO)(a:Addr):It:=
 ⟨fun i H=>∃xs x,AB K H a xs/\xs[i]?=some x,fun i H x H'=>∃T v,x=.ref T/\H T=none/\H'=upd H T (.tup [.int i,v])/\∀xs,AB K H a xs->xs[i]?=some v,fun i H=>∃xs,AB K H a xs/\xs.length<=i⟩
theorem Zi {P:Program}{w:World}{K:AO}{elts:List Expr} {x1} {tp:Pos}(a e it:Addr):EM P w K (.Tuple elts x1 tp) (Dz K a) [e,it] e (fun i h=>(∃old,IsEnum h e it (i:Nat) old)/\h.IsTupleIter it a i/\e≠it/\a≠it/\a≠e) where
 mem:=by simp
 obj:=fun i h st b hb=>by
  obtain⟨⟨old,he⟩,⟨o,e1,c,d⟩,_⟩:=st;rcases zX.mp hb with rfl | hb
  . exact⟨_,he,fun v z=>by cases z⟩
  . have e2:b=it:=by simpa using hb
    subst e2;exact⟨o,e1,fun v z=>by rw[d] at z;cases z⟩
 keep:=fun i h h' st k=>by obtain⟨⟨old,he⟩,⟨o,e1,r⟩,ne⟩:=st;exact⟨⟨old,k e (by simp) _ he⟩,⟨o,k it (by simp) o e1,r⟩,ne⟩
 item:=by
  intro X hP hw hK hc i pins s σ H E I hf st hg;subst hP hw hK;obtain⟨⟨old,he⟩,hit,ne,nai,nae⟩:=st;obtain⟨xs,x,hq,hx⟩:=hg;obtain⟨its,rv,p,hz⟩:=I.tuple hq;obtain⟨u,hu,ru⟩:=rv.get hx;have elt:e<s.heap.objs.size:=zd he;have ilt:it<s.heap.objs.size:=by obtain⟨_,q,_⟩:=id hit;exact zd q
  have gD:i<its.toArray.size:=by have:=(zH.mp hu).1;simpa using this
  refine wpAny_pyNext_enum_itemD (dU (A:=X.A.in1) (I.ok.hd hc) it a nai its.toArray) he ⟨hit,p⟩ gD ne (by simp;exact⟨ne,fun z=>nae z.symm⟩) fun y h' tk hy heo hst' hT hsz hk=>?_;have hyu:y=u:=by
   have h1:its[i]?=some y:=by simpa using hy
   rw[hu] at h1;exact (zV h1).symm
  subst hyu;refine⟨_,rfl,wpAny_letOwnedTupleGo_enum heo fun h2 he2 iM=>?_⟩;have hT2:h2.get? s.heap.objs.size=some { cls:=.type "tuple",data:=.seq #[.int i tk,y] }:=(iM.2 _ (Nat.ne_of_gt elt)).trans hT;refine⟨.ref s.heap.objs.size,upd H s.heap.objs.size (.tup [.int i,x]),I.turnedLaid (t':=tk+1) (fp:=[e,it]) hf (fun b o hb q=>?_) (zI _) ?_,rfl,⟨_,x,rfl,I.hok.fresh (zI _),rfl,fun zs hzs=>by rw[I.tuple_inj hzs hq];exact hx⟩,⟨⟨y,?_⟩,?_,ne,nai,nae⟩,fun b hb=>?_⟩
  . exact (iM.2 b fun z=>hb (by simp[z])).trans (hk b o (fun z=>hb (by simp[z])) (fun z=>hb (by simp[z])) q)
  . exact⟨⟨BO,_,hT2,rfl⟩,[.int i tk,y],.cons ⟨_,rfl⟩ (.cons ru .nil),⟨_,hT2,rfl,_,rfl⟩⟩
  . have:=he2;rwa [show ((i:Nat):Int)+1=((i+1:Nat):Int) by lia] at this
  . obtain⟨⟨o,ho,r⟩,_⟩:=hst';exact⟨o,(iM.2 it (Ne.symm ne)).trans ho,r⟩
  . rcases zX.mp hb with rfl | hb
    . rw[zf (zj elt)];exact (hf _ (by simp)).1
    . have e2:b=it:=by simpa using hb
      subst e2;rw[zf (zj ilt)];exact (hf _ (by simp)).1
 done:=by intro X hP hw hK hc i pins s σ H E I hf st hg;subst hP hw hK;obtain⟨⟨old,he⟩,hit,ne,nai,nae⟩:=st;obtain⟨xs,hq,hx⟩:=hg;obtain⟨its,rv,p,hz⟩:=I.tuple hq;obtain⟨f0,f1,f2,f3,f4,f5⟩:=hf it (by simp);have hl:=rv.length;unfold pyNext;have hT:s.TypeIs (.ref e) "enumerate" := ⟨_,he,rfl⟩;refine zA (G6 (G0 (name:=Str.ofString "__next__") hT PySem.F.slot_enumerate_next (C7 PySem.F.slot_enumerate_next hT PySem.F.entry_enumerate_next ?_ (PySem.F.args_enumerate_next_1 _))));show wpAny (model X.prog X.w) _ (field (.ref e) 2 >>= _) _ _ s;refine zA (wpAny_field he rfl (x:=.ref it) rfl ?_);refine zA (VZ (A:=X.A.in1) (I.ok.hd hc) hit p (by simp;lia) fun h' z eb hz'=>?_);obtain⟨o,ho,jF⟩:=hz';refine zA (Dr (T := "StopIteration") (b:=true) ⟨o,ho,jF⟩ isSubtype_stop (zE ?_));exact⟨rfl,I.turned (t':=s.toks) (fun b o hb e=>eb b o hb e) f0 f1 f3 f4 f5⟩
 self:=fun _ _ _ _ _ st h=>by obtain⟨⟨old,he⟩,_⟩:=st;exact wpAny_pyIter_enum he h
def Le (K:AO)(ta:TA):TI:=fun σ H R=>ta σ H fun vs H1=>∃a,vs=[.ref a]/\(∃xs,AB K H1 a xs)/\R (Dz K a) H1
theorem Ym {x1} (hg:Gl X "enumerate") (hm:X.mg "enumerate"=none) (ha:PA X [a] ta)(hs:starEach [a] X.env=[(false,eval a X.env)]:=by rfl):PI X (.Tuple elts x1 tp) (.Call (.Name "enumerate" p) [a] [] pos) (Le X.K ta):=by
 intro pins s σ H R I h;refine Call_ (C9 I hg hm boot_enumerate (PyProof.Rows.callWith_type1 (AM (ha pos pins s σ H _ I h) fun us s1 ⟨vs,H1,I1,r1,q1⟩=>?_) hs rfl));obtain⟨l,e,⟨xs,hq⟩,q⟩:=q1;subst e;obtain⟨u,rfl,rx⟩:=B2 r1;cases rx;obtain⟨its,rv,pl,hz⟩:=I1.tuple hq;have iW:l<s1.heap.objs.size:=by obtain⟨o,ho,_⟩:=id pl;exact zd ho
 refine aP pl fun h' he hit hk=>?_;refine wpAny_pyIter_enum he ?_;refine⟨s1.heap.objs.size+1,[s1.heap.objs.size+1,s1.heap.objs.size],_,_,H1,rfl,I1.kept (t':=s1.toks) hk,Zi l _ _,⟨⟨_,he⟩,hit,JY _,zj iW,zj (Dp iW)⟩,fun b hb=>?_,q⟩;rcases zX.mp hb with rfl | hb
 . exact I1.fpOk (DK _) (I1.hok.fresh (DK _))
 . have e2:b=s1.heap.objs.size:=by simpa using hb
   subst e2;exact I1.fpOk (zI _) (I1.hok.fresh (zI _))
theorem bL {K:AO}(Pv:Nat->List V->Hp->Prop)(h0:Pv 0 [] (upd H1 D (.lst [])))(hl:∀i ys H,Pv i ys H->AB K H a xs)(hz:∀i ys H,Pv i ys H->ys.length<sizeLine)
 (hs:∀i x ys H T,xs[i]?=some x->Pv i ys H->H T=none->g (.ref T) (List.replicate own none++cv.map some) (upd H T (.tup [.int i,x])) fun σ2 H2=>(σ2.length=own+cv.length/\σ2.drop own=cv.map some) /\
  ti σ2 H2 fun b H3=>if b=true then te σ2 H3 fun y H4=>H4 D=some (.lst ys)/\Pv (i+1) (ys++[y]) (upd H4 D (.lst (ys++[y]))) else Pv (i+1) ys H3)
 (hd:∀ys H,Pv xs.length ys H->Q (.ref D) H):OB (Dz K a) own cv g ti te D H1 Q:=by
 refine⟨fun i m ys H=>m=xs.length-i/\i<=xs.length/\Pv i ys H,⟨xs.length,rfl,zg _,h0⟩,?_⟩;rintro i m ys H ⟨rfl,hi,p⟩;have q:=hl i ys H p;by_cases gD:i<xs.length
 . refine .inr ⟨⟨xs,xs[i],q,by simp[gD]⟩,hz i ys H p,Pv (i+1),fun jo H' p'=>⟨xs.length-(i+1),by lia,rfl,gD,p'⟩,fun x H' y=>?_⟩;obtain⟨T,v,rfl,hT,rfl,hv⟩:=y;exact hs i v ys H T (hv xs q) p hT
 . have e:i=xs.length:=by lia
   subst e;exact .inl ⟨⟨xs,q,zI _⟩,hd ys H p⟩
theorem ZM {K:AO}{g:TG}{tb:TS}{D:J8}(Pv:Nat->St->Hp->Prop)(h0:Pv 0 σ H)(hl:∀i σ H,i<=xs.length->Pv i σ H->AB K H a xs)
 (hs:∀i x σ H T,xs[i]?=some x->Pv i σ H->H T=none->g (.ref T) σ (upd H T (.tup [.int i,x])) fun σ2 H2=>tb { D with nx:=Pv (i+1),ct:=Pv (i+1),bk:=D.nx } σ2 H2)(hd:∀ σ H,Pv xs.length σ H->D.nx σ H):
 ∃W:Nat->Nat->St->Hp->Prop,(∃m,W 0 m σ H)/\∀i m σ H,W i m σ H ->
  ((Dz K a).stop i H/\D.nx σ H)\/((Dz K a).go i H/\∃N:St->Hp->Prop,(∀ σ' H',N σ' H'->∃m',m'<m/\W (i+1) m' σ' H')/\∀x H',(Dz K a).yld i H x H'->g x σ H' fun σ2 H2=>tb { D with nx:=N,ct:=N,bk:=D.nx } σ2 H2):=by
 refine⟨fun i m σ H=>i<=xs.length/\m=xs.length-i/\Pv i σ H,⟨_,zg _,rfl,h0⟩,fun i m σ H h=>?_⟩;obtain⟨hi,rfl,hp⟩:=h;by_cases c:i<xs.length
 . refine .inr ⟨⟨xs,xs[i],hl i σ H hi hp,zC c⟩,Pv (i+1),fun σ' H' hp'=>⟨xs.length-(i+1),by lia,c,rfl,hp'⟩,fun x H' y=>?_⟩;obtain⟨T,v,rfl,hT,rfl,hv⟩:=y;exact hs i v σ H T (hv xs (hl i σ H hi hp)) hp hT
 . have e:i=xs.length:=by lia
   subst e;exact .inl ⟨⟨xs,hl _ σ H hi hp,zI _⟩,hd σ H hp⟩
def AN (P:Addr)(H H':Hp):Prop:=∀b o,H b=some o->(b=P/\∃ps,o=.tbl ps)\/H' b=some o
theorem AN.refl (H):AN P H H:=fun _ _ e=>.inr e
theorem AN.of (h:AF H H'):AN P H H':=fun b o e=>.inr (h b o e)
theorem AN.trans (a:AN P H H1)(b:AN P H1 H2):AN P H H2:=fun c o e=>by
 rcases a c o e with z | z
 . exact .inl z
 . exact b c o z
theorem AN.get (k:AN P H H')(e:H b=some o)(h:∀ps,o ≠ .tbl ps):H' b=some o:=by
 rcases k b o e with ⟨_,ps,z⟩ | z
 . exact absurd z (h ps)
 . exact z
theorem AN.chg (k:AN P H H')(h:H l=none):AN P H (upd H' l o):=fun b u e=>by
 rcases k b u e with z | z
 . exact .inl z
 . exact .inr (by rw[zf (zn e h)];exact z)
theorem AN.smT (h:AN P H H'):BG H H':=fun b o e=>(h b o e).imp (fun z=>z.2) id
theorem AN.tab (k:AN P H H')(n:P2≠P)(T:TabAt H P2 pos q):TabAt H' P2 pos q:=
 T.keep (fun o e=>by
  rcases k _ _ e with ⟨z,_⟩ | z
  . exact absurd z n
  . exact z) fun c φ e=>k.get e (by intro ps z;cases z)
theorem XG (I:AA X pins σ H s)(T:TabAt H P gU (X.env.qual ++ "<lambda>"))
 (gz:X.env.code=.ref c)(C:PySem.W.CodeHd X.base c P)(g6:Co X.mg X.base)(gX:∀y∈gC.names,y.2=.free->X.env.kindOf y.1=some .cell)(jE:defaultsOf params X.env=([],[]))
 (h:∀f pm cv jU s' H',AA X pins σ H' s'->AN P H H'->TabAt H' P gU (X.env.qual ++ "<lambda>")->s.heap.objs.size<=f ->
  s'.heap.get? f=some { cls:=.type "function",data:=.func (PySem.W.kla_fn "<lambda>" (X.env.qual ++ "<lambda>") params body gC (BA X.env.cells gC.names []) pm cv jU) } ->
  (∃c1,cv=.ref c1/\H' c1=some (.ext (TL c1 (X.env.qual ++ "<lambda>"))))->H' f=none->Q (.ref f) s'):
 wpAny (model X.prog X.w) X.A (eval (.Lambda params body gC gU) X.env) Q E s:=by
 obtain⟨ps,hP,ht,hcase⟩:=T;have oP:s.heap.get? P=some (PySem.W.tabObj ps):=I.hok P _ hP;have hg:=I.mod.glob.keeps I.bk;have C':PySem.W.CodeHd s.heap c P:=C.keeps I.bk;have jF:closureFor gC X.env=pure (BA X.env.cells gC.names []):=WK fun y hy hf=>I.ok.has y.1 (.inl (gX y hy hf));have nP:∀b o,X.base.get? b=some o->b≠P:=fun b o e z=>by have:=(I.bs b o e).2;rw[z,hP] at this;cases this
 have hgP:mainGlobals≠P:=by obtain⟨o,es,ep,e,_⟩:=I.mod.glob;exact nP _ _ e
 have hb:s.heap.BuiltinsAt X.mg P:=by obtain⟨bm,ob,b1,b2,b3,b4,b5,b6⟩:=g6;refine⟨bm,ob,b1,b2,fun z=>?_,nP _ _ b3,I.bk _ _ b3,b4,b5,b6⟩;obtain⟨o,es,ep,e,hd,_⟩:=I.mod.glob;rw[z,e] at b3;cases b3;rw[hd] at b6;cases b6
 refine PySem.W.kla_eval jE ?_;rcases hcase with hn | ⟨c1,hc1,hH⟩
 . refine PySem.W.kla_makeFunction (mg:=X.mg) jF I.ok.glob hg gz C' oP ht hn hgP hb fun c' jU h' tk hx ja gD iA htb=>?_;obtain⟨c2,oc,vs,t,e2,hoc,hd,hv⟩:=id iA;cases e2;have kp:∀b u,b≠P->s.heap.get? b=some u->(h'.push (PySem.W.kla_obj "<lambda>" (X.env.qual ++ "<lambda>") params body gC (BA X.env.cells gC.names []) ((X.mg "__name__").getD .none) c' jU)).get? b=some u:=fun b u iU e=>zG _ (hx b u iU e);have hcn:H c'=none:=I.hok.fresh ja;have nPc:P≠c':=zn hP hcn;refine h h'.objs.size ((X.mg "__name__").getD .none) (.ref c') jU _ _ (I.growL (c':=c') (o:=.ext (TL c' (X.env.qual ++ "<lambda>"))) (t':=tk) hP ja kp (zG _ htb) ⟨⟨oc,vs,t,zG _ hoc,hd,hv⟩,⟨oc,zG _ hoc⟩,fun h1 h2 ⟨o1,v1,t1,a1,a2,a3⟩ k12=>⟨o1,v1,t1,k12 _ a1,a2,a3⟩⟩) ?_ ?_ ?_ ?_ ?_ ?_
   . intro b o e;by_cases hbP:b=P
     . left;rw[hbP,hP] at e;exact⟨hbP,ps,(zV e).symm⟩
     . right;rw[zf (zn e hcn),zf hbP];exact e
   . refine⟨ps ++ #[rawInt gU.line,rawInt gU.col,.ref c'],by rw[zf nPc,zK],?_,.inr ⟨c',?_,zK⟩⟩
     . rw[Array.toList_append];exact TriplesOk_snoc _ _ _ _ ht
     . rw[Array.toList_append];exact codeAmong_snoc _ ht hn
   . have:=Ea (Cv ja gD);exact this
   . exact zN _ rfl
   . exact⟨c',rfl,zK⟩
   . have hf0:H h'.objs.size=none:=I.hok.fresh (Ea (Cv ja gD));have n1:h'.objs.size≠c':=Nat.ne_of_gt gD;have n2:h'.objs.size≠P:=fun z=>by rw[z,hP] at hf0;cases hf0
     rw[zf n1,zf n2];exact hf0
 . obtain⟨⟨oc,vs,t,hoc,hd,hv⟩,_⟩:=I.hok c1 _ hH;refine PySem.W.kla_makeFunctionHit (mg:=X.mg) jF I.ok.glob hg gz C' oP ht hc1 hb fun jU h' tk hk hsz=>?_;refine h h'.objs.size ((X.mg "__name__").getD .none) (.ref c1) jU _ _ (I.kept (t':=tk) fun b u e=>zG _ (hk b u e)) (AN.refl _) ⟨ps,hP,ht,.inr ⟨c1,hc1,hH⟩⟩ hsz (zN _ rfl) ⟨c1,rfl,hH⟩ (I.hok.fresh hsz)
theorem dh (I:AA X pins σ H s)(T:TabAt H P gU (X.env.qual ++ "<lambda>"))
 (gz:X.env.code=.ref c)(C:PySem.W.CodeHd X.base c P)(g6:Co X.mg X.base)(gX:∀y∈gC.names,y.2=.free->X.env.kindOf y.1=some .cell)(jE:defaultsOf params X.env=([],[]))
 (h:∀f pm cv jU s' H',AA X pins σ H' s'->AN P H H'->TabAt H' P gU (X.env.qual ++ "<lambda>")->s.heap.objs.size<=f ->
  s'.heap.get? f=some { cls:=.type "function",data:=.func (PySem.W.kla_fn "<lambda>" (X.env.qual ++ "<lambda>") params body gC (BA X.env.cells gC.names []) pm cv jU) } ->
  s'.heap.CodeRec cv (X.env.qual ++ "<lambda>")->Q (.ref f) s'):
 wpAny (model X.prog X.w) X.A (eval (.Lambda params body gC gU) X.env) Q E s:=
 XG I T gz C g6 gX jE fun f pm cv jU s' H' I' sm T' ja hf ⟨c1,e,hc1⟩ _=>by subst e;obtain⟨⟨o1,v1,t1,x,y,z⟩,_⟩:=I'.hok c1 _ hc1;exact h f pm _ jU s' H' I' sm T' ja hf ⟨c1,o1,v1,t1,rfl,x,y,z⟩
end L2
namespace L2
open PySem PyProof.Rows
def TC (prog:Program)(w:World)(A:Around)(s0:Shared)(q:Addr)(its:List Value)(kf:Nat->Int):Prop:=
 ∀i v h tk Q E,Kp s0 h->its[i]?=some v ->
  (∀h' tk' t,(∀b o,h.get? b=some o->h'.get? b=some o)->Q (.int (kf i) t) { s0 with heap:=h',toks:=tk' }) ->
  wpAny (model prog w) A (call (.ref q) [v]) Q E { s0 with heap:=h,toks:=tk }
noncomputable abbrev Gb (kf:Nat->Int)(k:Nat):Nat:=argBest (fun i j=>decide (kf i<kf j)) k
theorem Zy (M:Ma prog w A.in1 s0 I its itAt)(hS:s0.heap.objs.size<=S)(hI:s0.heap.objs.size<=I)(g8:S≠I)
 (jK:∀j h h',itAt j h->(∀b o,h.get? b=some o->h'.get? b=some o)->itAt j h')(ky:TC prog w A.in1 s0 q its kf)
 (hR:∀v h tk,its[Gb kf (its.length-1)]?=some v->Kp s0 h->R (.ok (.ret v)) { s0 with heap:=h,toks:=tk }):
 ∀r j h tk vb tb c,its.length-(j+1)=r->j+1<=its.length->Kp s0 h->itAt (j+1) h->its[Gb kf j]?=some vb ->
  h.get? S=some { cls:=.type "list",data:=.seq #[vb,.int (kf (Gb kf j)) tb] c }->codeAny (model prog w) A (.builtin "min.loop" { pos:=[.ref I,.ref q,.ref S],kw:=kw }) R { s0 with heap:=h,toks:=tk }:=by
 intro r
 induction r with
 | zero=>intro j h tk vb tb c hr hj K hit hv gY;refine codeAny_builtin PySem.F.entry_min_loop ?_;unfold Builtin.«min.loop»;refine zA (Bx gY rfl ?_);dsimp only;refine zA (BS (M.fin (j+1) h tk _ _ K hit (CQ (by lia)) fun h' k=>?_));have gR:=k S _ g8 gY;refine zA (Cf gR rfl (zA (Cb (zE ?_))) BO (by show 0<=sizeLine+1;decide));refine hR vb _ tk ?_ ((K.but hI k).upd hS);rw[show its.length-1=j by lia];exact hv
 | succ r ih=>
  intro j h tk vb tb c hr hj K hit hv gY;obtain⟨x,hx⟩:∃x,its[j+1]?=some x:=⟨_,zC (by lia)⟩;refine codeAny_builtin PySem.F.entry_min_loop ?_;unfold Builtin.«min.loop»;refine zA (Bx gY rfl ?_);dsimp only;refine zA (BS (M.next (j+1) h tk x _ _ K hit hx fun h' gJ k=>?_));have K':Kp s0 h':=K.but hI fun b o hb e=>by rw[k b hb];exact e
  have gR:h'.get? S=some { cls:=.type "list",data:=.seq #[vb,.int (kf (Gb kf j)) tb] c }:=by rw[k S g8];exact gY
  refine zA (BS (Az (ky (j+1) x h' tk _ _ K' hx fun h2 tk2 t2 k2=>?_)));have K2:Kp s0 h2:=fun b o e=>k2 b o (K' b o e);have iO:=k2 S _ gR;have j8:=jK _ _ _ gJ k2;refine zA (BS (Az (zA (PyProof.Rows.lt_int ?_))));refine zA (Az (Dx (zA (Cb (zE ?_)))));have eb:Gb kf (j+1)=if decide (kf (j+1)<kf (Gb kf j))=true then j+1 else Gb kf j:=argBest.eq_2 _ j
  cases e:decide (kf (j+1)<kf (Gb kf j)) with
  | true=>rw[if_pos e] at eb;refine zA (Cf iO rfl (zA (Cb (zE ⟨rfl,?_⟩))) BO (by show 2<=sizeLine+1;decide));exact ih (j+1) _ tk2 x t2 c (by lia) (by lia) (K2.upd hS) (M.stay _ _ _ j8 (DV _ _ _ _ (Ne.symm g8))) (by rw[eb];exact hx) (by rw[eb];exact zu _ iO rfl)
  | false=>rw[e,if_neg (by decide)] at eb;refine zA (Cb (zE ⟨rfl,?_⟩));exact ih (j+1) h2 tk2 vb tb c (by lia) (by lia) K2 j8 (by rw[eb];exact hv) (by rw[eb];exact iO)
theorem fV (M:Ma prog w A.in1 s0 I its itAt)(hS:s0.heap.objs.size<=S)(hI:s0.heap.objs.size<=I)(g8:S≠I)
 (jK:∀j h h',itAt j h->(∀b o,h.get? b=some o->h'.get? b=some o)->itAt j h')(ky:TC prog w A.in1 s0 q its kf)
 (hR:∀v h tk,its[Gb kf (its.length-1)]?=some v->Kp s0 h->R (.ok (.ret v)) { s0 with heap:=h,toks:=tk })
 (h0:its=[]->∀h tk,Kp s0 h->R (.ok (.ret d)) { s0 with heap:=h,toks:=tk })
 (h)(tk)(c)(K:Kp s0 h)(hit:itAt 0 h)(gY:h.get? S=some { cls:=.type "list",data:=.seq #[] c }):
 codeAny (model prog w) A (.builtin "min.loop" { pos:=[.ref I,.ref q,.ref S],kw:=[(Str.ofString "default",d)] }) R { s0 with heap:=h,toks:=tk }:=by
 refine codeAny_builtin PySem.F.entry_min_loop ?_;unfold Builtin.«min.loop»;refine zA (Bx gY rfl ?_);dsimp only;cases e:its with
 | nil=>subst e;refine zA (BS (M.fin 0 h tk _ _ K hit rfl fun h' k=>?_));exact zA (EV (zE (h0 rfl h' tk (K.but hI k))))
 | cons x xs=>
  have hx:its[0]?=some x:=by rw[e];rfl
  refine zA (BS (M.next 0 h tk x _ _ K hit hx fun h' gJ k=>?_));have K':Kp s0 h':=K.but hI fun b o hb e=>by rw[k b hb];exact e
  have gR:h'.get? S=some { cls:=.type "list",data:=.seq #[] c }:=by rw[k S g8];exact gY
  refine zA (BS (Az (ky 0 x h' tk _ _ K' hx fun h2 tk2 t2 k2=>?_)));have K2:Kp s0 h2:=fun b o e=>k2 b o (K' b o e);have iO:=k2 S _ gR;refine zA (Cf iO rfl (zE ⟨rfl,?_⟩) Em (by show 2<=sizeLine+1;decide));exact Zy M hS hI g8 jK ky hR (its.length-1) 0 _ tk2 x t2 (c+1) rfl (by rw[e];simp) (K2.upd hS) (M.stay _ _ _ (jK _ _ _ gJ k2) (DV _ _ _ _ (Ne.symm g8))) hx (zu _ iO rfl)
theorem fH (hA:A.handled=none)(hp:s.heap.IsList p its.toArray)
 (ky:TC prog w A.in1 s q its kf)
 (hR:∀v h tk,its[Gb kf (its.length-1)]?=some v->Kp s h->Q v { s with heap:=h,toks:=tk })
 (h0:its=[]->∀h tk,Kp s h->Q d { s with heap:=h,toks:=tk }):
 wpAny (model prog w) A (call (.builtin "min") [.ref p] [(Str.ofString "key",.ref q),(Str.ofString "default",d)]) Q E s:=by
 refine Cu (codeAny_call_builtin PySem.F.plain_min PySem.F.entry_min (wpAny_of_eq (show checkBuiltinCall "min" { pos:=[.ref p],kw:=[(Str.ofString "key",.ref q),(Str.ofString "default",d)] }=pure () from rfl) (zE ?_)));unfold Builtin.min;refine zA (wpAny_of_eq (show Builtin.Builtins.bindParams "min" ["key", "default"] 0 { kw:=[(Str.ofString "key",.ref q),(Str.ofString "default",d)] }=pure [some (.ref q),some d] from rfl) (zE ?_));dsimp only;refine zA (zE ?_);have kp0:∀(o1 o2:Obj),Kp s ((s.heap.push o1).push o2):=fun o1 o2 b o e=>zG _ (zG _ e);refine zA (Hk hp (zA (Gg (zE ⟨rfl,?_⟩) Em)));have ik:(s.heap.push { cls:=.type "list_iterator",data:=.fields #[.ref p,.int 0 0] }).objs.size=s.heap.objs.size+1:=C2 ..;rw[ik];refine fV (s0:=s) (I:=s.heap.objs.size) (S:=s.heap.objs.size+1) (itAt:=fun j h=>h.IsListIter s.heap.objs.size p j) ⟨fun j h h' a e=>?_,fun j h tk v Q E K hit hv q=>?_,fun j h tk Q E K hit hv q=>?_⟩ (DK _) (zI _) (JY _) (fun j h h' a e=>?_) ky hR h0 _ s.toks 0 (kp0 _ _) ?_ ?_
 . obtain⟨o,ho,hc⟩:=a;exact⟨o,by rw[e];exact ho,hc⟩
 . obtain⟨o,ho,hc⟩:=hp;exact IC hit ⟨o,K _ _ ho,hc⟩ (by rw[Bn];exact hv) fun h' a b=>q h' a fun c hc=>b.2 c hc
 . obtain⟨o,ho,hc⟩:=hp;exact J1 hA hit ⟨o,K _ _ ho,hc⟩ (by rw[Bn];exact hv) fun h' b=>q h' b
 . obtain⟨o,ho,hc⟩:=a;exact⟨o,e _ _ ho,hc⟩
 . exact⟨_,zG _ (zN _ rfl),rfl,rfl⟩
 . rw[<-ik];exact zN _ rfl
def Ox (ys:List V)(ks:List (List Int))(H2:Hp)(Q:VK):Prop:=(ys=[]->Q .non H2)/\∀(i:Nat)y(k:List Int),ys[i]?=some y->ks[i]?=some k->(∀k'∈ks,k.getD 1 0<=k'.getD 1 0)->Q y H2
def LI (P:Addr)(gU:Pos)(q:Str)(t:TA):TE:=fun σ H Q=>t σ H fun vs H1=>∃l ys ks,vs=[.ref l]/\H1 l=some (.lst ys)/\Ag H1 ys ks/\(∀k∈ks,∃a b:Int,k=[a,b])/\TabAt H1 P gU q /\
 ∀H2:Hp,AN P H1 H2->TabAt H2 P gU q->Ox ys ks H2 Q
theorem dA 
 (hc:X.calm=true)(hr:BD (k+1) X.A)(hg:Gl X "min") (hm:X.mg "min"=none) (he:PA X [e] t)(gz:X.env.code=.ref c)(C:PySem.W.CodeHd X.base c P)(g6:Co X.mg X.base)
 (hS:gC.kind=.function)(hco:gC.isCoroutine=false)(kA:gC.isGenerator=false)(iT:∀x∈gC.names,x.2 ≠ .cell)
 (gX:∀y∈gC.names,y.2=.free->X.env.kindOf y.1=some .cell)(hpn:gC.names.lookup pn=some .local)(jE:defaultsOf params X.env=([],[]))
 (iC:∀q body cl pm gP ct v,bindArgs (PySem.W.kla_fn "<lambda>" q params body gC cl pm gP ct) ⟨[v],[]⟩=pure [(pn,v)])
 (hd3:(pn==("__debug__" : Str))=false:=by decide)
 (jh:backTo pos (starEach [e] X.env)=(false,eval e X.env)::backTo pos (starEach [] X.env):=by rfl)(iM:(backTo pos (starEach [e] X.env)).any (·.1)=false:=by rfl):
 PE X (.Call (.Name "min" np) [e] [⟨some "key",.Lambda params (.Subscript (.Name pn p2) (.Constant (.int 1) j1 p4) p3) gC gU,kpos⟩,⟨some "default",.Constant .none j0 dp,dpos⟩] pos) (LI P gU (X.env.qual ++ "<lambda>") t):=by
 intro pins s σ H Q I h;refine Gx (C9 I hg hm (by decide +kernel:bootBuiltins "min"=some (.builtin "min")) ?_);refine PyProof.Rows.callWith_kw (AM (he pos pins s σ H _ I h) fun us s1 ⟨vs,H1,I1,r,q1⟩=>?_) jh iM;obtain⟨l,ys,ks,rfl,hl,TA,hk2,T,q⟩:=q1;obtain⟨u,rfl,rx⟩:=B2 r;cases rx;show wpAny _ _ (evalAll ((do let v <-eval (.Lambda params (.Subscript (.Name pn p2) (.Constant (.int 1) j1 p4) p3) gC gU) X.env;standAt pos;pure v)::(do let v <-eval (.Constant .none j0 dp) X.env;standAt pos;pure v)::[])) _ _ s1
 refine wpAny_evalAll_cons (zA (dh I1 T gz C g6 gX jE fun f pm cv jU s2 H2 I2 sm T2 hfge hf iA=>zA (wpAny_standAt (zE ?_))));refine wpAny_evalAll_cons (zA (Constant_none (zA (wpAny_standAt (zE (wpAny_evalAll_nil ?_))))));show wpAny _ _ (call (.builtin "min") [.ref l] [(Str.ofString "key",.ref f),(Str.ofString "default",.none)]) _ _ s2;obtain⟨qe,qn⟩:=q H2 sm T2;have TA2:Ag H2 ys ks:=TA.keep fun b zs e=>sm.get e (by intro ps z;cases z);have gS:H2 l=some (.lst ys):=sm.get hl (by intro ps z;cases z);obtain⟨_,its,nn,rv,ho⟩:=I2.hok l _ gS;have hlen:=rv.length;have hlk:=TA2.length;refine fH (I2.ok.hd hc) (kf:=fun i=>(ks.getD i []).getD 1 0) ⟨_,ho,rfl,nn,rfl⟩ (fun i v h' tk Q' E' Kh hv qk=>?_) (fun v h' tk hv Kh=>?_) (fun z h' tk Kh=>?_)
 . have hi:i<ys.length:=by have:=(zH.mp hv).1;lia
   obtain⟨p,kk,e1,e2,e3,_⟩:=TA2.get (i:=i) (x:=ys[i]) (by simp[hi]);obtain⟨u,hu,ru⟩:=rv.get (i:=i) (x:=ys[i]) (by simp[hi]);rw[hv] at hu;cases hu;rw[e1] at ru;cases (show v=Value.ref p from ru);obtain⟨_,us,rv',o,hpo,hpc⟩:=I2.hok p _ e3;obtain⟨a,b,rfl⟩:=hk2 kk (zP e2);have hI:IntsAre us [a,b]:=ET rv';obtain⟨tb,hb⟩:=hI.get 1 b rfl;have ek:(ks.getD i []).getD 1 0=b:=by rw[zF (l:=ks),e2];rfl
   dsimp only at qk;rw[ek] at qk;obtain⟨c1,o1,v1,t1,e1',ho1,hd1',hv1⟩:=id iA;subst e1';have rec':h'.CodeRec (.ref c1) (X.env.qual ++ "<lambda>"):=⟨c1,o1,v1,t1,rfl,Kh _ _ ho1,hd1',hv1⟩;refine Cu (PySem.W.kla_callFunE hr.in1.depth (Kh f _ hf) rfl hco kA rfl rec' ?_);rw[iC];refine zE (wpAny_newFunctionEnv iT (fun y hy=>?_) (fun h₁ hns hsb=>?_) hS)
   . obtain rfl:y=(pn,Value.ref p):=zi.mp hy;exact hpn
   . have hk₁:∀b o,h'.get? b=some o->h₁.get? b=some o:=fun b o e'=>hsb.extBut b o (zj (zd e')) (zG _ e');refine⟨I2.mod.nolimit.keeps fun b o e'=>hk₁ b o (Kh _ _ (I2.bk b o e')),?_⟩;show codeAny _ _ (.expr (.Subscript (.Name pn p2) (.Constant (.int 1) j1 p4) p3) (PySem.W.envX (X.env.qual ++ "<lambda>") gC h'.objs.size f (.ref c1) (BA X.env.cells gC.names []))) _ _;refine PySem.W.kla_codeExpr (XZ PySem.F.slot_tuple_getitem.lookup (fun _ _=>rfl) ?_);refine wpAny_Name (wpAny_loadName_local hS (show (PySem.W.envX (X.env.qual ++ "<lambda>") gC h'.objs.size f (.ref c1) (BA X.env.cells gC.names [])).kindOf pn=some .local from hpn) hns (v:=.ref p) (by simp) ?_) hd3;refine wpAny_Constant_int ?_;have tp:h₁.IsTuple p us.toArray:=⟨o,hk₁ _ _ (Kh _ _ hpo),hpc⟩;refine⟨tp.typeIs,?_⟩;exact getItem_tuple (j:=1) tp (by decide) (by decide) (by rw[ze,show us.length=2 from hI.length];rfl) (by simpa using hb) (qk _ _ _ hk₁)
 . obtain⟨b1,b2⟩:=argBest_lt (fun i=>(ks.getD i []).getD 1 0) (its.length-1);have hv:its[argBest (fun i j=>decide ((ks.getD i []).getD 1 0<(ks.getD j []).getD 1 0)) (its.length-1)]?=some v:=hv;have gD:=(zH.mp hv).1;generalize eb:argBest (fun i j=>decide ((ks.getD i []).getD 1 0<(ks.getD j []).getD 1 0)) (its.length-1)=bi at hv gD b1 b2;have hy:bi<ys.length:=by lia
   obtain⟨u,hu,ru⟩:=rv.get (i:=bi) (x:=ys[bi]) (by simp[hy]);rw[hv] at hu;cases hu;obtain⟨pa,kk,e1,e2,e3,_⟩:=TA2.get (i:=bi) (x:=ys[bi]) (by simp[hy]);refine⟨ys[bi],H2,I2.kept Kh,ru,qn bi ys[bi] kk (by simp[hy]) e2 fun k' iS=>?_⟩;obtain⟨j,hj,ej⟩:=zp iS;have:=b2 j (by lia);have g1:ks.getD j []=k':=by rw[zF,zC hj,ej];rfl
   have g2:ks.getD bi []=kk:=by rw[zF,e2];rfl
   rw[g1,g2] at this;exact this
 . exact⟨.non,H2,I2.kept Kh,rfl,qe (Ep.mp (by rw[hlen,z];rfl))⟩
end L2
namespace L2
open PySem PySem.Spec PyProof.Rows
end L2
namespace L2
open PySem PySem.Spec PySem.W PyProof.Rows Builtin Builtin.ObjectAttr Builtin.Getset_descriptor
end L2
namespace L2
open PySem PySem.Spec PyProof.Rows
section
variable {X:Cx}{pins:CI}{σ:St}{H:Hp}{s:Shared}
theorem AA.off (I:AA X pins σ H s)(f:BP X pins H a)(k:∀b o,b≠a->s.heap.get? b=some o->h'.get? b=some o):AA X pins σ H { s with heap:=h',toks:=t' }:=by
 obtain⟨f1,f2,f3,f4,f5,f6⟩:=f;refine I.step (g':=s.gens) (d':=s.drawn) (ch:=[a]) (fun b hb=>?_) (fun b o _ _ hb e _=>k b o (fun z=>hb (by rw[z];exact zS)) e) (fun b o _ _ hb e _=>⟨o.slots,k b o (fun z=>hb (by rw[z];exact zS)) e⟩) (fun _ _ _ _ n=>n) (fun b o hb e=>⟨o,k b o (fun z=>hb (by rw[z];exact zS)) e⟩) (fun _ _ e=>e) (fun _ _ _ e=>e) (fun b ps e=>⟨#[],by rw[e];simp⟩) (fun m hm=>?_) (fun b u e=>?_) I.bare
 . obtain rfl:b=a:=zi.mp hb;exact⟨f4,f2,f5,f6⟩
 . obtain⟨o,es,ep,e,z⟩:=hm;exact⟨o,es,ep,k _ _ (Ne.symm f2) e,z⟩
 . have nb:∀c u,H c=some u->c≠a:=fun c u q z=>by rw[z,f1] at q;cases q
   refine (I.hok b u e).stay (fun x v hx z=>k x v ?_ z) (fun _ z=>z) fun _ _ z=>z;rcases hx with z1 | z1
   . rw[z1];exact nb _ _ e
   . exact nb _ _ z1
noncomputable def J3 (X:Cx)(A:Around)(N':List Str)(q:Str)(scope:Scope)(f:Addr)(cd:Value)(s3:Shared)(H3:Hp):Cx where
 prog:=X.prog
 w:=X.w
 K:=X.K
 mg:=X.mg
 base:=X.base
 A:=A.deeper (PySem.W.envX q scope s3.heap.objs.size f cd (BA X.env.cells scope.names []))
 N:=N'
 s₀:=s3
 H₀:=H3
 env:=PySem.W.envX q scope s3.heap.objs.size f cd (BA X.env.cells scope.names [])
 outer:=X.stack
 stack:=PySem.W.envX q scope s3.heap.objs.size f cd (BA X.env.cells scope.names [])::X.stack
 ex:=[]
 fn:=fun _=>false
 calm:=true
 pn:=[]
 xe:=fun _ _=>False
variable {A:Around}{q pn:Str}{scope:Scope}{f:Addr}{cd:Value}{cn:List Str}{ci:List Nat}{cv:List V}{v:V}{u:Value}
theorem aO (I:AA X pins σ H s)(hh:A.handled=none)(hfr:A.frames=some X.stack)(S:Gf X scope)(hpn:scope.names.lookup pn=some .local)(hc:E8 X scope cn ci)(hv:ci.map (fun j=>σ[j]?)=cv.map fun v=>some (some v))(hl:cn.length=ci.length)
 (rv:AS v u)(hns:h1.Ns s.heap.objs.size (fun x=>if x=pn then some u else none))(hk:∀b o,s.heap.get? b=some o->h1.get? b=some o):
 AA (J3 X A (pn::cn) q scope f cd s H) [] (some v::cv.map some) H { s with heap:=h1,toks:=t }:=by
 have lenv:cv.length=ci.length:=by have:=congrArg List.length hv;simpa using this.symm
 have noA:∀b:Addr,b∉(J3 X A (pn::cn) q scope f cd s H).ex:=fun b z=>absurd (show b∈([]:List Addr) from z) (by simp);have has:∀x,scope.names.lookup x=some .free->∃c,(BA X.env.cells scope.names []).lookup x=some c:=fun x h=>Nt (I.ok.has x (.inl (S.free _ (PySem.mem_of_lookup h) rfl))) scope.names [] (PySem.mem_of_lookup h);refine⟨⟨I.ok.mod,S.kind,rfl,rfl,zI _,fun x y c h1 h2=>I.ok.inj x y c (Ez h1) (Ez h2),fun x h=>?_,(fun x c z=>by cases z),fun _=>hh,Around.frames_deeper hfr,.inr ⟨rfl,rfl⟩,fun b z=>absurd z (noA b),I.bs,Cq I.ok.bsz I.sz,fun b _ _=>noA b,fun b z=>absurd z (noA b),I.stack,I.stkFree⟩,
  rfl,I.bare,Un.kept hk,⟨_,hns,fun i x y e1 e2 e3=>?_⟩,fun x c e=>?_,I.hok.fresh (zI _),fun x c e=>I.freeC x c (Ez e),fun p hp=>absurd (show p∈([]:CI) from hp) (by simp),I.hok.kept hk,?_⟩
 . rcases (show scope.names.lookup x=some .cell\/scope.names.lookup x=some .free from h) with z | z
   . exact absurd rfl (S.nocell _ (PySem.mem_of_lookup z))
   . exact has x z
 . cases i with
   | zero=>
    obtain rfl:pn=x:=by simpa [J3] using e1
    obtain rfl:v=y:=by simpa using e2
    exact⟨u,rv,.inl ⟨hpn,by show (if pn=pn then some u else none)=some u;rw[if_pos rfl]⟩⟩
   | succ i=>
    have e1':cn[i]?=some x:=by simpa [J3] using e1
    rw[List.getElem?_cons_succ,zM] at e2;obtain⟨j,hj,hNj,hkx,gX⟩:=hc.get e1';have hcv:cv[i]?=some y:=by
     cases z:cv[i]? with
     | none=>rw[z] at e2;cases e2
     | some v'=>rw[z] at e2;cases e2;rfl
    have hσ:σ[j]?=some (some y):=by have:=congrArg (fun l:List (Option (Option V))=>l[i]?) hv;simp only[zM,hj,hcv,Fx,Option.some.injEq] at this;exact this
    obtain⟨m,_,gm⟩:=I.loc;obtain⟨u',r,q'⟩:=gm j x y hNj hσ (.inr (.inl hkx));obtain⟨c',jj⟩:=has x gX;refine⟨u',r,.inr ⟨.inr gX,c',jj,?_⟩⟩;rcases q' with ⟨z,_⟩ | ⟨_,c,hcc,o,ho,hd⟩
    . rw[hkx] at z;cases z
    . have e:c=c':=zV (hcc.symm.trans (Ez jj));subst e;exact⟨o,hk c o ho,hd⟩
 . obtain⟨v',o,ho,hd⟩:=I.cell x c (Ez e);exact⟨v',o,hk c o ho,hd⟩
 . show (some v::cv.map some).length=(pn::cn).length;rw[zk,zk,zB,lenv,hl]
theorem Zu (I:AA X pins σ H s)(hh:A.handled=none)(hfr:A.frames=some X.stack)(hdp:A.depth<recursionLimit)(S:Gf X scope)(hco:scope.isCoroutine=false)(kA:scope.isGenerator=false)(hpn:scope.names.lookup pn=some .local)
 (hc:E8 X scope cn ci)(hv:ci.map (fun j=>σ[j]?)=cv.map fun v=>some (some v))(hl:cn.length=ci.length)
 (iC:bindArgs (PySem.W.kla_fn "<lambda>" q params body scope (BA X.env.cells scope.names []) pm cv' jU) ⟨[u],[]⟩=pure [(pn,u)])
 (hf:s.heap.get? f=some { cls:=.type "function",data:=.func (PySem.W.kla_fn "<lambda>" q params body scope (BA X.env.cells scope.names []) pm cv' jU) }) (iA:s.heap.CodeRec cv' q)
 (hb:∀s3 H3,PE (J3 X A (pn::cn) q scope f cv' s3 H3) body te)(rv:AS v u)(hq:te (some v::cv.map some) H Q):wpAny (model X.prog X.w) A (call (.ref f) [u]) (fun r s'=>CE X.stack X.prog X.w H s Q r s') E s:=by
 refine Cu (PySem.W.kla_callFunE hdp hf rfl hco kA rfl iA ?_);rw[iC];refine zE (wpAny_newFunctionEnv S.nocell (fun y hy=>?_) (fun h₁ hns hsb=>?_) S.kind)
 . obtain rfl:y=(pn,u):=zi.mp hy;exact hpn
 . have hk₁:∀b o,s.heap.get? b=some o->h₁.get? b=some o:=fun b o e'=>hsb.extBut b o (zj (zd e')) (zG _ e');refine⟨I.nolimit.keeps hk₁,?_⟩;show codeAny _ _ (.expr body (PySem.W.envX q scope s.heap.objs.size f cv' (BA X.env.cells scope.names []))) _ _;have hns':h₁.Ns s.heap.objs.size (fun x=>if x=pn then some u else none):=by
    have e:(fun x=>([(pn,u)]:List (Str×Value)).reverse.lookup x)=(fun x=>if x=pn then some u else none):=by
     funext x;by_cases z:x=pn
     . subst z;simp
     . rw[if_neg z];show List.lookup x [(pn,u)]=none;rw[Hm,show (x==pn)=false from by simpa using z];rfl
    rw[<-e];exact hns
   have J:=aO (q:=q) (f:=f) (cd:=cv') (t:=s.toks+[(pn,u)].length) I hh hfr S hpn hc hv hl rv hns' hk₁;refine PySem.W.kla_codeExpr (CM (hb s H [] _ _ H Q J hq) (fun r s' hr=>?_) fun _ _ z=>z.elim);obtain⟨v',H',J',r',q'⟩:=hr;exact⟨v',H',J'.os,J'.bare,J'.base,J'.hok,r',q'⟩
end
structure Dc (X:Cx)(pins:CI)(σ:St)(H2:Hp)(f:Addr)(of:Obj)(Ia Sa:Addr)(H:Hp)(s:Shared):Prop where
 inv:AA X pins σ H s
 sm:AF H2 H
 fo:s.heap.get? f=some of
 fn:BP X pins H f
 fi:BP X pins H Ia
 fs:BP X pins H Sa
 d1:f≠Ia
 d2:f≠Sa
 d3:Sa≠Ia
 io:∃o,s.heap.get? Ia=some o
 so:∃o,s.heap.get? Sa=some o
theorem BP.to (f:BP X pins H b)(h:H' b=none):BP X pins H' b:=⟨h,f.2⟩
theorem BP.nst (I:AA X pins σ H s)(f:BP X pins H b):b∉De X.stack:=fun z=>by
 rcases zX.mp (I.stkSub b z) with q | q
 . exact f.2.1 q
 . exact f.2.2.1 q
theorem Dc.offI (L:Dc X pins σ H2 f of Ia Sa H s)(k:∀b o,b≠Ia->s.heap.get? b=some o->h'.get? b=some o)(ho:∃o,h'.get? Ia=some o):Dc X pins σ H2 f of Ia Sa H { s with heap:=h',toks:=t' }:=
 ⟨L.inv.off L.fi k,L.sm,k _ _ L.d1 L.fo,L.fn,L.fi,L.fs,L.d1,L.d2,L.d3,ho,let ⟨o,e⟩:=L.so;⟨o,k _ _ L.d3 e⟩⟩
theorem Dc.offS (L:Dc X pins σ H2 f of Ia Sa H s)(k:∀b o,b≠Sa->s.heap.get? b=some o->h'.get? b=some o)(ho:∃o,h'.get? Sa=some o):Dc X pins σ H2 f of Ia Sa H { s with heap:=h',toks:=t' }:=
 ⟨L.inv.off L.fs k,L.sm,k _ _ L.d2 L.fo,L.fn,L.fi,L.fs,L.d1,L.d2,L.d3,let ⟨o,e⟩:=L.io;⟨o,k _ _ (Ne.symm L.d3) e⟩,ho⟩
theorem Dc.call (L:Dc X pins σ H2 f of Ia Sa H s)(h:CE X.stack X.prog X.w H s (fun v H'=>v=x/\AF H H') r s'):
 ∃H',Dc X pins σ H2 f of Ia Sa H' s'/\AS x r/\(∀o,s.heap.get? Ia=some o->s'.heap.get? Ia=some o)/\(∀o,s.heap.get? Sa=some o->s'.heap.get? Sa=some o):=by
 obtain⟨v,H',os,bare,un,hok,rv,rfl,sm⟩:=h;have kp:∀b,BP X pins H b->∀o,s.heap.get? b=some o->s'.heap.get? b=some o:=fun b fb o e=>un.keep b o e fb.1 (fb.nst L.inv) (by intro z;cases z);have fr:∀b,BP X pins H b->(∃o,s.heap.get? b=some o)->BP X pins H' b:=fun b fb ⟨o,e⟩=>fb.to (un.free b o e fb.1 (by intro z;cases z));refine⟨H',⟨L.inv.call' os un hok bare (fun b z=>absurd z (by simp)),L.sm.trans sm,kp f L.fn _ L.fo,fr f L.fn ⟨_,L.fo⟩,fr Ia L.fi L.io,fr Sa L.fs L.so,L.d1,L.d2,L.d3,?_,?_⟩,rv,kp Ia L.fi,kp Sa L.fs⟩
 . obtain⟨o,e⟩:=L.io;exact⟨o,kp Ia L.fi o e⟩
 . obtain⟨o,e⟩:=L.so;exact⟨o,kp Sa L.fs o e⟩
def LF (X:Cx)(pins:CI)(σ:St)(H2:Hp)(f:Addr)(of:Obj)(Ia Sa:Addr)(ns:List Int)(val:Int->Int):Prop:=
 ∀H s n u E,Dc X pins σ H2 f of Ia Sa H s->n∈ns->AS (.int n) u->wpAny (model X.prog X.w) X.A.in1 (call (.ref f) [u]) (fun r s'=>CE X.stack X.prog X.w H s (fun v H'=>v=.int (val n)/\AF H H') r s') E s
theorem Dc.list (L:Dc X pins σ H2 f of Ia Sa H s)(hl:H2 l=some (.lst (ns.map V.int))):∃its,IntsAre its ns/\s.heap.IsList l its.toArray:=by obtain⟨_,its,nn,rv,ho⟩:=L.inv.hok l _ (L.sm _ _ hl);exact⟨its,ET rv,_,ho,rfl,nn,rfl⟩
def DY (ns:List Int)(val:Int->Int)(j b:Nat)(nb:Int):Prop:=ns[b]?=some nb/\b<j/\∀i n,i<j->ns[i]?=some n->val nb<=val n/\(i<b->val nb<val n)
theorem DY.one (h:ns[0]?=some x):DY ns val 1 0 x:=⟨h,Nat.zero_lt_one,fun i n hi e=>by
 obtain rfl:i=0:=by lia
 rw[h] at e;cases e;exact⟨E3 _,fun z=>absurd z (E5 _)⟩⟩
theorem DY.keep (B:DY ns val j b nb)(h:ns[j]?=some x)(c:¬ val x<val nb):DY ns val (j+1) b nb:=⟨B.1,by have:=B.2.1;lia,fun i n hi e=>by
 by_cases z:i=j
 . subst z;rw[h] at e;cases e;exact⟨by lia,fun y=>by have:=B.2.1;lia⟩
 . exact B.2.2 i n (by lia) e⟩
theorem DY.new (B:DY ns val j b nb)(h:ns[j]?=some x)(c:val x<val nb):DY ns val (j+1) j x:=⟨h,by lia,fun i n hi e=>by
 by_cases z:i=j
 . subst z;rw[h] at e;cases e;exact⟨E3 _,fun y=>by lia⟩
 . have:=(B.2.2 i n (by lia) e).1;exact⟨by lia,fun _=>by lia⟩⟩
theorem dS (hh:X.A.handled=none)(ky:LF X pins σ H2 f of Ia Sa ns val)(hl:H2 l=some (.lst (ns.map V.int)))
 (hR:∀M b H s u,DY ns val ns.length b M->AA X pins σ H s->AF H2 H->AS (.int M) u->Rr (.ok (.ret u)) s):
 ∀r j H s b nb vb tb c,ns.length-j=r->1<=j->j<=ns.length->Dc X pins σ H2 f of Ia Sa H s->s.heap.IsListIter Ia l j->DY ns val j b nb->AS (.int nb) vb ->
  s.heap.get? Sa=some { cls:=.type "list",data:=.seq #[vb,.int (val nb) tb] c }->codeAny (model X.prog X.w) X.A (.builtin "min.loop" { pos:=[.ref Ia,.ref f,.ref Sa],kw:=[] }) Rr s:=by
 intro r
 induction r with
 | zero=>
  intro j H s b nb vb tb c hr h1 hj L hit B rb gY;obtain rfl:j=ns.length:=by lia
  obtain⟨its,hI,hls⟩:=L.list hl;refine codeAny_builtin PySem.F.entry_min_loop ?_;unfold Builtin.«min.loop»;refine zA (Bx gY rfl ?_);dsimp only;refine zA (BS (J1 hh hit hls (by rw[Bn];exact CQ (by rw[hI.length];exact zI _)) fun h' k=>?_));have gR:=k Sa _ L.d3 gY;refine zA (Cf gR rfl (zA (Cb (zE ?_))) BO (by show 0<=sizeLine+1;decide));exact hR nb b H _ vb B ((L.inv.off (t':=s.toks) L.fi k).off (t':=s.toks) L.fs fun b o hb e=>(DV _ _ _ _ hb).trans e) L.sm rb
 | succ r ih=>
  intro j H s b nb vb tb c hr h1 hj L hit B rb gY;obtain⟨x,hx⟩:∃x,ns[j]?=some x:=⟨_,zC (by lia)⟩;obtain⟨its,hI,hls⟩:=L.list hl;obtain⟨tx,hu⟩:=hI.get j x hx;refine codeAny_builtin PySem.F.entry_min_loop ?_;unfold Builtin.«min.loop»;refine zA (Bx gY rfl ?_);dsimp only;refine zA (BS (IC hit hls (by rw[Bn];exact hu) fun h' gJ k=>?_));have L1:=L.offI (t':=s.toks) (h':=h') (fun b o hb e=>(k.2 b hb).trans e) (let ⟨o,ho,_⟩:=gJ;⟨o,ho⟩);have gR:h'.get? Sa=some { cls:=.type "list",data:=.seq #[vb,.int (val nb) tb] c }:=(k.2 Sa L.d3).trans gY;refine zA (BS (Az (CM (ky H _ x (.int x tx) _ L1 (zP hx) ⟨tx,rfl⟩) (fun rr s2 hce=>?_) fun _ _ z=>z)));obtain⟨H',L2,rv2,kI,kS⟩:=L1.call hce;obtain⟨t2,rfl⟩:=rv2;have iO:=kS _ gR;have j8:s2.heap.IsListIter Ia l (j+1):=by obtain⟨o,ho,hc⟩:=gJ;exact⟨o,kI _ ho,hc⟩
  refine zA (BS (Az (zA (PyProof.Rows.lt_int ?_))));refine zA (Az (Dx (zA (Cb (zE ?_)))));cases e:decide (val x<val nb) with
  | true=>refine zA (Cf iO rfl (zA (Cb (zE ⟨rfl,?_⟩))) BO (by show 2<=sizeLine+1;decide));refine ih (j+1) H' _ j x (.int x tx) t2 c (by lia) (by lia) (by lia) (L2.offS (t':=s2.toks) (fun b o hb e=>(DV _ _ _ _ hb).trans e) ⟨_,zu _ iO rfl⟩) ?_ (B.new hx (of_decide_eq_true e)) ⟨tx,rfl⟩ (zu _ iO rfl);obtain⟨o,ho,hc⟩:=j8;exact⟨o,(DV _ _ _ _ (Ne.symm L.d3)).trans ho,hc⟩
  | false=>refine zA (Cb (zE ⟨rfl,?_⟩));exact ih (j+1) H' s2 b nb vb tb c (by lia) (by lia) (by lia) L2 j8 (B.keep hx (of_decide_eq_false e)) rb iO
theorem aD (hh:X.A.handled=none)(ky:LF X pins σ H2 f of Ia Sa ns val)(hl:H2 l=some (.lst (ns.map V.int)))(gL:ns≠[])
 (hR:∀M b H s u,DY ns val ns.length b M->AA X pins σ H s->AF H2 H->AS (.int M) u->Rr (.ok (.ret u)) s)(L:Dc X pins σ H2 f of Ia Sa H s)(hit:s.heap.IsListIter Ia l 0)(gY:s.heap.get? Sa=some { cls:=.type "list",data:=.seq #[] c }):
 codeAny (model X.prog X.w) X.A (.builtin "min.loop" { pos:=[.ref Ia,.ref f,.ref Sa],kw:=[] }) Rr s:=by
 have hlen:=Gv.mpr gL;obtain⟨x,hx⟩:∃x,ns[0]?=some x:=⟨_,zC hlen⟩;obtain⟨its,hI,hls⟩:=L.list hl;obtain⟨tx,hu⟩:=hI.get 0 x hx;refine codeAny_builtin PySem.F.entry_min_loop ?_;unfold Builtin.«min.loop»;refine zA (Bx gY rfl ?_);dsimp only;refine zA (BS (IC hit hls (by rw[Bn];exact hu) fun h' gJ k=>?_));have L1:=L.offI (t':=s.toks) (h':=h') (fun b o hb e=>(k.2 b hb).trans e) (let ⟨o,ho,_⟩:=gJ;⟨o,ho⟩);have gR:h'.get? Sa=some { cls:=.type "list",data:=.seq #[] c }:=(k.2 Sa L.d3).trans gY;refine zA (BS (Az (CM (ky H _ x (.int x tx) _ L1 (zP hx) ⟨tx,rfl⟩) (fun rr s2 hce=>?_) fun _ _ z=>z)));obtain⟨H',L2,rv2,kI,kS⟩:=L1.call hce;obtain⟨t2,rfl⟩:=rv2;have iO:=kS _ gR;refine zA (Cf iO rfl (zE ⟨rfl,?_⟩) Em (by show 2<=sizeLine+1;decide));refine dS hh ky hl hR (ns.length-1) 1 H' _ 0 x (.int x tx) t2 (c+1) rfl (zI _) hlen (L2.offS (t':=s2.toks) (fun b o hb e=>(DV _ _ _ _ hb).trans e) ⟨_,zu _ iO rfl⟩) ?_ (DY.one hx) ⟨tx,rfl⟩ (zu _ iO rfl);obtain⟨o,ho,hc⟩:=gJ;exact⟨o,(DV _ _ _ _ (Ne.symm L.d3)).trans (kI _ ho),hc⟩
theorem eT (hh:X.A.handled=none)(I:AA X pins σ H2 s)(hf:s.heap.get? f=some of)(hfp:BP X pins H2 f)(ky:∀Ia Sa,LF X pins σ H2 f of Ia Sa ns val)(hl:H2 l=some (.lst (ns.map V.int)))(gL:ns≠[])
 (hR:∀M b H s u,DY ns val ns.length b M->AA X pins σ H s->AF H2 H->AS (.int M) u->Q u s):
 wpAny (model X.prog X.w) X.A (call (.builtin "min") [.ref l] [(Str.ofString "key",.ref f)]) Q E s:=by
 obtain⟨_,its,nn,rv,ho⟩:=I.hok l _ hl;have hp:s.heap.IsList l its.toArray:=⟨_,ho,rfl,nn,rfl⟩;refine Cu (codeAny_call_builtin PySem.F.plain_min PySem.F.entry_min (wpAny_of_eq (show checkBuiltinCall "min" { pos:=[.ref l],kw:=[(Str.ofString "key",.ref f)] }=pure () from rfl) (zE ?_)));unfold Builtin.min;refine zA (wpAny_of_eq (show Builtin.Builtins.bindParams "min" ["key", "default"] 0 { kw:=[(Str.ofString "key",.ref f)] }=pure [some (.ref f),none] from rfl) (zE ?_));dsimp only;refine zA (zE ?_);refine zA (Hk hp (zA (Gg (zE ⟨rfl,?_⟩) Em)));have ik:(s.heap.push { cls:=.type "list_iterator",data:=.fields #[.ref l,.int 0 0] }).objs.size=s.heap.objs.size+1:=C2 ..;rw[ik];have k1:∀(o1 o2:Obj) b o,s.heap.get? b=some o->((s.heap.push o1).push o2).get? b=some o:=fun o1 o2 b o e=>zG _ (zG _ e);have hfl:=zd hf;refine aD (Ia:=s.heap.objs.size) (Sa:=s.heap.objs.size+1) (H:=H2) (c:=0) hh (ky _ _) hl gL hR ⟨I.kept (t':=s.toks) (k1 _ _),fun _ _ e=>e,k1 _ _ _ _ hf,hfp,I.fpOk (zI _) (I.hok.fresh (zI _)),I.fpOk (DK _) (I.hok.fresh (DK _)),zj hfl,zj (Dp hfl),JY _,⟨_,zG _ (zN _ rfl)⟩,⟨_,by rw[<-ik];exact zN _ rfl⟩⟩ ?_ ?_
 . exact⟨_,zG _ (zN _ rfl),rfl,rfl⟩
 . rw[<-ik];exact zN _ rfl
def dM (P:Addr)(gU:Pos)(q:Str)(ci:List Nat)(t:TA)(te:TE):TE:=fun σ H Q=>t σ H fun vs H1=>∃(l:Addr)(ns:List Int)(val:Int->Int)(cv:List V),vs=[.ref l]/\H1 l=some (.lst (ns.map V.int))/\ns≠[]/\ci.map (fun j=>σ[j]?)=cv.map (fun v=>some (some v))/\TabAt H1 P gU q /\
 ∀H2,AN P H1 H2->TabAt H2 P gU q->(∀n∈ns,∀H3,AF H2 H3->te (some (.int n)::cv.map some) H3 (fun v H4=>v=.int (val n)/\AF H3 H4))/\∀(M:Int)(b:Nat)(H4:Hp),DY ns val ns.length b M->AF H2 H4->Q (.int M) H4
theorem UW 
 (hc:X.calm=true)(hr:BD (k+2) X.A)(hg:Gl X "min") (hm:X.mg "min"=none) (he:PA X [e] t)(gz:X.env.code=.ref c)(C:PySem.W.CodeHd X.base c P)(g6:Co X.mg X.base)
 (S:Gf X gC)(hco:gC.isCoroutine=false)(kA:gC.isGenerator=false)(hpn:gC.names.lookup pn=some .local)(hcap:E8 X gC cn ci)(hlc:cn.length=ci.length)(jE:defaultsOf params X.env=([],[]))
 (iC:∀q body cl pm gP ct v,bindArgs (PySem.W.kla_fn "<lambda>" q params body gC cl pm gP ct) ⟨[v],[]⟩=pure [(pn,v)])
 (hb:∀f cd s3 H3,BD k (J3 X X.A.in1 (pn::cn) (X.env.qual ++ "<lambda>") gC f cd s3 H3).A->PE (J3 X X.A.in1 (pn::cn) (X.env.qual ++ "<lambda>") gC f cd s3 H3) body te)
 (jh:backTo pos (starEach [e] X.env)=(false,eval e X.env)::backTo pos (starEach [] X.env):=by rfl)(iM:(backTo pos (starEach [e] X.env)).any (·.1)=false:=by rfl):
 PE X (.Call (.Name "min" np) [e] [⟨some "key",.Lambda params body gC gU,kpos⟩] pos) (dM P gU (X.env.qual ++ "<lambda>") ci t te):=by
 intro pins s σ H Q I h;refine Gx (C9 I hg hm (by decide +kernel:bootBuiltins "min"=some (.builtin "min")) ?_);refine PyProof.Rows.callWith_kw (AM (he pos pins s σ H _ I h) fun us s1 ⟨vs,H1,I1,r,q1⟩=>?_) jh iM;obtain⟨l,ns,val,cv,rfl,hl,gL,hv,T,q⟩:=q1;obtain⟨u,rfl,rx⟩:=B2 r;cases rx;show wpAny _ _ (evalAll ((do let v <-eval (.Lambda params body gC gU) X.env;standAt pos;pure v)::[])) _ _ s1
 refine wpAny_evalAll_cons (zA (XG I1 T gz C g6 S.free jE fun f pm cv' jU s2 H2 I2 sm T2 hfge hf iA hfn=>zA (wpAny_standAt (zE (wpAny_evalAll_nil ?_)))));show wpAny _ _ (call (.builtin "min") [.ref l] [(Str.ofString "key",.ref f)]) _ _ s2;have gS:H2 l=some (.lst (ns.map V.int)):=sm.get hl (by intro ps z;cases z);obtain⟨q1,q2⟩:=q H2 sm T2;obtain⟨c1,rfl,hc1⟩:=iA;refine eT (val:=val) (I2.ok.hd hc) I2 hf (I1.fpOk hfge hfn) (fun Ia Sa H3 s3 n un E' L hn ru=>?_) gS gL (fun M b H4 s4 um B I4 s24 ru=>⟨.int M,H4,I4,ru,q2 M b H4 B s24⟩);obtain⟨⟨o1,v1,t1,ho1,hd1,hv1⟩,_⟩:=L.inv.hok c1 _ (L.sm _ _ hc1);exact Zu (cv:=cv) L.inv (I2.ok.hd hc) L.inv.ok.frames hr.in1.depth S hco kA hpn hcap hv hlc (iC _ _ _ _ _ _ _) L.fo ⟨c1,o1,v1,t1,rfl,ho1,hd1,hv1⟩ (fun s5 H5=>hb f (.ref c1) s5 H5 (hr.in1.deeper _)) ru (q1 n hn H3 L.sm)
noncomputable def Mt (lo:Int)(n:Nat):It:=⟨fun i _=>i<n,fun i H x H'=>H'=H/\x=.int (lo-i),fun i _=>n<=i⟩
theorem Zz {P:Program}{w:World}{K:AO}{tg:Expr}(it:Addr)(lo:Int)(n:Nat):EM P w K tg (Mt lo n) [it] it (fun i h=>IsRangeIter h it (lo+(i:Nat)*(-1)) ((n:Int)-(i:Nat)) (-1)) where
 mem:=by simp
 obj:=fun i h st b hb=>by
  have e:b=it:=by simpa using hb
  subst e;exact⟨_,st,fun v z=>by have z':Data.fields _=Data.cell v:=z;cases z'⟩
 keep:=fun i h h' st k=>k it (by simp) _ st
 item:=by intro X hP hw hK hc i pins s σ H E I hf st hg;subst hP hw hK;obtain⟨f0,f1,f2,f3,f4,f5⟩:=hf it (by simp);have W:=Walks.range (prog:=X.prog) (w:=X.w) (I.ok.hd hc) it lo (-1) n;refine W.item i s _ _ hg st fun v h' tk hv iY kk=>?_;obtain⟨t,rfl⟩:=hv;have I1:AA X pins σ H { s with heap:=h',toks:=tk }:=I.turned (fun b o hb e=>kk b o (by simpa using hb) e) f0 f1 f3 f4 f5;refine⟨_,rfl,Qx (s:={ s with heap:=h',toks:=tk }) (n := "range_iterator") iY rfl rfl (by decide) ⟨.int (lo-i),H,I1,⟨t,?_⟩,⟨rfl,rfl⟩,iY,fun b hb=>(hf b hb).1⟩⟩;rw[show lo+(i:Int)*(-1)=lo-i by lia]
 done:=by intro X hP hw hK hc i pins s σ H E I hf st hg;subst hP hw hK;obtain⟨f0,f1,f2,f3,f4,f5⟩:=hf it (by simp);exact wpAny_pyNext_range_end (I.ok.hd hc) st (by have:n<=i:=hg;lia) fun h' eb=>⟨rfl,I.turned (t':=s.toks) (fun b o hb e=>eb b o hb e) f0 f1 f3 f4 f5⟩
 self:=fun _ _ _ _ _ st h=>wpAny_pyIter_rangeiter st h
theorem bq {lo:Int}(I:AA X pins σ H s)(h1 : -(2 ^ 62)<=lo)(h2:lo<2 ^ 62)(h3 : -(2 ^ 62)<=hi)(h4:hi<2 ^ 62)
 (q:R (Mt lo (lo-hi).toNat) H):wpAny (model X.prog X.w) X.A (pyIter (.ref s.heap.objs.size)) (Um X pins σ tg R) E { s with heap:=s.heap.push { cls:=.type "range",data:=.fields #[.int lo t,.int hi u,.int (-1) v] },toks:=tk }:=by
 refine wpAny_pyIter_range (IsRange.new ..) (PySem.W.small_down h1 h2 h3 h4) ?_;have I1:AA X pins σ H { s with heap:=s.heap.push { cls:=.type "range",data:=.fields #[.int lo t,.int hi u,.int (-1) v] },toks:=tk }:=I.kept fun b o e=>zG _ e;refine⟨(s.heap.push { cls:=.type "range",data:=.fields #[.int lo t,.int hi u,.int (-1) v] }).objs.size,[(s.heap.push { cls:=.type "range",data:=.fields #[.int lo t,.int hi u,.int (-1) v] }).objs.size],_,_,H,rfl,
  I1.kept (t':=tk) fun b o e=>zG _ e,Zz _ lo (lo-hi).toNat,?_,fun b hb=>?_,q⟩
 . have e1:lo+((0:Nat):Int)*(-1)=lo:=by simp
   have e2:(((lo-hi).toNat:Nat):Int)-((0:Nat):Int)=Builtin.Range.rangeSize lo hi (-1):=by rw[PySem.W.rangeSize_downNat];lia
   show IsRangeIter _ _ (lo+((0:Nat):Int)*(-1)) ((((lo-hi).toNat:Nat):Int)-((0:Nat):Int)) (-1);rw[e1,e2];exact zN _ rfl
 . have e:b=(s.heap.push { cls:=.type "range",data:=.fields #[.int lo t,.int hi u,.int (-1) v] }).objs.size:=by simpa using hb
   subst e;exact I1.fpOk (zI _) (I1.hok.fresh (zI _))
def Qf (ta:TA):TI:=fun σ H R=>ta σ H fun vs H1=>∃i j:Int,vs=[.int i,.int j,.int (-1)]/\(-(2 ^ 40)<=i/\i<2 ^ 40/\-(2 ^ 40)<=j/\j<2 ^ 40)/\R (Mt i (i-j).toNat) H1
theorem cb (hg:Gl X "range") (hm:X.mg "range"=none) (ha:PA X [a,b,c] ta)(hs:starEach [a,b,c] X.env=(false,eval a X.env)::starEach [b,c] X.env:=by rfl)(iM:(backTo pos (starEach [b,c] X.env)).any (·.1)=false:=by rfl):
 PI X tg (.Call (.Name "range" p) [a,b,c] [] pos) (Qf ta):=by
 intro pins s σ H R I h;refine Call_ (C9 I hg hm boot_range (PyProof.Rows.callWith_type1 (AM (ha pos pins s σ H _ I h) fun us s1 ⟨vs,H1,I1,r1,q1⟩=>?_) hs iM));obtain⟨i,j,e,⟨q1,q2,q3,q4⟩,q⟩:=q1;subst e;cases r1 with
 | cons r rr=>
  cases rr with
  | cons r' rr=>
   cases rr with
   | cons r'' rr=>cases rr;obtain⟨t,rfl⟩:=r;obtain⟨t',rfl⟩:=r';obtain⟨t'',rfl⟩:=r'';exact call_range_3 (by decide) (bq I1 (by lia) (by lia) (by lia) (by lia) q) (Or.inl (PyProof.noPylong_small (by lia)))
theorem dF {lo:Int}{g:TG}{tb:TS}{D:J8}(Pv:Nat->St->Hp->Prop)(h0:Pv 0 σ H)
 (hs:∀i σ H,i<n->Pv i σ H->g (.int (lo-i)) σ H fun σ2 H2=>tb { D with nx:=Pv (i+1),ct:=Pv (i+1),bk:=D.nx } σ2 H2)(hd:∀ σ H,Pv n σ H->D.nx σ H):
 ∃W:Nat->Nat->St->Hp->Prop,(∃m,W 0 m σ H)/\∀i m σ H,W i m σ H ->
  ((Mt lo n).stop i H/\D.nx σ H)\/((Mt lo n).go i H/\∃N:St->Hp->Prop,(∀ σ' H',N σ' H'->∃m',m'<m/\W (i+1) m' σ' H')/\∀x H',(Mt lo n).yld i H x H'->g x σ H' fun σ2 H2=>tb { D with nx:=N,ct:=N,bk:=D.nx } σ2 H2):=by
 refine⟨fun i m σ H=>m=n-i/\i<=n/\Pv i σ H,⟨n,by simp,zg _,h0⟩,?_⟩;rintro i m σ H ⟨rfl,hi,p⟩;by_cases gD:i<n
 . refine .inr ⟨gD,Pv (i+1),fun σ' H' p'=>⟨n-(i+1),by lia,rfl,gD,p'⟩,fun x H' y=>?_⟩;obtain⟨e,y⟩:=y;subst e y;exact hs i σ _ gD p
 . have e:i=n:=by lia
   subst e;exact .inl ⟨zI _,hd σ H p⟩
end L2
namespace L2
open PySem PyProof.Rows
end L2
namespace L2
open PySem PySem.Spec PyProof.Rows
end L2
namespace WM
def Ee (ts:List T3)(xs:List Int):Prop:=∀S:Int->Prop,(∃a∈xs,S a)->(∀a b l,a∈xs->b∈xs->Ah ts a b l->S a->S b)->∀b∈xs,S b
def Lw (ts:List T3)(xs:List Int)(a b:Int):Prop:=∃S:Int->Prop,S a/\¬ S b/\∀x y l,x∈xs->y∈xs->Ah ts x y l->S x->¬ S y->x=a/\y=b
structure IG (ts:List T3)(xs:List Int):Prop where
 cn:Ee ts xs
 br:∀a b l,a∈xs->b∈xs->Ah ts a b l->Lw ts xs a b
structure Dk (ts:List T3)(left:List Int)(x:Int)(p:List Int):Prop where
 ri:p.Pairwise (· < ·)
 sub:∀y∈p,y∈left
 mem:x∈p
 cl:∀a∈p,∀b l,Ah ts a b l->b∈left->b∈p
 cn:Ee ts p
theorem Dk.min (h:Dk ts left x p){S:Int->Prop}(hx:S x)(hc:∀a b l,a∈left->b∈left->Ah ts a b l->S a->S b):∀y∈p,S y:=
 h.cn S ⟨x,h.mem,hx⟩ fun a b l ha hb A=>hc a b l (h.sub a ha) (h.sub b hb) A
theorem Dk.uniq (h:Dk ts left x p)(g:Dk ts left x q):p=q:=by have key:∀{p q:List Int},Dk ts left x p->Dk ts left x q->∀y∈p,y∈q:=fun h g=>h.min (S:=(· ∈ _)) g.mem fun a b l _ hb A ha=>g.cl a ha b l A hb;refine List.Perm.eq_of_pairwise (le:=(· < ·)) (fun a b _ _ h1 h2=>absurd h1 (by lia)) h.ri g.ri ?_;exact (Mp (h.ri.imp fun h=>by lia) (g.ri.imp fun h=>by lia)).mpr fun y=>⟨key h g y,key g h y⟩
theorem IG.sub (h:IG ts xs)(hs:∀y∈p,y∈xs)(cn:Ee ts p):IG ts p:=by refine⟨cn,fun a b l ha hb A=>?_⟩;obtain⟨S,h1,h2,h3⟩:=h.br a b l (hs a ha) (hs b hb) A;exact⟨S,h1,h2,fun x y l hx hy A=>h3 x y l (hs x hx) (hs y hy) A⟩
inductive CC (ts:List T3):List Int->List (List Int)->Prop
 | nil:CC ts [] []
 | cons {x:Int}{left p:List Int}{ps:List (List Int)}(h:Dk ts (x::left) x p)(t:CC ts ((x::left).filter fun y=>!decide (y∈p)) ps):CC ts (x::left) (p::ps)
theorem CC.uniq (h:CC ts left ps)(g:CC ts left qs):ps=qs:=by
 induction h generalizing qs with
 | nil=>cases g;rfl
 | cons h t ih=>
  cases g with
  | cons h' t'=>obtain rfl:=h.uniq h';rw[ih t']
theorem CC.all (h:CC ts left ps)(nd:left.Nodup):(∀p∈ps,p.Pairwise (· < ·)/\Ee ts p/\p≠[]/\(∀y∈p,y∈left)/\∀a∈p,∀b l,Ah ts a b l->b∈left->b∈p)/\ps.flatten.Perm left:=by
 induction h with
 | nil=>exact⟨(fun p hp=>by cases hp),Hf _⟩
 | @cons x left p ps h t ih=>
  obtain⟨i1,i2⟩:=ih (nd.filter _);have mf:∀y,y∈(x::left).filter (fun y=>!decide (y∈p))↔y∈x::left/\y∉p:=fun y=>by rw[Bf,Bool.not_eq_true',decide_eq_false_iff_not]
  refine⟨fun q hq=>?_,?_⟩
  . rcases zX.mp hq with rfl | hq
    . exact⟨h.ri,h.cn,(fun z=>by have:=h.mem;rw[z] at this;cases this),h.sub,h.cl⟩
    . obtain⟨a1,a2,a3,a4,a5⟩:=i1 q hq;refine⟨a1,a2,a3,fun y hy=>((mf y).mp (a4 y hy)).1,fun a ha b l A hb=>?_⟩;obtain⟨c1,c2⟩:=(mf a).mp (a4 a ha);exact a5 a ha b l A ((mf b).mpr ⟨hb,fun hp=>c2 (h.cl b hp a l A.symm c1)⟩)
  . rw[Ew];refine (i2.append_left p).trans ((Mp ?_ nd).mpr fun y=>?_)
    . refine DW.mpr ⟨h.ri.imp fun h=>by lia,nd.filter _,fun a ha b hb e=>?_⟩;exact ((mf b).mp hb).2 (e ▸ ha)
    . rw[zU,mf];constructor
      . rintro (z | z)
        . exact h.sub y z
        . exact z.1
      . intro z;by_cases c:y∈p
        . exact .inl c
        . exact .inr ⟨z,c⟩
noncomputable def big (ps:List (List Int)):Nat:=ps.foldr (fun p m=>max p.length m) 0
theorem Tj :big ps<=m↔∀p∈ps,p.length<=m:=by
 induction ps with
 | nil=>exact⟨(fun _ p hp=>by cases hp),fun _=>zg _⟩
 | cons p ps ih=>show max p.length (big ps)<=m↔_;rw[Nat.max_le,ih];simp
theorem Yn (h:ps≠[]):∃p∈ps,p.length=big ps:=by
 induction ps with
 | nil=>exact absurd rfl h
 | cons p ps ih=>
  by_cases c:big ps<=p.length
  . exact⟨p,zS,by show _=max _ (big ps);lia⟩
  . cases ps with
    | nil=>exact absurd (zg _) c
    | cons q qs=>obtain⟨r,hr,e⟩:=ih (by simp);exact⟨r,zZ _ hr,by show _=max _ (big _);lia⟩
theorem KI (T:IG ts xs)(nd:xs.Nodup)(hv:v∈xs)(hp:CC ts (xs.filter fun y=>decide (y≠v)) ps)
 (hm:∀u∈xs,∀qs,CC ts (xs.filter fun y=>decide (y≠u)) qs->big ps<=big qs)(ex:∀u∈xs,∃qs,CC ts (xs.filter fun y=>decide (y≠u)) qs):2*big ps<=xs.length:=by
 by_cases c:2*big ps<=xs.length
 . exact c
 exfalso;have hx1:1<=xs.length:=Gv.mpr (List.ne_nil_of_mem hv);have mf:∀u y,y∈xs.filter (fun y=>decide (y≠u))↔y∈xs/\y≠u:=fun u y=>by rw[Bf,EZ]
 obtain⟨C,hC,eC⟩:=Yn (ps:=ps) (fun z=>by rw[z] at c;exact c (by show 2*0<=_;lia));obtain⟨c1,c2,c3,c4,c5⟩:=(hp.all (nd.filter _)).1 C hC;have ndC:C.Nodup:=c1.imp fun h=>by lia
 have vC:v∉C:=fun z=>((mf v v).mp (c4 v z)).2 rfl;obtain⟨u,hu,l,A⟩:∃u∈C,∃l,Ah ts u v l:=by
  refine zw fun hn=>?_;obtain⟨w,hw⟩:=List.exists_mem_of_ne_nil C c3;refine vC (T.cn (· ∈ C) ⟨w,((mf v w).mp (c4 w hw)).1,hw⟩ (fun a b l ha hb A hac=>?_) v hv);by_cases e:b=v
  . exact absurd ⟨a,hac,l,e ▸ A⟩ hn
  . exact c5 a hac b l A ((mf v b).mpr ⟨hb,e⟩)
 have huv:=(mf v u).mp (c4 u hu);obtain⟨S,s1,s2,s3⟩:=T.br v u l hv huv.1 A.symm;have CS:∀y∈C,¬ S y:=c2 (fun y=>¬ S y) ⟨u,hu,s2⟩ fun a b l ha hb A na sb=>by have:=(s3 b a l ((mf v b).mp (c4 b hb)).1 ((mf v a).mp (c4 a ha)).1 A.symm sb na).1;exact vC (this ▸ hb)
 obtain⟨qs,hq⟩:=ex u huv.1;have h1:=hm u huv.1 qs hq;have h2:big qs<=C.length-1:=Tj.mpr fun E hE=>by
  obtain⟨e1,e2,e3,e4,e5⟩:=(hq.all (nd.filter _)).1 E hE;have ndE:E.Nodup:=e1.imp fun h=>by lia
  by_cases cE:∃w∈E,w∈C
  . have EC:∀y∈E,y∈C:=e2 (· ∈ C) cE fun a b l ha hb A hac=>by
     by_cases e:b=v
     . have hua:=(mf u a).mp (e4 a ha);exact absurd (s3 v a l hv hua.1 (e ▸ A.symm) s1 (CS a hac)).2 hua.2
     . exact c5 a hac b l A ((mf v b).mpr ⟨((mf u b).mp (e4 b hb)).1,e⟩)
    have:(u::E).Nodup:=BZ.mpr ⟨fun z=>((mf u u).mp (e4 u z)).2 rfl,ndE⟩;have:=DG this fun y hy=>by
     rcases zX.mp hy with rfl | hy
     . exact hu
     . exact EC y hy
    rw[zk] at this
    lia
  . have:(C++E).Nodup:=DW.mpr ⟨ndC,ndE,fun a ha b hb e=>cE ⟨b,hb,e ▸ ha⟩⟩;have:=DG this fun y hy=>by
     rcases zU.mp hy with hy | hy
     . exact ((mf v y).mp (c4 y hy)).1
     . exact ((mf u y).mp (e4 y hy)).1
    rw[zJ] at this
    lia
 have:1<=C.length:=Gv.mpr c3
 lia
theorem WG {α:Type}{p q:α->Bool}:∀{l:List α},(∀t∈l,p t=true->q t=true)->(∃t∈l,q t=true/\p t=false)->l.countP p<l.countP q
 | [],_,h=>by obtain⟨t,h,_⟩:=h;cases h
 | t::l,h1,h2=>by
  have le:l.countP p<=l.countP q:=List.countP_mono_left fun x hx=>h1 x (zZ _ hx);have ht:=h1 t zS;obtain⟨u,hu,a,b⟩:=h2;rw[List.countP_cons,List.countP_cons];rcases zX.mp hu with rfl | hu
  . rw[a,b];simp
    lia
  . have:=WG (fun x hx=>h1 x (zZ _ hx)) ⟨u,hu,a,b⟩;cases e:p t with
    | false=>simp;lia
    | true=>rw[ht e];simp;lia
theorem dD (cn:Ee ts xs)(nd:xs.Nodup):xs.length<=ts.length+1:=by
 have key:∀k,k+1<=xs.length->∃S:List Int,S.Nodup/\(∀y∈S,y∈xs)/\S.length=k+1/\k<=ts.countP (fun t=>decide (t.1∈S) && decide (t.2.1∈S)):=by
  intro k
  induction k with
  | zero=>
   intro h;cases xs with
   | nil=>simp at h
   | cons x xs=>exact⟨[x],by simp,fun y hy=>by rw[zi.mp hy];exact zS,rfl,zg _⟩
  | succ k ih=>
   intro h;obtain⟨S,s1,s2,s3,s4⟩:=ih (by lia);obtain⟨a,b,l,ha,hb,A,aS,bS⟩:∃a b l,a∈xs/\b∈xs/\Ah ts a b l/\a∈S/\b∉S:=by
    refine zw fun hn=>?_;have:∀b∈xs,b∈S:=cn (· ∈ S) (by
     cases S with
     | nil=>simp at s3
     | cons x S=>exact⟨x,s2 x zS,zS⟩) fun a b l ha hb A aS=>zw fun bS=>hn ⟨a,b,l,ha,hb,A,aS,bS⟩
    have:=DG nd this
    lia
   refine⟨b::S,BZ.mpr ⟨bS,s1⟩,fun y hy=>?_,by rw[zk,s3],?_⟩
   . rcases zX.mp hy with rfl | hy
     . exact hb
     . exact s2 y hy
   . have:ts.countP (fun t=>decide (t.1∈S) && decide (t.2.1∈S))<ts.countP (fun t=>decide (t.1∈b::S) && decide (t.2.1∈b::S)):=WG (fun t _ z=>by
      rw[Jb,EZ,EZ] at z ⊢;exact⟨zZ _ z.1,zZ _ z.2⟩) (by
      rcases A with A | A
      . exact⟨_,A,by simp[aS],by simp[bS]⟩
      . exact⟨_,A,by simp[aS],by simp[bS]⟩)
     lia
 by_cases h:1<=xs.length
 . obtain⟨S,_,_,_,h4⟩:=key (xs.length-1) (by lia);have:=List.countP_le_length (p:=fun t:T3=>decide (t.1∈S) && decide (t.2.1∈S)) (l:=ts)
   lia
 . lia
theorem cJ (cn:Ee ts xs)(nd:xs.Nodup)(h:ts.length+1=xs.length):IG ts xs:=by
 refine⟨cn,fun a b l ha hb A=>?_⟩;obtain⟨e,he,jH⟩:∃e∈ts,∀t∈ts,t∉ts.erase e->∀x y m,(t=(x,y,m)\/t=(y,x,m))->(x=a/\y=b)\/(x=b/\y=a):=by
  rcases A with A | A
  . refine⟨_,A,fun t ht nt x y m hm=>?_⟩;have et:t=(a,b,l):=zw fun z=>nt ((List.mem_erase_of_ne z).mpr ht);rcases hm with hm | hm
    . rw[et] at hm;cases hm;exact .inl ⟨rfl,rfl⟩
    . rw[et] at hm;cases hm;exact .inr ⟨rfl,rfl⟩
  . refine⟨_,A,fun t ht nt x y m hm=>?_⟩;have et:t=(b,a,l):=zw fun z=>nt ((List.mem_erase_of_ne z).mpr ht);rcases hm with hm | hm
    . rw[et] at hm;cases hm;exact .inr ⟨rfl,rfl⟩
    . rw[et] at hm;cases hm;exact .inl ⟨rfl,rfl⟩
 have split:∀x y m,Ah ts x y m->Ah (ts.erase e) x y m\/(x=a/\y=b)\/(x=b/\y=a):=fun x y m B=>by
  rcases B with B | B
  . by_cases c:(x,y,m)∈ts.erase e
    . exact .inl (.inl c)
    . exact .inr (jH _ B c x y m (.inl rfl))
  . by_cases c:(y,x,m)∈ts.erase e
    . exact .inl (.inr c)
    . exact .inr (jH _ B c x y m (.inr rfl))
 let R:Int->Prop:=fun y=>∀S:Int->Prop,S a->(∀x z m,x∈xs->z∈xs->Ah (ts.erase e) x z m->S x->S z)->S y;by_cases Rb:R b
 . exfalso;have cn':Ee (ts.erase e) xs:=fun S hs hc=>cn S hs fun x y m hx hy B sx=>by
    rcases split x y m B with B | ⟨rfl,rfl⟩ | ⟨rfl,rfl⟩
    . exact hc x y m hx hy B sx
    . exact Rb S sx hc
    . refine zw fun na=>?_;exact Rb (fun z=>¬ S z) na (fun p q m hp hq B np sq=>np (hc q p m hq hp B.symm sq)) sx
   have:=dD cn' nd;rw[List.length_erase_of_mem he] at this;have:0<ts.length:=List.length_pos_of_mem he
   lia
 . refine⟨R,fun S sa _=>sa,Rb,fun x y m hx hy B rx ry=>?_⟩;rcases split x y m B with B | z | ⟨rfl,rfl⟩
   . exact absurd (fun S sa hc=>hc x y m hx hy B (rx S sa hc)) ry
   . exact z
   . exact absurd rx Rb
theorem XF (h:∀S:Int->Prop,S x->(∀a b l,a∈p->b∈p->Ah ts a b l->S a->S b)->∀y∈p,S y):Ee ts p:=by rintro S ⟨a,ha,sa⟩ hc;refine h S (zw fun nx=>?_) hc;exact h (fun z=>¬ S z) nx (fun p q m hp hq B np sq=>np (hc q p m hq hp B.symm sq)) a ha sa
open Classical in
theorem cL (ts)(hx:x∈left)(pw:left.Pairwise (· < ·)):∃p,Dk ts left x p:=by
 let R:Int->Prop:=fun y=>∀S:Int->Prop,S x->(∀a b l,a∈left->b∈left->Ah ts a b l->S a->S b)->S y;have mf:∀y,y∈left.filter (fun y=>decide (R y))↔y∈left/\R y:=fun y=>by rw[Bf,EZ]
 have cl:∀a∈left.filter (fun y=>decide (R y)),∀b l,Ah ts a b l->b∈left->b∈left.filter (fun y=>decide (R y)):=fun a ha b l A hb=>by obtain⟨h1,h2⟩:=(mf a).mp ha;exact (mf b).mpr ⟨hb,fun S hS hc=>hc a b l h1 hb A (h2 S hS hc)⟩
 have hm:=(mf x).mpr ⟨hx,fun S hS _=>hS⟩;refine⟨_,pw.filter _,fun y hy=>((mf y).mp hy).1,hm,cl,XF (x:=x) fun S hS hc y hy=>?_⟩;exact (((mf y).mp hy).2 (fun z=>z∈left.filter (fun y=>decide (R y))/\S z) ⟨hm,hS⟩ fun a b l ha hb A z=>⟨cl a z.1 b l A hb,hc a b l z.1 (cl a z.1 b l A hb) A z.2⟩).2
theorem Si (ts):∀(m:Nat){left:List Int},left.length<=m->left.Pairwise (· < ·)->∃ps,CC ts left ps
 | _,[],_,_=>⟨[],.nil⟩
 | 0,x::left,h,_=>by simp at h
 | m+1,x::left,h,pw=>by
  obtain⟨p,hp⟩:=cL ts (zS (a:=x) (l:=left)) pw;have gD:((x::left).filter fun y=>!decide (y∈p)).length<(x::left).length:=by refine Nat.lt_of_le_of_ne (CH _ _) fun z=>?_;have:=List.length_filter_eq_length_iff.mp z x zS;rw[zR hp.mem] at this;cases this
  obtain⟨ps,h2⟩:=Si ts m (left:=(x::left).filter fun y=>!decide (y∈p)) (by lia) (pw.filter _);exact⟨p::ps,.cons hp h2⟩
theorem ck (h:Dk ts left x p)(nd:left.Nodup):p.length=left.length↔Ee ts left:=by
 have ndp:p.Nodup:=h.ri.imp fun h=>by lia
 have sub:=DG ndp h.sub;constructor
 . intro e;have all:∀y∈left,y∈p:=fun y hy=>zw fun z=>by
    have:=DG (BZ.mpr ⟨z,ndp⟩) (l₂:=left) fun w hw=>by
     rcases zX.mp hw with rfl | hw
     . exact hy
     . exact h.sub w hw
    rw[zk] at this
    lia
   rintro S ⟨a,ha,sa⟩ hc b hb;exact h.cn S ⟨a,all a ha,sa⟩ (fun a b l ha hb=>hc a b l (h.sub a ha) (h.sub b hb)) b (all b hb)
 . intro cn;have all:=cn (· ∈ p) ⟨x,h.sub x h.mem,h.mem⟩ fun a b l _ hb A ha=>h.cl a ha b l A hb;have:=DG nd all
   lia
structure U8 (ts:List T3)(xs:List Int)(m:Int)(ps:List (List Int)):Prop where
 mem:m∈xs
 pa:CC ts (xs.filter fun y=>decide (y≠m)) ps
 le:∀u∈xs,∀qs,CC ts (xs.filter fun y=>decide (y≠u)) qs->big ps<=big qs/\(u<m->big ps<big qs)
noncomputable def Bh:Nat->Nat->Nat
 | 0,_=>0
 | m+1,n=>if n=0 then 0 else Bh m (n/2)+1
theorem Yb:∀m m' n,n<=m->n<=m'->Bh m n=Bh m' n
 | 0,0,_,_,_=>rfl
 | 0,m'+1,n,h,_=>by
  have:n=0:=by lia
  subst this;rfl
 | m+1,0,n,_,h=>by
  have:n=0:=by lia
  subst this;rfl
 | m+1,m'+1,n,h,h'=>by
  rw[Bh,Bh];split
  . rfl
  . rw[Yb m m' (n/2) (by lia) (by lia)]
theorem Yl:∀m n k,n<=k->Bh m n<=Bh m k
 | 0,_,_,_=>zI _
 | m+1,n,k,h=>by
  rw[Bh,Bh];split
  . exact zg _
  . rw[if_neg (show ¬ k=0 by lia)];have:=Yl m (n/2) (k/2) (by lia)
    lia
end WM
namespace L2
open PySem PySem.Spec PyProof.Rows
theorem dr {K:AO}{Ts:List Addr}
 (KX:K.In s₁.heap)(hns:s₁.heap.Ns mainGlobals mg)(hb:s₁.heap.Ns builtinsNs mb)(hbb:∀x:Str,x ≠ "__name__"->mb x=bootBuiltins x) (hlim:s₁.heap.NoLimit)(hg:s₁.gens=#[])
 (ha:s₁.heap.get? a=some { cls:=.type "list",data:=.seq vs.toArray }) (hi:IntsAre vs ns)(hl:ns.length<=sizeLine)(hr:BD k callerA)
 (hT:∀b∈Ts,s₁.heap.get? b=some (PySem.W.tabObj #[]))(hC:∀b∈Ts,isCodeTable s₁.heap b)(hK:PySem.W.noTabs K=true)(g6:Co mg s₁.heap)
 (F:∀base:Heap,K.In base->base.Ns mainGlobals mg->Co mg base->AH P w K mg base CX k fa fd [x] sp)(iC:∀s u,BindsTo s fd ⟨[u],[]⟩ [(x,u)])
 (jO:∀H:Hp,(∀b∈Ts,H b=some (.tbl #[]))->AE K H a (ns.map V.int)->sp [.ref a] H (fun v _=>v=.bl true) fun _ _ _=>False)
 (hCX:∀H e s',CX [] H s₁ (fun _ _ _=>False) e s'->False):
 codeAny (model P w) callerA (.call (.ref fa) ⟨[.ref a],[]⟩) (fun r s'=>r=.ok (.ret (.bool true))/\OldK s₁.heap s'.heap/\s'.os=s₁.os/\AllBare s'.gens) s₁:=by
 have rv:=Yh hi;have lenV:=hi.length;have npa:a∉Ts:=fun e=>by have:=hT a e;rw[ha] at this;cases this
 have kPT:∀b∈Ts,K.lookup b=none:=fun b iU=>by
  cases q:K.lookup b with
  | none=>rfl
  | some o=>have e:=KX b o q;rw[hT b iU] at e;cases e;have h2:=GU.mp hK (b,_) (PySem.W.mem_of_lookupK q);exact absurd (show false=true from h2) zo
 have core:∀H:Hp,(∀b u,H b=some u->(b∈Ts/\u=.tbl #[])\/(b=a/\K.lookup a=none/\∃o xs,u=.frz o (.lst xs)))->(∀b∈Ts,H b=some (.tbl #[]))->AE K H a (ns.map V.int)->A7 P w H s₁.heap ->
  codeAny (model P w) callerA (.call (.ref fa) ⟨[.ref a],[]⟩) (fun r s'=>r=.ok (.ret (.bool true))/\OldK s₁.heap s'.heap/\s'.os=s₁.os/\AllBare s'.gens) s₁:=by
  intro H hA hP hS hok;have base_of:∀{b:Addr}{o:Obj},s₁.heap.get? b=some o->H b=none->(Gj s₁.heap H).get? b=some o:=fun e n=>cV e n;have noA:∀{b:Addr}{o:Obj},s₁.heap.get? b=some o->(∀ps,o.data ≠ .fields ps)->(∀ps n,o.data ≠ .seq ps n)->H b=none:=fun {b o} e d1 d2=>by
   cases q:H b with
   | none=>rfl
   | some u=>
    rcases hA b u q with ⟨hm,_⟩ | ⟨rfl,_⟩
    . rw[hT b hm] at e;cases e;exact absurd rfl (d1 #[])
    . rw[ha] at e;cases e;exact absurd rfl (d2 _ _)
  have nsK:∀{b:Addr}{m:Be},s₁.heap.Ns b m->(Gj s₁.heap H).Ns b m:=fun {b m} ⟨o,es,ep,e,d,r⟩=>⟨o,es,ep,base_of e (noA e (fun ps z=>by rw[d] at z;cases z) (fun ps n z=>by rw[d] at z;cases z)),d,r⟩;have hKb:K.In (Gj s₁.heap H):=fun b o e=>base_of (KX b o e) (by
   cases q:H b with
   | none=>rfl
   | some u=>
    rcases hA b u q with ⟨hm,_⟩ | ⟨rfl,z,_⟩
    . rw[kPT b hm] at e;cases e
    . rw[z] at e;cases e)
  have hBm:Co mg (Gj s₁.heap H):=by obtain⟨bm,ob,b1,b2,b3,b4,b5,b6⟩:=g6;exact⟨bm,ob,b1,b2,base_of b3 (noA b3 (fun ps z=>by rw[b6] at z;cases z) (fun ps n z=>by rw[b6] at z;cases z)),b4,b5,b6⟩
  have hM:Mod K mg (Gj s₁.heap H):=⟨hKb,nsK hns,⟨mb,nsK hb,hbb⟩,let ⟨mc,h1,h2⟩:=hlim;⟨mc,nsK h1,h2⟩⟩;have e0:HE P w K mg (Gj s₁.heap H) callerA [] s₁ H:=⟨rfl,hM,fun b o e=>cH e,Nat.le_of_eq (eU _ _),trivial,fun b hb=>absurd (show b∈([]:List Addr) from hb) (by simp),hok,.of_eq hg⟩;refine codeAny_mono ((F _ hKb (nsK hns) hBm).run callerA [] s₁ H ⟨[.ref a],[]⟩ [.ref a] [.ref a] _ _ hr e0 (iC s₁ (.ref a)) (.cons rfl .nil) (jO H hP hS)) fun r s' h=>?_;cases r with
  | error e=>exact (hCX H e s' h).elim
  | ok fl=>
   cases fl with
   | next=>exact False.elim h
   | brk=>exact False.elim h
   | cont=>exact False.elim h
   | ret u=>
    obtain⟨v,H',os,bare,un,hok',r',q⟩:=h;have q':v=.bl true:=q;subst q';obtain rfl:u=Value.bool true:=r';have objP:∀b∈Ts,∃more,s'.heap.get? b=some { cls:=.none,data:=.fields (#[]++more) }:=fun b hm=>by obtain⟨more,hPn⟩:=un.tbls b _ (hP b hm);exact⟨more,hok' b _ hPn⟩
    have keep:∀b o,b∉Ts->s₁.heap.get? b=some o->s'.heap.get? b=some o:=fun b o hb e=>by
     cases q:H b with
     | none=>exact un.keep b o e q (by intro z;exact absurd (show b∈([]:List Addr) from z) (by simp)) (by simp)
     | some u=>
      rcases hA b u q with ⟨z,_⟩ | ⟨_,_,ob,xs,z⟩
      . exact absurd z hb
      . subst z;have z2:=un.frzs b ob _ q;obtain⟨e1,_⟩:=hok b _ q;obtain⟨e2,_⟩:=hok' b _ z2;rw[e] at e1;cases e1;exact e2
    refine⟨rfl,⟨fun b o e=>?_,fun b o e=>?_⟩,os,bare⟩
    . by_cases hb:b∈Ts
      . obtain⟨more,ob⟩:=objP b hb;rw[hT b hb] at e;cases e;exact .inr (.inl ⟨hC b hb,rfl,#[],more,rfl,ob⟩)
      . exact .inl (keep b o hb e)
    . by_cases hb:b∈Ts
      . obtain⟨more,ob⟩:=objP b hb;exact⟨_,ob⟩
      . exact⟨o,keep b o hb e⟩
 cases hk:K.lookup a with
 | some o=>
  have e:=KX a o hk;rw[ha] at e;cases e;refine core (fun b=>if b∈Ts then some (.tbl #[]) else none) (fun b u z=>?_) (fun b hm=>if_pos hm) (.inr ⟨_,vs.toArray,_,hk,rfl,rfl,rfl,by rw[ze,lenV];exact hl,by simpa using rv⟩) (fun b u z=>?_)
  all_goals
   have z':(if b∈Ts then some (HO.tbl #[]) else none)=some u:=z
   by_cases hb:b∈Ts
   . rw[if_pos hb] at z';cases z'
     first
      | exact .inl ⟨hb,rfl⟩
      | exact hT b hb
   . rw[if_neg hb] at z';cases z'
 | none=>
  refine core (fun b=>if b∈Ts then some (.tbl #[]) else if b=a then some (.frz { cls:=.type "list",data:=.seq vs.toArray } (.lst (ns.map V.int))) else none) (fun b u z=>?_) (fun b hm=>if_pos hm)
   (.inl (.inr ⟨{ cls:=.type "list",data:=.seq vs.toArray },by show (if a∈Ts then _ else if a=a then _ else _)=_;rw[if_neg npa,if_pos rfl]⟩)) (fun b u z=>?_)
  all_goals
   have z':(if b∈Ts then some (HO.tbl #[]) else if b=a then some (.frz { cls:=.type "list",data:=.seq vs.toArray } (.lst (ns.map V.int))) else none)=some u:=z
   by_cases hb:b∈Ts
   . rw[if_pos hb] at z';cases z'
     first
      | exact .inl ⟨hb,rfl⟩
      | exact hT b hb
   . rw[if_neg hb] at z';by_cases hba:b=a
     . rw[if_pos hba] at z';cases z'
       first
        | exact .inr ⟨hba,hk,_,_,rfl⟩
        | (subst hba;exact⟨ha,by rw[zB];exact hl,vs,_,rv,ha⟩)
     . rw[if_neg hba] at z';cases z'
theorem walk_T4 {l:PySem.W.OpenLaw}{K:Params->AO}{sp:AO->Addr->Addr->Addr->Addr->Sp}
 (hn:l.most=some n)(hn2:n<=sizeLine)(hdf:d.params.defaults=[])(hr:BD k callerA)(iA:∀t∈[t1,t2,t3,t4],∃dn,(recsOf q).find? (fun e=>e.name==t)=some dn)
 (hY:∀w h,YP w h->(K w.params).In h)
 (F:∀w mg fa h,(K w.params).In h->h.Ns mainGlobals mg->mg d.name=some (.ref fa) ->
  ∃fd c1 P1 c2 P2 c3 P3 c4 P4,PySem.W.tabIn (K w.params) t1=some (c1,P1)/\PySem.W.tabIn (K w.params) t2=some (c2,P2)/\PySem.W.tabIn (K w.params) t3=some (c3,P3)/\PySem.W.tabIn (K w.params) t4=some (c4,P4)/\PySem.W.noTabs (K w.params)=true/\(∀s u,BindsTo s fd ⟨[u],[]⟩ [(x,u)]) /\
   ∀base:Heap,(K w.params).In base->base.Ns mainGlobals mg->Co mg base->AH l.prog w (K w.params) mg base CX k fa fd [x] (sp (K w.params) P1 P2 P3 P4))
 (jO:∀K P1 P2 P3 P4 H a(ns:List Int),ns.length<=n->(∀P∈[P1,P2,P3,P4],H P=some (.tbl #[]))->AE K H a (ns.map V.int)->sp K P1 P2 P3 P4 [.ref a] H (fun v _=>v=.bl true) fun _ _ _=>False)
 (hCX:∀H s e s',CX [] H s (fun _ _ _=>False) e s'->False):
 PySem.W.WalkO q loose XP YP l.row.toRowW d [] (fun f vs=>PySem.call f vs):=by
 refine Att.attach_call hn hdf fun w s₀ s₁ mg mb fa o pm cd doc a vs ns G Y ho hd jG hmg hobj hints hlen hg=>?_;have KX:=hY w _ Y;obtain⟨fd,c1,P1,c2,P2,c3,P3,c4,P4,e1,e2,e3,e4,hnt,hb,hF⟩:=F w mg fa _ KX G.T.g hmg;have key:∀b∈[P1,P2,P3,P4],∃t∈[t1,t2,t3,t4],∃c,PySem.W.tabIn (K w.params) t=some (c,b):=fun b hm=>by
  simp only[zX,List.not_mem_nil,or_false] at hm;rcases hm with rfl | rfl | rfl | rfl
  . exact⟨t1,by simp,c1,e1⟩
  . exact⟨t2,by simp,c2,e2⟩
  . exact⟨t3,by simp,c3,e3⟩
  . exact⟨t4,by simp,c4,e4⟩
 refine dr (Ts:=[P1,P2,P3,P4]) KX G.T.g G.T.b G.T.builtins G.T.nolimit hg hobj hints (Cq hlen hn2) hr (fun b hm=>?_) (fun b hm=>?_) hnt G.T.bmain hF hb (fun H hP hS=>jO _ P1 P2 P3 P4 H a ns hlen hP hS) fun H e s'=>hCX H s₁ e s'
 all_goals
  obtain⟨t,ht,c,e⟩:=key b hm;obtain⟨dn,hdn⟩:=iA t ht;obtain⟨C,hP⟩:=PySem.W.tab_of G.T KX hdn e
  first
   | exact hP
   | exact (C.tab hP).isCodeTable
structure AD (K:AO)(mg:Be)(x:Str)(st:Stmt)(f:Addr)(fd:FuncData)(ps:List Str):Prop where
 F:FY K x x st f fd
 b:CU K fd ps []
 m:mg x=some (.ref f)
theorem AI {st:Stmt}(G:AH X.prog X.w X.K X.mg X.base AL k f fd ps sp)(hr:BD k X.A)(B:AD X.K X.mg x st f fd ps)(ha:PA X (e::es) t)(hg:Gl X x:=by rfl)(hdb:(x==("__debug__" : Str))=false:=by decide)(he:starEach (e::es) X.env=(false,eval e X.env)::starEach es X.env:=by rfl)(gZ:(backTo pos (starEach es X.env)).any (·.1)=false:=by rfl):PE X (.Call (.Name x p) (e::es) [] pos) (JL sp [] E0 t):=Eg G hr hg B.m B.F.kp B.b .nil Ei ha hdb he gZ
theorem FY.okD {K:AO}{st:Stmt}(F:FY K x qual st f fd)(S:AW N ps (defScope st))
 (iB:∀gP A outer s H vs Q E,BD k (A.deeper (PyProof.Rows.envOfC qual (defScope st) s.heap.objs.size f gP))->sp vs H Q E ->
  ∃t,Cj (Hb AL P w K mg base N qual (defScope st) f gP A outer s H E).nox (defBody st) t/\t { nx:=fun _ H'=>Q .non H',rt:=Q } (start N vs) H)(len:∀vs H Q E,sp vs H Q E->vs.length=ps.length:=by intro _ _ _ _ h;first|(cases h;subst_vars;rfl)|repeat (first|(obtain⟨rfl,_⟩:=h;rfl)|obtain⟨_,h⟩:=h)):AH P w K mg base AL (k+1) f fd ps sp:=F.ok S len iB
abbrev AJ (P:Program)(w:World)(base:Heap){K:AO}{mg:Be}{x:Str}{st:Stmt}{f:Addr}{fd:FuncData}{ps:List Str}(k:Nat)(_:AD K mg x st f fd ps)(sp:Sp):Prop:=AH P w K mg base AL k f fd ps sp
abbrev Fu (K:AO)(x:Str)(st:Stmt)(f:Addr)(fd:FuncData):Prop:=FY K x x st f fd
theorem BN {i:Nat}(hN:X.N.Nodup)(hi:X.N[i]?=some x:=by rfl)(hx:HF X.env.scope x:=by exact Or.inl rfl)(hf:X.fn x=true\/X.env.scope.names.lookup x=some .local:=by first | exact .inl rfl | exact .inr rfl | assumption):PG X (.Name x pos) (J4 i):=DZ hN hi hx hf
theorem CB (hi:PI X tg iter wi)(hg:PG X tg g)(hb:Cj X body tb)(hp:PassesOwn (model X.prog X.w) X.A X.env X.xe:=by exact PassesOwn.never)(hc:X.calm=true:=by rfl)(hs:∀x,foldedSetIterable iter X.env x=pure x:=by intro _;rfl):PS X (.For tg iter body [] pos) (QG wi g tb):=Kn hp hc hi hg hb hs
theorem Ak (hN:X.N.Nodup)(he:PE X e te)(hi:X.N[i]?=some x:=by rfl)(hx:HF X.env.scope x:=by exact Or.inl rfl)(hs:swapsWith e (some (.Name x pos')) pos.line X.env=pure false:=by rfl)(hf:X.fn x=true\/X.env.scope.names.lookup x=some .local:=by first | exact .inl rfl | exact .inr rfl | assumption):PS X (.Assign [.Name x pos'] e pos) (HH te (J4 i)):=DU hN hi hx he hs hf
theorem AK (hr:My X r)(ha:PE X a ta)(hb:PE X b tb)(hs:XW b:=by exact fun _ _=>rfl):PE X (.Subscript a b pos) (QW r ta tb):=Pa hr ha hb hs
theorem Aq (hN:X.N.Nodup:=by exact Ex rfl)(hi:X.N[0]?=some x:=by rfl)(hx:HF X.env.scope x:=by exact Or.inl rfl)(hf:X.fn x=true\/X.env.scope.names.lookup x=some .local:=by first | exact .inl rfl | exact .inr rfl | assumption):PG X (.Name x pos) (J4 0):=DZ hN hi hx hf
end L2
namespace K91
open PySem L2 WM
variable {P:Program}{w:World}{K:AO}{mg:Be}{base:Heap}{PT:Addr}{X:Cx}
inductive MC {α0 α1:Type}(p:α0->α1->Prop):Prop
 | mk:∀a0 a1,p a0 a1->MC p
inductive IM {α0 α1 α2:Type}(p:α0->α1->α2->Prop):Prop
 | mk:∀a0 a1 a2,p a0 a1 a2->IM p
inductive U9 {α0 α1 α2 α3:Type}(p:α0->α1->α2->α3->Prop):Prop
 | mk:∀a0 a1 a2 a3,p a0 a1 a2 a3->U9 p
inductive ZF {α0 α1 α2 α3 α4:Type}(p:α0->α1->α2->α3->α4->Prop):Prop
 | mk:∀a0 a1 a2 a3 a4,p a0 a1 a2 a3 a4->ZF p
inductive fY {α0 α1 α2 α3 α4 α5:Type}(p:α0->α1->α2->α3->α4->α5->Prop):Prop
 | mk:∀a0 a1 a2 a3 a4 a5,p a0 a1 a2 a3 a4 a5->fY p
inductive Ot {α0 α1 α2 α3 α4 α5 α6 α7 α8 α9:Type}(p:α0->α1->α2->α3->α4->α5->α6->α7->α8->α9->Prop):Prop
 | mk:∀a0 a1 a2 a3 a4 a5 a6 a7 a8 a9,p a0 a1 a2 a3 a4 a5 a6 a7 a8 a9->Ot p
noncomputable abbrev RX:Stmt:=top 81
noncomputable abbrev IB:Stmt:=top 82
noncomputable abbrev EN:Stmt:=top 83
noncomputable abbrev G1:Stmt:=top 16
noncomputable abbrev OM:Stmt:=top 23
noncomputable abbrev OK:Stmt:=top 22
noncomputable abbrev Jg:Stmt:=top 21
noncomputable abbrev ES:Stmt:=top 24
noncomputable abbrev Fj:Stmt:=top 25
noncomputable abbrev Eu:Stmt:=top 9
noncomputable abbrev Ig:Stmt:=top 10
noncomputable abbrev HN:Stmt:=top 13
noncomputable abbrev J0:Stmt:=top 11
noncomputable abbrev D6:Stmt:=top 27
noncomputable abbrev D7:Stmt:=top 28
noncomputable abbrev Ff:Stmt:=top 29
noncomputable abbrev Fb:Stmt:=top 30
noncomputable abbrev FX:Stmt:=top 31
noncomputable abbrev Fi:Stmt:=top 32
noncomputable abbrev Mv:Stmt:=top 36
noncomputable abbrev Qw:Stmt:=top 37
noncomputable abbrev Ko:Stmt:=top 38
noncomputable abbrev Q3:Stmt:=top 39
noncomputable abbrev EL:Stmt:=top 40
noncomputable abbrev N7:Stmt:=top 41
noncomputable abbrev OI:Stmt:=top 42
noncomputable abbrev MY:Stmt:=top 43
noncomputable abbrev Dy:Stmt:=top 44
noncomputable abbrev He:Stmt:=top 45
noncomputable abbrev Ri:Stmt:=top 46
noncomputable abbrev N1:Stmt:=top 47
noncomputable abbrev Mr:Stmt:=top 48
noncomputable abbrev Rh:Stmt:=top 84
noncomputable abbrev NP:Stmt:=top 17
noncomputable abbrev NI:Stmt:=top 18
noncomputable abbrev M0:Stmt:=top 19
noncomputable abbrev QK:Stmt:=top 74
noncomputable abbrev P8:Stmt:=top 75
noncomputable abbrev Fh:Stmt:=top 76
noncomputable abbrev SE:Stmt:=top 77
noncomputable abbrev PK:Stmt:=top 78
noncomputable abbrev EK:Stmt:=top 79
noncomputable abbrev ED:Stmt:=top 12
noncomputable abbrev PH:Stmt:=top 61
noncomputable abbrev QC:Stmt:=top 62
noncomputable abbrev ON:Stmt:=top 63
noncomputable abbrev M8:Stmt:=top 64
noncomputable abbrev Oz:Stmt:=top 65
noncomputable abbrev KJ:Stmt:=top 66
noncomputable abbrev Qe:Stmt:=top 67
noncomputable abbrev N5:Stmt:=top 68
noncomputable abbrev NR:Stmt:=top 69
noncomputable abbrev QN:Stmt:=top 70
noncomputable abbrev QZ:Stmt:=top 71
noncomputable abbrev PY:Stmt:=top 72
noncomputable abbrev R1:Stmt:=top 85
noncomputable abbrev FU:Stmt:=top 86
noncomputable abbrev Fn:Stmt:=top 14
noncomputable abbrev Fp:Stmt:=top 53
noncomputable abbrev QX:Stmt:=top 54
noncomputable abbrev D9:Stmt:=top 55
noncomputable abbrev NV:Stmt:=top 56
noncomputable abbrev D8:Stmt:=top 57
noncomputable abbrev Nr:Stmt:=top 58
noncomputable abbrev Fd:Stmt:=top 51
noncomputable abbrev OJ:Stmt:=top 50
noncomputable abbrev Fe:Stmt:=top 33
noncomputable abbrev SA:Stmt:=top 87
noncomputable abbrev SG:Stmt:=top 88
noncomputable abbrev EI:Stmt:=top 89
def Bl (H:Hp)(t p:Addr)(N:Nat):Prop:=∃(ns:List Int)(gK rest:Int),H t=some (.lst [.ref p,.int gK,.int rest])/\H p=some (.lst (ns.map V.int))/\p≠t/\0<=gK/\gK<=N/\0<=rest/\ns.length<=63
def Al (H:Hp)(t:Addr)(N:Nat):Prop:=∃p:Addr,Bl H t p N
theorem Al.mono (h:Al H t N)(l:N<=M):Al H t M:=by obtain⟨p,ns,gK,rest,a,b,c,d,e,f⟩:=h;exact⟨p,ns,gK,rest,a,b,c,d,by lia,f⟩
def Sm (t:Addr)(H H':Hp):Prop:=∀b o,b≠t->H b=some o->H' b=some o
theorem Sm.trans (a:Sm t H H1)(b:Sm t H1 H2):Sm t H H2:=fun c o n e=>b c o n (a c o n e)
theorem Sm.of (h:AF H H'):Sm t H H':=fun b o _ e=>h b o e
theorem Sm.laid (h:H l=none):Sm t H (upd H l o):=fun b u _ e=>by rw[zf (zn e h)];exact e
theorem Sm.chg (s:Sm t H H')(h:H l=none):Sm t H (upd H' l o):=fun b u n e=>by rw[zf (zn e h)];exact s b u n e
theorem zL (h:H l=none):AF H (upd H l o):=fun b u e=>by rw[zf (zn e h)];exact e
theorem BM (s:AF H H')(h:H l=none):AF H (upd H' l o):=fun b u e=>by rw[zf (zn e h)];exact s b u e
theorem Al.keep (h:Al H t N)(k:AF H H'):Al H' t N:=by obtain⟨p,ns,gK,rest,a,b,c⟩:=h;exact⟨p,ns,gK,rest,k _ _ a,k _ _ b,c⟩
theorem Al.laid (h:Al H t N)(hl:H l=none):Al (upd H l o) t N:=h.keep (zL hl)
theorem Al.ne (h:Al H t N)(hb:H b=none):b≠t:=by obtain⟨p,ns,gK,rest,a,_⟩:=h;exact (zn a hb).symm
theorem Al.chg (h:Al H t N)(hl:H l=some u)(hu:∀xs,u ≠ .lst xs):Al (upd H l o) t N:=by obtain⟨p,ns,gK,rest,a,b,c⟩:=h;exact⟨p,ns,gK,rest,by rw[zf (Ar a hl fun z=>hu _ z.symm)];exact a,by rw[zf (Ar b hl fun z=>hu _ z.symm)];exact b,c⟩
theorem Bl.keepF (h:Bl H t p N)(k1:∀o,H t=some o->H' t=some o)(k2:∀o,H p=some o->H' p=some o)(l:N<=M):Bl H' t p M:=by obtain⟨ns,gK,rest,a,b,c,d,e,f⟩:=h;exact⟨ns,gK,rest,k1 _ a,k2 _ b,c,d,by lia,f⟩
def Q1:Sp:=fun vs H Q _=>∃t p N many,vs=[.ref t,.int many]/\Bl H t p N/\N<1000000/\0<many/\many<1000000 /\
 ∀r H',0<=r->r<many->Bl H' t p (N+1)->(∀b,b≠t->H' b=H b)->Q (.int r) H'
def UJ:Sp:=fun vs H Q _=>∃t N many,vs=[.ref t,.int many]/\Al H t N/\N<1000000/\0<many/\many<1000000 /\
 ∀r H',0<=r->r<many->Al H' t (N+1)->(∀b,b≠t->H' b=H b)->Q (.int r) H'
def WT (K:AO):Sp:=fun vs H Q _=>∃a,∃(ns:List Int),vs=[.ref a]/\AE K H a (ns.map V.int)/\ns.length<=63/\∀t H',H t=none->Al H' t 0->AF H H'->Q (.ref t) H'
theorem K7:AW HG HG (defScope RX):=AY
theorem Z1 {fd:FuncData}(F:Fu K "_law_tape" RX f fd):AH P w K mg base AL 1 f fd HG (WT K):=by
 refine F.okD K7 fun _ A _ _ H vs Q E hr h=>?_;obtain⟨a,ns,rfl,hS,hl,k⟩:=h;refine⟨_,zh (AQ (DR (zD (YR Yi (pv 0) Wq (Yp zm)) (Bw (Bw zO))))),?_⟩;refine⟨_,rfl,_,rfl,a,_,rfl,hS,fun p hp=>⟨KS,fun t ht=>?_⟩⟩;have npt:p≠t:=fun e=>by rw[e,zK] at ht;cases ht
 have e1:Jx (ns.map V.int) none (some 63)=(ns.take 63).map V.int:=by unfold Jx;rw[HT.sIx_none,List.drop_zero,Nat.sub_zero,zB,show (63:Int)=((63:Nat):Int) from rfl,HT.sIx_nat,List.map_take];rw[show min 63 ns.length=ns.length by lia,zY (by rw[zB];exact zI _),zY (by rw[zB];exact hl)]
 have ht0:H t=none:=by rw[zf npt.symm] at ht;exact ht
 refine k t _ ht0 ⟨p,ns.take 63,0,0,zK,?_,npt,E3 _,E3 _,E3 _,by rw[zt];lia⟩ ?_
 . rw[zf npt,zK,e1]
 . exact BM (zL hp) ht0
theorem Nd:AW ["_law_tape_here","_law_many","_law_found","_law_spot","_law_cell","_law_mixed"] IV (defScope IB):=AY
theorem Jk {m:Int}(h:0<m):0<=a%m/\a%m<m:=⟨Int.emod_nonneg _ (by lia),Int.emod_lt_of_pos _ h⟩
theorem Rt {fd:FuncData}(F:Fu K "_law_draw" IB f fd) (f9:mg "len"=none):AH P w K mg base AL 1 f fd IV Q1:=by
 refine F.okD Nd fun _ A _ _ H vs Q E hr h=>?_;obtain⟨t,p,N,many,rfl,T,hN,j2,hm1,k⟩:=h;obtain⟨ns,gK,rest,ht,hp,gL,hs0,jh,hr0,hl⟩:=T;refine⟨_,zW (Ap (Ad Hj (AK BU (pv 0) zm) zm (AZ _))
  (zW (Ak (i:=2) Nd.nd (Ac Ji (AK BU (pv 0) zm) (pv 1)))
  (zW (Mo (Ac N9 (AK BU (pv 0) zm) (pv 1)) (N8 (pv 0) zm Nw))
  (zh (AQ (pv 2))))) As)
  (zW (Ak (i:=3) Nd.nd (AK BU (pv 0) zm))
  (zW (Mo (Ac Ci (pv 3) zm) (N8 (pv 0) zm Nw))
  (zW (Ak (i:=4) Nd.nd (XC (Ad Hj (Aj Bz f9 (zD (AK BU (pv 0) zm) zO)) zm (AZ _))
   (AK BU (AK BU (pv 0) zm) (Ac Ji (pv 3) (Aj Bz f9 (zD (AK BU (pv 0) zm) zO)))) zm))
  (zW (Ap (NZ (Ad IK (pv 4) (Ac Kd zm zm) (AZ _)) (NY (Ad J6 (pv 3) (Aj Bz f9 (zD (AK BU (pv 0) zm) zO)) (AZ _)))).pt
   (zW (Mo (Ac N9 (pv 4) (pv 1)) (N8 (pv 0) zm Nw)) (zh (AQ (Ac Ji (pv 4) (pv 1))))) As)
  (zW (Ak (i:=5) Nd.nd (Ac Ji (Ac Mg (Ac Ci (Ac Ji (pv 4) zm) zm) (Ac Ci zm (Ac Mg zm (pv 3)))) zm))
  (zh (AQ (Ac Ji (Ac N9 (Ac Ji (Ac Mg (Ac Ci (pv 5) (Ac Mg (Ac Mg zm (pv 3)) (pv 3))) zm) zm) zm) (pv 1))))))))),?_⟩
 have cd:Pm 0 many:=⟨j2,by lia⟩;refine⟨_,rfl,t,_,_,_,rfl,rfl,AE.of ht,rfl,_,_,rfl,rfl,_,rfl,?_⟩;refine CF (fun hc=>?_) (fun hc=>?_)
 . have hpos:0<rest:=of_decide_eq_true hc;refine⟨_,rfl,t,_,_,_,rfl,rfl,AE.of ht,rfl,_,rfl,_,_,rfl,rfl,j2,?_⟩;refine⟨_,rfl,t,_,_,_,rfl,rfl,AE.of ht,rfl,_,rfl,_,_,rfl,rfl,cd,?_⟩;refine⟨_,rfl,t,_,_,2,rfl,rfl,ht,rfl,?_⟩;refine⟨_,rfl,?_⟩;refine k _ _ (Jk j2).1 (Jk j2).2 ⟨ns,gK,rest/many,zK,by rw[zf gL];exact hp,gL,hs0,by lia,Int.ediv_nonneg hr0 (by lia),hl⟩ fun b hb=>zf hb
 . -- gK=tape[1];tape[1]=gK+1
   refine⟨_,rfl,t,_,_,_,rfl,rfl,AE.of ht,rfl,?_⟩;refine⟨_,rfl,_,_,rfl,rfl,_,rfl,t,_,_,1,rfl,rfl,ht,rfl,?_⟩;have ht1:(upd H t (.lst [.ref p,.int (gK+1),.int rest])) t=some (.lst [.ref p,.int (gK+1),.int rest]):=zK;have hp1:(upd H t (.lst [.ref p,.int (gK+1),.int rest])) p=some (.lst (ns.map V.int)):=by rw[zf gL];exact hp
   have ex:0<((ns.map V.int).length:Int)->∃c,Cm (ns.map V.int) (gK%((ns.map V.int).length:Int))=some (.int c):=fun h=>by
    have hb:=Jk (a:=gK) h;obtain⟨j,hj⟩:=Int.eq_ofNat_of_zero_le hb.1;have gD:j<ns.length:=by
     have h2:=hb.2;rw[hj,zB] at h2
     lia
    refine⟨ns[j],?_⟩;rw[hj];exact C5 (by simp[gD])
   refine⟨_,rfl,t,_,_,_,rfl,rfl,AE.of ht1,rfl,p,_,rfl,.inl (AE.of hp1),_,_,rfl,rfl,_,rfl,?_⟩;refine CF (fun h2=>?a) (fun h2=>?b)
   case' a=>
    obtain⟨c,hc⟩:=ex (of_decide_eq_true h2);refine⟨_,rfl,t,_,_,_,rfl,rfl,AE.of ht1,rfl,_,rfl,_,rfl,t,_,_,_,rfl,rfl,AE.of ht1,rfl,p,_,rfl,.inl (AE.of hp1),_,_,rfl,rfl,of_decide_eq_true h2,p,_,_,_,rfl,rfl,AE.of hp1,hc,?_⟩
   all_goals
    refine⟨_,rfl,_,_,rfl,rfl,⟨by decide,by decide,by decide⟩,_,_,rfl,rfl,_,rfl,?_⟩;refine CF (fun h3=>?_) (fun h3=>?_)
   all_goals first
    | (refine⟨_,rfl,_,rfl,t,_,_,_,rfl,rfl,AE.of ht1,rfl,p,_,rfl,.inl (AE.of hp1),_,_,rfl,rfl,_,rfl,?_⟩;refine CF (fun h4=>?_) (fun h4=>?_))
    | refine Am ?_
   all_goals first
    | (refine⟨_,rfl,_,rfl,_,_,rfl,rfl,⟨j2,by lia⟩,_,rfl,t,_,_,2,rfl,rfl,ht1,rfl,?_⟩
       refine⟨_,rfl,_,rfl,_,_,rfl,rfl,j2,?_⟩;refine k _ _ (Jk j2).1 (Jk j2).2 ⟨ns,gK+1,_,zK,by rw[zf gL];exact hp1,gL,by lia,by lia,Int.ediv_nonneg (Int.le_trans (show (0:Int)<=10 ^ (18:Int).toNat by decide) (of_decide_eq_true h3)) (by lia),hl⟩ fun b hb=>by rw[zf hb,zf hb])
    | (refine⟨_,rfl,_,_,rfl,rfl,(by first | decide | (dsimp only;decide)),_,_,rfl,rfl,_,rfl,_,_,rfl,rfl,.inl ⟨by decide,by decide⟩,_,_,rfl,rfl,_,_,rfl,rfl,.inl ⟨by lia,by lia⟩,_,_,rfl,rfl,(by first | decide | (dsimp only;decide)),?_⟩
       refine⟨_,rfl,_,rfl,_,_,rfl,rfl,.inl ⟨by decide,by decide⟩,_,rfl,_,_,rfl,rfl,.inr ⟨by lia,by lia⟩,_,_,rfl,rfl,_,_,rfl,rfl,.inr ⟨by decide,by decide⟩,_,_,rfl,rfl,(by first | decide | (dsimp only;decide)),_,_,rfl,rfl,⟨by decide,by decide⟩,_,rfl,_,_,rfl,rfl,j2,?_⟩;refine k _ _ (Jk j2).1 (Jk j2).2 ⟨ns,gK+1,rest,ht1,hp1,gL,by lia,by lia,hr0,hl⟩ fun b hb=>zf hb)
theorem Xy {fd:FuncData}(F:Fu K "_law_draw" IB f fd) (f9:mg "len"=none):AH P w K mg base AL 1 f fd IV UJ:=
 (Rt F f9).imp fun vs H Q E ⟨t,N,many,e,⟨p,T⟩,a,b,c,k⟩=>⟨t,p,N,many,e,T,a,b,c,fun r H' h0 h1 T' he=>k r H' h0 h1 ⟨p,T'⟩ he⟩
def Dd (P P':Addr)(H H':Hp):Prop:=∀b o,H b=some o->((b=P\/b=P')/\∃ps,o=.tbl ps)\/H' b=some o
section
variable {P P':Addr}{H H1 H':Hp}
theorem MO (h:AN P H H'):Dd P P' H H':=fun b o e=>(h b o e).imp (fun z=>⟨.inl z.1,z.2⟩) id
theorem QD (h:AN P' H H'):Dd P P' H H':=fun b o e=>(h b o e).imp (fun z=>⟨.inr z.1,z.2⟩) id
theorem Dd.trans (a:Dd P P' H H1)(b:Dd P P' H1 H'):Dd P P' H H':=fun c o e=>(a c o e).elim .inl (b c o)
theorem Dd.smT (h:Dd P P' H H'):BG H H':=fun b o e=>(h b o e).imp (fun z=>z.2) id
theorem Dd.tab (k:Dd P P' H H')(n1:P3≠P)(n2:P3≠P')(T:TabAt H P3 pos q):TabAt H' P3 pos q:=
 T.keep (fun o e=>(k _ _ e).elim (fun z=>z.1.elim (fun y=>absurd y n1) fun y=>absurd y n2) id) fun c φ e=>(k _ _ e).elim (fun ⟨_,ps,z⟩=>by cases z) id
end
theorem VP {L:List Int}{r:Int}(h0:0<=r)(h1:r<L.length):∃n,n∈L/\Cm (L.map V.int) r=some (.int n):=by
 obtain⟨j,rfl⟩:=Int.eq_ofNat_of_zero_le h0;have hj:j<L.length:=by lia
 exact⟨L[j],DF hj,C5 (by simp[hj])⟩
def Af (H:Hp)(wa:Addr)(n:Int)(ts:List T3):Prop:=∃ta tys,H wa=some (.tup [.int n,.ref ta])/\H ta=some (.tup tys)/\Ag H tys (ts.map tl)/\GW n ts
theorem Af.keepT (h:Af H wa n ts)(k:∀b ys,H b=some (.tup ys)->H' b=some (.tup ys)):Af H' wa n ts:=by obtain⟨ta,tys,a,b,c,d⟩:=h;exact⟨ta,tys,k _ _ a,k _ _ b,c.keep k,d⟩
theorem Af.keep (h:Af H wa n ts)(k:AF H H'):Af H' wa n ts:=h.keepT fun b _ e=>k b _ e
def JB:Sp:=fun vs H Q _=>∃t N n,vs=[.ref t,.int n]/\Al H t N/\N<900000/\1<=n/\n<=24 /\
 ∀wa ts H',H wa=none->Af H' wa n ts->Al H' t (N+200)->Sm t H H'->Q (.ref wa) H'
def JD (n:Int)(fu:List (List AU×V)):Prop:=(∀kv∈fu,∃a b l:Int,kv=([Sum.inl a,Sum.inl b],V.int l)/\0<=a/\a<b/\b<n/\1<=l/\l<=99)/\(fu.map (·.1)).Nodup
theorem JD.nil (n):JD n []:=⟨fun _ h=>by simp at h,Hs⟩
theorem JD.put (h:JD n fu)(h0:0<=a)(h1:a<b)(h2:b<n)(h3:1<=l)(h4:l<=99):JD n (Ax fu [Sum.inl a,Sum.inl b] (.int l)):=by
 cases e:Ao fu [Sum.inl a,Sum.inl b] with
 | none=>
  refine⟨fun kv gq=>?_,Yr _ h.2 e⟩;rw[Se _ e] at gq;rcases zU.mp gq with q | q
  . exact h.1 kv q
  . rw[zi.mp q];exact⟨a,b,l,rfl,h0,h1,h2,h3,h4⟩
 | some v=>
  have ha:(fu.any fun kv=>decide (kv.1=[Sum.inl a,Sum.inl b]))=true:=by rw[GK,e];rfl
  unfold Ax;rw[if_pos ha];refine⟨fun kv gq=>?_,?_⟩
  . obtain⟨q,hq,e2⟩:=zq.mp gq;by_cases hk:q.1=[Sum.inl a,Sum.inl b]
    . rw[if_pos hk,hk] at e2;rw[<-e2];exact⟨a,b,l,rfl,h0,h1,h2,h3,h4⟩
    . rw[if_neg hk] at e2;rw[<-e2];exact h.1 q hq
  . have e3:(fu.map fun kv=>if kv.1=[Sum.inl a,Sum.inl b] then (kv.1,V.int l) else kv).map (·.1)=fu.map (·.1):=by
     rw[Ec];refine Gy fun kv _=>?_;show (if kv.1=[Sum.inl a,Sum.inl b] then (kv.1,V.int l) else kv).1=kv.1
     split <;> rfl
    rw[e3];exact h.2
noncomputable def fc:AU->Int
 | .inl i=>i
 | .inr _=>0
noncomputable def Gh (fu:List (List AU×V)):List (List Int):=fu.map fun kv=>kv.1.map fc
theorem JD.keys (h:JD n fu):fu.map (·.1)=(Gh fu).map (List.map Sum.inl):=by unfold Gh;rw[Ec];refine Gy fun kv gq=>?_;obtain⟨a,b,l,e,_⟩:=h.1 kv gq;rw[e];rfl
theorem JD.ne (h:JD n fu):∀k∈Gh fu,k≠[]:=fun k hk=>by obtain⟨kv,gq,e⟩:=zq.mp hk;obtain⟨a,b,l,e2,_⟩:=h.1 kv gq;rw[<-e,e2];simp[List.map]
theorem JD.nd (h:JD n fu):(Gh fu).Nodup:=by have e:=h.2;rw[h.keys] at e;rw[List.Nodup,DO] at e;exact e.imp fun h e'=>h (by rw[e'])
theorem JD.val (h:JD n fu)(hk:k∈Gh fu):∃a b l,k=[a,b]/\Ao fu [Sum.inl a,Sum.inl b]=some (.int l)/\0<=a/\a<b/\b<n/\1<=l/\l<=99:=by
 obtain⟨kv,gq,e⟩:=zq.mp hk;obtain⟨a,b,l,e2,h0,h1,h2,h3,h4⟩:=h.1 kv gq;have ek:k=[a,b]:=by rw[<-e,e2];rfl
 have hm:(fu.any fun kv=>decide (kv.1=[Sum.inl a,Sum.inl b]))=true:=Ho.mpr ⟨kv,gq,zR (by rw[e2])⟩;rw[GK] at hm;cases hv:Ao fu [Sum.inl a,Sum.inl b] with
 | none=>rw[hv] at hm;cases hm
 | some v=>
  have hv0:=hv;unfold Ao at hv;cases hf:fu.find? fun kv=>decide (kv.1=[Sum.inl a,Sum.inl b]) with
  | none=>rw[hf] at hv;cases hv
  | some q=>
   rw[hf] at hv;obtain⟨a',b',l',e3,_,_,_,g3,g4⟩:=h.1 q (List.mem_of_find?_eq_some hf);have ev:v=.int l':=by rw[e3] at hv;exact (zV hv).symm
   exact⟨a,b,l',ek,by rw[hv0,ev],h0,h1,h2,g3,g4⟩
structure WI (H:Hp)(t d la:Addr)(n:Int)(N m:Nat)(H2:Hp):Prop where
 sm:Sm t H H2
 tp:Al H2 t N
 dc:∃fu,H2 d=some (.dT fu)/\JD n fu/\fu.length<=m
 lg:∃l0 l1 l2:Int,H2 la=some (.lst [.int l0,.int l1,.int l2])/\(∀l∈[l0,l1,l2],1<=l/\l<=99)
theorem WI.draw (h:WI H t d la n N m H2)(hd:d≠t)(hl:la≠t)(T:Al H3 t (N+1))(he:∀b,b≠t->H3 b=H2 b):WI H t d la n (N+1) m H3:=by
 refine⟨fun b o nb e=>by rw[he b nb];exact h.sm b o nb e,T,?_,?_⟩
 . rw[he d hd];exact h.dc
 . rw[he la hl];exact h.lg
theorem WI.laid (h:WI H t d la n N m H2)(hl:H2 l=none):WI H t d la n N m (upd H2 l o):=by obtain⟨fu,a,b⟩:=h.dc;obtain⟨l0,l1,l2,c,e⟩:=h.lg;exact⟨h.sm.trans (Sm.laid hl),h.tp.laid hl,⟨fu,by rw[zf (zn a hl)];exact a,b⟩,⟨l0,l1,l2,by rw[zf (zn c hl)];exact c,e⟩⟩
theorem WI.put (h:WI H t d la n N m H2)(hd0:H d=none)(hd:H2 d=some (.dT fu))(h0:0<=a)(h1:a<b)(h2:b<n)(h3:1<=l)(h4:l<=99):
 WI H t d la n N (m+1) (upd H2 d (.dT (Ax fu [Sum.inl a,Sum.inl b] (.int l)))):=by
 obtain⟨gk,e,j,hm⟩:=h.dc;rw[hd] at e;cases e;obtain⟨l0,l1,l2,c,e⟩:=h.lg;refine⟨h.sm.chg hd0,h.tp.chg hd (by intro xs z;cases z),⟨_,zK,j.put h0 h1 h2 h3 h4,?_⟩,⟨l0,l1,l2,by rw[zf (Ar c hd (by intro z;cases z))];exact c,e⟩⟩;have:=N4 fu [Sum.inl a,Sum.inl b] (V.int l)
 lia
theorem WI.up (h:WI H t d la n N m H2)(hN:N<=N')(hm:m<=m'):WI H t d la n N' m' H2:=by obtain⟨fu,a,b,c⟩:=h.dc;exact⟨h.sm,h.tp.mono hN,⟨fu,a,b,by lia⟩,h.lg⟩
theorem ZA (h:∀l∈[l0,l1,l2],1<=l/\l<=99)(h0:0<=r)(h1:r<3):∃l,Cm [V.int l0,V.int l1,V.int l2] r=some (.int l)/\1<=l/\l<=99:=by obtain⟨l,hl,ha⟩:=VP (L:=[l0,l1,l2]) h0 h1;exact⟨l,ha,h l hl⟩
theorem zr (h:n<=100000):n<sizeLine:=Cv h (by decide)
theorem aL (h:JD n fu)(hp:ms.Perm (Gh fu))(hl:fu.length<64)(hn:1<=n)(hn2:n<=24)(e:ts.map (fun t=>[t.1,t.2.1])=ms)(hr:∀t∈ts,0<=t.1/\t.1<t.2.1/\t.2.1<n/\1<=t.2.2/\t.2.2<=99):GW n ts:=by
 have hlen:ts.length=fu.length:=by have:=hp.length_eq;rw[<-e] at this;simpa [Gh] using this
 refine⟨hn,hn2,by lia,hr,?_⟩;have nd:(ts.map fun t:T3=>[t.1,t.2.1]).Nodup:=by rw[e];exact hp.nodup_iff.mpr h.nd
 rw[List.Nodup,DO] at nd;exact nd.imp fun gL hc=>gL (by rw[hc.1,hc.2])
theorem Jd:AW ["_law_tape_here","_law_n","_law_longs","_law_joined","_law_b","_law_k","_law_a"] Eo (defScope EN):=AY
theorem Lo {fd:FuncData}(F:Fu K "_law_web" EN f fd) (FD:AD K mg "_law_draw" IB fD fdD IV) (f9:mg "len"=none)
 (f7:mg "range"=none) (fw:mg "tuple"=none) (gB:mg "sorted"=none):AH P w K mg base AL 2 f fd Eo JB:=by
 have GD:AJ P w base 1 FD UJ:=Xy FD.F f9;refine F.okD Jd fun _ A _ _ H vs Q E hr h=>?_;obtain⟨t,N,n,rfl,T,hN,iI,hn2,k⟩:=h;have hu:=Fy hr;obtain⟨es,q0,q1,q2,j3,q3,q4,p1,p2,p3,hbd,hes⟩:∃es q0 q1 q2 j3 q3 q4 p1 p2 p3,defBody EN=.Assign [.Name "_law_longs" q0] (.Subscript (.List es p1) (.Call (.Name "_law_draw" q1) [.Name "_law_tape_here" q2,.Constant (.int 4) j3 q3] [] q4) p2) p3::(defBody EN).drop 1 /\
  OH es [[1,1,1],[1,2,1],[1,2,3],[5,99,7]]:=⟨_,_,_,_,_,_,_,_,_,_,rfl,.cons (.cons (.cons (.cons .nil))) KS (.cons (.cons (.cons (.cons .nil))) KS (.cons (.cons (.cons (.cons .nil))) KS (.cons (.cons (.cons (.cons .nil))) KS (.nil))))⟩
 rw[hbd];refine⟨_,zW (Ak (i:=2) Jd.nd (AK BU (DR (Zk hes))
  (AI GD hr FD (zD (pv 0) (Bw zO)))))
  (zW (DU (i:=3) Jd.nd rfl (Or.inr rfl) df)
  (zW (Ap (Ad Hj (AI GD hr FD (zD (pv 0) (Bw zO))) zm (AZ _))
   (zh (CB (Sn rfl f7 (Bw (zD (pv 1) zO))) (BN (i:=4) Jd.nd)
    (zh (Rm hu (pv 3) (Ba (zD (AI GD hr FD (zD (pv 0) (zD (pv 4) zO))) (zD (pv 4) zO)))
     (AK BU (pv 2) (AI GD hr FD (zD (pv 0) (Bw zO)))) rfl)))) As)
  (zW (CB (CT rfl f7 (zD (AI GD hr FD (zD (pv 0) (zD (Ac Ci (Ac Ci zm (pv 1)) (Ac N9 (pv 1) zm)) zO))) zO)) (BN (i:=5) Jd.nd)
   (zW (Ak (i:=6) Jd.nd (AI GD hr FD (zD (pv 0) (zD (pv 1) zO))))
   (zW (Ak (i:=4) Jd.nd (AI GD hr FD (zD (pv 0) (zD (pv 1) zO))))
   (zh (Ap (Ad J6 (pv 6) (pv 4) (AZ _)) (zh (Rm hu (pv 3) (Ba (zD (pv 6) (zD (pv 4) zO)))
    (AK BU (pv 2) (AI GD hr FD (zD (pv 0) (Bw zO)))) rfl)) As)))))
  (zh (AQ (Ba (zD (pv 1) (zD (Bi B9 fw (zD
   (A0 (own:=["_law_pair"]) (cn:=["_law_joined"]) (ci:=[3]) rfl (An rfl rfl) ⟨rfl,rfl,rfl,trivial⟩ rfl
    (CZ (Aj (ee rfl) gB (zD (pv 3) zO))) (fun _ _ _ _=>Aq) (fun _ _ _ _=>BI)
    (fun _ _ _ _=>Ba (zD (AK Bg (pv 0) zm) (zD (AK Bg (pv 0) zm) (zD (Tn hu (pv 1) (pv 0) (fun _ _=>rfl)) zO))))) zO)) zO)))))))),?_⟩
 intro a1 e1 a2 e2 a3 e3 a4 e4;refine⟨SD,fun al el=>?_⟩;have T5:=((((T.laid (o:=.lst [.int 1,.int 1,.int 1]) e1).laid (o:=.lst [.int 1,.int 2,.int 1]) e2).laid (o:=.lst [.int 1,.int 2,.int 3]) e3).laid (o:=.lst [.int 5,.int 99,.int 7]) e4).laid (o:=.lst [.ref a1,.ref a2,.ref a3,.ref a4]) el;refine⟨_,rfl,t,N,4,rfl,T5,by lia,by decide,by decide,fun r H1 h0 h1 T1 he1=>?_⟩;have nel:al≠t:=((((T.laid (o:=.lst [.int 1,.int 1,.int 1]) e1).laid (o:=.lst [.int 1,.int 2,.int 1]) e2).laid (o:=.lst [.int 1,.int 2,.int 3]) e3).laid (o:=.lst [.int 5,.int 99,.int 7]) e4).ne el;obtain⟨la,l0,l1,l2,hat,gx,hb,nla⟩:∃(la:Addr)(l0 l1 l2:Int),Cm [V.ref a1,V.ref a2,V.ref a3,V.ref a4] r=some (.ref la)/\H1 la=some (.lst [.int l0,.int l1,.int l2])/\(∀l∈[l0,l1,l2],1<=l/\l<=99)/\la≠t:=by
  have n1:a1≠t:=T.ne e1;have n2:a2≠t:=(T.laid (o:=.lst [.int 1,.int 1,.int 1]) e1).ne e2;have n3:a3≠t:=((T.laid (o:=.lst [.int 1,.int 1,.int 1]) e1).laid (o:=.lst [.int 1,.int 2,.int 1]) e2).ne e3;have n4:a4≠t:=(((T.laid (o:=.lst [.int 1,.int 1,.int 1]) e1).laid (o:=.lst [.int 1,.int 2,.int 1]) e2).laid (o:=.lst [.int 1,.int 2,.int 3]) e3).ne e4;have g1:H1 a1=some (.lst [.int 1,.int 1,.int 1]):=by rw[he1 a1 n1];exact zL el _ _ (zL e4 _ _ (zL e3 _ _ (zL e2 _ _ zK)))
  have g2:H1 a2=some (.lst [.int 1,.int 2,.int 1]):=by rw[he1 a2 n2];exact zL el _ _ (zL e4 _ _ (zL e3 _ _ zK))
  have g3:H1 a3=some (.lst [.int 1,.int 2,.int 3]):=by rw[he1 a3 n3];exact zL el _ _ (zL e4 _ _ zK)
  have g4:H1 a4=some (.lst [.int 5,.int 99,.int 7]):=by rw[he1 a4 n4];exact zL el _ _ zK
  have hr4:r=0\/r=1\/r=2\/r=3:=by lia
  rcases hr4 with rfl | rfl | rfl | rfl
  . exact⟨a1,1,1,1,rfl,g1,by decide,n1⟩
  . exact⟨a2,1,2,1,rfl,g2,by decide,n2⟩
  . exact⟨a3,1,2,3,rfl,g3,by decide,n3⟩
  . exact⟨a4,5,99,7,rfl,g4,by decide,n4⟩
 refine⟨al,_,_,_,rfl,rfl,AE.of (by rw[he1 al nel];exact zK),hat,?_⟩;have gw:Sm t H H1:=fun b o nb e=>by rw[he1 b nb];exact zL el _ _ (zL e4 _ _ (zL e3 _ _ (zL e2 _ _ (zL e1 _ _ e))))
 intro d hd;have nd:d≠t:=T1.ne hd;have hd0:H d=none:=by
  cases q:H d with
  | none=>rfl
  | some o=>have:=gw d o nd q;rw[hd] at this;cases this
 have W0:WI H t d la n (N+1) 0 (upd H1 d (.dT [])):=⟨gw.chg hd0,T1.laid hd,⟨[],zK,JD.nil n,zI _⟩,⟨l0,l1,l2,by rw[zf (zn gx hd)];exact gx,hb⟩⟩;refine⟨_,rfl,t,N+1,3,rfl,W0.tp,by lia,by decide,by decide,fun r1 H2 _ _ T2 he2=>?_⟩;have W2:=W0.draw nd nla T2 he2;refine⟨_,_,rfl,rfl,_,rfl,?_⟩;refine CF (fun _=>?a) (fun _=>?b)
 case' a=>
  refine⟨_,rfl,1,n,rfl,⟨by decide,by decide,by lia,by lia⟩,IH (lo:=1) (n:=(n-1).toNat) (fun i σ H3=>∃vb:Option V,σ=[some (.ref t),some (.int n),some (.ref la),some (.ref d),vb,none,none]/\WI H t d la n (N+2+2*i) i H3) ⟨none,rfl,W2⟩ ?turn ?after⟩
  case turn=>
   rintro i σ H3 hi ⟨vb,rfl,W⟩;obtain⟨m0,m1,m2,hm,hmb⟩:=W.lg;refine⟨_,rfl,_,rfl,t,N+2+2*i,3,rfl,W.tp,by lia,by decide,by decide,fun r3 H4 g0 g1 T4 he4=>?_⟩;have W4:=W.draw nd nla T4 he4;obtain⟨lg,hlg,hg1,hg2⟩:=ZA hmb g0 g1;refine⟨la,_,_,_,rfl,rfl,AE.of (by rw[he4 la nla];exact hm),hlg,?_⟩;refine⟨_,rfl,_,rfl,_,rfl,t,N+2+2*i+1,1+i,rfl,W4.tp,by lia,by lia,by lia,fun r5 H5 q0 q1 T5 he5=>?_⟩;have W5:=W4.draw nd nla T5 he5;refine⟨_,rfl,BO,fun p hp=>?_⟩;have W6:=W5.laid (o:=.tup [.int r5,.int (1+i)]) hp;obtain⟨fu,hk,J,jR⟩:=W6.dc;refine⟨d,_,rfl,HA.t (k:=[Sum.inl r5,Sum.inl (1+(i:Int))]) hk zK (zr (by lia)),?_⟩;exact⟨_,rfl,(W6.put hd0 hk q0 q1 (by lia) hg1 hg2).up (by lia) (by lia)⟩
  case' after=>
   rintro σ H3 ⟨vb,rfl,W⟩;have W3:WI H t d la n (N+50) 23 H3:=W.up (by lia) (by lia)
 case' b=>
  have W3:WI H t d la n (N+50) 23 H2:=W2.up (by lia) (by lia)
 all_goals
  refine⟨_,rfl,_,rfl,_,_,rfl,rfl,_,rfl,_,_,rfl,rfl,⟨by decide,by decide⟩,_,_,rfl,rfl,t,N+50,_,rfl,W3.tp,by lia,by lia,by lia,fun r4 H4 p0 p1 T4 he4=>?_⟩;have W4:=W3.draw nd nla T4 he4;refine⟨r4,rfl,by lia,by lia,IH (lo:=0) (n:=r4.toNat) (fun i σ H5=>IM fun (vb vk va:Option V)=>σ=[some (.ref t),some (.int n),some (.ref la),some (.ref d),vb,vk,va]/\WI H t d la n (N+51+3*i) (23+i) H5) ⟨_,_,_,rfl,W4⟩ ?turn2 ?after2⟩
  case turn2=>
   rintro i σ H5 hi ⟨vb,vk,va,rfl,W⟩;refine⟨_,rfl,_,rfl,t,N+51+3*i,n,rfl,W.tp,by lia,by lia,by lia,fun a H6 a0 a1 T6 he6=>?_⟩;have W6:=W.draw nd nla T6 he6;refine⟨_,rfl,_,rfl,t,N+51+3*i+1,n,rfl,W6.tp,by lia,by lia,by lia,fun b H7 b0 b1 T7 he7=>?_⟩;have W7:=W6.draw nd nla T7 he7;refine⟨_,rfl,_,rfl,_,_,rfl,rfl,_,rfl,?_⟩;refine CF (fun hc=>?_) (fun hc=>?_)
   . have jH:a<b:=of_decide_eq_true hc;obtain⟨m0,m1,m2,hm,hmb⟩:=W7.lg;refine⟨_,rfl,_,rfl,t,N+51+3*i+1+1,3,rfl,W7.tp,by lia,by decide,by decide,fun r3 H8 g0 g1 T8 he8=>?_⟩;have W8:=W7.draw nd nla T8 he8;obtain⟨lg,hlg,hg1,hg2⟩:=ZA hmb g0 g1;refine⟨la,_,_,_,rfl,rfl,AE.of (by rw[he8 la nla];exact hm),hlg,?_⟩;refine⟨_,rfl,_,rfl,_,rfl,BO,fun p hp=>?_⟩;have W9:=W8.laid (o:=.tup [.int a,.int b]) hp;obtain⟨fu,hk,J,jR⟩:=W9.dc;refine⟨d,_,rfl,HA.t (k:=[Sum.inl a,Sum.inl b]) hk zK (zr (by lia)),?_⟩;exact⟨_,_,_,rfl,(W9.put hd0 hk a0 jH b1 hg1 hg2).up (by lia) (by lia)⟩
   . exact⟨_,_,_,rfl,W7.up (by lia) (by lia)⟩
  case after2=>
   rintro σ H5 ⟨vb,vk,va,rfl,W⟩;obtain⟨fu,hk,J,jR⟩:=W.dc;have hk64:fu.length<64:=by lia
   refine⟨_,rfl,_,rfl,d,fu,Gh fu,rfl,hk,J.keys,J.ne,by rw[Gh,zB];exact hk64,fun l zs ms hl TA hp _=>?_⟩;refine⟨l,rfl,⟨_,AE.of zK⟩,[.ref d],rfl,fun D hD=>?_⟩;have hlz:=TA.length;have hlm:ms.length=fu.length:=by rw[hp.length_eq,Gh,zB]
   have nlD:l≠D:=fun e=>by rw[<-e,zK] at hD;cases hD
   have hk1:(upd H5 l (.lst zs)) d=some (.dT fu):=zL hl _ _ hk;have hZ:H5 D=none:=by rw[zf nlD.symm] at hD;exact hD
   refine DM (a:=l) (xs:=zs) (fun i ys H6=>∃ts:List T3,ts.length=i/\ts.map (fun t:T3=>[t.1,t.2.1])=ms.take i/\(∀t∈ts,0<=t.1/\t.1<t.2.1/\t.2.1<n/\1<=t.2.2/\t.2.2<=99)/\H6 D=some (.lst ys)/\Ag H6 ys (ts.map tl)/\AF (upd H5 l (.lst zs)) H6)
    ⟨[],rfl,rfl,fun _ h=>by simp at h,zK,trivial,zL hD⟩ (fun i ys H6 h=>?_) (fun i ys H6 h=>?_) (fun i x ys H6 hx h=>?_) (fun ys H6 h=>?_)
   . obtain⟨_,_,_,_,_,_,s6⟩:=h;exact AE.of (s6 _ _ zK)
   . obtain⟨ts,e1,e2,_,_,T6,_⟩:=h;have e3:=T6.length;rw[zB] at e3;have e4:=congrArg List.length e2;rw[zB,zt] at e4;exact zr (by lia)
   . obtain⟨ts,e1,e2,hts,i7,T6,s6⟩:=h;obtain⟨pa,kx,ex,hkx,iV,_⟩:=TA.get hx;subst ex;have hpa6:H6 pa=some (.tup (kx.map V.int)):=s6 _ _ (zL hl _ _ iV);obtain⟨a,b,lg,ek,hv,a0,ab,bn,lg1,lg2⟩:=J.val (hp.mem_iff.mp (zP hkx));subst ek;refine⟨⟨rfl,rfl⟩,?_⟩;refine BH ?_;refine⟨_,rfl,pa,_,_,_,rfl,rfl,AB.of hpa6,rfl,_,rfl,pa,_,_,_,rfl,rfl,AB.of hpa6,rfl,_,rfl,_,rfl,d,_,rfl,hv ▸ Cg.t (k:=[Sum.inl a,Sum.inl b]) (s6 _ _ hk1) hpa6,KS,fun p hp6=>?_⟩;have nDp:D≠p:=zn i7 hp6;refine⟨by rw[zf nDp];exact i7,ts++[(a,b,lg)],by rw[zJ,e1];rfl,?_,?_,zK,?_,?_⟩
     . rw[zQ,e2,zy,hkx];rfl
     . intro t ht;rcases zU.mp ht with q | q
       . exact hts t q
       . rw[zi.mp q];exact⟨a0,ab,bn,lg1,lg2⟩
     . rw[zQ];refine (T6.keep fun c xs e=>?_).snoc ⟨p,rfl,by rw[zf nDp.symm,zK];rfl,by simp[tl]⟩;rw[zf (Ar e i7 (by intro z;cases z)),zf (zn e hp6)];exact e
     . exact BM (s6.trans (zL hp6)) hD
   . obtain⟨ts,e1,e2,hts,i7,T6,s6⟩:=h;refine⟨D,ys,rfl,.inl ⟨AE.of i7,fun ta jw=>?_⟩⟩;refine⟨BO,fun wa gF=>?_⟩;rw[hlz,zY (zI _)] at e2;have G:GW n ts:=aL J hp hk64 iI hn2 e2 hts;have nwt:wa≠ta:=fun e=>by rw[e,zK] at gF;cases gF
     have h6wa:H6 wa=none:=by rw[zf nwt] at gF;exact gF
     have s7:AF H6 (upd (upd H6 ta (.tup ys)) wa (.tup [.int n,.ref ta])):=BM (zL jw) h6wa;have T7:Al (upd (upd H6 ta (.tup ys)) wa (.tup [.int n,.ref ta])) t (N+200):=((W.tp.mono (by lia)).keep ((zL hl).trans (s6.trans s7)));have nwa:wa≠t:=((W.tp.keep ((zL hl).trans s6)).ne h6wa);have sm7:Sm t H (upd (upd H6 ta (.tup ys)) wa (.tup [.int n,.ref ta])):=W.sm.trans (Sm.of ((zL hl).trans (s6.trans s7)));refine k wa ts _ ?_ ⟨ta,ys,zK,by rw[zf nwt.symm,zK],T6.keep fun c xs e=>s7 _ _ e,G⟩ T7 sm7;cases q:H wa with
     | none=>rfl
     | some o=>have:=(W.sm.trans (Sm.of ((zL hl).trans s6))) wa o nwa q;rw[h6wa] at this;cases this
theorem FV {q:Prop}(h:c=true)(hp:p):(if c=true then p else q):=by rw[if_pos h];exact hp
theorem BL {q:Prop}(h:c=false)(hq:q):(if c=true then p else q):=by rw[if_neg (by simp[h])];exact hq
def RP:Sp:=fun vs H Q _=>∃wa n ts p,vs=[.ref wa,.int p]/\Af H wa n ts /\
 ∀l zs ms H',AF H H'->H l=none->H' l=some (.lst zs)->Ag H' zs ms->ms.Perm (fd p ts)->NM ms->Q (.ref l) H'
theorem Nv:AW ["web","place","found","a","b","long"] DC (defScope G1):=AY
theorem UN (F:Fu K "ties_at" G1 f gA) (gB:mg "sorted"=none):AH P w K mg base AL 1 f gA DC RP:=by
 refine F.okD Nv fun _ A _ _ H vs Q E hr h=>?_;obtain⟨wa,n,ts,p,rfl,⟨ta,tys,gF,jw,TA,G⟩,k⟩:=h;refine⟨_,zW (Ak (i:=2) Nv.nd (DR zO))
  (zW (CB (Bo (AK AX (pv 0) zm)) (Ml rfl (BF (BN (i:=3) Nv.nd) (BF (BN (i:=4) Nv.nd) (BF (BN (i:=5) Nv.nd) E2))))
   (zW (Ap (Ad CN (pv 3) (pv 1) (AZ _)) (zh (DL (Gd PySem.F.plainAttrs_list PySem.F.slot_list_append PySem.F.type_list_append HB (pv 2) (zD (Ba (zD (pv 4) (zD (pv 5) zO))) zO)))) As)
   (zh (Ap (Ad CN (pv 4) (pv 1) (AZ _)) (zh (DL (Gd PySem.F.plainAttrs_list PySem.F.slot_list_append PySem.F.type_list_append HB (pv 2) (zD (Ba (zD (pv 3) (zD (pv 5) zO))) zO)))) As))))
  (zh (AQ (Aj Xa gB (zD (pv 2) zO))))),?_⟩
 refine⟨zg _,fun l hl=>?_⟩;have hwl:wa≠l:=zn gF hl;have htl:ta≠l:=zn jw hl;have gD:tys.length=ts.length:=by rw[TA.length,zB]
 refine⟨_,rfl,wa,_,_,_,rfl,rfl,AB.of (by rw[zf hwl];exact gF),rfl,ta,rfl,⟨_,AB.of (by rw[zf htl];exact jw)⟩,Mc (K:=K) (a:=ta) (xs:=tys)
  (fun i σ H2=>U9 fun (va vb vl:Option V)(xs:List V)=>σ=[some (.ref wa),some (.int p),some (.ref l),va,vb,vl]/\AF H H2/\H2 l=some (.lst xs)/\Ag H2 xs (fd p (ts.take i)))
  ⟨none,none,none,[],rfl,zL hl,zK,trivial⟩ (fun i σ H2 _ ⟨_,_,_,_,_,s2,_⟩=>AB.of (s2 _ _ jw)) ?turn ?after⟩
 case turn=>
  rintro i y σ H2 hi ⟨va,vb,vl,xs,rfl,s2,gS,T2⟩;obtain⟨ya,ky,rfl,iN,iZ,_⟩:=TA.get hi;rw[zM] at iN;obtain⟨⟨a,b,c⟩,hti,rfl⟩:∃t:T3,ts[i]?=some t/\tl t=ky:=by
   cases e:ts[i]? with
   | none=>rw[e] at iN;cases iN
   | some t=>rw[e] at iN;exact⟨t,rfl,zV iN⟩
  have j9:i<ts.length:=(zH.mp hti).1;have hlen:∀{xs':List V}{H3:Hp},Ag H3 xs' (fd p (ts.take i))->xs'.length<sizeLine:=fun T=>by have e1:=T.length;have e2:=Nf (n:=n) p (ts:=ts.take i) fun t ht=>(G.rng t (List.mem_of_mem_take ht)).2.1;rw[zt] at e2;exact zr (by have:=G.len;lia)
  have hfd:fd p (ts.take (i+1))=fd p (ts.take i)++((if a=p then [[b,c]] else [])++(if b=p then [[a,c]] else [])):=by
   rw[zy,hti,Wt];show _++((if a=p then [[b,c]] else [])++(if b=p then [[a,c]] else [])++[])=_
   rw[BR]
  have jH:a<b:=(G.rng _ (zP hti)).2.1;refine⟨ya,_,rfl,AB.of (s2 _ _ iZ),rfl,_,_,rfl,_,_,rfl,_,_,rfl,rfl,?_⟩;have app:∀{x:Int},∀q,H2 q=none->∃xs',(upd (upd H2 q (.tup [.int x,.int c])) l (.lst (xs++[.ref q]))) l=some (.lst xs')/\AF H (upd (upd H2 q (.tup [.int x,.int c])) l (.lst (xs++[.ref q])))/\Ag (upd (upd H2 q (.tup [.int x,.int c])) l (.lst (xs++[.ref q]))) xs' (fd p (ts.take i)++[[x,c]]):=by intro x q hq;have nlq:l≠q:=zn gS hq;refine⟨_,zK,BM (s2.trans (zL hq)) hl,(T2.keep fun e ys he=>?_).snoc ⟨q,rfl,by rw[zf nlq.symm,zK];rfl,by simp⟩⟩;rw[zf (Ar he gS (by intro z;cases z)),zf (zn he hq)];exact he
  refine⟨_,rfl,_,rfl,rfl,_,rfl,?_⟩;refine CF (fun h1=>?_) (fun h1=>?_)
  . have e1:a=p:=by have:=of_decide_eq_true h1;injection this
    have n2:¬ b=p:=by lia
    refine⟨_,rfl,.inl ⟨rfl,_,AE.of gS⟩,_,rfl,_,rfl,BO,fun q hq=>?_⟩;have nlq:l≠q:=zn gS hq;refine⟨l,_,_,rfl,rfl,by rw[zf nlq];exact gS,hlen T2,?_⟩;refine⟨_,rfl,_,rfl,rfl,_,rfl,?_⟩;rw[show decide (V.int b=V.int p)=false from zT fun e=>n2 (by injection e)];refine Am ?_;obtain⟨xs',g1,g2,g3⟩:=app (x:=b) q hq;refine⟨_,_,_,xs',rfl,g2,g1,?_⟩;rw[hfd,if_pos e1,if_neg n2];exact g3
  . have n1:¬ a=p:=fun e=>by have:=h1;rw[e] at this;exact this (zR rfl)
    refine⟨_,rfl,_,rfl,rfl,_,rfl,?_⟩;refine CF (fun h2=>?_) (fun h2=>?_)
    . have e2:b=p:=by have:=of_decide_eq_true h2;injection this
      refine⟨_,rfl,.inl ⟨rfl,_,AE.of gS⟩,_,rfl,_,rfl,BO,fun q hq=>?_⟩;have nlq:l≠q:=zn gS hq;refine⟨l,_,_,rfl,rfl,by rw[zf nlq];exact gS,hlen T2,?_⟩;obtain⟨xs',g1,g2,g3⟩:=app (x:=a) q hq;refine⟨_,_,_,xs',rfl,g2,g1,?_⟩;rw[hfd,if_neg n1,if_pos e2];exact g3
    . have n2:¬ b=p:=fun e=>by have:=h2;rw[e] at this;exact this (zR rfl)
      refine⟨_,_,_,xs,rfl,s2,gS,?_⟩;rw[hfd,if_neg n1,if_neg n2,BR,BR];exact T2
 case after=>
  rintro σ H2 ⟨va,vb,vl,xs,rfl,s2,gS,T2⟩;rw[gD,zY (zI _)] at T2;have e2:=Nf (n:=n) p (ts:=ts) fun t ht=>(G.rng t ht).2.1;refine⟨_,rfl,l,xs,fd p ts,rfl,AE.of gS,T2,by have:=G.len;lia,fun l' zs ms gm T3 hp jZ=>?_⟩;have nll:l'≠l:=fun e=>by rw[e,gS] at gm;cases gm
  have jQ:H l'=none:=by
   cases q:H l' with
   | none=>rfl
   | some o=>have:=s2 l' o q;rw[gm] at this;cases this
  exact k l' zs ms _ (s2.trans (zL gm)) jQ zK (T3.keep fun e ys he=>zL gm _ _ he) hp jZ
def WQ:Sp:=fun vs H Q _=>∃wa,∃(n:Int),∃ts,∃(p:Int),vs=[.ref wa,.int p]/\Af H wa n ts /\
 ∀l(hs:List Int)H',AF H H'->H l=none->H' l=some (.tup (hs.map V.int))->hs.Pairwise (· < ·)->(∀y,y∈hs↔∃k,Ah ts p y k)->Q (.ref l) H'
theorem Wg (h:NM ms)(hk:∀k∈ms,∃y l,k=[y,l])(hn:(ms.map hd).Nodup):(ms.map hd).Pairwise (· < ·):=by
 rw[DO];rw[List.Nodup,DO] at hn;have both:ms.Pairwise fun a b=>HT.lexLt b a=false/\hd a≠hd b:=by rw[Cz];intro i j hi hj gu;exact⟨Cz.mp h i j hi hj gu,Cz.mp hn i j hi hj gu⟩
 refine both.imp_of_mem fun {a b} ha hb jH=>?_;obtain⟨y,l,rfl⟩:=hk a ha;obtain⟨z,m,rfl⟩:=hk b hb;obtain⟨h1,h2⟩:=jH;have h2':y≠z:=h2;rw[HT.lexLt_cons,if_neg (Ne.symm h2')] at h1;have:=of_decide_eq_false h1;show y<z
 lia
theorem ZS (a b):Gp (.int a) (.int b)=(a==b):=rfl
theorem E9 :∀{l:List Int},Dg (.int z) (l.map V.int)=decide (z∈l)
 | []=>rfl
 | x::r=>by
  show (Gp (.int x) (.int z) || Dg (.int z) (r.map V.int))=_;rw[E9 (l:=r),ZS];by_cases h:x=z
  . subst h;simp
  . have h':(x==z)=false:=by simpa using h
    rw[h',Bool.false_or];simp[Ne.symm h]
theorem G8:∀(l:List Int),(l.map V.int).all G5=true
 | []=>rfl
 | _::r=>by rw[BJ,List.all_cons,G8 r];rfl
theorem Hh :decide (V.int i=V.int j)=decide (i=j):=by
 by_cases h:i=j
 . subst h;simp
 . rw[zT h,zT fun e=>h (by injection e)]
noncomputable def U0:Pos:=⟨74,36,74,64⟩
noncomputable abbrev Uq:Str:=(("nearest" : Str) ++ ".<locals>.") ++ "<lambda>"
abbrev Tb (H:Hp)(PT:Addr):Prop:=TabAt H PT U0 Uq
def Xb (PT:Addr):Sp:=fun vs H Q _=>∃d n fu wt,vs=[.ref d]/\H d=some (.dK fu)/\WD n fu wt/\0<=n/\n<=24/\fu≠[]/\Tb H PT /\
 ∀M e H',wt M=some e->(∀q f,wt q=some f->e<=f)->AN PT H H'->Tb H' PT->Q (.int M) H'
def UK (PT:Addr):Sp:=fun vs H Q _=>∃wa n ts s,vs=[.ref wa,.int s]/\Af H wa n ts/\0<=s/\s<n/\Tb H PT /\
 ∀l kn H',AN PT H H'->Tb H' PT->H' l=some (.tup (kn.map oV))->GX ts n s kn->Q (.ref l) H'
theorem Af.smT (h:Af H wa n ts)(k:AN PT H H'):Af H' wa n ts:=h.keepT fun b ys e=>by
 rcases k b _ e with ⟨_,ps,z⟩ | z
 . cases z
 . exact z
theorem Kr:AW JS JS (defScope OM):=AY
theorem dC (F:Ct K "nearest" "nearest" OM f gA c) (C:PySem.W.CodeHd base c PT)(g6:Co mg base)(gH:mg "min"=none) (gB:mg "sorted"=none):AH P w K mg base AL 3 f gA JS (Xb PT):=by
 refine F.ok Kr (fun vs H Q E h=>?_) (fun A outer s H vs Q E hr h=>?_)
 . obtain⟨d,n,fu,wt,rfl,_⟩:=h;rfl
 . obtain⟨d,n,fu,wt,rfl,hd,W,hn0,hn,gL,T,k⟩:=h;refine⟨_,zh (AQ (UW (k:=0) (P:=PT) (c:=c) (pn := "place") (cn:=JS) (ci:=[0]) rfl hr rfl gH (zD (Aj (aN rfl) gB (zD (pv 0) zO)) zO) rfl C g6 (An rfl rfl) rfl rfl rfl ⟨rfl,rfl,rfl,trivial⟩ rfl rfl (fun _ _ _ _ _ _ _=>rfl)
    (fun f' cd' s3 H3 hr3=>Tn (Fy hr3) (pv 1) (pv 0) (fun _ _=>rfl)))),?_⟩
   have hl:=W.len hn0;refine⟨_,rfl,d,fu,Gk fu,rfl,hd,W.keys,by unfold Gk;rw[zB];lia,fun l ms gm hp _=>?_⟩;have mem:∀x,x∈ms->∃e,wt x=some e:=fun x hx=>W.mem.mp (hp.mem_iff.mp hx);have sl:=zL (o:=.lst (ms.map V.int)) gm;refine⟨l,ms,fun x=>(wt x).getD 0,[.ref d],rfl,zK,fun e=>?_,rfl,T.same sl,fun H2 sm T2=>⟨fun x hx H3 s3=>?_,fun M b H4 B s4=>?_⟩⟩
   . subst e;have:=hp.length_eq;unfold Gk at this;rw[zB] at this;exact gL (List.eq_nil_of_length_eq_zero this.symm)
   . obtain⟨e,he⟩:=mem x hx;have hv:Ao fu (Sum.inl x)=some (.int ((wt x).getD 0)):=by rw[W.at_ x,he];rfl
     exact⟨_,rfl,_,rfl,d,_,rfl,hv ▸ Cg.k (k:=Sum.inl x) (s3 _ _ (sm.get (sl _ _ hd) (by intro ps z;cases z))),rfl,AF.refl _⟩
   . obtain⟨b1,_,b3⟩:=B;obtain⟨e,he⟩:=mem M (zP b1);refine k M e H4 he (fun q f hq=>?_) (((AN.of (P:=PT) sl).trans sm).trans (AN.of s4)) (T2.same s4);obtain⟨i,hi,ei⟩:=zp (hp.mem_iff.mpr (W.mem.mpr ⟨f,hq⟩));have:=(b3 i q hi (by rw[zC hi,ei])).1;simp only[he,hq,Option.getD_some] at this;exact this
theorem Jt:AW ["web","start","known","waiting","place","other","long","far"] QL (defScope OK):=AY
theorem aK {kn:List (Option Int)}:(kn.map oV).set j (oV o)=(kn.set j o).map oV:=by rw[List.map_set]
theorem Gs :decide (oV o=V.non)=o.isNone:=by
 cases o with
 | none=>rfl
 | some d=>exact zT (by intro e;cases e)
theorem dk {fT:Addr}(F:Fu K "lengths_from" OK f gA) (FN:Ct K "nearest" "nearest" OM fN fdN c) (bN:CU K fdN JS []) (mN:mg "nearest"=some (.ref fN)) (FT:AD K mg "ties_at" G1 fT jI DC)
 (C:PySem.W.CodeHd base c PT)(g6:Co mg base)(gH:mg "min"=none) (gB:mg "sorted"=none) (fw:mg "tuple"=none):AH P w K mg base AL 4 f gA QL (UK PT):=by
 have GN:AH P w K mg base AL 3 fN fdN JS (Xb PT):=dC FN C g6 gH gB;have GT:AJ P w base 3 FT RP:=(UN FT.F gB).mono;refine F.okD Jt fun _ A _ _ H vs Q E hr h=>?_;obtain⟨wa,n,ts,st,rfl,W,hs0,jh,T,k⟩:=h;obtain⟨ta,tys,gF,_,_,G⟩:=id W;have hu:=Fy hr;have iI:=G.n1;have gQ:=G.n24;refine⟨_,zW (Ak (i:=2) Jt.nd (Ac Vb (DR (zD BK zO)) (AK AX (pv 0) zm)))
  (zW (Ak (i:=3) Jt.nd (Zn (aE (pv 1) zm aw) rfl rfl (by decide) (by decide)))
  (zW (Nb PassesOwn.never (UB (pv 3) (fun _=>rfl))
   (zW (Ak (i:=4) Jt.nd (Eg GN hr rfl mN FN.kp bN .nil Ei (zD (pv 3) zO)))
   (zW (Mo (ZX (pv 3) (pv 4) ⟨rfl,rfl,rfl,rfl⟩) (N8 (pv 2) (pv 4) Nw))
   (zh (CB (CZ (AI GT hr FT (zD (pv 0) (zD (pv 4) zO)))) (Ml rfl (BF (BN (i:=5) Jt.nd) (BF (BN (i:=6) Jt.nd) E2)))
    (zh (Ap (Ad ID (AK BU (pv 2) (pv 5)) BK (AZ _))
     (zW (Ak (i:=7) Jt.nd (Ac Ci (AK BU (pv 2) (pv 4)) (pv 6)))
     (zh (Rm hu (pv 3) (pv 5) (Aj (eB rfl) gH (zD (pv 7) (zD (ZZ hu (pv 3) (pv 5) (pv 7) ⟨rfl,rfl,rfl,rfl⟩) zO))) rfl))) As)))))))
  (zh (AQ (Bi B9 fw (zD (pv 2) zO)))))),?_⟩
 refine⟨R7,fun l0 jQ=>?_⟩;refine⟨_,rfl,wa,_,_,_,rfl,rfl,AB.of (zL jQ _ _ gF),rfl,l0,n,_,rfl,rfl,zK,by lia,by lia,?_,fun kl jR=>?_⟩
 . have:sizeLine=16777216:=rfl;show 1*n.toNat<=sizeLine
   lia
 have s1:AF H (upd (upd H l0 (.lst [.non])) kl (.lst (List.replicate n.toNat [V.non]).flatten)):=(zL jQ).trans (zL jR);have erep:(List.replicate n.toNat [V.non]).flatten=(List.replicate n.toNat (none:Option Int)).map oV:=by
  generalize n.toNat=m
  induction m with
  | zero=>rfl
  | succ m ih=>rw[GZ,Ew,ih,GZ];rfl
 rw[erep] at s1 ⊢;have hk1:(upd (upd H l0 (.lst [.non])) kl (.lst ((List.replicate n.toNat (none:Option Int)).map oV))) kl=some (.lst ((List.replicate n.toNat (none:Option Int)).map oV)):=zK;generalize hH1:upd (upd H l0 (.lst [.non])) kl (.lst ((List.replicate n.toNat (none:Option Int)).map oV))=H1 at s1 hk1 ⊢;intro wd hwd;refine⟨_,rfl,zK,[(Sum.inl st,.int 0)],rfl,by show 1<=15;decide,?_⟩;have s2:AF H (upd (upd H1 wd (.dK [])) wd (.dK [(Sum.inl st,.int 0)])):=by rw[BQ];exact s1.trans (zL hwd)
 have nkw:kl≠wd:=zn hk1 hwd;rw[show MX [] [((Sum.inl st:AU),V.int 0)]=[((Sum.inl st:AU),V.int 0)] from rfl,BQ];rw[BQ] at s2;refine⟨fun m σ H2=>∃(kn:List (Option Int))(fu:List (AU×V))(wt:Int->Option Int)(v4 v5 v6 v7:Option V),σ=[some (.ref wa),some (.int st),some (.ref kl),some (.ref wd),v4,v5,v6,v7]/\m=n.toNat-CJ kn/\AN PT H H2/\Tb H2 PT/\H2 kl=some (.lst (kn.map oV))/\H2 wd=some (.dK fu)/\WD n fu wt/\Dl ts n st kn wt,
  ⟨_,_,_,_,_,_,_,_,rfl,rfl,AN.of (P:=PT) s2,T.same s2,by rw[zf nkw];exact hk1,zK,WD.one hs0 jh,Dl.start G hs0 jh⟩,?_⟩
 rintro m σ H2 ⟨kn,fu,wt,v4,v5,v6,v7,rfl,rfl,sm,T2,hk2,hw2,WW,D⟩;cases hkb:fu.isEmpty with
 | true=>
  refine⟨_,rfl,false,.inr (.inr ⟨fu,hw2,by rw[hkb];rfl⟩),?_⟩;refine Am ?_;have gq:fu=[]:=List.isEmpty_iff.mp hkb;have hnone:∀q,wt q=none:=fun q=>by
   cases e:wt q with
   | none=>rfl
   | some d=>have:=WW.mem.mpr ⟨d,e⟩;rw[gq] at this;simp[Gk] at this
  refine⟨_,rfl,kl,_,rfl,.inl ⟨AE.of hk2,fun q hq=>?_⟩⟩;exact k q kn _ (sm.trans (AN.of (P:=PT) (zL hq))) (T2.same (zL hq)) zK (D.done G hnone)
 | false=>
  refine⟨_,rfl,true,.inr (.inr ⟨fu,hw2,by rw[hkb];rfl⟩),?_⟩;refine Aw ?_;have gL:fu≠[]:=by intro e;rw[e] at hkb;cases hkb
  refine⟨fun σ' H'=>∃(kn':List (Option Int))(gk:List (AU×V))(iP:Int->Option Int)(v4 v5 v6 v7:Option V),σ'=[some (.ref wa),some (.int st),some (.ref kl),some (.ref wd),v4,v5,v6,v7]/\CJ kn'=CJ kn+1/\AN PT H H'/\Tb H' PT/\H' kl=some (.lst (kn'.map oV))/\H' wd=some (.dK gk)/\WD n gk iP/\Dl ts n st kn' iP,?_,?_⟩
  . rintro σ' H' ⟨kn',gk,iP,v4',v5',v6',v7',rfl,hc,sm',T',iS,hw',WW',D'⟩;have h1:=SW kn';have h2:=D'.ln;exact⟨n.toNat-CJ kn',by lia,kn',gk,iP,v4',v5',v6',v7',rfl,rfl,sm',T',iS,hw',WW',D'⟩
  refine⟨_,rfl,wd,n,fu,wt,rfl,hw2,WW,by lia,gQ,gL,T2,fun M e H3 hM gf gy T3=>?_⟩;have hk3:H3 kl=some (.lst (kn.map oV)):=gy.get hk2 (by intro ps z;cases z);have hw3:H3 wd=some (.dK fu):=gy.get hw2 (by intro ps z;cases z);obtain⟨hknM,hM0,hM1,hcnt,N0⟩:=D.enter G hM gf;have iq:Ao fu (Sum.inl M)=some (.int e):=by rw[WW.at_ M,hM];rfl
  refine⟨_,rfl,wd,rfl,.inl ⟨fu,.inl hw3⟩,_,rfl,fu,Sum.inl M,_,hw3,rfl,iq,?_⟩;have hlk:(kn.map oV).length=n.toNat:=by rw[zB];exact D.ln
  have hk3':(upd H3 wd (.dK (BY fu (Sum.inl M)))) kl=some (.lst (kn.map oV)):=by rw[zf nkw];exact hk3
  refine⟨_,rfl,_,rfl,kl,_,M,M.toNat,rfl,rfl,hk3',Vk hM0 (by rw[hlk];lia),?_⟩;rw[show V.int e=oV (some e) from rfl,aK];have sm4:AN PT H (upd (upd H3 wd (.dK (BY fu (Sum.inl M)))) kl (.lst ((kn.set M.toNat (some e)).map oV))):=by
   intro b o hb;rcases (sm.trans gy) b o hb with z | z
   . exact .inl z
   . right;have n1:b≠wd:=fun q=>by
      have hbn:H b=none:=by
       rw[q];cases e':H wd with
       | none=>rfl
       | some o'=>have:=s1 wd o' e';rw[hwd] at this;cases this
      rw[hbn] at hb;cases hb
     have n2:b≠kl:=fun q=>by
      have hbn:H b=none:=by
       rw[q];cases e':H kl with
       | none=>rfl
       | some o'=>have:=zL (o:=.lst [.non]) jQ kl o' e';rw[jR] at this;cases this
      rw[hbn] at hb;cases hb
     rw[zf n2,zf n1];exact z
  have T4:Tb (upd (upd H3 wd (.dK (BY fu (Sum.inl M)))) kl (.lst ((kn.set M.toNat (some e)).map oV))) PT:=by
   refine T3.keep (fun o ho=>?_) fun c φ hc=>?_
   . obtain⟨ps,i5,_⟩:=T3;have e1:=ho;rw[i5] at e1;cases e1;rw[zf (Ar ho hk3 (by intro z;cases z)),zf (Ar ho hw3 (by intro z;cases z))];exact ho
   . rw[zf (Ar hc hk3 (by intro z;cases z)),zf (Ar hc hw3 (by intro z;cases z))];exact hc
  have hk4:(upd (upd H3 wd (.dK (BY fu (Sum.inl M)))) kl (.lst ((kn.set M.toNat (some e)).map oV))) kl=some (.lst ((kn.set M.toNat (some e)).map oV)):=zK;have hw4:(upd (upd H3 wd (.dK (BY fu (Sum.inl M)))) kl (.lst ((kn.set M.toNat (some e)).map oV))) wd=some (.dK (BY fu (Sum.inl M))):=by rw[zf nkw.symm,zK]
  generalize upd (upd H3 wd (.dK (BY fu (Sum.inl M)))) kl (.lst ((kn.set M.toNat (some e)).map oV))=H4 at sm4 T4 hk4 hw4 ⊢;refine⟨_,rfl,_,rfl,wa,n,ts,M,rfl,W.smT sm4,fun l zs ms H5 s5 hl5 hl5' T5 hp _=>?_⟩;have hlz:=T5.length;refine⟨l,rfl,⟨_,AE.of hl5'⟩,TH (K:=K) (a:=l) (xs:=zs) (fun i σ H6=>ZF fun (gk:List (AU×V))(iP:Int->Option Int)(v5 v6 v7:Option V)=>σ=[some (.ref wa),some (.int st),some (.ref kl),some (.ref wd),some (.int M),v5,v6,v7]/\(∀b o,b≠wd->H5 b=some o->H6 b=some o)/\H6 wd=some (.dK gk)/\WD n gk iP/\Dn ts n st M e (kn.set M.toNat (some e)) iP (fun r=>∃j k,j<i/\ms[j]?=some k/\hd k=r))
   ⟨_,_,_,_,_,rfl,fun _ _ _ z=>z,s5 _ _ hw4,WW.drop,⟨⟨N0.dm.kd,N0.dm.wk,N0.dm.ord,fun q e' r l' hq ha=>(N0.dm.nb q e' r l' hq ha).imp (fun z=>⟨z.1,fun ⟨j,_,hj,_⟩=>absurd hj (HC _)⟩) id,N0.dm.st,N0.dm.pd,N0.dm.mx⟩,N0.ln,N0.bk,N0.bd,N0.bw⟩⟩
   (fun i σ H6 _ ⟨_,_,_,_,_,_,s6,_⟩=>AE.of (s6 l _ (Ar hl5' (s5 _ _ hw4) (by intro z;cases z)) hl5')) ?turn ?after⟩
  case after=>
   rintro σ H6 ⟨gk,iP,v5,v6,v7,rfl,s6,hw6,WW6,N6⟩;have hk5:H5 kl=some (.lst ((kn.set M.toNat (some e)).map oV)):=s5 _ _ hk4;refine⟨_,gk,iP,_,_,_,_,rfl,hcnt,?_,?_,s6 kl _ nkw hk5,hw6,WW6,N6.leave fun r c ha=>?_⟩
   . intro b o hb;rcases (sm4.trans (AN.of (P:=PT) s5)) b o hb with z | z
     . exact .inl z
     . right;refine s6 b o (fun q=>?_) z;have hbn:H b=none:=by
        rw[q];cases e':H wd with
        | none=>rfl
        | some o'=>have:=s1 wd o' e';rw[hwd] at this;cases this
       rw[hbn] at hb;cases hb
   . refine (T4.same s5).keep (fun o ho=>?_) fun c φ hc=>?_
     . obtain⟨ps,i5,_⟩:=T4.same s5;refine s6 PT o (fun q=>?_) ho;rw[q,s5 _ _ hw4] at i5;cases i5
     . refine s6 c _ (fun q=>?_) hc;rw[q,s5 _ _ hw4] at hc;cases hc
   . have hm:[r,c]∈ms:=hp.mem_iff.mpr (Fv.mpr ⟨r,c,rfl,ha⟩);obtain⟨j,hj,ej⟩:=zp hm;exact⟨j,[r,c],by lia,by rw[zC hj,ej],rfl⟩
  case turn=>
   rintro i y σ H6 hi ⟨gk,iP,v5,v6,v7,rfl,s6,hw6,WW6,N6⟩;obtain⟨ya,ky,rfl,iN,iZ,_⟩:=T5.get hi;obtain⟨r,c,rfl,ha⟩:=Fv.mp (hp.mem_iff.mp (zP iN));have gp:=G.adj ha;have hk6:H6 kl=some (.lst ((kn.set M.toNat (some e)).map oV)):=s6 kl _ nkw (s5 _ _ hk4);have hln:(kn.set M.toNat (some e)).length=n.toNat:=N6.ln;have seen_of:∀{x:Int},(x=r\/∃j k,j<i/\ms[j]?=some k/\hd k=x)->∃j k,j<i+1/\ms[j]?=some k/\hd k=x:=fun {x} z=>by
    rcases z with rfl | ⟨j,k',hj,iS,e'⟩
    . exact⟨i,[x,c],Nat.lt_succ_self _,iN,rfl⟩
    . exact⟨j,k',Dp hj,iS,e'⟩
   have sub:∀{x:Int},(∃j k,j<i+1/\ms[j]?=some k/\hd k=x)->(∃j k,j<i/\ms[j]?=some k/\hd k=x)\/x=r:=fun {x} ⟨j,k',hj,iS,e'⟩=>by
    by_cases hji:j<i
    . exact .inl ⟨j,k',hji,iS,e'⟩
    . have:j=i:=by lia
      subst this;rw[iN] at iS;cases iS;exact .inr e'.symm
   have conv:∀{wt2:Int->Option Int},Dn ts n st M e (kn.set M.toNat (some e)) wt2 (fun x=>(∃j k,j<i/\ms[j]?=some k/\hd k=x)\/x=r)->Dn ts n st M e (kn.set M.toNat (some e)) wt2 (fun x=>∃j k,j<i+1/\ms[j]?=some k/\hd k=x):=fun {wt2} N=>
    ⟨⟨N.dm.kd,N.dm.wk,N.dm.ord,fun q e' r' l' hq ha'=>(N.dm.nb q e' r' l' hq ha').imp (fun z=>⟨z.1,fun y=>z.2 (sub y)⟩) id,N.dm.st,N.dm.pd,N.dm.mx⟩,N.ln,N.bk,N.bd,N.bw⟩
   refine⟨ya,_,rfl,AB.of (s6 _ _ (Ar iZ (s5 _ _ hw4) (by intro z;cases z)) iZ),rfl,_,_,rfl,_,_,rfl,rfl,?_⟩;obtain⟨o,ho⟩:∃o,(kn.set M.toNat (some e))[r.toNat]?=some o:=⟨_,zC (by lia)⟩;have hfnl:AV (kn.set M.toNat (some e)) r=o:=by unfold AV;rw[if_pos gp.2.2.1,zF,ho];rfl
   refine⟨_,rfl,_,rfl,kl,_,_,oV o,rfl,rfl,AE.of hk6,BB gp.2.2.1 (by rw[zM,ho];rfl),rfl,_,rfl,?_⟩;rw[Gs];cases o with
   | some f0=>refine Am ?_;exact⟨gk,iP,_,_,_,rfl,s6,hw6,WW6,conv (N6.skip hfnl)⟩
   | none=>
    refine Aw ?_;have hkM:(kn.set M.toNat (some e))[M.toNat]?=some (some e):=by rw[List.getElem?_set_self (by have:=D.ln;lia)]
    refine⟨_,rfl,_,rfl,kl,_,_,oV (some e),rfl,rfl,AE.of hk6,BB hM0 (by rw[zM,hkM];rfl),_,rfl,_,_,rfl,rfl,?_⟩;refine⟨_,rfl,_,rfl,wd,rfl,.inl ⟨gk,.inl hw6⟩,_,rfl,_,rfl,_,Cg.k (k:=Sum.inl r) hw6,?_⟩;have hg:((Ao gk (Sum.inl r)).getD (V.int (e+c)))=V.int ((iP r).getD (e+c)):=by rw[WW6.at_ r];cases iP r <;> rfl
    rw[hg];refine⟨_,_,rfl,?_⟩;have hwl:=WW6.len (by lia);refine⟨_,rfl,_,rfl,wd,_,rfl,HA.k (k:=Sum.inl r) hw6 (zr (by lia)),?_⟩;exact⟨_,_,_,_,_,rfl,fun b o' hb z=>by rw[zf hb];exact s6 b o' hb z,zK,WW6.put gp.2.2.1 gp.2.2.2.1,conv (N6.wait G ha hfnl)⟩
def Sw:Sp:=fun vs H Q _=>∃lh lt,∃(n:Int),∃ts,∃(x y:Int),∃i3 kn2,vs=[.ref lh,.ref lt,.int y]/\GW n ts/\0<=x/\x<n/\0<=y/\y<n/\H lh=some (.tup (i3.map oV))/\H lt=some (.tup (kn2.map oV))/\GX ts n x i3/\GX ts n y kn2 /\
 ∀l(xs:List Int)H',AF H H'->H' l=some (.tup (xs.map V.int))->xs.Pairwise (· < ·)->(∀p,p∈xs↔A8 ts x y p)->Q (.ref l) H'
def Iv:Sp:=fun vs H Q _=>∃wa lt,∃(n:Int),∃ts,∃(x y:Int),∃kn,vs=[.ref wa,.int x,.ref lt]/\Af H wa n ts/\0<=x/\x<n/\0<=y/\y<n/\H lt=some (.tup (kn.map oV))/\GX ts n y kn /\
 ∀l(xs:List Int)H',AF H H'->H' l=some (.tup (xs.map V.int))->xs.Pairwise (· < ·)->(∀p,p∈xs↔ER ts x y p)->Q (.ref l) H'
theorem Fw (h:GX ts n s kn)(h0:0<=y)(h1:y<n):(kn.map oV)[y.toNat]?=some (oV (AV kn y)):=by
 have hl:=h.ln;have gD:y.toNat<kn.length:=by lia
 rw[zM,zC gD];unfold AV;rw[if_pos h0,zF,zC gD];rfl
theorem SQ (q):lowTo (q+1)=lowTo q++[(q:Int)]:=by unfold lowTo;rw[List.range_succ,zQ];rfl
theorem CA (q):(lowTo q).length=q:=by unfold lowTo;rw[zB,Bv]
theorem JI:AW ["here","there","other","reached"] Lm (defScope ES):=AY
theorem XR (F:Fu K "between_rows" ES f gA) (f7:mg "range"=none) (fw:mg "tuple"=none) (f9:mg "len"=none):AH P w K mg base AL 1 f gA Lm Sw:=by
 refine F.ok JI (fun vs H Q E h=>?_) (fun gP A outer s H2 vs Q E hr h=>?_)
 . obtain⟨lh,lt,n,ts,x,y,i3,kn2,rfl,_⟩:=h;rfl
 . obtain⟨lh,lt,n,ts,x,y,i3,kn2,rfl,G,jt,hx1,hy0,hy1,hh2,gS,L1,L2,k⟩:=h;have gQ:=G.n24;have hln:=L1.ln;refine⟨_,zW (Ap (Ad ID (AK AX (pv 0) (pv 2)) BK (AZ _)) (zh (AQ (Ba zO))) As)
    (zW (IE (i:=3) (own:=CK) (cn:=["here"]) (ci:=[0]) JI.nd rfl (Or.inl rfl) rfl (An rfl rfl) ⟨rfl,rfl,rfl,trivial⟩ rfl
     (CT rfl f7 (zD (Aj Bz f9 (zD (pv 0) zO)) zO)) (fun _ _ _ _=>Aq)
     (fun _ _ _ _=>Cn (Ad JZ (AK Bg (pv 1) (pv 0)) BK (AZ _))) (fun _ _ _ _=>pv 0))
    (zh (AQ (Bi B9 fw (zD
     (A0 (own:=CK) (cn:=Lm) (ci:=[0,1,2]) rfl (An rfl rfl) ⟨rfl,rfl,rfl,rfl,rfl,rfl,rfl,rfl,rfl,trivial⟩ rfl
      (CZ (pv 3)) (fun _ _ _ _=>Aq)
      (fun _ _ _ _=>Cn (Ad CN (Ac Ci (AK Bg (pv 1) (pv 0)) (AK Bg (pv 2) (pv 0))) (AK Bg (pv 1) (pv 3)) (AZ _)))
      (fun _ _ _ _=>pv 0)) zO))))),?_⟩
   have hy:=L1.len y hy0 hy1;refine⟨_,rfl,_,rfl,lh,_,_,oV (AV i3 y),rfl,rfl,AB.of hh2,BB hy0 (Fw L1 hy0 hy1),rfl,_,rfl,?_⟩;rw[Gs];cases hd:AV i3 y with
   | none=>refine Aw ?_;rw[hd] at hy;refine⟨zg _,fun l hl=>k l [] _ (zL hl) zK Ju fun p=>⟨fun z=>by simp at z,fun ⟨a,b,_,_,z⟩=>absurd z.1 (hy _)⟩⟩
   | some d=>
    refine Am ?_;rw[hd] at hy;have hyD:WM.IsD ts x y d:=hy;refine⟨_,rfl,lh,_,rfl,.inr (AB.of hh2),n,by rw[zB,hln];exact congrArg (fun z=>[V.int z]) (Ja (by lia)),by lia,by lia,[.ref lh],rfl,fun D hD=>?_⟩;refine Dv (lo:=0) (n:=n.toNat) (fun q ys H3=>q<=n.toNat/\ys=((lowTo q).filter fun o=>(AV i3 o).isSome).map V.int/\AF H2 H3/\H3 D=some (.lst ys)) ⟨zg _,rfl,zL hD,zK⟩ (fun q ys H3 h=>?_) (fun q ys H3 hq h=>?_) (fun ys H3 h=>?_)
    . obtain⟨hq,rfl,_⟩:=h;rw[zB];refine Cv (CH _ _) (zr ?_);rw[CA];lia
    . obtain⟨_,rfl,s3,iD⟩:=h;rw[Ca];refine⟨⟨rfl,rfl⟩,?_⟩;refine⟨_,rfl,_,rfl,lh,_,_,oV (AV i3 q),rfl,rfl,AB.of (s3 _ _ hh2),BB (by lia) (Fw L1 (by lia) (by lia)),rfl,_,rfl,?_⟩;rw[Gs];cases e:AV i3 q with
      | none=>refine Am ?_;refine⟨hq,?_,s3,iD⟩;rw[SQ,Ga,Gu (by rw[e];decide),Du,BR]
      | some a=>refine Aw ?_;refine⟨_,rfl,iD,hq,?_,BM s3 hD,zK⟩;rw[SQ,Ga,Hl (by rw[e];rfl),Du,zQ];rfl
    . obtain⟨_,rfl,s3,iD⟩:=h;generalize hR:((lowTo n.toNat).filter fun o=>(AV i3 o).isSome)=R at iD ⊢;have hRm:∀p,p∈R↔(0<=p/\p<n)/\∃a,AV i3 p=some a:=fun p=>by
       rw[<-hR,Bf,Cs,Ni];constructor
       . rintro ⟨z1,z2⟩;exact⟨by lia,z2⟩
       . rintro ⟨z1,z2⟩;exact⟨by lia,z2⟩
      have hRr:R.Pairwise (· < ·):=by rw[<-hR];exact (J5 _).sublist List.filter_sublist
      have hRl:R.length<=24:=by rw[<-hR];exact Cq (CH _ _) (by rw[CA];lia)
      have both:∀p,p∈R->∃a b,AV i3 p=some a/\AV kn2 p=some b/\WM.IsD ts x p a/\WM.IsD ts p y b:=fun p hp=>by obtain⟨⟨h0,h1⟩,a,ha⟩:=(hRm p).mp hp;have l1:=L1.len p h0 h1;rw[ha] at l1;obtain⟨b,hb,_⟩:=A6.via (show WM.IsD ts x p a from l1) hyD (A6.symm (L2.len p h0 h1));have l2:=L2.len p h0 h1;rw[hb] at l2;exact⟨a,b,ha,hb,l1,WM.IsD.symm l2⟩
      refine⟨_,rfl,D,rfl,⟨_,AE.of iD⟩,[.ref lh,.ref lt,.int y],rfl,fun D2 gj=>?_⟩;have nDD:D≠D2:=zn iD gj;refine DM (a:=D) (xs:=R.map V.int) (fun i ys H4=>ys=((R.take i).filter fun p=>decide ((AV i3 p).getD 0+(AV kn2 p).getD 0=d)).map V.int/\AF H3 H4/\H4 D2=some (.lst ys)) ⟨rfl,zL gj,zK⟩ (fun i ys H4 h=>?_) (fun i ys H4 h=>?_) (fun i v ys H4 hv h=>?_) (fun ys H4 h=>?_)
      . obtain⟨_,s4,_⟩:=h;exact AE.of (s4 _ _ iD)
      . obtain⟨rfl,_⟩:=h;rw[zB];refine Cv (CH _ _) (zr ?_);rw[zt];lia
      . obtain⟨rfl,s4,gV⟩:=h;obtain⟨p,hp,rfl⟩:∃p,R[i]?=some p/\V.int p=v:=by
         rw[zM] at hv;cases e:R[i]? with
         | none=>rw[e] at hv;cases hv
         | some p=>rw[e] at hv;exact⟨p,rfl,zV hv⟩
        have hpR:=zP hp;obtain⟨⟨h0,h1⟩,_⟩:=(hRm p).mp hpR;obtain⟨a,b,ha,hb,_,_⟩:=both p hpR;have hlh4:H4 lh=some (.tup (i3.map oV)):=s4 _ _ (s3 _ _ hh2);have hlt4:H4 lt=some (.tup (kn2.map oV)):=s4 _ _ (s3 _ _ gS);refine⟨⟨rfl,rfl⟩,?_⟩;refine⟨_,rfl,_,rfl,lh,_,_,.int a,rfl,rfl,AB.of hlh4,BB h0 (by rw[Fw L1 h0 h1,ha];rfl),?_⟩;refine⟨_,rfl,_,rfl,lt,_,_,.int b,rfl,rfl,AB.of hlt4,BB h0 (by rw[Fw L2 h0 h1,hb];rfl),_,_,rfl,rfl,?_⟩;refine⟨_,rfl,_,rfl,lh,_,_,.int d,rfl,rfl,AB.of hlh4,BB hy0 (by rw[Fw L1 hy0 hy1,hd];rfl),rfl,_,rfl,?_⟩;rw[Hh];have kD:(R.take (i+1)).filter (fun p=>decide ((AV i3 p).getD 0+(AV kn2 p).getD 0=d))=(R.take i).filter (fun p=>decide ((AV i3 p).getD 0+(AV kn2 p).getD 0=d))++(if a+b=d then [p] else []):=by
         rw[zy,hp,Ga];show _++List.filter _ [p]=_;rw[Et,ha,hb];by_cases c:a+b=d
         . rw[if_pos (by simpa using c),if_pos c];rfl
         . rw[if_neg (by simpa using c),if_neg c];rfl
        refine CF (fun c=>?_) (fun c=>?_)
        . have c':=of_decide_eq_true c;refine⟨_,rfl,gV,?_,BM s4 gj,zK⟩;rw[kD,if_pos c',zQ];rfl
        . have c':¬ a+b=d:=fun z=>c (zR z);refine⟨?_,s4,gV⟩;rw[kD,if_neg c',BR]
      . obtain⟨rfl,s4,gV⟩:=h;rw[zB,zY (zI _)] at gV;refine⟨D2,_,rfl,.inl ⟨AE.of gV,fun q hq=>?_⟩⟩;refine k q _ _ ((s3.trans s4).trans (zL hq)) zK (hRr.sublist List.filter_sublist) fun p=>?_;rw[Bf];constructor
        . rintro ⟨hp,c⟩;obtain⟨a,b,ha,hb,ia,ib⟩:=both p hp;have c':=of_decide_eq_true c;rw[ha,hb] at c';exact⟨a,b,ia,ib,by rw[show a+b=d from c'];exact hyD⟩
        . rintro ⟨a,b,ia,ib,iab⟩;have hp:=ia.1.in_ G jt hx1;have l1:=A6.uniq (L1.len p hp.1 hp.2) (show A6 ts x p (some a) from ia);have l2:=A6.uniq (L2.len p hp.1 hp.2) (show A6 ts y p (some b) from WM.IsD.symm ib);refine⟨(hRm p).mpr ⟨hp,a,l1⟩,zR ?_⟩;rw[l1,l2];exact WM.IsD.uniq iab hyD
theorem PF:AW M3 M3 (defScope Fj):=AY
noncomputable def MQ (k:List Int):Int:=k.getD 1 0
theorem LD {fT:Addr}(F:Fu K "next_by_row" Fj f gA)
 (FT:AD K mg "ties_at" G1 fT jI DC) (gB:mg "sorted"=none) (fw:mg "tuple"=none):AH P w K mg base AL 3 f gA M3 Iv:=by
 have GT:AJ P w base 2 FT RP:=(UN FT.F gB).mono;refine F.ok PF (fun vs H Q E h=>?_) (fun gP A outer s H1 vs Q E hr h=>?_)
 . obtain⟨wa,lt,n,ts,x,y,kn,rfl,_⟩:=h;rfl
 . obtain⟨wa,lt,n,ts,x,y,kn,rfl,W,jt,hx1,hy0,hy1,hW,L,k⟩:=h;obtain⟨ta,tys,gF,_,_,G⟩:=id W;refine⟨_,zW (Ap (Ad ID (AK AX (pv 2) (pv 1)) BK (AZ _)) (zh (AQ (Ba zO))) As)
    (zh (AQ (Bi B9 fw (zD
     (A0 (own:=["place","long"]) (cn:=["there","one"]) (ci:=[2,1]) rfl (An rfl rfl) ⟨rfl,rfl,rfl,rfl,rfl,rfl,trivial⟩ rfl
      (CZ (AI GT hr FT (zD (pv 0) (zD (pv 1) zO))))
      (fun _ _ _ _=>Mn (n:=2) rfl (BF (Aq) (BF (DZ (i:=1) (Ex rfl) rfl (Or.inl rfl)) E2)))
      (fun _ _ _ _=>Cn (Ad CN (Ac Ci (pv 1) (AK Bg (pv 2) (pv 0))) (AK Bg (pv 2) (pv 3)) (AZ _)))
      (fun _ _ _ _=>pv 0)) zO)))),?_⟩
   have hx:=L.len x jt hx1;refine⟨_,rfl,_,rfl,lt,_,_,oV (AV kn x),rfl,rfl,AB.of hW,BB jt (Fw L jt hx1),rfl,_,rfl,?_⟩;rw[Gs];cases hd:AV kn x with
   | none=>refine Aw ?_;rw[hd] at hx;refine⟨zg _,fun l hl=>k l [] _ (zL hl) zK Ju fun p=>⟨fun z=>by simp at z,fun ⟨a,b,_,_,z⟩=>absurd z.1.symm (hx _)⟩⟩
   | some d=>
    refine Am ?_;rw[hd] at hx;have hxD:WM.IsD ts x y d:=WM.IsD.symm hx;refine⟨_,rfl,_,rfl,wa,n,ts,x,rfl,W,fun l zs ms H2 s2 jQ gS TT hp jZ=>?_⟩;have hlz:=TT.length;have hlt2:H2 lt=some (.tup (kn.map oV)):=s2 _ _ hW;have hlm:ms.length<64:=by have e2:=Nf (n:=n) x (ts:=ts) fun t ht=>(G.rng t ht).2.1;have:=G.len;rw[hp.length_eq];lia
    have near:∀k,k∈ms->∃z c b,k=[z,c]/\Ah ts x z c/\AV kn z=some b/\WM.IsD ts z y b:=fun k hk=>by
     obtain⟨z,c,e,ha⟩:=Fv.mp (hp.mem_iff.mp hk);have gp:=G.adj ha;have lz:=L.len z gp.2.2.1 gp.2.2.2.1;cases hz:AV kn z with
     | none=>rw[hz] at lz;exact absurd (hx.1.snoc ha) (lz _)
     | some b=>rw[hz] at lz;exact⟨z,c,b,e,ha,hz,WM.IsD.symm lz⟩
    refine⟨l,rfl,⟨_,AE.of gS⟩,[.ref lt,.int x],rfl,fun D hD=>?_⟩;have nlD:l≠D:=zn gS hD;refine DM (a:=l) (xs:=zs) (fun i ys H3=>ys=(((ms.take i).filter fun k=>decide (MQ k+(AV kn (WM.hd k)).getD 0=d)).map WM.hd).map V.int/\H3=upd H2 D (.lst ys)) ⟨rfl,rfl⟩ (fun i ys H3 h=>?_) (fun i ys H3 h=>?_) (fun i v ys H3 hv h=>?_) (fun ys H3 h=>?_)
    . obtain⟨_,rfl⟩:=h;exact AE.of (by rw[zf nlD];exact gS)
    . obtain⟨rfl,_⟩:=h;rw[zB,zB];refine Cv (CH _ _) (zr ?_);rw[zt];lia
    . obtain⟨rfl,rfl⟩:=h;obtain⟨ya,ky,rfl,iN,iZ,_⟩:=TT.get hv;obtain⟨z,c,b,rfl,ha,hb,ib⟩:=near ky (zP iN);have gp:=G.adj ha;refine⟨ya,_,rfl,AB.of (by rw[zf (zn iZ hD)];exact iZ),rfl,_,_,rfl,_,_,rfl,rfl,⟨rfl,rfl⟩,?_⟩;have hltD:(upd H2 D (.lst ((((ms.take i).filter fun k=>decide (MQ k+(AV kn (WM.hd k)).getD 0=d)).map WM.hd).map V.int))) lt=some (.tup (kn.map oV)):=by rw[zf (zn hlt2 hD)];exact hlt2
      refine⟨_,rfl,_,rfl,_,rfl,lt,_,_,.int b,rfl,rfl,AB.of hltD,BB gp.2.2.1 (by rw[Fw L gp.2.2.1 gp.2.2.2.1,hb];rfl),_,_,rfl,rfl,?_⟩;refine⟨_,rfl,_,rfl,lt,_,_,.int d,rfl,rfl,AB.of hltD,BB jt (by rw[Fw L jt hx1,hd];rfl),rfl,_,rfl,?_⟩;rw[Hh];have kD:(ms.take (i+1)).filter (fun k=>decide (MQ k+(AV kn (WM.hd k)).getD 0=d))=(ms.take i).filter (fun k=>decide (MQ k+(AV kn (WM.hd k)).getD 0=d))++(if c+b=d then [[z,c]] else []):=by
       rw[zy,iN,Ga];show _++List.filter _ [[z,c]]=_;rw[Et];have e1:decide (MQ [z,c]+(AV kn (WM.hd [z,c])).getD 0=d)=decide (c+b=d):=by show decide (c+(AV kn z).getD 0=d)=_;rw[hb];rfl
       rw[e1];by_cases cc:c+b=d
       . rw[if_pos (by simpa using cc),if_pos cc];rfl
       . rw[if_neg (by simpa using cc),if_neg cc];rfl
      refine CF (fun cc=>?_) (fun cc=>?_)
      . have c':=of_decide_eq_true cc;refine⟨_,rfl,zK,?_,BQ⟩;rw[kD,if_pos c',zQ,zQ];rfl
      . have c':¬ c+b=d:=fun q=>cc (zR q);refine⟨?_,rfl⟩;rw[kD,if_neg c',BR]
    . obtain⟨rfl,rfl⟩:=h;refine⟨D,_,rfl,.inl ⟨AE.of zK,fun q hq=>?_⟩⟩;rw[hlz,zY (zI _)] at hq ⊢;have s4:=(zL (o:=.lst ((((ms.filter fun k=>decide (MQ k+(AV kn (WM.hd k)).getD 0=d)).map WM.hd).map V.int))) hD).trans (zL (o:=.tup ((((ms.filter fun k=>decide (MQ k+(AV kn (WM.hd k)).getD 0=d)).map WM.hd).map V.int))) hq);have hk:∀k∈ms,∃y l,k=[y,l]:=fun k hk=>by obtain⟨z,c,b,e,_⟩:=near k hk;exact⟨z,c,e⟩
      have h7:=Wg jZ hk ((hp.map WM.hd).nodup_iff.mpr (Wr G x));refine k q _ _ (s2.trans s4) zK (h7.sublist (List.filter_sublist.map _)) fun p=>?_;rw[zq];constructor
      . rintro ⟨k0,j7,rfl⟩;obtain⟨hm,c⟩:=Bf.mp j7;obtain⟨z,c0,b,rfl,ha,hb,ib⟩:=near k0 hm;have c':=of_decide_eq_true c;have c2:c0+b=d:=by have:c0+(AV kn z).getD 0=d:=c';rw[hb] at this;exact this
        exact⟨c0,b,ha,ib,by rw[c2];exact hxD⟩
      . rintro ⟨c0,b,ha,ib,iab⟩;have hm:[p,c0]∈ms:=hp.mem_iff.mpr (Fv.mpr ⟨p,c0,rfl,ha⟩);refine⟨[p,c0],Bf.mpr ⟨hm,zR ?_⟩,rfl⟩;have gp:=G.adj ha;have lp:=A6.uniq (L.len p gp.2.2.1 gp.2.2.2.1) (show A6 ts y p (some b) from WM.IsD.symm ib);show c0+(AV kn p).getD 0=d;rw[lp];exact WM.IsD.uniq iab hxD
def Eb (H:Hp)(rs:List Addr)(M:M6):Prop:=rs.length=M.length/\∀(i:Nat)r row,rs[i]?=some r->M[i]?=some row->H r=some (.tup (row.map oV))
theorem Eb.smT (h:Eb H rs M)(k:AN PT H H'):Eb H' rs M:=⟨h.1,fun i r row a b=>k.get (h.2 i r row a b) (by intro ps z;cases z)⟩
def N3 (PT:Addr):Sp:=fun vs H Q _=>∃wa n ts,vs=[.ref wa]/\Af H wa n ts/\Tb H PT /\
 ∀l rs M H',AN PT H H'->Tb H' PT->H' l=some (.tup (rs.map V.ref))->Eb H' rs M->Rows ts n M->Q (.ref l) H'
theorem LH:AW Ai Ai (defScope Jg):=AY
theorem d4 (F:Fu K "lengths" Jg f gA) (FF:AD K mg "lengths_from" OK fF fdF QL) (GF:AJ P w base 4 FF (UK PT))
 (f7:mg "range"=none) (fw:mg "tuple"=none):AH P w K mg base AL 5 f gA Ai (N3 PT):=by
 refine F.okD LH fun _ A _ _ H vs Q E hr h=>?_;obtain⟨wa,n,ts,rfl,W,T,k⟩:=h;obtain⟨ta,tys,gF,_,_,G⟩:=id W;have gQ:=G.n24;have iI:=G.n1;refine⟨_,zh (AQ (Bi B9 fw (zD
  (A0 (own:=CK) (cn:=Ai) (ci:=[0]) rfl (An rfl rfl) ⟨rfl,rfl,rfl,trivial⟩ rfl
   (CT rfl f7 (zD (AK AX (pv 0) zm) zO)) (fun _ _ _ _=>Aq) (fun _ _ _ _=>BI)
   (fun _ _ _ _=>AI GF hr FF (zD (pv 1) (zD (pv 0) zO)))) zO))),?_⟩
 refine⟨_,rfl,wa,_,_,_,rfl,rfl,AB.of gF,rfl,n,rfl,by lia,by lia,[.ref wa],rfl,fun D hD=>?_⟩;refine Dv (lo:=0) (n:=n.toNat) (fun q ys H1=>q<=n.toNat/\MC fun (rs:List Addr)(M:M6)=>ys=rs.map V.ref/\rs.length=q/\Eb H1 rs M/\(∀x:Nat,x<q->GX ts n x (M.getD x []))/\AN PT H H1/\Tb H1 PT/\H1 D=some (.lst ys))
  ⟨zg _,[],[],rfl,rfl,⟨rfl,fun i r row h=>by simp at h⟩,fun x hx=>absurd hx (HC _),AN.of (P:=PT) (zL hD),T.same (zL hD),zK⟩ (fun q ys H1 h=>?_) (fun q ys H1 hq h=>?_) (fun ys H1 h=>?_)
 . obtain⟨hq,rs,M,rfl,hl,_⟩:=h;rw[zB,hl];exact zr (by lia)
 . obtain⟨_,rs,M,rfl,hl,R,L,sm,T1,jk⟩:=h;rw[Ca];refine⟨⟨rfl,rfl⟩,?_⟩;refine BH ?_;refine⟨_,rfl,_,rfl,wa,n,ts,q,rfl,W.smT sm,by lia,by lia,T1,fun l kn H2 gi T2 gS L2=>?_⟩;have gj:H2 D=some (.lst (rs.map V.ref)):=gi.get jk (by intro ps z;cases z);refine⟨gj,hq,rs++[l],M++[kn],by rw[zQ];rfl,by rw[zJ,hl];rfl,⟨by rw[zJ,zJ,R.1];rfl,fun i r row h1 h2=>?_⟩,fun x hx=>?_,(sm.trans gi).chg hD,T2.chg gj,zK⟩
   . have key:H2 r=some (.tup (row.map oV)):=by
      by_cases hi:i<rs.length
      . rw[zc hi] at h1;rw[zc (by rw[<-R.1];exact hi)] at h2;exact gi.get (R.2 i r row h1 h2) (by intro ps z;cases z)
      . rw[za (by lia)] at h1;rw[za (by rw[<-R.1];lia),<-R.1] at h2;cases hz:i-rs.length with
        | zero=>
         rw[hz] at h1 h2;have e1:l=r:=by simpa using h1
         have e2:kn=row:=by simpa using h2
         subst e1 e2;exact gS
        | succ k=>rw[hz] at h1;simp at h1
     rw[zf (Ar key gj (by intro z;cases z))];exact key
   . by_cases hx':x<q
     . rw[zF,zc (by rw[<-R.1,hl];exact hx'),<-zF];exact L x hx'
     . have e:x=q:=by lia
       subst e;rw[zF,za (by rw[<-R.1,hl];exact zI _),<-R.1,hl];simpa using L2
 . obtain⟨_,rs,M,rfl,hl,R,L,sm,T1,jk⟩:=h;refine⟨D,_,rfl,.inl ⟨AE.of jk,fun q hq=>?_⟩⟩;refine k q rs M _ (sm.trans (AN.of (P:=PT) (zL hq))) (T1.same (zL hq)) zK (R.smT (AN.of (P:=PT) (zL hq))) ⟨by rw[<-R.1,hl],fun x hx hx'=>?_⟩;have:=L x.toNat (by lia);rw[show ((x.toNat:Nat):Int)=x by lia] at this;exact this
def NS:Sp:=fun vs H Q _=>∃i:Int,vs=[.int i]/\Q (.bl true) H
def K4:Sp:=fun vs H Q _=>∃i a b:Int,vs=[.int i,.int a,.int b]/\a<=i/\i<=b/\Q (.bl true) H
def Qn:Sp:=fun vs H Q _=>∃n i:Int,vs=[.int n,.int i]/\0<=i/\i<=n-1/\Q (.bl true) H
def Np:Sp:=fun vs H Q _=>∃p ys,vs=[.ref p,.int ys.length]/\H p=some (.tup ys)/\Q (.bl true) H
structure C0 (n:Int)(os:List Int):Prop where
 ln:os.length=n.toNat
 nd:os.Nodup
 rng:∀p∈os,0<=p/\p<n
def Ro:Sp:=fun vs H Q _=>∃wa p n ts os,vs=[.ref wa,.ref p]/\Af H wa n ts/\H p=some (.tup (os.map V.int))/\C0 n os/\∀H',AF H H'->Q (.bl true) H'
theorem OX:AW BV BV (defScope Eu):=AY
theorem R4 (F:Fu K "is_number" Eu f gA) (gE:mg "isinstance"=none) (gT:mg "int"=none) (gI:mg "bool"=none):AH P w K mg base AL 1 f gA BV NS:=by
 refine F.okD OX fun _ A _ _ H vs Q E hr h=>?_;obtain⟨i,rfl,k⟩:=h;refine⟨_,zh (AQ (EU (Aj Jo gE (zD (pv 0) (zD (J9 (T := "int") gT) zO)))
  (GQ (KH (Aj Jo gE (zD (pv 0) (zD (J9 (T := "bool") gI) zO))))))),?_⟩
 refine⟨_,rfl,_,_,_,true,rfl,.int i,rfl,true,rfl,Aw ?_⟩;exact⟨_,rfl,_,_,_,false,rfl,.int i,rfl,false,rfl,k⟩
theorem Qt:AW HQ HQ (defScope Ig):=AY
theorem Ic (F:Fu K "is_within" Ig f gA) (FN:AD K mg "is_number" Eu fN fdN BV) (gE:mg "isinstance"=none) (gT:mg "int"=none) (gI:mg "bool"=none):
 AH P w K mg base AL 2 f gA HQ K4:=by
 have GN:AJ P w base 1 FN NS:=R4 FN.F gE gT gI;refine F.okD Qt fun _ A _ _ H vs Q E hr h=>?_;obtain⟨i,a,b,rfl,h1,h2,k⟩:=h;refine⟨_,zh (AQ (EU (AI GN hr FN (zD (pv 0) zO)) (EU (Cy IF (pv 1) (pv 0) (AZ _)) (GQ (Cy IF (pv 0) (pv 2) (AZ _)))))),?_⟩;refine⟨_,rfl,i,rfl,true,rfl,Aw ?_⟩;refine⟨_,rfl,_,rfl,_,_,rfl,rfl,_,rfl,?_⟩;refine FV (zR h1) ?_;refine⟨_,rfl,_,rfl,_,_,rfl,rfl,?_⟩;show Q (.bl (decide (i<=b))) H;rw[zR h2];exact k
theorem Ku:AW Cw Cw (defScope HN):=AY
theorem Ow (F:Fu K "is_place" HN f gA) (FW:AD K mg "is_within" Ig fW fdW HQ) (FN:AD K mg "is_number" Eu fN fdN BV) (gE:mg "isinstance"=none) (gT:mg "int"=none) (gI:mg "bool"=none):
 AH P w K mg base AL 3 f gA Cw Qn:=by
 have GW':AJ P w base 2 FW K4:=Ic FW.F FN gE gT gI;refine F.okD Ku fun _ A _ _ H vs Q E hr h=>?_;obtain⟨n,i,rfl,h1,h2,k⟩:=h;refine⟨_,zh (AQ (AI GW' hr FW (zD (pv 1) (zD zm (zD (Ac Jq (pv 0) zm) zO))))),?_⟩;exact⟨_,rfl,_,rfl,_,_,rfl,rfl,i,0,n-1,rfl,h1,h2,k⟩
theorem P9:AW Ih Ih (defScope J0):=AY
theorem SO (F:Fu K "is_tuple_of" J0 f gA) (gE:mg "isinstance"=none) (fw:mg "tuple"=none) (f9:mg "len"=none):AH P w K mg base AL 1 f gA Ih Np:=by
 refine F.okD P9 fun _ A _ _ H vs Q E hr h=>?_;obtain⟨p,ys,rfl,hp,k⟩:=h;refine⟨_,zh (AQ (EU (Aj Jo gE (zD (pv 0) (zD (J9 (T := "tuple") fw) zO)))
  (GQ (Cy CN (Aj Bz f9 (zD (pv 0) zO)) (pv 1) (AZ _))))),?_⟩
 refine⟨_,rfl,_,_,_,true,rfl,.tup hp,rfl,true,rfl,Aw ?_⟩;refine⟨_,rfl,p,_,rfl,.inr (AB.of hp),_,rfl,rfl,?_⟩;rw[zR rfl];exact k
theorem Il:AW ["web","thing","n"] Bb (defScope D6):=AY
theorem LS {fT:Addr}(F:Fu K "is_order" D6 f gA) (FT:AD K mg "is_tuple_of" J0 fT jI Ih)
 (FW:AD K mg "is_within" Ig fW fdW HQ) (FP:AD K mg "is_place" HN fP fdP Cw) (FN:AD K mg "is_number" Eu fN fdN BV)
 (gE:mg "isinstance"=none) (gT:mg "int"=none) (gI:mg "bool"=none) (fw:mg "tuple"=none) (f9:mg "len"=none) (gO:mg "all"=none) (jY:mg "set"=none):AH P w K mg base AL 4 f gA Bb Ro:=by
 have GT:AJ P w base 3 FT Np:=(SO FT.F gE fw f9).mono;have GP:AJ P w base 3 FP Qn:=Ow FP.F FW FN gE gT gI;refine F.okD Il fun _ A _ _ H vs Q E hr h=>?_;obtain⟨wa,p,n,ts,os,rfl,W,hp,O,k⟩:=h;obtain⟨ta,tys,gF,_,_,G⟩:=id W;have iI:=G.n1;have gQ:=G.n24;have hol:os.length<=24:=by rw[O.ln];lia
 refine⟨_,zW (DU (i:=2) Il.nd rfl (Or.inr rfl) (AK AX (pv 0) zm))
  (zW (Ap (PW.pt (DJ (CG (Bq (AI GT hr FT (zD (pv 1) (zD (pv 2) zO)))))
   (Es (CG (Bq (Aj (Jy rfl) gO (zD (A0 (own:=CK) (cn:=["n"]) (ci:=[2]) rfl (An rfl rfl) ⟨rfl,rfl,rfl,trivial⟩ rfl (Bo (pv 1)) (fun _ _ _ _=>Aq)
    (fun _ _ _ _=>BI) (fun _ _ _ _=>AI GP hr FP (zD (pv 1) (zD (pv 0) zO)))) zO))))))) (zh (AQ E1)) As)
  (zh (AQ (Cy CN (Aj eZ f9 (zD (Bi (ZL rfl) jY (zD (pv 1) zO)) zO)) (pv 2) (AZ _))))),?_⟩
 refine⟨_,rfl,wa,_,_,_,rfl,rfl,AB.of gF,rfl,?_⟩;have gZ:(os.map V.int).length=n:=by rw[zB,O.ln];lia
 refine⟨_,rfl,_,rfl,p,os.map V.int,by rw[gZ];rfl,hp,_,rfl,Am ?_⟩;refine⟨_,rfl,p,rfl,⟨_,AB.of hp⟩,[.int n],rfl,fun D hD=>?_⟩;refine C8 (a:=p) (xs:=os.map V.int) (fun i ys H4=>i<=os.length/\ys=(List.replicate i true).map V.bl/\H4=upd H D (.lst ys)) ⟨zg _,rfl,rfl⟩ (fun i ys H4 h=>?_) (fun i ys H4 h=>?_) (fun i v ys H4 hv h=>?_) (fun ys H4 h=>?_)
 . obtain⟨_,_,rfl⟩:=h;exact AB.of (by rw[zf (zn hp hD)];exact hp)
 . obtain⟨hi,rfl,_⟩:=h;rw[zB,Ey];exact zr (by lia)
 . obtain⟨_,rfl,rfl⟩:=h;obtain⟨x,hx,rfl⟩:∃x,os[i]?=some x/\V.int x=v:=by
    rw[zM] at hv;cases e:os[i]? with
    | none=>rw[e] at hv;cases hv
    | some x=>rw[e] at hv;exact⟨x,rfl,zV hv⟩
   have gW:=O.rng x (zP hx);refine⟨⟨rfl,rfl⟩,?_⟩;refine BH ?_;refine⟨_,rfl,_,rfl,n,x,rfl,gW.1,by lia,?_⟩;refine⟨zK,(zH.mp hx).1,?_,BQ⟩;rw[List.replicate_succ',zQ];rfl
 . obtain⟨_,rfl,rfl⟩:=h;refine⟨D,List.replicate (os.map V.int).length true,rfl,AE.of zK,_,rfl,?_⟩;have gn:(List.replicate (os.map V.int).length true).all id=true:=GU.mpr fun b hb=>(List.mem_replicate.mp hb).2;rw[gn];refine Am ?_;have hp5:=zL (o:=.lst ((List.replicate (os.map V.int).length true).map V.bl)) hD _ _ hp;refine⟨_,rfl,p,os,rfl,AB.of hp5,by lia,fun d S hd=>?_⟩;refine⟨d,S,_,rfl,zK,_,rfl,rfl,?_⟩;rw[Xs O.nd os.length (zI _),zY (zI _),zR (by rw[<-gZ,zB])];exact k _ ((zL hD).trans (zL hd))
noncomputable def eV (e:En):List V:=[.int e.h,.int e.l,oV e.u,oV e.d]
def Fz (H:Hp)(as:List Addr)(es:List En):Prop:=as.length=es.length/\∀(i:Nat)a,as[i]?=some a->∃e,es[i]?=some e/\H a=some (.tup (eV e))
def DS (H:Hp)(p:Addr)(es:List En):Prop:=∃as:List Addr,H p=some (.tup (as.map V.ref))/\Fz H as es/\es.length<=1000
theorem Fz.keep (h:Fz H as es)(k:∀b ys,H b=some (.tup ys)->H' b=some (.tup ys)):Fz H' as es:=
 ⟨h.1,fun i a ha=>let ⟨e,h1,h2⟩:=h.2 i a ha;⟨e,h1,k _ _ h2⟩⟩
theorem Fz.snoc (h:Fz H as es)(ha:H a=some (.tup (eV e))):Fz H (as++[a]) (es++[e]):=by
 refine⟨by rw[zJ,zJ,h.1];rfl,fun i b hb=>?_⟩;by_cases c:i<as.length
 . rw[zc c] at hb;obtain⟨e',h1,h2⟩:=h.2 i b hb;exact⟨e',by rw[zc (by rw[<-h.1];exact c)];exact h1,h2⟩
 . rw[za (by lia)] at hb;have hi:i-as.length=0:=by
    cases z:i-as.length with
    | zero=>rfl
    | succ m=>rw[z] at hb;simp at hb
   rw[hi] at hb;have:a=b:=by simpa using hb
   subst this;exact⟨e,by rw[za (by rw[<-h.1];lia),<-h.1,hi];rfl,ha⟩
theorem DS.keep (h:DS H p es)(k:∀b ys,H b=some (.tup ys)->H' b=some (.tup ys)):DS H' p es:=
 let ⟨as,h1,h2,h3⟩:=h;⟨as,k _ _ h1,h2.keep k,h3⟩
theorem DS.same (h:DS H p es)(k:AF H H'):DS H' p es:=h.keep fun b ys e=>k _ _ e
theorem Fz.at (h:Fz H as es){i:Nat}(hv:(as.map V.ref)[i]?=some v):∃a e,v=.ref a/\es[i]?=some e/\H a=some (.tup (eV e)):=by
 rw[zM] at hv;cases z:as[i]? with
 | none=>rw[z] at hv;cases hv
 | some a=>rw[z] at hv;obtain⟨e,h1,h2⟩:=h.2 i a z;exact⟨a,e,(zV hv).symm,h1,h2⟩
theorem Wm (h:n<=1000):n<sizeLine:=Cv h (by decide)
noncomputable def CV (gc:List Int)(p:Int):Int:=gc.getD p.toNat 0
def G4 (ts:List T3)(rk:Int->Int)(h v:Int):Prop:=(∃d,WM.IsD ts h v d)/\∀p,A8 ts h v p->rk h<=rk p
def IA (P:Int->Prop):Option Int->Prop
 | none=>∀p,¬ P p
 | some m=>P m/\∀p,P p->m<=p
theorem IA.congr {P:Int->Prop}(e:∀p,P p↔P' p):∀{o:Option Int},IA P o->IA P' o
 | none,h=>fun p z=>h p ((e p).mpr z)
 | some _,h=>⟨(e _).mp h.1,fun p z=>h.2 p ((e p).mpr z)⟩
structure Ta (ts:List T3)(n:Int)(rk:Int->Int)(v:Int)(e:En):Prop where
 rng:0<=e.h/\e.h<n
 hub:G4 ts rk e.h v
 len:WM.IsD ts v e.h e.l
 up:IA (ER ts v e.h) e.u
 dn:IA (ER ts e.h v) e.d
structure MW (ts:List T3)(n:Int)(rk:Int->Int)(v:Int)(es:List En):Prop where
 hub:Mu es
 ent:∀e∈es,Ta ts n rk v e
 all:∀h,0<=h->h<n->G4 ts rk h v->∃e∈es,e.h=h
 len:es.length<=24
def Hv (H:Hp)(l:Addr)(gM:List (List En)):Prop:=∃as:List Addr,H l=some (.tup (as.map V.ref))/\as.length=gM.length/\∀(i:Nat)a,as[i]?=some a->∃es,gM[i]?=some es/\DS H a es
theorem Hv.keep (h:Hv H l gM)(k:∀b ys,H b=some (.tup ys)->H' b=some (.tup ys)):Hv H' l gM:=
 let ⟨as,h1,h2,h3⟩:=h;⟨as,k _ _ h1,h2,fun i a ha=>let ⟨es,e1,e2⟩:=h3 i a ha;⟨es,e1,e2.keep k⟩⟩
theorem Eb.at (RA:Eb H rs M)(RR:Rows ts n M)(h0:0<=x)(h1:x<n):
 ∃r,(rs.map V.ref)[x.toNat]?=some (.ref r)/\H r=some (.tup ((M.getD x.toNat []).map oV))/\GX ts n x (M.getD x.toNat []):=by
 have hM:x.toNat<M.length:=by rw[RR.1];lia
 have hr:x.toNat<rs.length:=by rw[RA.1];exact hM
 have e:M[x.toNat]?=some (M.getD x.toNat []):=by rw[zF,zC hM];rfl
 exact⟨rs[x.toNat],by rw[zM,zC hr];rfl,RA.2 _ _ _ (zC hr) e,RR.2 x h0 h1⟩
theorem Eb.same (h:Eb H rs M)(k:AF H H'):Eb H' rs M:=⟨h.1,fun i r row a b=>k _ _ (h.2 i r row a b)⟩
theorem Yc {xs:List Int}(hp:AB K H p (xs.map V.int))(h:∀u,IA (· ∈ xs) u->Q (oV u) H):JV K (.ref p) .non H Q:=by
 refine⟨p,_,rfl,.inr hp,fun e=>?_,.inr ⟨xs,rfl,fun n hn hm=>h (some n) ⟨hn,hm⟩⟩⟩;have:xs=[]:=by simpa using e
 exact h none fun q hq=>by rw[this] at hq;simp at hq
structure FH (H:Hp)(rl ra:Addr)(rs:List Addr)(M:M6)(gc:List Int)(n:Int)(ts:List T3):Prop where
 tab:H rl=some (.tup (rs.map V.ref))
 rows:Eb H rs M
 right:Rows ts n M
 rk:H ra=some (.lst (gc.map V.int))
 rln:gc.length=n.toNat
 web:GW n ts
theorem FH.same (L:FH H rl ra rs M gc n ts)(k:AF H H'):FH H' rl ra rs M gc n ts:=⟨k _ _ L.tab,L.rows.same k,L.right,k _ _ L.rk,L.rln,L.web⟩
theorem FH.rank (L:FH H rl ra rs M gc n ts)(h0:0<=x)(h1:x<n):(gc.map V.int)[x.toNat]?=some (.int (CV gc x)):=by
 have:x.toNat<gc.length:=by rw[L.rln];lia
 rw[zM,zC this];unfold CV;rw[zF,zC this];rfl
def Ie:Sp:=fun vs H Q _=>∃rl ra rs M gc n ts h v,vs=[.ref rl,.ref ra,.int h,.int v]/\FH H rl ra rs M gc n ts/\0<=h/\h<n/\0<=v/\v<n /\
 ∀b H',AF H H'->(b=true↔G4 ts (CV gc) h v)->Q (.bl b) H'
def IJ:Sp:=fun vs H Q _=>∃wa rl ra rs M gc n ts v h,vs=[.ref wa,.ref rl,.int v,.int h]/\Af H wa n ts/\FH H rl ra rs M gc n ts/\0<=h/\h<n/\0<=v/\v<n/\G4 ts (CV gc) h v /\
 ∀a e H',AF H H'->H' a=some (.tup (eV e))->e.h=h->Ta ts n (CV gc) v e->Q (.ref a) H'
def TB:Sp:=fun vs H Q _=>∃wa rl ra rs M gc n ts v,vs=[.ref wa,.ref rl,.ref ra,.int v]/\Af H wa n ts/\FH H rl ra rs M gc n ts/\0<=v/\v<n /\
 ∀a es H',AF H H'->DS H' a es->MW ts n (CV gc) v es->Q (.ref a) H'
theorem O7:AW Mw Mw (defScope Fb):=AY
theorem LR (F:Fu K "is_hub" Fb f gA) (FB:AD K mg "between_rows" ES fB jm Lm) (f7:mg "range"=none) (fw:mg "tuple"=none) (f9:mg "len"=none) (gO:mg "all"=none):
 AH P w K mg base AL 2 f gA Mw Ie:=by
 have GB:AJ P w base 1 FB Sw:=XR FB.F f7 fw f9;refine F.okD O7 fun _ A _ _ H vs Q E hr h=>?_;obtain⟨rl,ra,rs,M,gc,n,ts,h,v,rfl,L,h0,h1,v0,v1,k⟩:=h;have G:=L.web;have gQ:=G.n24;refine⟨_,zW (Ap (Ad ID (AK AX (AK AX (pv 0) (pv 2)) (pv 3)) BK (AZ _)) (zh (AQ E1)) As)
  (zh (AQ (Aj (Jy rfl) gO (zD (A0 (own:=["other"]) (cn:=["ranks","hub"]) (ci:=[1,2]) rfl (An rfl rfl) ⟨rfl,rfl,rfl,rfl,rfl,rfl,trivial⟩ rfl
   (Bo (AI GB hr FB (zD (AK AX (pv 0) (pv 2)) (zD (AK AX (pv 0) (pv 3)) (zD (pv 3) zO))))) (fun _ _ _ _=>Aq)
   (fun _ _ _ _=>BI) (fun _ _ _ _=>Cy IF (AK Yu (pv 1) (pv 2)) (AK Yu (pv 1) (pv 0)) (AZ _))) zO)))),?_⟩
 obtain⟨rh,gh,hh,Lh⟩:=L.rows.at L.right h0 h1;obtain⟨rv,gv,hv,Lv⟩:=L.rows.at L.right v0 v1;have lhv:=Lh.len v v0 v1;refine⟨_,rfl,_,rfl,rl,_,_,.ref rh,rfl,rfl,AB.of L.tab,BB h0 gh,_,rfl,rh,_,_,oV (AV (M.getD h.toNat []) v),rfl,rfl,AB.of hh,BB v0 (Fw Lh v0 v1),rfl,_,rfl,?_⟩;rw[Gs];cases ed:AV (M.getD h.toNat []) v with
 | none=>rw[ed] at lhv;refine Aw ?_;exact k false H (AF.refl _) ⟨(fun z=>by cases z),(fun z=>by obtain⟨d,hd⟩:=z.1;exact absurd hd.1 (lhv d))⟩
 | some d=>
  rw[ed] at lhv;refine Am ?_;refine⟨_,rfl,_,rfl,rl,_,_,.ref rh,rfl,rfl,AB.of L.tab,BB h0 gh,_,rfl,_,rfl,rl,_,_,.ref rv,rfl,rfl,AB.of L.tab,BB v0 gv,_,rfl,rh,rv,n,ts,h,v,_,_,rfl,G,h0,h1,v0,v1,hh,hv,Lh,Lv,fun l xs H1 s1 hl h7 gg=>?_⟩;have jg:∀p∈xs,0<=p/\p<n:=fun p hp=>by obtain⟨a,b,ia,_⟩:=(gg p).mp hp;exact ia.1.in_ G h0 h1
  have hxl:xs.length<=24:=by
   have:=nd_len (n:=n.toNat) (l:=xs) (h7.imp fun z=>by lia) fun x hx=>by have:=jg x hx;lia
   lia
  refine⟨l,rfl,⟨_,AB.of hl⟩,[.ref ra,.int h],rfl,fun D hD=>?_⟩;have hra:=s1 _ _ L.rk;refine C8 (a:=l) (xs:=xs.map V.int) (fun i ys H4=>ys=((xs.take i).map fun p=>decide (CV gc h<=CV gc p)).map V.bl/\H4=upd H1 D (.lst ys)) ⟨rfl,rfl⟩ (fun i ys H4 z=>?_) (fun i ys H4 z=>?_) (fun i x ys H4 hx z=>?_) (fun ys H4 z=>?_)
  . obtain⟨_,rfl⟩:=z;exact AB.of (by rw[zf (zn hl hD)];exact hl)
  . obtain⟨rfl,_⟩:=z;rw[zB,zB,zt];exact zr (by lia)
  . obtain⟨rfl,rfl⟩:=z;obtain⟨p,hp,rfl⟩:∃p,xs[i]?=some p/\V.int p=x:=by
     rw[zM] at hx;cases e:xs[i]? with
     | none=>rw[e] at hx;cases hx
     | some p=>rw[e] at hx;exact⟨p,rfl,zV hx⟩
    have hpr:=jg p (zP hp);have hra4:=zL (o:=.lst (((xs.take i).map fun p=>decide (CV gc h<=CV gc p)).map V.bl)) hD _ _ hra;refine⟨⟨rfl,rfl⟩,?_⟩;refine BH ?_;refine⟨_,rfl,_,rfl,ra,_,_,.int (CV gc h),rfl,rfl,AE.of hra4,BB h0 (L.rank h0 h1),_,rfl,_,rfl,ra,_,_,.int (CV gc p),rfl,rfl,AE.of hra4,BB hpr.1 (L.rank hpr.1 hpr.2),_,_,rfl,rfl,zK,?_,BQ⟩;rw[zy,hp,zQ,zQ];rfl
  . obtain⟨rfl,rfl⟩:=z;rw[zB,zY (zI _)];refine⟨D,_,rfl,AE.of zK,?_⟩;refine k _ _ (s1.trans (zL hD)) ⟨fun z=>⟨⟨d,lhv⟩,fun p hp=>?_⟩,fun z=>GU.mpr fun b hb=>?_⟩
    . have:=GU.mp z _ (zq.mpr ⟨p,(gg p).mpr hp,rfl⟩);exact of_decide_eq_true this
    . obtain⟨p,hp,rfl⟩:=zq.mp hb;exact zR (z.2 p ((gg p).mp hp))
theorem S6:AW ["web","rows","place","hub","up","down"] OT (defScope FX):=AY
theorem Lg {fT:Addr}(F:Fu K "entry_by_rows" FX f gA) (FN:AD K mg "next_by_row" Fj fN fdN M3)
 (FT:AD K mg "ties_at" G1 fT jI DC) (gB:mg "sorted"=none) (fw:mg "tuple"=none) (gH:mg "min"=none):AH P w K mg base AL 4 f gA OT IJ:=by
 have GN:AJ P w base 3 FN Iv:=LD FN.F FT gB fw;refine F.okD S6 fun _ A _ _ H vs Q E hr h=>?_;obtain⟨wa,rl,ra,rs,M,gc,n,ts,v,h,rfl,W,L,h0,h1,v0,v1,hh,k⟩:=h;have hu:=Fy hr;refine⟨_,zW (Ak (i:=4) S6.nd (OE rfl hu (by rfl) gH (zD (AI GN hr FN (zD (pv 0) (zD (pv 2) (zD (AK AX (pv 1) (pv 3)) zO)))) zO) BK))
  (zW (Ak (i:=5) S6.nd (OE rfl hu (by rfl) gH (zD (AI GN hr FN (zD (pv 0) (zD (pv 3) (zD (AK AX (pv 1) (pv 2)) zO)))) zO) BK))
  (zh (AQ (Ba (zD (pv 3) (zD (AK AX (AK AX (pv 1) (pv 2)) (pv 3)) (zD (pv 4) (zD (pv 5) zO)))))))),?_⟩
 obtain⟨rh,gh,ha,Lh⟩:=L.rows.at L.right h0 h1;obtain⟨rv,gv,hv,Lv⟩:=L.rows.at L.right v0 v1;refine⟨_,rfl,_,rfl,_,rfl,_,rfl,rl,_,_,.ref rh,rfl,rfl,AB.of L.tab,BB h0 gh,wa,rh,n,ts,v,h,_,rfl,W,v0,v1,h0,h1,ha,Lh,fun l1 xs H1 s1 hW _ hm1=>?_⟩;refine⟨_,rfl,?_⟩;unfold tC;refine Yc (AB.of hW) fun u hu1=>?_;have L1:=L.same s1;refine⟨_,rfl,_,rfl,_,rfl,_,rfl,rl,_,_,.ref rv,rfl,rfl,AB.of L1.tab,BB v0 gv,wa,rv,n,ts,h,v,_,rfl,W.keep s1,h0,h1,v0,v1,s1 _ _ hv,Lv,fun l2 ys H2 s2 gS _ hm2=>?_⟩;refine⟨_,rfl,?_⟩;dsimp only;refine Yc (AB.of gS) fun d hd1=>?_;have s12:=s1.trans s2;have L2':=L.same s12;obtain⟨dd,hdd⟩:=hh.1;have lv:=A6.uniq (Lv.len h h0 h1) (show A6 ts v h (some dd) from WM.IsD.symm hdd);refine⟨_,rfl,_,rfl,_,rfl,rl,_,_,.ref rv,rfl,rfl,AB.of L2'.tab,BB v0 gv,_,rfl,rv,_,_,.int dd,rfl,rfl,AB.of (s12 _ _ hv),BB h0 (by rw[Fw Lv h0 h1,lv];rfl),_,rfl,_,rfl,SD,fun a ha'=>?_⟩;exact k a ⟨h,dd,u,d⟩ _ (s12.trans (zL ha')) zK rfl ⟨⟨h0,h1⟩,hh,WM.IsD.symm hdd,hu1.congr hm1,hd1.congr hm2⟩
def Gq (n:Int)(os:List Int)(rk:Int->Int):Prop:=∀p,0<=p->p<n->0<=rk p/\os[(rk p).toNat]?=some p
def Na (ts:List T3)(n:Int)(rk:Int->Int)(gM:List (List En)):Prop:=gM.length=n.toNat/\∀(i:Nat)es,gM[i]?=some es->MW ts n rk i es
def NO (PT:Addr):Sp:=fun vs H Q _=>∃wa p n ts os,vs=[.ref wa,.ref p]/\Af H wa n ts/\H p=some (.tup (os.map V.int))/\C0 n os/\Tb H PT /\
 ∀l gM rk H',AN PT H H'->Tb H' PT->Hv H' l gM->Gq n os rk->Na ts n rk gM->Q (.ref l) H'
theorem C0.mem {os:List Int}(O:C0 n os)(h0:0<=p)(h1:p<n):p∈os:=by
 apply zw;intro hn;have:=nd_len (n:=n.toNat) (l:=p::os) (BZ.mpr ⟨hn,O.nd⟩) fun x hx=>by
  rcases zX.mp hx with rfl | hx
  . lia
  . have:=O.rng x hx;lia
 rw[zk,O.ln] at this
 lia
theorem JT:AW ["web","rows","ranks","place","hubs"] Pe (defScope Ff):=AY
theorem LC (F:Fu K "label_by_ranks" Ff f gA) (FI:AD K mg "is_hub" Fb fI fdI Mw) (GI:AJ P w base 4 FI Ie)
 (FE:AD K mg "entry_by_rows" FX fE fdE OT) (GE:AJ P w base 4 FE IJ) (f7:mg "range"=none) (fw:mg "tuple"=none):
 AH P w K mg base AL 5 f gA Pe TB:=by
 refine F.okD JT fun _ A _ _ H vs Q E hr h=>?_;obtain⟨wa,rl,ra,rs,M,gc,n,ts,v,rfl,W,L,v0,v1,k⟩:=h;obtain⟨ta,tys,gF,_,_,G⟩:=id W;have iI:=G.n1;have gQ:=G.n24;refine⟨_,zW (IE (i:=4) (own:=["hub"]) (cn:=["rows","ranks","place"]) (ci:=[1,2,3]) JT.nd rfl (Or.inl rfl) rfl (An rfl rfl) ⟨rfl,rfl,rfl,rfl,rfl,rfl,rfl,rfl,rfl,trivial⟩ rfl
  (CT rfl f7 (zD (AK AX (pv 0) zm) zO)) (fun _ _ _ _=>Aq)
  (fun _ _ _ _=>Cn (Bq (AI GI hr FI (zD (pv 1) (zD (pv 2) (zD (pv 0) (zD (pv 3) zO))))))) (fun _ _ _ _=>pv 0))
  (zh (AQ (Bi B9 fw (zD (A0 (own:=["hub"]) (cn:=["web","rows","place"]) (ci:=[0,1,3]) rfl (An rfl rfl) ⟨rfl,rfl,rfl,rfl,rfl,rfl,rfl,rfl,rfl,trivial⟩ rfl
   (CZ (pv 4)) (fun _ _ _ _=>Aq) (fun _ _ _ _=>BI)
   (fun _ _ _ _=>AI GE hr FE (zD (pv 1) (zD (pv 2) (zD (pv 3) (zD (pv 0) zO)))))) zO)))),?_⟩
 refine⟨_,rfl,wa,_,_,_,rfl,rfl,AB.of gF,rfl,n,rfl,by lia,by lia,[.ref rl,.ref ra,.int v],rfl,fun D hD=>?_⟩;refine Dv (lo:=0) (n:=n.toNat) (fun q ys H3=>q<=n.toNat/\(∃hs:List Int,ys=hs.map V.int/\hs.Pairwise (· < ·)/\∀p,p∈hs↔(0<=p/\p<(q:Int))/\G4 ts (CV gc) p v)/\AF H H3/\H3 D=some (.lst ys)) ⟨zg _,⟨[],rfl,Ju,fun p=>⟨fun z=>by simp at z,fun z=>absurd z.1 (by lia)⟩⟩,zL hD,zK⟩ (fun q ys H3 z=>?_) (fun q ys H3 hq z=>?_) (fun ys H3 z=>?_)
 . obtain⟨hq,⟨hs,rfl,hp,hm⟩,_⟩:=z;rw[zB];have:=nd_len (n:=q) (l:=hs) (hp.imp fun z=>by lia) fun x hx=>by have:=((hm x).mp hx).1;lia
   exact zr (by lia)
 . obtain⟨_,⟨hs,rfl,hp,hm⟩,s3,iD⟩:=z;rw[Ca];refine⟨⟨rfl,rfl⟩,?_⟩;refine⟨_,rfl,_,rfl,_,rfl,_,rfl,rl,ra,rs,M,gc,n,ts,q,v,rfl,L.same s3,by lia,by lia,v0,v1,fun b H4 s4 hb=>?_⟩;refine⟨_,rfl,?_⟩;refine CF (fun c=>?_) (fun c=>?_)
   . refine⟨_,rfl,s4 _ _ iD,hq,⟨hs++[(q:Int)],by rw[zQ];rfl,List.pairwise_append.mpr ⟨hp,List.pairwise_singleton _ _,fun a ha b iU=>?_⟩,fun p=>?_⟩,BM (s3.trans s4) hD,zK⟩
     . have:b=(q:Int):=by simpa using iU
       have:=((hm a).mp ha).1
       lia
     . rw[zU,hm];constructor
       . rintro (⟨a,b⟩ | a)
         . exact⟨by lia,b⟩
         . have:p=(q:Int):=by simpa using a
           subst this;exact⟨by lia,hb.mp c⟩
       . rintro ⟨a,b⟩;by_cases e:p=(q:Int)
         . exact .inr (by simpa using e)
         . exact .inl ⟨by lia,b⟩
   . refine⟨hq,⟨hs,rfl,hp,fun p=>?_⟩,s3.trans s4,s4 _ _ iD⟩;rw[hm];constructor
     . rintro ⟨a,b⟩;exact⟨by lia,b⟩
     . rintro ⟨a,b⟩;refine⟨?_,b⟩;have:p≠(q:Int):=fun z=>by subst z;exact c (hb.mpr b)
       lia
 . obtain⟨_,⟨hs,rfl,hp,hm⟩,s3,iD⟩:=z;have hsl:hs.length<=24:=by
    have:=nd_len (n:=n.toNat) (l:=hs) (hp.imp fun z=>by lia) fun x hx=>by have:=((hm x).mp hx).1;lia
    lia
   refine⟨_,rfl,D,rfl,⟨_,AE.of iD⟩,[.ref wa,.ref rl,.int v],rfl,fun D2 gj=>?_⟩;refine DM (a:=D) (xs:=hs.map V.int) (fun i ys H5=>i<=hs.length/\(∃(as:List Addr)(es:List En),ys=as.map V.ref/\Fz H5 as es/\es.map (·.h)=hs.take i/\∀e∈es,Ta ts n (CV gc) v e)/\AF H3 H5/\H5 D2=some (.lst ys)) ⟨zg _,⟨[],[],rfl,⟨rfl,fun i a z=>by simp at z⟩,rfl,by simp⟩,zL gj,zK⟩ (fun i ys H5 z=>?_) (fun i ys H5 z=>?_) (fun i x ys H5 hx z=>?_) (fun ys H5 z=>?_)
   . exact AE.of (z.2.2.1 _ _ iD)
   . obtain⟨_,⟨as,es,rfl,EA,em,_⟩,_⟩:=z;have:=congrArg List.length em;rw[zB,zt] at this;rw[zB,EA.1];exact zr (by lia)
   . obtain⟨_,⟨as,es,rfl,EA,em,he⟩,s5,hZ⟩:=z;obtain⟨p,jy,rfl⟩:∃p,hs[i]?=some p/\V.int p=x:=by
      rw[zM] at hx;cases e:hs[i]? with
      | none=>rw[e] at hx;cases hx
      | some p=>rw[e] at hx;exact⟨p,rfl,zV hx⟩
     have hpm:=(hm p).mp (zP jy);have s35:=s3.trans s5;refine⟨⟨rfl,rfl⟩,?_⟩;refine BH ?_;refine⟨_,rfl,_,rfl,_,rfl,_,rfl,wa,rl,ra,rs,M,gc,n,ts,v,p,rfl,W.keep s35,L.same s35,by lia,by lia,v0,v1,hpm.2,fun a e H6 s6 ha ep jS=>?_⟩;refine⟨s6 _ _ hZ,(zH.mp jy).1,⟨as++[a],es++[e],by rw[zQ];rfl,(EA.keep fun b zs z=>?_).snoc ?_,?_,fun x hx'=>?_⟩,BM (s5.trans s6) gj,zK⟩
     . rw[zf (Ar z hZ (by intro y;cases y))];exact s6 _ _ z
     . rw[zf (Ar ha (s6 _ _ hZ) (by intro y;cases y))];exact ha
     . rw[zQ,em,zy,jy,<-ep];rfl
     . rcases zU.mp hx' with z | z
       . exact he x z
       . have:x=e:=by simpa using z
         subst this;exact jS
   . obtain⟨_,⟨as,es,rfl,EA,em,he⟩,s5,hZ⟩:=z;rw[zB,zY (zI _)] at em;have hel:es.length<=24:=by have:=congrArg List.length em;rw[zB] at this;lia
     refine⟨D2,_,rfl,.inl ⟨AE.of hZ,fun l hl=>?_⟩⟩;refine k l es _ ((s3.trans s5).trans (zL hl)) ⟨as,zK,EA.keep fun b zs z=>zL hl _ _ z,by lia⟩ ⟨?_,he,fun h h0 h1 z=>?_,hel⟩
     . have:=hp;rw[<-em,DO] at this;exact this
     . have:h∈es.map (·.h):=by rw[em];exact (hm h).mpr ⟨by lia,z⟩
       obtain⟨e,e1,e2⟩:=zq.mp this;exact⟨e,e1,e2⟩
theorem TM:AW ["web","order","rows","ranks"] KD (defScope D7):=AY
theorem MM (F:Fu K "by_order" D7 f gA) (FO:AD K mg "is_order" D6 fO fdO Bb) (GO:AJ P w base 5 FO Ro)
 (FL:AD K mg "lengths" Jg fL fdL Ai) (GL:AJ P w base 5 FL (N3 PT))
 (FB:AD K mg "label_by_ranks" Ff fB jm Pe) (GB:AJ P w base 5 FB TB) (f7:mg "range"=none) (fw:mg "tuple"=none):
 AH P w K mg base AL 6 f gA KD (NO PT):=by
 refine F.okD TM fun _ A _ _ H vs Q E hr h=>?_;obtain⟨wa,p,n,ts,os,rfl,W,hp,O,T,k⟩:=h;obtain⟨ta,tys,gF,_,_,G⟩:=id W;have iI:=G.n1;have gQ:=G.n24;refine⟨_,zW (Ap (CG (Bq (AI GO hr FO (zD (pv 0) (zD (pv 1) zO))))) (zh Ii) As)
  (zW (DU (i:=2) TM.nd rfl (Or.inr rfl) (AI GL hr FL (zD (pv 0) zO)))
  (zW (DU (i:=3) TM.nd rfl (Or.inr rfl) (A0 (own:=CK) (cn:=["order"]) (ci:=[1]) rfl (An rfl rfl) ⟨rfl,rfl,rfl,trivial⟩ rfl
   (CT rfl f7 (zD (AK AX (pv 0) zm) zO)) (fun _ _ _ _=>Aq) (fun _ _ _ _=>BI)
   (fun _ _ _ _=>ML PySem.F.slot_tuple_index PySem.F.type_tuple_index cM (pv 1) (zD (pv 0) zO))))
  (zh (AQ (Bi B9 fw (zD (A0 (own:=CK) (cn:=["web","rows","ranks"]) (ci:=[0,2,3]) rfl (An rfl rfl) ⟨rfl,rfl,rfl,rfl,rfl,rfl,rfl,rfl,rfl,trivial⟩ rfl
   (CT rfl f7 (zD (AK AX (pv 0) zm) zO)) (fun _ _ _ _=>Aq) (fun _ _ _ _=>BI)
   (fun _ _ _ _=>AI GB hr FB (zD (pv 1) (zD (pv 2) (zD (pv 3) (zD (pv 0) zO)))))) zO)))))),?_⟩
 refine⟨_,rfl,_,rfl,wa,p,n,ts,os,rfl,W,hp,O,fun H0 s0=>?_⟩;refine⟨_,rfl,Am ?_⟩;refine⟨_,rfl,wa,n,ts,rfl,W.keep s0,T.same s0,fun rl rs M H1 gw T1 i4 RA RR=>?_⟩;have jA:AN PT H H1:=(AN.of (P:=PT) s0).trans gw;have hJ:H1 wa=some (.tup [.int n,.ref ta]):=jA.get gF (by intro ps z;cases z);have hp1:H1 p=some (.tup (os.map V.int)):=jA.get hp (by intro ps z;cases z);have W1:Af H1 wa n ts:=W.smT jA;refine⟨_,rfl,wa,_,_,_,rfl,rfl,AB.of hJ,rfl,n,rfl,by lia,by lia,[.ref p],rfl,fun D hD=>?_⟩;refine Dv (lo:=0) (n:=n.toNat) (fun q ys H3=>q<=n.toNat/\(∃rk:List Int,ys=rk.map V.int/\rk.length=q/\∀(j:Nat)(x:Int),rk[j]?=some x->0<=x/\os[x.toNat]?=some (j:Int))/\H3=upd H1 D (.lst ys)) ⟨zg _,⟨[],rfl,rfl,fun j x z=>by simp at z⟩,rfl⟩ (fun q ys H3 z=>?_) (fun q ys H3 hq z=>?_) (fun ys H3 z=>?_)
 . obtain⟨_,⟨rk,rfl,hl,_⟩,_⟩:=z;rw[zB];exact zr (by lia)
 . obtain⟨_,⟨rk,rfl,hl,hrk⟩,rfl⟩:=z;rw[Ca];obtain⟨i,hi,ei⟩:=zp (O.mem (p:=(q:Int)) (by lia) (by lia));have jz:os[i]?=some (q:Int):=by rw[zC hi,ei]
   have hp3:=zL (o:=.lst (rk.map V.int)) hD _ _ hp1;refine⟨⟨rfl,rfl⟩,?_⟩;refine BH ?_;refine⟨_,rfl,⟨p,_,rfl,hp3⟩,_,rfl,p,os,i,q,rfl,rfl,AB.of hp3,jz,fun j hj e=>?_,zK,hq,⟨rk++[(i:Int)],by rw[zQ];rfl,by rw[zJ,hl];rfl,fun j x hx=>?_⟩,BQ⟩
   . obtain⟨hj',ej⟩:=zH.mp e;exact Cz.mp (DN.mp O.nd) j i hj' hi hj (by rw[ej,ei])
   . by_cases c:j<rk.length
     . rw[zc c] at hx;exact hrk j x hx
     . have hj:j=q:=by have:=(zH.mp hx).1;rw[zJ] at this;simp at this;lia
       subst hj;rw[za (by lia),hl,Ge] at hx;have:(i:Int)=x:=by simpa using hx
       subst this;exact⟨by lia,jz⟩
 . obtain⟨_,⟨rk,rfl,hl,hrk⟩,rfl⟩:=z;have sD:AF H1 (upd H1 D (.lst (rk.map V.int))):=zL hD;have hDr:(upd H1 D (.lst (rk.map V.int))) D=some (.lst (rk.map V.int)):=zK;generalize upd H1 D (.lst (rk.map V.int))=H4 at sD hDr ⊢;have L:FH H4 rl D rs M rk n ts:=⟨sD _ _ i4,RA.same sD,RR,hDr,hl,G⟩;have W4:=W1.keep sD;refine⟨_,rfl,wa,_,_,_,rfl,rfl,AB.of (sD _ _ hJ),rfl,n,rfl,by lia,by lia,[.ref wa,.ref rl,.ref D],rfl,fun D2 gj=>?_⟩;refine Dv (lo:=0) (n:=n.toNat) (fun q ys H5=>q<=n.toNat/\(∃(as:List Addr)(gM:List (List En)),ys=as.map V.ref/\as.length=q/\gM.length=q/\(∀(i:Nat)(a:Addr),as[i]?=some a->∃es,gM[i]?=some es/\DS H5 a es)/\∀(i:Nat)(es:List En),gM[i]?=some es->MW ts n (CV rk) i es)/\AF H4 H5/\H5 D2=some (.lst ys)) ⟨zg _,⟨[],[],rfl,rfl,rfl,fun i a z=>by simp at z,fun i a z=>by simp at z⟩,zL gj,zK⟩ (fun q ys H5 z=>?_) (fun q ys H5 hq z=>?_) (fun ys H5 z=>?_)
   . obtain⟨_,⟨as,gM,rfl,h1,_⟩,_⟩:=z;rw[zB];exact zr (by lia)
   . obtain⟨_,⟨as,gM,rfl,h1,h2,h3,h4⟩,s5,hZ⟩:=z;rw[Ca];refine⟨⟨rfl,rfl⟩,?_⟩;refine BH ?_;refine⟨_,rfl,_,rfl,_,rfl,_,rfl,wa,rl,D,rs,M,rk,n,ts,q,rfl,W4.keep s5,L.same s5,by lia,by lia,fun a es H6 s6 la lo=>?_⟩;refine⟨s6 _ _ hZ,hq,⟨as++[a],gM++[es],by rw[zQ];rfl,by rw[zJ,h1];rfl,by rw[zJ,h2];rfl,fun i b hb=>?_,fun i es' he=>?_⟩,BM (s5.trans s6) gj,zK⟩
     . have keep:∀c zs,H6 c=some (.tup zs)->(upd H6 D2 (.lst (as.map V.ref++[.ref a]))) c=some (.tup zs):=fun c zs z=>by rw[zf (Ar z (s6 _ _ hZ) (by intro y;cases y))];exact z
       by_cases c:i<as.length
       . rw[zc c] at hb;obtain⟨es',e1,e2⟩:=h3 i b hb;exact⟨es',by rw[zc (by lia)];exact e1,(e2.same s6).keep keep⟩
       . have hi:i=q:=by have:=(zH.mp hb).1;rw[zJ] at this;simp at this;lia
         subst hi;rw[za (by lia),h1,Ge] at hb;have:a=b:=by simpa using hb
         subst this;exact⟨es,by rw[za (by lia),h2,Ge];rfl,la.keep keep⟩
     . by_cases c:i<gM.length
       . rw[zc c] at he;exact h4 i es' he
       . have hi:i=q:=by have:=(zH.mp he).1;rw[zJ] at this;simp at this;lia
         subst hi;rw[za (by lia),h2,Ge] at he;have:es=es':=by simpa using he
         subst this;exact lo
   . obtain⟨_,⟨as,gM,rfl,h1,h2,h3,h4⟩,s5,hZ⟩:=z;refine⟨D2,_,rfl,.inl ⟨AE.of hZ,fun l gm=>?_⟩⟩;have s6:AF H1 (upd H5 l (.tup (as.map V.ref))):=(sD.trans s5).trans (zL gm);refine k l gM (CV rk) _ (jA.trans (AN.of (P:=PT) s6)) (T1.same s6) ⟨as,zK,by lia,fun i a ha=>?_⟩ (fun p h0 h1'=>?_) ⟨h2,h4⟩
     . obtain⟨es,e1,e2⟩:=h3 i a ha;exact⟨es,e1,e2.same (zL gm)⟩
     . have gD:p.toNat<rk.length:=by lia
       have e:rk[p.toNat]?=some (CV rk p):=by unfold CV;rw[zF,zC gD];rfl
       obtain⟨a,b⟩:=hrk _ _ e;exact⟨a,by rw[b,Ja h0]⟩
theorem WO:∀(l:List Int)(k:Nat),(l.map V.int).eraseIdx k=(l.eraseIdx k).map V.int
 | [],_=>rfl
 | _::_,0=>rfl
 | x::r,k+1=>by show V.int x::(r.map V.int).eraseIdx k=V.int x::(r.eraseIdx k).map V.int;rw[WO r k]
theorem YY:∀{l:List Int}{k:Nat}(h:k<l.length),(l[k]::l.eraseIdx k).Perm l
 | [],_,h=>absurd h (HC _)
 | _::_,0,_=>Hf _
 | x::r,k+1,h=>by
  have hk:k<r.length:=by simpa using h
  show (r[k]::x::r.eraseIdx k).Perm (x::r);exact (List.Perm.swap x r[k] _).trans ((YY hk).cons x)
def WJ:Sp:=fun vs H Q _=>∃t tp N n,vs=[.ref t,.int n]/\Bl H t tp N/\N<900000/\1<=n/\n<=24 /\
 ∀l os H',H' l=some (.tup (os.map V.int))->C0 n os->Bl H' t tp (N+24)->Sm t H H'->Q (.ref l) H'
def D0 (H:Hp)(l:Addr)(ks:List Nat):Prop:=∃as:List Addr,H l=some (.tup (as.map V.ref))/\as.length=ks.length/\∀(i:Nat)a,as[i]?=some a->∃ys:List V,H a=some (.tup ys)/\ks[i]?=some ys.length
theorem D0.keep (h:D0 H l ks)(k:∀b ys,H b=some (.tup ys)->H' b=some (.tup ys)):D0 H' l ks:=
 let ⟨as,h1,h2,h3⟩:=h;⟨as,k _ _ h1,h2,fun i a ha=>let ⟨ys,e1,e2⟩:=h3 i a ha;⟨ys,k _ _ e1,e2⟩⟩
theorem Hv.tlen (h:Hv H l gM):D0 H l (gM.map List.length):=by obtain⟨as,h1,h2,h3⟩:=h;refine⟨as,h1,by rw[zB];exact h2,fun i a ha=>?_⟩;obtain⟨es,e1,bs,e2,EA,_⟩:=h3 i a ha;exact⟨_,e2,by rw[zM,e1,zB,EA.1];rfl⟩
def S0:Sp:=fun vs H Q _=>∃l ks,vs=[.ref l]/\D0 H l ks/\ks.length<=24/\∀H',AF H H'->Q (.int (ks.map fun k:Nat=>(k:Int)).sum) H'
theorem Qz:AW ["_law_tape_here","_law_n","_law_left","_law_found","_law_k"] Eo (defScope Rh):=AY
theorem cO (F:Fu K "_law_order" Rh f gA) (FD:AD K mg "_law_draw" IB fD fdD IV)
 (f9:mg "len"=none) (f7:mg "range"=none) (fw:mg "tuple"=none) (gN:mg "list"=none):AH P w K mg base AL 2 f gA Eo WJ:=by
 have GD:AJ P w base 1 FD Q1:=Rt FD.F f9;refine F.okD Qz fun _ A _ _ H vs Q E hr h=>?_;obtain⟨t,tp,N,n,rfl,TP,hN,iI,gQ,k⟩:=h;refine⟨_,zW (Ak (i:=2) Qz.nd (Rw rfl rfl gN rfl f7 (zD (pv 1) zO)))
  (zW (Ak (i:=3) Qz.nd (DR zO))
  (zW (CB (CT rfl f7 (zD (pv 1) zO)) (BN (i:=4) Qz.nd)
   (zh (DL (Gd PySem.F.plainAttrs_list PySem.F.slot_list_append PySem.F.type_list_append HB (pv 3)
    (zD (Gd PySem.F.plainAttrs_list PySem.F.slot_list_pop PySem.F.type_list_pop ZN (pv 2)
     (zD (AI GD hr FD (zD (pv 0) (zD (Aj Bz f9 (zD (pv 2) zO)) zO))) zO)) zO)))))
  (zh (AQ (Bi B9 fw (zD (pv 3) zO)))))),?_⟩
 refine⟨_,rfl,n,rfl,by lia,by lia,fun lf hlf=>?_⟩;obtain⟨ns0,sp0,re0,ht0,hp0,_⟩:=id TP;have nlt:lf≠t:=(zn ht0 hlf).symm;have nlp:lf≠tp:=(zn hp0 hlf).symm;refine⟨zg _,fun D hD=>?_⟩;have nDl:D≠lf:=fun z=>by rw[z,zK] at hD;cases hD
 have hD0:H D=none:=by rw[zf nDl] at hD;exact hD
 have jf:D≠t:=(zn ht0 hD0).symm;have nDp:D≠tp:=(zn hp0 hD0).symm;refine⟨_,rfl,n,rfl,by lia,by lia,IH (lo:=0) (n:=n.toNat) (fun q σ H2=>IM fun (v4:Option V)(row left:List Int)=>σ=[some (.ref t),some (.int n),some (.ref lf),some (.ref D),v4]/\row.length=q/\(row++left).Perm (lowTo n.toNat)/\H2 lf=some (.lst (left.map V.int))/\H2 D=some (.lst (row.map V.int))/\Bl H2 t tp (N+q)/\Sm t H H2)
  ⟨none,[],lowTo n.toNat,rfl,rfl,Hf _,by rw[zf nDl.symm,zK],zK,TP.keepF (fun o e=>by rw[zf jf.symm,zf nlt.symm];exact e) (fun o e=>by rw[zf nDp.symm,zf nlp.symm];exact e) (by lia),(Sm.laid hlf).chg hD0⟩ ?turn ?after⟩
 case after=>
  rintro σ H2 ⟨v4,row,left,rfl,hl,hp,hlf2,gj,TP2,s2⟩;have hleft:left=[]:=by have:=hp.length_eq;rw[zJ,CA,hl] at this;exact Ep.mp (by lia)
  subst hleft;rw[BR] at hp;have nd:row.Nodup:=hp.nodup_iff.mpr ((J5 _).imp fun h=>by lia);refine⟨_,rfl,D,_,rfl,.inl ⟨AE.of gj,fun l gm=>?_⟩⟩;refine k l row _ zK ⟨hl,nd,fun p hp'=>?_⟩ (TP2.keepF (fun o e=>zL gm _ _ e) (fun o e=>zL gm _ _ e) (by lia)) (s2.trans (Sm.laid gm));have:=Cs.mp (hp.mem_iff.mp hp')
  lia
 case turn=>
  rintro q σ H2 hq ⟨v4,row,left,rfl,hl,hp,hlf2,gj,TP2,s2⟩;have iW:row.length+left.length=n.toNat:=by have:=hp.length_eq;rw[zJ,CA] at this;exact this
  refine⟨_,rfl,.inl ⟨rfl,_,AE.of gj⟩,_,rfl,.inl ⟨rfl,_,AE.of hlf2⟩,?_⟩;refine⟨_,rfl,_,rfl,lf,_,rfl,.inl (AE.of hlf2),t,tp,N+q,_,rfl,TP2,by lia,by rw[zB];lia,by rw[zB];lia,fun rr H3 h0 h1 TP3 e3=>?_⟩;rw[zB] at h1;have gD:rr.toNat<left.length:=by lia
  refine⟨lf,left.map V.int,rr,rr.toNat,.int left[rr.toNat],rfl,rfl,by rw[e3 lf nlt];exact hlf2,by lia,by lia,PySem.StrLaws.seqIndex_nonneg h0 (by rw[zB];lia),by rw[zM,zC gD];rfl,?_⟩;rw[WO left rr.toNat];have s3:Sm t H H3:=fun b o nb e=>by rw[e3 b nb];exact s2 b o nb e
  have hlf0:H lf=none:=hlf;refine⟨D,_,_,rfl,rfl,by rw[zf nDl,e3 D jf];exact gj,by rw[zB];exact zr (by lia),?_⟩;refine⟨_,row++[left[rr.toNat]],left.eraseIdx rr.toNat,rfl,by rw[zJ,hl];rfl,?_,by rw[zf nDl.symm,zK],by rw[zQ];exact zK,TP3.keepF (fun o e=>by rw[zf jf.symm,zf nlt.symm];exact e) (fun o e=>by rw[zf nDp.symm,zf nlp.symm];exact e) (by lia),(s3.chg hlf0).chg hD0⟩;refine List.Perm.trans ?_ hp;rw[DT];exact (YY gD).append_left row
theorem Qj:AW EE EE (defScope Fi):=AY
theorem Y6 (F:Fu K "total" Fi f gA) (f9:mg "len"=none) (g9:mg "sum"=none):AH P w K mg base AL 1 f gA EE S0:=by
 refine F.okD Qj fun _ A _ _ H vs Q E hr h=>?_;obtain⟨l,ks,rfl,⟨as,hl,jb,hk⟩,jR,k⟩:=h;refine⟨_,zh (AQ (Aj (UE rfl) g9 (zD (A0 (own:=["label"]) (cn:=[]) (ci:=[]) rfl (An rfl rfl) trivial rfl (Bo (pv 0)) (fun _ _ _ _=>Aq) (fun _ _ _ _=>BI)
  (fun _ _ _ _=>Aj UM f9 (zD (pv 0) zO))) zO))),?_⟩
 refine⟨_,rfl,l,rfl,⟨_,AB.of hl⟩,[],rfl,fun D hD=>?_⟩;refine C8 (a:=l) (xs:=as.map V.ref) (fun i ys H4=>ys=((ks.take i).map fun k:Nat=>(k:Int)).map V.int/\H4=upd H D (.lst ys)) ⟨rfl,rfl⟩ (fun i ys H4 z=>?_) (fun i ys H4 z=>?_) (fun i x ys H4 hx z=>?_) (fun ys H4 z=>?_)
 . obtain⟨_,rfl⟩:=z;exact AB.of (by rw[zf (zn hl hD)];exact hl)
 . obtain⟨rfl,_⟩:=z;rw[zB,zB,zt];exact zr (by lia)
 . obtain⟨rfl,rfl⟩:=z;obtain⟨a,ha,rfl⟩:∃a,as[i]?=some a/\V.ref a=x:=by
    rw[zM] at hx;cases e:as[i]? with
    | none=>rw[e] at hx;cases hx
    | some a=>rw[e] at hx;exact⟨a,rfl,zV hx⟩
   obtain⟨zs,e1,e2⟩:=hk i a ha;refine⟨⟨rfl,rfl⟩,?_⟩;refine BH ?_;refine⟨_,rfl,a,zs,rfl,.inr (AB.of (zL hD _ _ e1)),zK,?_,BQ⟩;rw[zy,e2,zQ,zQ];rfl
 . obtain⟨rfl,rfl⟩:=z;rw[zB,jb,zY (zI _)];exact⟨D,_,rfl,AE.of zK,k _ (zL hD)⟩
def HZ (ts:List T3)(ps:List Int)(h v:Int):Prop:=(∃d,WM.IsD ts h v d)/\∀q∈ps,¬ A8 ts h v q
def Nh (ts:List T3)(ps:List Int)(h v:Int):Bool:=@decide (HZ ts ps h v) (Classical.propDecidable _)
theorem YF :Nh ts ps h v=true↔HZ ts ps h v:=by unfold Nh;exact @EZ _ (Classical.propDecidable _)
def FQ (ts:List T3)(n:Int)(ps:List Int)(h:Int):Nat:=((lowTo n.toNat).filter (Nh ts ps h)).length
theorem aH (h:A8 ts x y p):∃d,WM.IsD ts x y d:=by obtain⟨a,b,_,_,e⟩:=h;exact⟨_,e⟩
theorem bP (G:GW n ts)(hb:∀p,p∈xs↔A8 ts h v p):HZ ts ps h v↔xs≠[]/\∀p∈xs,p∉ps:=by
 constructor
 . rintro ⟨⟨d,hd⟩,z⟩;refine⟨fun e=>?_,fun p hp hq=>z p hq ((hb p).mp hp)⟩;have:=(hb h).mpr (A8.self G hd);rw[e] at this;cases this
 . rintro ⟨ne,z⟩;obtain⟨p,hp⟩:=List.exists_mem_of_ne_nil xs ne;exact⟨aH ((hb p).mp hp),fun q hq hB=>z q ((hb q).mpr hB) hq⟩
theorem bK {l k:List Int}(h1:l.Nodup)(h2:k.Nodup)(e:∀x,x∈l↔x∈k):l.length=k.length:=
 Nat.le_antisymm (DG h1 fun x hx=>(e x).mp hx) (DG h2 fun x hx=>(e x).mpr hx)
theorem Sg (m):(lowTo m).Nodup:=(J5 m).imp fun h=>by lia
theorem Xk (f:Nat->Nat):∀l:List Nat,((l.map fun k=>((f k:Nat):Int)).sum)=(((l.map f).sum:Nat):Int)
 | []=>rfl
 | a::l=>by rw[BJ,G9,Xk f l,BJ,G9,Int.natCast_add]
def Jl (ts:List T3)(rk:Int->Int)(h v:Int):Bool:=@decide (G4 ts rk h v) (Classical.propDecidable _)
theorem Yj :Jl ts rk h v=true↔G4 ts rk h v:=by unfold Jl;exact @EZ _ (Classical.propDecidable _)
theorem JA {os:List Int}(O:C0 n os)(R:Gq n os rk){k:Nat}(hk:os[k]?=some h):rk h=k:=by
 have hr:=O.rng h (zP hk);obtain⟨a,b⟩:=R h hr.1 hr.2;obtain⟨h1,e1⟩:=zH.mp hk;obtain⟨h2,e2⟩:=zH.mp b;apply zw;intro gL;have hp:=Cz.mp (DN.mp O.nd);by_cases c:k<(rk h).toNat
 . exact hp k (rk h).toNat h1 h2 c (by rw[e1,e2])
 . exact hp (rk h).toNat k h2 h1 (by lia) (by rw[e1,e2])
theorem Ye {os:List Int}(O:C0 n os)(R:Gq n os rk)(h0:0<=q)(h1:q<n):q∈os.take k↔rk q<k:=by
 obtain⟨a,b⟩:=R q h0 h1;constructor
 . intro h;obtain⟨i,hi,e⟩:=zp h;rw[zt] at hi;rw[List.getElem_take] at e;have:os[i]?=some q:=by rw[zC (by lia),e]
   have:=JA O R this
   lia
 . intro h;obtain⟨h2,e2⟩:=zH.mp b;have hl:(rk q).toNat<(os.take k).length:=by rw[zt];lia
   have:(os.take k)[(rk q).toNat]=q:=by rw[List.getElem_take];exact e2
   exact this ▸ DF hl
theorem dR {os:List Int}(G:GW n ts)(O:C0 n os)(R:Gq n os rk)(hk:os[k]?=some h):HZ ts (os.take k) h v↔G4 ts rk h v:=by
 have hr:=O.rng h (zP hk);have er:=JA O R hk;constructor
 . rintro ⟨d,z⟩;refine⟨d,fun p hp=>?_⟩;obtain⟨a,b,ia,_⟩:=id hp;have hpr:=ia.1.in_ G hr.1 hr.2;apply zw;intro gD;exact z p ((Ye O R hpr.1 hpr.2).mpr (by lia)) hp
 . rintro ⟨d,z⟩;refine⟨d,fun q hq hB=>?_⟩;have hqr:=O.rng q (List.mem_of_mem_take hq);have:=(Ye O R hqr.1 hqr.2).mp hq;have:=z q hB
   lia
theorem Zd {os:List Int}(G:GW n ts)(O:C0 n os)(R:Gq n os rk)(hk:os[k]?=some h):FQ ts n (os.take k) h=((lowTo n.toNat).filter (Jl ts rk h)).length:=by unfold FQ;rw[List.filter_congr fun v _=>Bool.eq_iff_iff.mpr (YF.trans ((dR G O R hk).trans Yj.symm))]
theorem bV (L:MW ts n rk v es):es.length=((lowTo n.toNat).filter fun h=>Jl ts rk h v).length:=by
 rw[<-zB (f:=fun e:En=>e.h)];refine bK ?_ ((Sg _).filter _) fun x=>?_
 . rw[DN,DO];exact L.hub.imp fun h=>by lia
 . rw[Bf,Yj];constructor
   . intro hx;obtain⟨e,he,rfl⟩:=zq.mp hx;have:=(L.ent e he).rng;exact⟨Cs.mpr (by lia),(L.ent e he).hub⟩
   . rintro ⟨a,b⟩;have:=Cs.mp a;obtain⟨e,he,rfl⟩:=L.all x this.1 (by lia) b;exact zq.mpr ⟨e,he,rfl⟩
theorem Zv {l:List Nat}(h:l.Perm k):l.sum=k.sum:=by
 induction h with
 | nil=>rfl
 | cons x _ ih=>rw[G9,G9,ih]
 | swap x y l=>simp only[G9];lia
 | trans _ _ a b=>exact a.trans b
theorem Zq {l:List Int}(h1:l.Nodup)(h2:k.Nodup)(e:∀x,x∈l↔x∈k):l.Perm k:=(Mp h1 h2).mpr e
theorem Zs {os:List Int}(G:GW n ts)(O:C0 n os)(R:Gq n os rk)(L:Na ts n rk gM){bs:List Nat}(hl:bs.length=n.toNat)
 (hb:∀k h,os[k]?=some h->bs[k]?=some (FQ ts n (os.take k) h)):bs.sum=(gM.map List.length).sum:=by
 have e1:bs=os.map fun h=>((lowTo n.toNat).filter (Jl ts rk h)).length:=by
  apply J7;intro k;rw[zM];cases e:os[k]? with
  | none=>have:=List.getElem?_eq_none_iff.mp e;exact List.getElem?_eq_none_iff.mpr (by have:=O.ln;lia)
  | some h=>rw[hb k h e,Zd G O R e];rfl
 have e2:gM.map List.length=(lowTo n.toNat).map fun v=>((lowTo n.toNat).filter fun h=>Jl ts rk h v).length:=by
  apply J7;intro k;rw[zM,zM];cases e:gM[k]? with
  | none=>have:=List.getElem?_eq_none_iff.mp e;have hk:(lowTo n.toNat)[k]?=none:=List.getElem?_eq_none_iff.mpr (by rw[lowTo,zB,Bv];have:=L.1;lia);rw[hk];rfl
  | some es=>
   have hk:=(zH.mp e).1;have hlk:(lowTo n.toNat)[k]?=some (k:Int):=by rw[lowTo,zM,List.getElem?_range (by have:=L.1;lia)];rfl
   rw[hlk];show some es.length=some _;rw[bV (L.2 k es e)]
 have hp:os.Perm (lowTo n.toNat):=Zq O.nd (Sg _) fun x=>⟨fun hx=>Cs.mpr (by have:=O.rng x hx;lia),fun hx=>O.mem (Cs.mp hx).1 (by have:=Cs.mp hx;lia)⟩;rw[e1,e2,<-ZI (Jl ts rk)];exact Zv (hp.map _)
def Oc:Sp:=fun vs H Q _=>∃p ps,vs=[.ref p]/\H p=some (.tup (ps.map V.int))/\(∀x∈ps,0<=x/\x<24)/\ps.length<=24/\∀H',AF H H'->Q (.int (sn ps)) H'
def KU:Sp:=fun vs H Q _=>∃(rl:Addr)(rs:List Addr)(M:M6)(n:Int)(ts:List T3)(h:Int),vs=[.ref rl,.int h]/\GW n ts/\H rl=some (.tup (rs.map V.ref))/\Eb H rs M/\Rows ts n M/\0<=h/\h<n /\
 ∀(l:Addr)(bs:List (List Int))(H':Hp),AF H H'->H' l=some (.lst ((bs.map sn).map V.int))->bs.length=n.toNat->(∀(i:Nat)(xs:List Int),bs[i]?=some xs->xs.Pairwise (· < ·)/\∀p,p∈xs↔A8 ts h i p)->Q (.ref l) H'
noncomputable def Dh (k m:Int):Bool:=!decide (m=0) && decide (PySem.Builtin.bitAnd m k=0)
def K9:Sp:=fun vs H Q _=>∃l,∃(ns:List Int)(k:Int),vs=[.ref l,.int k]/\H l=some (.lst (ns.map V.int))/\ns.length<=24/\∀H',AF H H'->Q (.int ((ns.filter (Dh k)).length:Nat)) H'
theorem WX {α β:Type}{f:α->β}{l:List α}{a:α}(h:l[i]?=some a):(l.take (i+1)).map f=(l.take i).map f++[f a]:=by rw[zy,h,zQ];rfl
theorem int_at {l:List Int}{i:Nat}(h:(l.map V.int)[i]?=some x):∃y,l[i]?=some y/\V.int y=x:=by
 rw[zM] at h;cases e:l[i]? with
 | none=>rw[e] at h;cases h
 | some y=>rw[e] at h;exact⟨y,rfl,zV h⟩
theorem cF :PySem.Builtin.bitAnd (sn xs) (sn ps)=((Ab (xs.map Int.toNat) &&& Ab (ps.map Int.toNat):Nat):Int):=by rw[Mm,Mm];unfold PySem.Builtin.bitAnd;rw[zR (Int.natCast_nonneg _),zR (Int.natCast_nonneg _)];rfl
theorem Z0 (G:GW n ts)(h0:0<=h)(h1:h<n)(nd:ps.Nodup)(rng:∀x∈ps,0<=x/\x<n)(hr:xs.Pairwise (· < ·))(hb:∀p,p∈xs↔A8 ts h v p):Dh (sn ps) (sn xs)=Nh ts ps h v:=by
 have x0:∀p∈xs,0<=p:=fun p hp=>by obtain⟨a,b,ia,_⟩:=(hb p).mp hp;exact (ia.1.in_ G h0 h1).1
 apply Bool.eq_iff_iff.mpr;rw[YF,bP G hb];unfold Dh;rw[Jb,Bool.not_eq_true',decide_eq_false_iff_not,EZ,eF,cF,K3 (hr.imp fun z=>by lia) nd x0 fun q hq=>(rng q hq).1]
theorem Z2 {α:Type}{l:List α}{f:α->Int}{k:List Int}(hl:l.length=k.length)(h:∀(i:Nat)a(b:Int),l[i]?=some a->k[i]?=some b->p (f a)=q b):((l.map f).filter p).length=(k.filter q).length:=by
 induction l generalizing k with
 | nil=>cases k with
  | nil=>rfl
  | cons _ _=>simp at hl
 | cons a l ih=>cases k with
  | nil=>simp at hl
  | cons b k=>
   have e:=h 0 a b rfl rfl;have r:=ih (k:=k) (by simpa using hl) fun i a' b' h1 h2=>h (i+1) a' b' h1 h2;rw[BJ,Et,Et,e];by_cases c:q b=true
   . rw[if_pos c,if_pos c,zk,zk,r]
   . rw[if_neg c,if_neg c,r]
theorem PJ:AW IQ IQ (defScope Ko):=AY
theorem PM (F:Fu K "set_number" Ko f gA) (g9:mg "sum"=none):AH P w K mg base AL 1 f gA IQ Oc:=by
 refine F.okD PJ fun _ A _ _ H vs Q E hr h=>?_;obtain⟨p,ps,rfl,hp,rng,hl,k⟩:=h;refine⟨_,zh (AQ (Aj (UE rfl) g9 (zD (A0 (own:=CK) (cn:=[]) (ci:=[]) rfl (An rfl rfl) trivial rfl (Bo (pv 0)) (fun _ _ _ _=>Aq) (fun _ _ _ _=>BI)
  (fun _ _ _ _=>Ac Jh zm (pv 0))) zO))),?_⟩
 refine⟨_,rfl,p,rfl,⟨_,AB.of hp⟩,[],rfl,fun D hD=>?_⟩;refine C8 (a:=p) (xs:=ps.map V.int) (fun i ys H4=>ys=((ps.take i).map fun x=>(1:Int)*2 ^ x.toNat).map V.int/\H4=upd H D (.lst ys)) ⟨rfl,rfl⟩ (fun i ys H4 z=>?_) (fun i ys H4 z=>?_) (fun i x ys H4 hx z=>?_) (fun ys H4 z=>?_)
 . obtain⟨_,rfl⟩:=z;exact AB.of (by rw[zf (zn hp hD)];exact hp)
 . obtain⟨rfl,_⟩:=z;rw[zB,zB,zt];exact zr (by lia)
 . obtain⟨rfl,rfl⟩:=z;obtain⟨y,hy,rfl⟩:=int_at hx;have yr:=rng y (zP hy);refine⟨⟨rfl,rfl⟩,?_⟩;refine BH ?_;refine⟨_,rfl,1,y,rfl,rfl,⟨yr.1,by lia,by decide⟩,zK,?_,BQ⟩;rw[WX hy,zQ];rfl
 . obtain⟨rfl,rfl⟩:=z;rw[zB,zY (zI _)];exact⟨D,_,rfl,AE.of zK,k _ (zL hD)⟩
theorem U4:AW Lb Lb (defScope Qw):=AY
theorem O5 (F:Fu K "sets_from" Qw f gA) (FS:AD K mg "set_number" Ko fS fdS IQ) (FB:AD K mg "between_rows" ES fB jm Lm)
 (f7:mg "range"=none) (fw:mg "tuple"=none) (f9:mg "len"=none) (g9:mg "sum"=none):AH P w K mg base AL 2 f gA Lb KU:=by
 have GB:AJ P w base 1 FB Sw:=XR FB.F f7 fw f9;have GS:AJ P w base 1 FS Oc:=PM FS.F g9;refine F.okD U4 fun _ A _ _ H vs Q E hr h=>?_;obtain⟨rl,rs,M,n,ts,h,rfl,G,i4,RA,RR,h0,h1,k⟩:=h;have gQ:=G.n24;have iI:=G.n1;have jZ:rs.length=n.toNat:=RA.1.trans RR.1;refine⟨_,zh (AQ (A0 (own:=CK) (cn:=Lb) (ci:=[0,1]) rfl (An rfl rfl) ⟨rfl,rfl,rfl,rfl,rfl,rfl,trivial⟩ rfl
  (CT rfl f7 (zD (Aj Bz f9 (zD (pv 0) zO)) zO)) (fun _ _ _ _=>Aq) (fun _ _ _ _=>BI)
  (fun _ _ _ _=>AI GS hr FS (zD (AI GB hr FB (zD (AK Bg (pv 1) (pv 2)) (zD (AK Bg (pv 1) (pv 0)) (zD (pv 0) zO)))) zO)))),?_⟩
 refine⟨_,rfl,rl,_,rfl,.inr (AB.of i4),n,by rw[zB,jZ];exact congrArg (fun z=>[V.int z]) (Ja (by lia)),by lia,by lia,[.ref rl,.int h],rfl,fun D hD=>?_⟩;refine Dv (lo:=0) (n:=n.toNat) (fun q ys H1=>q<=n.toNat/\AF H H1/\H1 D=some (.lst ys)/\∃bs:List (List Int),ys=(bs.map sn).map V.int/\bs.length=q/\∀(i:Nat)(xs:List Int),bs[i]?=some xs->xs.Pairwise (· < ·)/\∀p,p∈xs↔A8 ts h i p)
  ⟨zg _,zL hD,zK,[],rfl,rfl,fun i xs z=>by simp at z⟩ (fun q ys H1 z=>?_) (fun q ys H1 hq z=>?_) (fun ys H1 z=>?_)
 . obtain⟨hq,_,_,bs,rfl,hl,_⟩:=z;rw[zB,zB,hl];exact zr (by lia)
 . obtain⟨_,s1,jk,bs,rfl,hl,hbs⟩:=z;rw[Ca];obtain⟨rh,gh,hh,Lh⟩:=(RA.same s1).at RR h0 h1;obtain⟨rv,gv,hv,Lv⟩:=(RA.same s1).at RR (x:=(q:Int)) (by lia) (by lia);have hrl1:=s1 _ _ i4;refine⟨⟨rfl,rfl⟩,?_⟩;refine BH ?_;refine⟨_,rfl,_,rfl,rl,_,_,.ref rh,rfl,rfl,AB.of hrl1,BB h0 gh,_,rfl,_,rfl,rl,_,_,.ref rv,rfl,rfl,AB.of hrl1,BB (by lia) gv,_,rfl,rh,rv,n,ts,h,q,_,_,rfl,G,h0,h1,by lia,by lia,hh,hv,Lh,Lv,fun l xs H2 s2 gS h7 gg=>?_⟩;have jg:∀p∈xs,0<=p/\p<n:=fun p hp=>by obtain⟨a,b,ia,_⟩:=(gg p).mp hp;exact ia.1.in_ G h0 h1
   have hxl:xs.length<=24:=by
    have:=nd_len (n:=n.toNat) (l:=xs) (h7.imp fun z=>by lia) fun x hx=>by have:=jg x hx;lia
    lia
   refine⟨l,xs,rfl,gS,fun x hx=>by have:=jg x hx;lia,hxl,fun H3 s3=>?_⟩;have s13:=s2.trans s3;refine⟨s13 _ _ jk,hq,BM (s1.trans s13) hD,zK,bs++[xs],by rw[zQ,zQ];rfl,by rw[zJ,hl];rfl,fun i ys hi=>?_⟩;by_cases c:i<bs.length
   . rw[zc c] at hi;exact hbs i ys hi
   . have i6:i=q:=by have:=(zH.mp hi).1;rw[zJ] at this;simp at this;lia
     subst i6;rw[za (by lia),hl,Ge] at hi;have:xs=ys:=by simpa using hi
     subst this;exact⟨h7,gg⟩
 . obtain⟨_,s1,jk,bs,rfl,hl,hbs⟩:=z;exact k D bs H1 s1 jk hl hbs
theorem U6:AW Kx Kx (defScope Mv):=AY
theorem JE (F:Fu K "count_free" Mv f gA) (f9:mg "len"=none):AH P w K mg base AL 1 f gA Kx K9:=by
 refine F.okD U6 fun _ A _ _ H vs Q E hr h=>?_;obtain⟨l,ns,t,rfl,hl,hn,k⟩:=h;refine⟨_,zh (AQ (Aj Bz f9 (zD (A0 (own:=["members"]) (cn:=["taken"]) (ci:=[1]) rfl (An rfl rfl) ⟨rfl,rfl,rfl,trivial⟩ rfl (CZ (pv 0)) (fun _ _ _ _=>Aq)
  (fun _ _ _ _=>Cn (PW.pt (NZ (Ad Me (pv 0) zm (AZ _)) (NY (Ad CN (Ac V0 (pv 0) (pv 1)) zm (AZ _)))))) (fun _ _ _ _=>pv 0)) zO))),?_⟩
 refine⟨_,rfl,l,rfl,⟨_,AE.of hl⟩,[.int t],rfl,fun D hD=>?_⟩;have nlD:l≠D:=zn hl hD;refine DM (a:=l) (xs:=ns.map V.int) (fun i ys H4=>ys=((ns.take i).filter (Dh t)).map V.int/\H4=upd H D (.lst ys)) ⟨rfl,rfl⟩ (fun i ys H4 z=>?_) (fun i ys H4 z=>?_) (fun i x ys H4 hx z=>?_) (fun ys H4 z=>?_)
 . obtain⟨_,rfl⟩:=z;exact AE.of (by rw[zf nlD];exact hl)
 . obtain⟨rfl,_⟩:=z;rw[zB];refine Cv (CH _ _) ?_;rw[zt];exact zr (by lia)
 . obtain⟨rfl,rfl⟩:=z;obtain⟨m,hm,rfl⟩:=int_at hx;have st:(ns.take (i+1)).filter (Dh t)=(ns.take i).filter (Dh t)++[m].filter (Dh t):=by rw[zy,hm,Ga];rfl
   refine⟨⟨rfl,rfl⟩,?_⟩;refine⟨_,rfl,rfl,_,rfl,?_⟩;rw[Hh];by_cases c:m=0
   . refine BL (by rw[zR c];rfl) ?_;refine Am ⟨?_,rfl⟩;rw[st,Gu (by unfold Dh;rw[zR c];simp),Du,BR]
   . refine FV (by rw[zT c];rfl) ?_;refine⟨_,rfl,_,rfl,_,_,rfl,rfl,rfl,_,rfl,?_⟩;rw[Hh];by_cases c2:PySem.Builtin.bitAnd m t=0
     . refine FV (zR c2) ?_;refine⟨_,rfl,zK,?_,BQ⟩;rw[st,Hl (by unfold Dh;rw[zT c,zR c2];rfl),Du,zQ];rfl
     . refine BL (zT c2) ⟨?_,rfl⟩;rw[st,Gu (by unfold Dh;rw[zT c2,Bool.and_false];simp),Du,BR]
 . obtain⟨rfl,rfl⟩:=z;rw[zB,zY (zI _)];refine⟨D,_,rfl,.inl (AE.of zK),?_⟩;rw[zB];exact k _ (zL hD)
theorem Nz (p:Nat):(1:Int)*2 ^ ((p:Int)).toNat=((2 ^ p:Nat):Int):=by rw[B0,Int.one_mul,Int.natCast_pow];rfl
theorem SU (a b:Nat):PySem.Builtin.bitAnd ↑a ↑b=((a &&& b:Nat):Int):=by unfold PySem.Builtin.bitAnd;rw[zR (Int.natCast_nonneg _),zR (Int.natCast_nonneg _)];rfl
theorem UL :(t &&& 2 ^ p=0)↔t.testBit p=false:=by
 constructor
 . intro e;have:=congrArg (Nat.testBit · p) e;simp only[Nat.testBit_and,Nat.testBit_two_pow_self,Nat.zero_testBit,Bool.and_true] at this;exact this
 . intro h;apply Nat.eq_of_testBit_eq;intro j;rw[Nat.testBit_and,Nat.testBit_two_pow,Nat.zero_testBit];by_cases c:p=j
   . subst c;rw[h,Bool.false_and]
   . rw[zT c,Bool.and_false]
theorem Wy {t:Nat}(h:t.testBit p=false):PySem.Builtin.bitOr (t:Int) ((2 ^ p:Nat):Int)=((t+2 ^ p:Nat):Int):=by
 rw[PyProof.Rows.bitOr_and,SU,UL.mpr h]
 lia
noncomputable def A9 (t n:Nat):List Nat:=(List.range n).filter fun p=>!t.testBit p
theorem Jr :p∈A9 t n↔p<n/\t.testBit p=false:=by unfold A9;rw[Bf,Cr,Bool.not_eq_true']
noncomputable def B5 (R:List (List Int))(t h:Nat):Nat:=((R.getD h []).filter (Dh (t:Int))).length
def Cp (H:Hp)(rs:List Addr)(R:List (List Int)):Prop:=rs.length=R.length/\∀(i:Nat)r(row:List Int),rs[i]?=some r->R[i]?=some row->H r=some (.lst (row.map V.int))
theorem Cp.same (h:Cp H rs R)(k:AF H H'):Cp H' rs R:=⟨h.1,fun i r row a b=>k _ _ (h.2 i r row a b)⟩
def Ed (H:Hp)(sl:Addr)(R:List (List Int)):Prop:=∃rs:List Addr,H sl=some (.lst (rs.map V.ref))/\Cp H rs R
theorem Ed.same (h:Ed H sl R)(k:AF H H'):Ed H' sl R:=by obtain⟨rs,a,b⟩:=h;exact⟨rs,k _ _ a,b.same k⟩
def RU:Sp:=fun vs H Q _=>∃wa ta,∃(n t:Nat),vs=[.ref wa,.int t]/\H wa=some (.tup [.int n,.ref ta])/\n<=24/\∀l H',H l=none->AF H H'->H' l=some (.lst ((A9 t n).map fun (p:Nat)=>V.int p))->Q (.ref l) H'
def Rp:Sp:=fun vs H Q _=>∃sl nl R,∃(nu:List Int)(t h:Nat),vs=[.ref sl,.ref nl,.int t,.int h]/\Ed H sl R/\H nl=some (.lst (nu.map V.int))/\h<R.length/\t.testBit h=false/\t+2 ^ h<nu.length/\(∀row∈R,row.length<=24)/\h<24 /\
 ∀H',AF H H'->Q (.int ((B5 R t h:Nat)+nu.getD (t+2 ^ h) 0)) H'
theorem P0:AW MK MK (defScope Dy):=AY
theorem Kv (F:Fu K "left_places" Dy f gA) (f7:mg "range"=none):AH P w K mg base AL 1 f gA MK RU:=by
 refine F.okD P0 fun _ A _ _ H vs Q E hr h=>?_;obtain⟨wa,ta,n,t,rfl,gF,hn,k⟩:=h;refine⟨_,zh (AQ (A0 (own:=CK) (cn:=["taken"]) (ci:=[1]) rfl (An rfl rfl) ⟨rfl,rfl,rfl,trivial⟩ rfl (CT rfl f7 (zD (AK AX (pv 0) zm) zO)) (fun _ _ _ _=>Aq)
  (fun _ _ _ _=>Cn (Ad CN (Ac V0 (pv 1) (Ac Jh zm (pv 0))) zm (AZ _))) (fun _ _ _ _=>pv 0))),?_⟩
 refine⟨_,rfl,wa,_,_,_,rfl,rfl,AB.of gF,rfl,(n:Int),rfl,by lia,by lia,[.int t],rfl,fun D hD=>?_⟩;refine Dv (lo:=0) (n:=((n:Int)).toNat) (fun q ys H4=>q<=n/\ys=(A9 t q).map (fun (p:Nat)=>V.int p)/\H4=upd H D (.lst ys)) ⟨zg _,rfl,rfl⟩ (fun q ys H4 z=>?_) (fun q ys H4 hq z=>?_) (fun ys H4 z=>?_)
 . obtain⟨hq,rfl,_⟩:=z;rw[zB];refine Cv (CH _ _) ?_;rw[Bv];exact zr (by lia)
 . obtain⟨_,rfl,rfl⟩:=z;rw[Ca];have st:A9 t (q+1)=A9 t q++[q].filter fun p=>!t.testBit p:=by unfold A9;rw[List.range_succ,Ga]
   refine⟨⟨rfl,rfl⟩,?_⟩;refine⟨_,rfl,_,rfl,1,(q:Int),rfl,rfl,⟨by lia,by lia,by decide⟩,_,_,rfl,rfl,rfl,_,rfl,?_⟩;rw[Nz];rw[Hh];by_cases c:t.testBit q=false
   . refine FV (zR (by rw[SU,UL.mpr c];rfl)) ?_;refine⟨_,rfl,zK,by lia,?_,BQ⟩;rw[st,Hl (by rw[c];rfl),Du,zQ];rfl
   . refine BL (zT fun z=>c (UL.mp (by rw[SU] at z;lia))) ⟨by lia,?_,rfl⟩;rw[st,Gu (by simpa using c),Du,BR]
 . obtain⟨_,rfl,rfl⟩:=z;rw[B0];exact k D _ hD (zL hD) zK
theorem Im:AW HR HR (defScope He):=AY
theorem MT (F:Fu K "by_way_of" He f gA) (FC:AD K mg "count_free" Mv fC fdC Kx) (f9:mg "len"=none):AH P w K mg base AL 2 f gA HR Rp:=by
 have GC:AJ P w base 1 FC K9:=JE FC.F f9;refine F.okD Im fun _ A _ _ H vs Q E hr h=>?_;obtain⟨sl,nl,R,nu,t,h,rfl,⟨rs,hsl,RI⟩,iH,hh,hb,gD,kC,hh24,k⟩:=h;refine⟨_,zh (AQ (Ac Ci (AI GC hr FC (zD (AK BU (pv 0) (pv 3)) (zD (pv 2) zO))) (AK BU (pv 1) (Ac JH (pv 2) (Ac Jh zm (pv 3)))))),?_⟩;have gW:h<rs.length:=by rw[RI.1];exact hh
 have er:rs[h]?=some rs[h]:=zC gW;have eR:R[h]?=some R[h]:=zC hh;have hU:=RI.2 h _ _ er eR;have egd:R.getD h []=R[h]:=by rw[zF,eR];rfl
 refine⟨_,rfl,_,rfl,sl,_,_,.ref rs[h],rfl,rfl,AE.of hsl,C5 (by rw[zM,er];rfl),_,rfl,rs[h],R[h],(t:Int),rfl,hU,kC _ (DF hh),fun H1 s1=>?_⟩;refine⟨_,rfl,_,rfl,_,rfl,1,(h:Int),rfl,rfl,⟨by lia,by lia,by decide⟩,_,_,rfl,rfl,?_⟩;rw[Nz];dsimp only;rw[Wy hb];refine⟨nl,_,_,.int (nu.getD (t+2 ^ h) 0),rfl,rfl,AE.of (s1 _ _ iH),C5 (by rw[zM,zF,zC gD];rfl),?_⟩;refine⟨_,_,rfl,rfl,?_⟩;have:((R[h].filter (Dh (t:Int))).length:Nat)=B5 R t h:=by unfold B5;rw[egd]
 rw[this];exact k H1 s1
def Tv:Sp:=fun vs H Q _=>∃sl nl R,∃(nu:List Int)(t h:Nat),vs=[.ref sl,.ref nl,.int t,.int h]/\Ed H sl R/\H nl=some (.tup (nu.map V.int))/\h<R.length/\t.testBit h=false/\t+2 ^ h<nu.length/\(∀row∈R,row.length<=24)/\h<24 /\
 ∀H',AF H H'->Q (.int ((B5 R t h:Nat)+nu.getD (t+2 ^ h) 0)) H'
theorem b8 (F:Fu K "by_way_of" He f gA) (FC:AD K mg "count_free" Mv fC fdC Kx) (f9:mg "len"=none):AH P w K mg base AL 2 f gA HR Tv:=by
 have GC:AJ P w base 1 FC K9:=JE FC.F f9;refine F.okD Im fun _ A _ _ H vs Q E hr h=>?_;obtain⟨sl,nl,R,nu,t,h,rfl,⟨rs,hsl,RI⟩,iH,hh,hb,gD,kC,hh24,k⟩:=h;refine⟨_,zh (AQ (Ac Ci (AI GC hr FC (zD (AK BU (pv 0) (pv 3)) (zD (pv 2) zO))) (AK AX (pv 1) (Ac JH (pv 2) (Ac Jh zm (pv 3)))))),?_⟩;have gW:h<rs.length:=by rw[RI.1];exact hh
 have er:rs[h]?=some rs[h]:=zC gW;have eR:R[h]?=some R[h]:=zC hh;have hU:=RI.2 h _ _ er eR;have egd:R.getD h []=R[h]:=by rw[zF,eR];rfl
 refine⟨_,rfl,_,rfl,sl,_,_,.ref rs[h],rfl,rfl,AE.of hsl,C5 (by rw[zM,er];rfl),_,rfl,rs[h],R[h],(t:Int),rfl,hU,kC _ (DF hh),fun H1 s1=>?_⟩;refine⟨_,rfl,_,rfl,_,rfl,1,(h:Int),rfl,rfl,⟨by lia,by lia,by decide⟩,_,_,rfl,rfl,?_⟩;rw[Nz];dsimp only;rw[Wy hb];refine⟨nl,_,_,.int (nu.getD (t+2 ^ h) 0),rfl,rfl,AB.of (s1 _ _ iH),C5 (by rw[zM,zF,zC gD];rfl),?_⟩;refine⟨_,_,rfl,rfl,?_⟩;have:((R[h].filter (Dh (t:Int))).length:Nat)=B5 R t h:=by unfold B5;rw[egd]
 rw[this];exact k H1 s1
noncomputable def VL:Pos:=⟨168,44,168,92⟩
noncomputable abbrev Pk:Str:=(("best_next" : Str) ++ ".<locals>.") ++ "<lambda>"
abbrev Ek (H:Hp)(P2:Addr):Prop:=TabAt H P2 VL Pk
noncomputable def BX (R:List (List Int))(nu:List Int)(t h:Nat):Int:=(B5 R t h:Nat)+nu.getD (t+2 ^ h) 0
structure F0 (H:Hp)(sl nl:Addr)(R:List (List Int))(nu:List Int)(n:Nat):Prop where
 st:Ed H sl R
 nm:H nl=some (.lst (nu.map V.int))
 rl:R.length=n
 r24:∀row∈R,row.length<=24
 nl:nu.length=2 ^ n
 n8:n<=8
theorem F0.same {nl:Addr}(h:F0 H sl nl R nu n)(k:AF H H'):F0 H' sl nl R nu n:=⟨h.st.same k,k _ _ h.nm,h.rl,h.r24,h.nl,h.n8⟩
theorem Ed.smP (h:Ed H sl R)(k:AN P2 H H'):Ed H' sl R:=by obtain⟨rs,a,b,c⟩:=h;exact⟨rs,k.get a (by intro ps z;cases z),b,fun i r row x y=>k.get (c i r row x y) (by intro ps z;cases z)⟩
theorem F0.smP {nl:Addr}(h:F0 H sl nl R nu n)(k:AN P2 H H'):F0 H' sl nl R nu n:=⟨h.st.smP k,k.get h.nm (by intro ps z;cases z),h.rl,h.r24,h.nl,h.n8⟩
theorem Rg (ht:t<2 ^ n)(hh:h<n)(hb:t.testBit h=false):t+2 ^ h<2 ^ n:=by refine Nat.lt_pow_two_of_testBit _ fun j hj=>?_;rw[Nat.add_comm,Rj h t j hb,zT (by lia),Nat.testBit_lt_two_pow (zx ht (Nat.pow_le_pow_right (by decide) hj))];rfl
def RY (P2:Addr):Sp:=fun vs H Q _=>∃wa ta sl nl R,∃(nu:List Int)(n t:Nat),vs=[.ref wa,.ref sl,.ref nl,.int t]/\H wa=some (.tup [.int n,.ref ta])/\F0 H sl nl R nu n/\t<2 ^ n/\A9 t n≠[]/\Ek H P2 /\
 ∀(h:Nat)H',h∈A9 t n->(∀g∈A9 t n,BX R nu t h<=BX R nu t g)->AN P2 H H'->Ek H' P2->Q (.int h) H'
theorem Kc:AW IZ IZ (defScope Mr):=AY
theorem aF (F:Ct K "best_next" "best_next" Mr f gA c) (C:PySem.W.CodeHd base c P2)(g6:Co mg base)(gH:mg "min"=none)
 (FL:AD K mg "left_places" Dy fL fdL MK) (GL:AJ P w base 4 FL RU)
 (FB:AD K mg "by_way_of" He fB jm HR) (GB:AJ P w base 2 FB Rp):AH P w K mg base AL 5 f gA IZ (RY P2):=by
 refine F.ok Kc (fun vs H Q E h=>?_) (fun A outer s H vs Q E hr h=>?_)
 . obtain⟨wa,ta,sl,nl,R,nu,n,t,rfl,_⟩:=h;rfl
 . obtain⟨wa,ta,sl,nl,R,nu,n,t,rfl,gF,DP,ht,gL,T,k⟩:=h;refine⟨_,zh (AQ (UW (k:=2) (P:=P2) (c:=c) (pn := "hub") (cn:=["sets","numbers","taken"]) (ci:=[1,2,3]) rfl hr rfl gH (zD (AI GL hr FL (zD (pv 0) (zD (pv 3) zO))) zO) rfl C g6 (An rfl rfl) rfl rfl rfl ⟨rfl,rfl,rfl,rfl,rfl,rfl,rfl,rfl,rfl,trivial⟩ rfl rfl (fun _ _ _ _ _ _ _=>rfl)
    (fun f' cd' s3 H3 hr3=>AI GB hr3 FB (zD (pv 1) (zD (pv 2) (zD (pv 3) (zD (pv 0) zO))))))),?_⟩
   have n8:=DP.n8;refine⟨_,rfl,_,rfl,wa,ta,n,t,rfl,gF,by lia,fun l H1 jQ s1 hW=>?_⟩;have em:(A9 t n).map (fun (p:Nat)=>V.int p)=((A9 t n).map fun (p:Nat)=>(p:Int)).map V.int:=by rw[Ec];rfl
   rw[em] at hW;refine⟨l,(A9 t n).map fun (p:Nat)=>(p:Int),fun x=>BX R nu t x.toNat,[.ref sl,.ref nl,.int t],rfl,hW,by simpa using gL,rfl,T.same s1,fun H2 sm T2=>⟨fun x hx H3 s3=>?_,fun M b H4 B s4=>?_⟩⟩
   . obtain⟨p,hp,rfl⟩:=zq.mp hx;obtain⟨p1,p2⟩:=Jr.mp hp;have D3:=((DP.same s1).smP sm).same s3;have gD:=Rg ht p1 p2;refine⟨_,rfl,_,rfl,_,rfl,_,rfl,sl,nl,R,nu,t,p,rfl,D3.st,D3.nm,by rw[D3.rl];exact p1,p2,by rw[D3.nl];exact gD,D3.r24,by lia,fun H4 s4=>⟨?_,s4⟩⟩;show V.int _=V.int (BX R nu t ((p:Int)).toNat);rw[B0];rfl
   . obtain⟨b1,_,b3⟩:=B;have hM:=zP b1;obtain⟨p,hp,rfl⟩:=zq.mp hM;refine k p H4 hp (fun g hg=>?_) (((AN.of s1).trans sm).trans (AN.of s4)) (T2.same s4);obtain⟨i,hi,ei⟩:=zp (zq.mpr ⟨g,hg,rfl⟩:(g:Int)∈(A9 t n).map fun (p:Nat)=>(p:Int));have:=(b3 i g hi (by rw[zC hi,ei])).1;simpa using this
theorem RQ (h:PE X e te)(m:∀ σ H Q,te' σ H Q->te σ H Q):PE X e te':=fun pins s σ H Q I q=>h pins s σ H Q I (m σ H Q q)
theorem AF.none {H H':Hp}{r:Addr}(s:AF H H')(h:H' r=none):H r=none:=by
 cases z:H r with
 | none=>rfl
 | some u=>have y:=(s _ _ z).symm.trans h;cases y
structure EW (R:List (List Int))(n:Nat)(nu:List Int)(lo:Nat):Prop where
 ln:nu.length=2 ^ n
 last:nu.getD (2 ^ n-1) 0=0
 le:∀t,lo<=t->t<2 ^ n->∀h∈A9 t n,nu.getD t 0<=BX R nu t h
 ex:∀t,lo<=t->t<2 ^ n->A9 t n≠[]->∃h∈A9 t n,nu.getD t 0=BX R nu t h
theorem Wu (n):A9 (2 ^ n-1) n=[]:=by apply List.eq_nil_iff_forall_not_mem.mpr;intro p hp;obtain⟨a,b⟩:=Jr.mp hp;rw[Nat.testBit_two_pow_sub_one,zR a] at b;cases b
theorem bY (h:t<2 ^ n-1):A9 t n≠[]:=by
 intro e;have:t=2 ^ n-1:=by
  apply Nat.eq_of_testBit_eq;intro j;rw[Nat.testBit_two_pow_sub_one];by_cases c:j<n
  . rw[zR c];cases b:t.testBit j with
    | true=>rfl
    | false=>have:j∈A9 t n:=Jr.mpr ⟨c,b⟩;rw[e] at this;cases this
  . rw[zT c];exact Nat.testBit_lt_two_pow (zx (by lia:t<2 ^ n) (Nat.pow_le_pow_right (by decide) (by lia)))
 lia
theorem R5 {nu:List Int}(h:i≠j):(nu.set i x).getD j 0=nu.getD j 0:=by rw[zF,zF,List.getElem?_set_ne h]
theorem YH {nu:List Int}(h:i<nu.length):(nu.set i x).getD i 0=x:=by rw[zF,List.getElem?_set_self h];rfl
theorem ND (h):0<2 ^ h:=Nat.pow_pos (by decide)
theorem TJ (ht:t0<=t):BX R (nu.set t0 x) t h=BX R nu t h:=by unfold BX;rw[R5 (by have:=ND h;lia)]
theorem EW.start (R)(n):EW R n (List.replicate (2 ^ n) 0) (2 ^ n-1):=by
 have p:=ND n;refine⟨Ey,by rw[zF,NK];split <;> rfl,fun t h1 h2 h hh=>?_,fun t h1 h2 gL=>?_⟩
 . obtain rfl:t=2 ^ n-1:=by lia
   rw[Wu] at hh;cases hh
 . obtain rfl:t=2 ^ n-1:=by lia
   exact absurd (Wu n) gL
theorem EW.step (d:EW R n nu (t+1))(ht:t<2 ^ n-1)(hh:h∈A9 t n)(hb:∀g∈A9 t n,BX R nu t h<=BX R nu t g):EW R n (nu.set t (BX R nu t h)) t:=by
 have hl:t<nu.length:=by rw[d.ln];lia
 refine⟨by rw[List.length_set];exact d.ln,by rw[R5 (by lia)];exact d.last,fun u h1 h2 g hg=>?_,fun u h1 h2 gL=>?_⟩
 . rw[TJ h1];by_cases c:u=t
   . subst c;rw[YH hl];exact hb g hg
   . rw[R5 (by lia)];exact d.le u (by lia) h2 g hg
 . by_cases c:u=t
   . subst c;exact⟨h,hh,by rw[TJ h1,YH hl]⟩
   . obtain⟨g,hg,e⟩:=d.ex u (by lia) h2 gL;exact⟨g,hg,by rw[TJ h1,R5 (by lia),e]⟩
def TK (P2:Addr):Sp:=fun vs H Q _=>∃wa ta sl R,∃(n:Nat),vs=[.ref wa,.ref sl]/\H wa=some (.tup [.int n,.ref ta])/\Ed H sl R/\R.length=n/\(∀row∈R,row.length<=24)/\1<=n/\n<=8/\Ek H P2 /\
 ∀nl(nu:List Int)H',H nl=none->AN P2 H H'->Ek H' P2->H' nl=some (.lst (nu.map V.int))->EW R n nu 0->Q (.ref nl) H'
theorem dG (m):(List.replicate m [V.int 0]).flatten=(List.replicate m (0:Int)).map V.int:=by
 induction m with
 | zero=>rfl
 | succ m ih=>rw[GZ,Ew,ih,GZ];rfl
theorem UO (h:n<=8):2 ^ n<=256:=Cq (Nat.pow_le_pow_right (by decide) h) (by decide)
theorem RS:AW ["web","sets","count","numbers","taken"] QQ (defScope N1):=AY
theorem cZ (F:Fu K "least_numbers" N1 f gA)
 (FN:AD K mg "best_next" Mr fN fdN IZ) (GN:AJ P w base 5 FN (RY P2))
 (FB:AD K mg "by_way_of" He fB jm HR) (GB:AJ P w base 5 FB Rp) (f7:mg "range"=none):
 AH P w K mg base AL 6 f gA QQ (TK P2):=by
 refine F.okD RS fun _ A _ _ H vs Q E hr h=>?_;obtain⟨wa,ta,sl,R,n,rfl,gF,ST,hR,kC,n1,n8,T,k⟩:=h;have p8:=UO n8;have p1:2<=2 ^ n:=Cq (by decide:2<=2 ^ 1) (Nat.pow_le_pow_right (by decide) n1);refine⟨_,zW (Ak (i:=2) RS.nd (Ac Jh zm (AK AX (pv 0) zm)))
  (zW (Ak (i:=3) RS.nd (Ac Vb (DR (zD zm zO)) (pv 2)))
  (zW (CB (cb rfl f7 (zD (Ac Jq (pv 2) zm) (zD (RQ (SX Tw zm) (fun σ H Q q=>⟨1,rfl,q⟩)) (zD (RQ (SX Tw zm) (fun σ H Q q=>⟨1,rfl,q⟩)) zO)))) (BN (i:=4) RS.nd)
   (zh (Mo (AI GB hr FB (zD (pv 1) (zD (pv 3) (zD (pv 4) (zD (AI GN hr FN (zD (pv 0) (zD (pv 1) (zD (pv 3) (zD (pv 4) zO))))) zO))))) (N8 (pv 3) (pv 4) Nw))))
  (zh (AQ (pv 3))))),?_⟩
 refine⟨_,rfl,wa,_,_,_,rfl,rfl,AB.of gF,rfl,1,(n:Int),rfl,rfl,⟨by lia,by lia,by decide⟩,?_⟩;show J4 2 (V.int (1*2 ^ ((n:Int)).toNat)) _ _ _;rw[Nz];refine⟨R7,fun l0 jQ=>?_⟩;refine⟨_,rfl,l0,((2 ^ n:Nat):Int),_,rfl,rfl,zK,by lia,by lia,?_,fun nl iH=>?_⟩
 . have:sizeLine=16777216:=rfl;show 1*((2 ^ n:Nat):Int).toNat<=sizeLine
   lia
 rw[B0,dG];have hnl0:H nl=none:=AF.none (zL jQ) iH;have s1:AF H (upd (upd H l0 (.lst [.int 0])) nl (.lst ((List.replicate (2 ^ n) (0:Int)).map V.int))):=(zL jQ).trans (zL iH);have h1:(upd (upd H l0 (.lst [.int 0])) nl (.lst ((List.replicate (2 ^ n) (0:Int)).map V.int))) nl=some (.lst ((List.replicate (2 ^ n) (0:Int)).map V.int)):=zK;generalize (upd (upd H l0 (.lst [.int 0])) nl (.lst ((List.replicate (2 ^ n) (0:Int)).map V.int)))=H1 at s1 h1 ⊢;refine⟨_,rfl,_,_,rfl,rfl,((2 ^ n:Nat):Int)-2,-1,rfl,⟨by lia,by lia,by lia,by lia⟩,dF (lo:=((2 ^ n:Nat):Int)-2) (n:=(((2 ^ n:Nat):Int)-2 - -1).toNat) (fun i σ H2=>MC fun (v4:Option V)(nu:List Int)=>σ=[some (.ref wa),some (.ref sl),some (.int ((2 ^ n:Nat):Int)),some (.ref nl),v4]/\AN P2 H H2/\Ek H2 P2/\H2 nl=some (.lst (nu.map V.int))/\EW R n nu (2 ^ n-1-i))
  ⟨_,_,rfl,AN.of s1,T.same s1,h1,EW.start R n⟩ (fun i σ H2 hi z=>?_) (fun σ H2 z=>?_)⟩
 . obtain⟨v4,nu,rfl,gi,T2,h2,dp⟩:=z;have i6:i<2 ^ n-1:=by lia
   obtain⟨t,et⟩:∃t:Nat,t=2 ^ n-2-i:=⟨_,rfl⟩;have eI:((2 ^ n:Nat):Int)-2-(i:Int)=(t:Int):=by lia
   rw[eI];rw[show 2 ^ n-1-i=t+1 by lia] at dp;have hwa2:H2 wa=some (.tup [.int n,.ref ta]):=gi.get gF (by intro ps z;cases z);have D2:F0 H2 sl nl R nu n:=⟨ST.smP gi,h2,hR,kC,dp.ln,n8⟩;have tlt:t<2 ^ n-1:=by lia
   refine⟨_,rfl,_,rfl,_,rfl,_,rfl,_,rfl,_,rfl,_,rfl,wa,ta,sl,nl,R,nu,n,t,rfl,hwa2,D2,by lia,bY tlt,T2,fun h H3 hh hb gy T3=>?_⟩;have D3:=D2.smP gy;obtain⟨hn',hbit⟩:=Jr.mp hh;refine⟨sl,nl,R,nu,t,h,rfl,D3.st,D3.nm,by rw[hR];exact hn',hbit,by rw[dp.ln];exact Rg (by lia) hn' hbit,kC,by lia,fun H4 s4=>?_⟩;refine⟨_,rfl,_,rfl,nl,_,(t:Int),t,rfl,rfl,s4 _ _ D3.nm,Vk (by lia) (by rw[zB,dp.ln];lia),?_⟩;have est:(nu.map V.int).set t (V.int ((B5 R t h:Nat)+nu.getD (t+2 ^ h) 0))=(nu.set t (BX R nu t h)).map V.int:=by rw[List.map_set];rfl
   rw[est];refine⟨_,nu.set t (BX R nu t h),rfl,((gi.trans gy).trans (AN.of s4)).chg hnl0,?_,zK,?_⟩
   . exact (T3.same s4).keep (fun o e=>by rw[zf (fun z=>by rw[z,s4 _ _ D3.nm] at e;obtain⟨ps,hp,_⟩:=T3.same s4;rw[z,s4 _ _ D3.nm] at hp;cases hp)];exact e) (fun c φ e=>by rw[zf (fun z=>by rw[z,s4 _ _ D3.nm] at e;cases e)];exact e)
   . rw[show 2 ^ n-1-(i+1)=t by lia];exact dp.step tlt hh hb
 . obtain⟨v4,nu,rfl,gi,T2,h2,dp⟩:=z;rw[show 2 ^ n-1-(((2 ^ n:Nat):Int)-2 - -1).toNat=0 by lia] at dp;exact⟨_,rfl,k nl nu H2 hnl0 gi T2 h2 dp⟩
structure E7 (ts:List T3)(n:Int)(R:List (List Int)):Prop where
 rl:R.length=n.toNat
 ro:∀(h:Nat)(row:List Int),R[h]?=some row->row.length=n.toNat/\∀i,i<n.toNat->∃xs:List Int,row[i]?=some (sn xs)/\xs.Pairwise (· < ·)/\∀p,p∈xs↔A8 ts h i p
def Q7 (PT:Addr):Sp:=fun vs H Q _=>∃wa n ts,vs=[.ref wa]/\Af H wa n ts/\Tb H PT/\∀sl R H',AN PT H H'->Tb H' PT->Ed H' sl R->E7 ts n R->Q (.ref sl) H'
theorem XT:AW ["web","rows"] Ai (defScope MY):=AY
theorem bg (F:Fu K "all_sets" MY f gA) (FL:AD K mg "lengths" Jg fL fdL Ai) (GL:AJ P w base 5 FL (N3 PT))
 (FS:AD K mg "sets_from" Qw fS fdS Lb) (GS:AJ P w base 5 FS KU) (f7:mg "range"=none):AH P w K mg base AL 6 f gA Ai (Q7 PT):=by
 refine F.okD XT fun _ A _ _ H vs Q E hr h=>?_;obtain⟨wa,n,ts,rfl,W,T,k⟩:=h;obtain⟨ta,tys,gF,_,_,G⟩:=id W;have iI:=G.n1;have gQ:=G.n24;refine⟨_,zW (DU (i:=1) XT.nd rfl (Or.inr rfl) (AI GL hr FL (zD (pv 0) zO)))
  (zh (AQ (A0 (own:=["hub"]) (cn:=["rows"]) (ci:=[1]) rfl (An rfl rfl) ⟨rfl,rfl,rfl,trivial⟩ rfl (CT rfl f7 (zD (AK AX (pv 0) zm) zO)) (fun _ _ _ _=>Aq) (fun _ _ _ _=>BI)
   (fun _ _ _ _=>AI GS hr FS (zD (pv 1) (zD (pv 0) zO)))))),?_⟩
 refine⟨_,rfl,wa,n,ts,rfl,W,T,fun rl rs M H1 gw T1 i4 RA RR=>?_⟩;have hJ:H1 wa=some (.tup [.int n,.ref ta]):=gw.get gF (by intro ps z;cases z);refine⟨_,rfl,wa,_,_,_,rfl,rfl,AB.of hJ,rfl,n,rfl,by lia,by lia,[.ref rl],rfl,fun D hD=>?_⟩;refine Dv (lo:=0) (n:=n.toNat) (fun q ys H2=>q<=n.toNat/\MC fun (ls:List Addr)(R:List (List Int))=>ys=ls.map V.ref/\ls.length=q/\Cp H2 ls R/\(∀l∈ls,l≠D)/\(∀(h:Nat)(row:List Int),R[h]?=some row->row.length=n.toNat/\∀i,i<n.toNat->∃xs:List Int,row[i]?=some (sn xs)/\xs.Pairwise (· < ·)/\∀p,p∈xs↔A8 ts h i p)/\AF H1 H2/\H2 D=some (.lst ys))
  ⟨zg _,[],[],rfl,rfl,⟨rfl,fun i r row e=>by simp at e⟩,fun l hl=>by simp at hl,fun h row e=>by simp at e,zL hD,zK⟩ (fun q ys H2 z=>?_) (fun q ys H2 hq z=>?_) (fun ys H2 z=>?_)
 . obtain⟨hq,ls,R,rfl,hl,_⟩:=z;rw[zB,hl];exact zr (by lia)
 . obtain⟨_,ls,R,rfl,hl,RI,fr,ro,s2,gj⟩:=z;rw[Ca];refine⟨⟨rfl,rfl⟩,?_⟩;refine BH ?_;refine⟨_,rfl,_,rfl,rl,rs,M,n,ts,(q:Int),rfl,G,s2 _ _ i4,RA.same s2,RR,by lia,by lia,fun l bs H3 s3 h3 hbl hbs=>?_⟩;have iD:=s3 _ _ gj;have nlD:l≠D:=fun z=>by
    rw[z,iD] at h3;injection h3 with h3;injection h3 with h3;have e1:=congrArg List.length h3;rw[zB,zB,zB,hl,hbl] at e1
    lia
   have hRl:R.length=q:=by rw[<-RI.1,hl]
   refine⟨iD,hq,ls++[l],R++[bs.map sn],by rw[zQ];rfl,by rw[zJ,hl];rfl,⟨by rw[zJ,zJ,RI.1];rfl,fun i r row e1 e2=>?_⟩,fun y hy=>?_,fun h row e=>?_,BM (s2.trans s3) hD,zK⟩
   . by_cases c:i<q
     . rw[zc (by lia)] at e1 e2;rw[zf (fr r (zP e1))];exact s3 _ _ (RI.2 i r row e1 e2)
     . rw[za (by lia)] at e1 e2;have hi:i-ls.length=0:=by
        have:=(zH.mp e1).1;rw[Gw] at this
        lia
       rw[hi] at e1;rw[show i-R.length=0 by lia] at e2;cases e1;cases e2;rw[zf nlD];exact h3
   . rcases zU.mp hy with hy | hy
     . exact fr y hy
     . rw[zi.mp hy];exact nlD
   . by_cases c:h<q
     . rw[zc (by lia)] at e;exact ro h row e
     . rw[za (by lia)] at e;have hi:h=q:=by
        have:=(zH.mp e).1;rw[Gw] at this
        lia
       subst hi;rw[show h-R.length=0 by lia] at e;cases e;refine⟨by rw[zB,hbl],fun i hi=>?_⟩;obtain⟨xs,hx⟩:∃xs,bs[i]?=some xs:=⟨_,zC (by lia)⟩;exact⟨xs,by rw[zM,hx];rfl,hbs i xs hx⟩
 . obtain⟨_,ls,R,rfl,hl,RI,fr,ro,s2,gj⟩:=z;exact k D R H2 (gw.trans (AN.of s2)) (T1.same s2) ⟨ls,gj,RI⟩ ⟨by rw[<-RI.1,hl],ro⟩
def JU:Sp:=fun vs H Q _=>∃p ps,vs=[.ref p]/\H p=some (.lst (ps.map V.int))/\(∀x∈ps,0<=x/\x<24)/\ps.length<=24/\∀H',AF H H'->Q (.int (sn ps)) H'
theorem L9 (F:Fu K "set_number" Ko f gA) (g9:mg "sum"=none):AH P w K mg base AL 1 f gA IQ JU:=by
 refine F.okD PJ fun _ A _ _ H vs Q E hr h=>?_;obtain⟨p,ps,rfl,hp,rng,hl,k⟩:=h;refine⟨_,zh (AQ (Aj (UE rfl) g9 (zD (A0 (own:=CK) (cn:=[]) (ci:=[]) rfl (An rfl rfl) trivial rfl (CZ (pv 0)) (fun _ _ _ _=>Aq) (fun _ _ _ _=>BI)
  (fun _ _ _ _=>Ac Jh zm (pv 0))) zO))),?_⟩
 refine⟨_,rfl,p,rfl,⟨_,AE.of hp⟩,[],rfl,fun D hD=>?_⟩;refine DM (a:=p) (xs:=ps.map V.int) (fun i ys H4=>ys=((ps.take i).map fun x=>(1:Int)*2 ^ x.toNat).map V.int/\H4=upd H D (.lst ys)) ⟨rfl,rfl⟩ (fun i ys H4 z=>?_) (fun i ys H4 z=>?_) (fun i x ys H4 hx z=>?_) (fun ys H4 z=>?_)
 . obtain⟨_,rfl⟩:=z;exact AE.of (by rw[zf (zn hp hD)];exact hp)
 . obtain⟨rfl,_⟩:=z;rw[zB,zB,zt];exact zr (by lia)
 . obtain⟨rfl,rfl⟩:=z;obtain⟨y,hy,rfl⟩:=int_at hx;have yr:=rng y (zP hy);refine⟨⟨rfl,rfl⟩,?_⟩;refine BH ?_;refine⟨_,rfl,1,y,rfl,rfl,⟨yr.1,by lia,by decide⟩,zK,?_,BQ⟩;rw[WX hy,zQ];rfl
 . obtain⟨rfl,rfl⟩:=z;rw[zB,zY (zI _)];exact⟨D,_,rfl,AE.of zK,k _ (zL hD)⟩
theorem S2:∀{l l':List Nat},l.Nodup->(∀x∈l,x∈l')->l.length<=l'.length
 | [],_,_,_=>zg _
 | x::l,l',nd,h=>by
  obtain⟨h1,h2⟩:=BZ.mp nd;have hx:=h x zS;have:=S2 (l:=l) (l':=l'.erase x) h2 fun y hy=>(List.mem_erase_of_ne (fun z=>h1 (by rw[<-z];exact hy))).mpr (h y (zZ _ hy));rw[List.length_erase_of_mem hx] at this;have:=List.length_pos_of_mem hx;rw[zk]
  lia
noncomputable def CW (R:List (List Int)):Nat->List Nat->Nat
 | _,[]=>0
 | t,h::os=>B5 R t h+CW R (t+2 ^ h) os
theorem Yd (h)(os):Ab (h::os)=2 ^ h+Ab os:=by simp[Ab]
theorem Y9 (h)(os):Ab (os++[h])=Ab os+2 ^ h:=by simp[Ab]
theorem S8 :∀{os:List Nat}{t:Nat},CW R t (os++[h])=CW R t os+B5 R (t+Ab os) h
 | [],t=>by simp[CW,Ab]
 | g::os,t=>by
  show B5 R t g+CW R (t+2 ^ g) (os++[h])=B5 R t g+CW R (t+2 ^ g) os+B5 R (t+Ab (g::os)) h;rw[S8,Yd,Nat.add_assoc t]
  lia
theorem WL (os):sn (os.map fun (p:Nat)=>(p:Int))=((Ab os:Nat):Int):=by
 rw[Mm,Ec];have:(os.map (Int.toNat∘fun (p:Nat)=>(p:Int)))=os:=by
  conv=>rhs;rw[<-List.map_id os]
  exact Gy fun x _=>by simp
 rw[this]
theorem Yy {os:List Nat}(nd:os.Nodup)(h:∀p∈os,p<n):Ab os<2 ^ n:=by refine Nat.lt_pow_two_of_testBit _ fun j hj=>?_;rw[Hw nd];exact zT fun z=>by have:=h j z;lia
theorem X8 {os:List Nat}(nd:os.Nodup):h∈A9 (Ab os) n↔h<n/\h∉os:=by rw[Jr,Hw nd,decide_eq_false_iff_not]
theorem Zw {os:List Nat}(nd:os.Nodup)(hl:os.length<n):A9 (Ab os) n≠[]:=by
 intro e;have:(List.range n).length<=os.length:=S2 List.nodup_range fun x hx=>by
  by_cases c:x∈os
  . exact c
  . have:=(X8 (n:=n) nd).mpr ⟨Cr.mp hx,c⟩;rw[e] at this;cases this
 rw[Bv] at this
 lia
structure E6 (R:List (List Int))(n:Nat)(nu:List Int)(os:List Nat):Prop where
 nd:os.Nodup
 lt:∀p∈os,p<n
 eq:nu.getD 0 0=(CW R 0 os:Nat)+nu.getD (Ab os) 0
theorem E6.nil :E6 R n nu []:=⟨Hs,(fun p h=>by cases h),by simp[CW,Ab]⟩
theorem E6.step {os:List Nat}(o:E6 R n nu os)(d:EW R n nu 0)(hh:h∈A9 (Ab os) n)(hb:∀g∈A9 (Ab os) n,BX R nu (Ab os) h<=BX R nu (Ab os) g):E6 R n nu (os++[h]):=by
 obtain⟨h1,h2⟩:=(X8 o.nd).mp hh;have gD:=Yy o.nd o.lt;refine⟨?_,fun p hp=>?_,?_⟩
 . rw[DW];exact⟨o.nd,by simp,fun a ha b iU=>by rw[zi.mp iU];exact fun z=>h2 (z ▸ ha)⟩
 . rcases zU.mp hp with hp | hp
   . exact o.lt p hp
   . rw[zi.mp hp];exact h1
 . obtain⟨g,hg,e⟩:=d.ex (Ab os) (zg _) gD (fun z=>by rw[z] at hh;cases hh);have e1:=d.le (Ab os) (zg _) gD h hh;have e2:=hb g hg;have e3:nu.getD (Ab os) 0=BX R nu (Ab os) h:=by lia
   rw[o.eq,e3,S8,Y9,Nat.zero_add];unfold BX
   lia
structure VJ (ts:List T3)(n:Nat)(R:List (List Int))(nu:List Int)(os:List Nat):Prop where
 sr:E7 ts n R
 dp:EW R n nu 0
 ow:E6 R n nu os
 ln:os.length=n
def YT (PT P2:Addr):Sp:=fun vs H Q _=>∃wa,∃(n:Nat),∃ts,vs=[.ref wa]/\Af H wa n ts/\n<=8/\Tb H PT/\Ek H P2/\PT≠P2 /\
 ∀r oa na R(nu:List Int)(os:List Nat)H',Dd PT P2 H H'->Tb H' PT->Ek H' P2->H' r=some (.tup [.ref oa,.ref na])->H' oa=some (.tup ((os.map fun (p:Nat)=>(p:Int)).map V.int))->H' na=some (.tup (nu.map V.int))->VJ ts n R nu os->Q (.ref r) H'
def R6:Sp:=fun vs H Q _=>∃wa ta,∃(n:Nat),vs=[.ref wa]/\H wa=some (.tup [.int n,.ref ta])/\n<=8/\Q .non H
section
variable {P:Program}{w:World}{K:AO}{mg:Be}{base:Heap}{PT P2:Addr}
theorem By :Cj X st (fun _ _ _=>False):=fun _ _ _ _ _ _ h=>h.elim
theorem OQ:AW Ai Ai (defScope EL):=AY
theorem KY (F:Fu K "refuse_too_many" EL f gA) (mMT:mg "MOST_PLACES_OF_LEASTS"=some (.int 8 tk)):AH P w K mg base AL 1 f gA Ai R6:=by refine F.okD OQ fun _ A _ _ H vs Q E hr h=>?_;obtain⟨wa,ta,n,rfl,gF,h8,q⟩:=h;refine⟨_,zh (Ap (Ad Hj (AK AX (pv 0) zm) (XM (v:=.int 8) rfl mMT ⟨tk,rfl⟩) (AZ _)) By As),?_⟩;exact⟨_,rfl,wa,_,_,_,rfl,rfl,AB.of gF,rfl,_,_,rfl,rfl,_,rfl,BL (zT (by lia)) q⟩
theorem NH:AW ["web","sets","numbers","order","taken"] Ai (defScope Ri):=AY
theorem Zg (F:Fu K "least_order" Ri f gA)
 (FR:AD K mg "refuse_too_many" EL fR fdR Ai) (GR:AJ P w base 6 FR R6)
 (FA:AD K mg "all_sets" MY fA fdA Ai) (GA:AJ P w base 6 FA (Q7 PT))
 (FN:AD K mg "least_numbers" N1 fN fdN QQ) (GN:AJ P w base 6 FN (TK P2))
 (FS:AD K mg "set_number" Ko fS fdS IQ) (GS:AJ P w base 6 FS JU)
 (FB:AD K mg "best_next" Mr fB jm IZ) (GB:AJ P w base 6 FB (RY P2))
 (f9:mg "len"=none) (fw:mg "tuple"=none):AH P w K mg base AL 7 f gA Ai (YT PT P2):=by
 refine F.okD NH fun _ A _ _ H vs Q E hr h=>?_;obtain⟨wa,n,ts,rfl,W,n8,T,T2,ne,k⟩:=h;obtain⟨ta,tys,gF,_,_,G⟩:=id W;have iI:=G.n1;refine⟨_,zW (DL (AI GR hr FR (zD (pv 0) zO)))
  (zW (Ak (i:=1) NH.nd (AI GA hr FA (zD (pv 0) zO)))
  (zW (Ak (i:=2) NH.nd (AI GN hr FN (zD (pv 0) (zD (pv 1) zO))))
  (zW (Ak (i:=3) NH.nd (DR zO))
  (zW (Nb PassesOwn.never (Ad J6 (Aj Bz f9 (zD (pv 3) zO)) (AK AX (pv 0) zm) (AZ _))
   (zW (Ak (i:=4) NH.nd (AI GS hr FS (zD (pv 3) zO)))
   (zh (DL (Gd PySem.F.plainAttrs_list PySem.F.slot_list_append PySem.F.type_list_append HB (pv 3) (zD (AI GB hr FB (zD (pv 0) (zD (pv 1) (zD (pv 2) (zD (pv 4) zO))))) zO))))))
  (zh (AQ (Ba (zD (Bi B9 fw (zD (pv 3) zO)) (zD (Bi B9 fw (zD (pv 2) zO)) zO))))))))),?_⟩
 refine⟨_,rfl,wa,ta,n,rfl,gF,n8,?_⟩;refine⟨_,rfl,wa,(n:Int),ts,rfl,W,T,fun sl R H1 gw T1 ST1 SR=>?_⟩;have hJ:H1 wa=some (.tup [.int n,.ref ta]):=gw.get gF (by intro ps z;cases z);have T21:Ek H1 P2:=gw.tab (Ne.symm ne) T2;have hRl:R.length=n:=by rw[SR.rl];lia
 have kC:∀row∈R,row.length<=24:=fun row gW=>by
  obtain⟨i,hi,e⟩:=zp gW;have:=(SR.ro i row (by rw[zC hi,e])).1
  lia
 refine⟨_,rfl,_,rfl,wa,ta,sl,R,n,rfl,hJ,ST1,hRl,kC,by lia,n8,T21,fun nl nu H2 iH gi T22 h2 dp=>?_⟩;refine⟨Em,fun ol hol=>?_⟩;have hol2:H2 ol=none:=hol;have s3:=zL (o:=.lst []) hol;have h3:(upd H2 ol (.lst [])) ol=some (.lst ((([]:List Nat).map fun (p:Nat)=>(p:Int)).map V.int)):=zK;refine⟨fun m σ H3=>∃(v4:Option V)(os:List Nat),σ=[some (.ref wa),some (.ref sl),some (.ref nl),some (.ref ol),v4]/\m=n-os.length/\AN P2 H2 H3/\Ek H3 P2/\H3 ol=some (.lst ((os.map fun (p:Nat)=>(p:Int)).map V.int))/\E6 R n nu os/\os.length<=n,
  ⟨n,none,[],rfl,rfl,AN.of s3,T22.same s3,h3,E6.nil,zg _⟩,?_⟩
 rintro m σ H3 ⟨v4,os,rfl,rfl,gy,T3,h3o,O,hos⟩;have ju:H3 wa=some (.tup [.int n,.ref ta]):=gy.get (gi.get hJ (by intro ps z;cases z)) (by intro ps z;cases z);have D3:F0 H3 sl nl R nu n:=(⟨ST1.smP gi,h2,hRl,kC,dp.ln,n8⟩:F0 H2 sl nl R nu n).smP gy;refine⟨_,rfl,ol,_,rfl,.inl (AE.of h3o),_,rfl,wa,_,_,_,rfl,rfl,AB.of ju,rfl,_,_,rfl,rfl,_,rfl,?_⟩;rw[zB,zB];by_cases c:os.length<n
 . refine FV (zR (by lia)) ⟨fun σ' H'=>∃(v4:Option V)(jM:List Nat),σ'=[some (.ref wa),some (.ref sl),some (.ref nl),some (.ref ol),v4]/\jM.length=os.length+1/\AN P2 H2 H'/\Ek H' P2/\H' ol=some (.lst ((jM.map fun (p:Nat)=>(p:Int)).map V.int))/\E6 R n nu jM,?_,?_⟩
   . rintro σ' H' ⟨v4',jM,rfl,gm,sm',T',h',O'⟩;exact⟨n-jM.length,by lia,v4',jM,rfl,rfl,sm',T',h',O',by lia⟩
   . have gD:=Yy O.nd O.lt;refine⟨_,rfl,ol,_,rfl,h3o,fun x hx=>?_,by rw[zB];lia,fun H4 s4=>?_⟩
     . obtain⟨p,hp,rfl⟩:=zq.mp hx;have:=O.lt p hp
       lia
     rw[WL];have h4o:=s4 _ _ h3o;refine⟨_,rfl,.inl ⟨rfl,_,AE.of h4o⟩,_,rfl,_,rfl,_,rfl,_,rfl,wa,ta,sl,nl,R,nu,n,Ab os,rfl,s4 _ _ ju,D3.same s4,gD,Zw O.nd c,T3.same s4,fun h H5 hh hb sm5 T5=>?_⟩;have h5o:H5 ol=some (.lst ((os.map fun (p:Nat)=>(p:Int)).map V.int)):=sm5.get h4o (by intro ps z;cases z);refine⟨ol,_,.int h,rfl,rfl,h5o,by rw[zB,zB];exact zr (by lia),?_⟩;refine⟨_,os++[h],rfl,by rw[zJ];rfl,((gy.trans (AN.of s4)).trans sm5).chg hol2,?_,by rw[zK,zQ,zQ];rfl,O.step dp hh hb⟩;exact T5.keep (fun o e=>by rw[zf (fun z=>by obtain⟨ps,hp,_⟩:=T5;rw[z,h5o] at hp;cases hp)];exact e) (fun c φ e=>by rw[zf (fun z=>by rw[z,h5o] at e;cases e)];exact e)
 . refine BL (zT (by lia)) ?_;refine⟨_,rfl,ol,_,rfl,.inl ⟨AE.of h3o,fun oa hoa=>?_⟩⟩;have s5:=zL (o:=.tup ((os.map fun (p:Nat)=>(p:Int)).map V.int)) hoa;refine⟨_,rfl,nl,_,rfl,.inl ⟨AE.of (s5 _ _ D3.nm),fun na ig=>?_⟩⟩;have s6:=zL (o:=.tup (nu.map V.int)) ig;refine⟨BO,fun r gW=>?_⟩;have s7:=zL (o:=.tup [.ref oa,.ref na]) gW;have s57:=(s5.trans s6).trans s7;have T7:Tb H3 PT:=gy.tab ne (gi.tab ne T1);exact k r oa na R nu os _ (((MO gw).trans (QD (gi.trans gy))).trans (MO (AN.of s57))) (T7.same s57) (T3.same s57) zK (s7 _ _ (s6 _ _ zK)) (s7 _ _ zK) ⟨SR,dp,O,by lia⟩
end
structure NN (R:List (List Int)):Prop where
 nn:∀row∈R,∀m∈row,0<=m
 r24:∀row∈R,row.length<=24
 n8:R.length<=8
theorem ZY {os:List Nat}(e:os[i]?=some h):CW R 0 (os.take (i+1))=CW R 0 (os.take i)+B5 R (Ab (os.take i)) h/\Ab (os.take (i+1))=Ab (os.take i)+2 ^ h:=by rw[zy,e];show CW R 0 (os.take i++[h])=_/\Ab (os.take i++[h])=_;rw[S8,Y9,Nat.zero_add];exact⟨rfl,rfl⟩
def Jp (R:List (List Int))(n:Nat)(nu:List Int):Prop:=∀t,t<2 ^ n->∀h∈A9 t n,nu.getD t 0<=BX R nu t h
theorem VT (d:Jp R n nu):∀{os:List Nat}{t:Nat},t<2 ^ n->os.Nodup->(∀p∈os,p<n/\t.testBit p=false)->nu.getD t 0<=(CW R t os:Nat)+nu.getD (t+Ab os) 0
 | [],t,_,_,_=>by simp[CW,Ab]
 | h::os,t,ht,nd,hp=>by
  obtain⟨n1,n2⟩:=BZ.mp nd;obtain⟨h1,h2⟩:=hp h zS;have e1:=d t ht h (Jr.mpr ⟨h1,h2⟩);have e2:=VT d (os:=os) (Rg ht h1 h2) n2 fun p hp'=>by obtain⟨a,b⟩:=hp p (zZ _ hp');refine⟨a,?_⟩;rw[Nat.add_comm,Rj h t p h2,b,zT (fun z:p=h=>n1 (z ▸ hp')),Bool.false_or]
  rw[Yd];unfold BX at e1;rw[show t+(2 ^ h+Ab os)=t+2 ^ h+Ab os by lia];show _<=((B5 R t h+CW R (t+2 ^ h) os:Nat):Int)+_
  lia
theorem Zp {os:List Nat}(nd:os.Nodup)(h:∀p,p∈os↔p<n):Ab os=2 ^ n-1:=by apply Nat.eq_of_testBit_eq;intro j;rw[Hw nd,Nat.testBit_two_pow_sub_one];exact decide_eq_decide.mpr (h j)
theorem PR (xs):0<=sn xs:=by rw[Mm];exact Int.natCast_nonneg _
theorem E7.nn (h:E7 ts n R)(n8:n<=8):NN R:=by
 refine⟨fun row hr m hm=>?_,fun row hr=>?_,by rw[h.rl];lia⟩
 . obtain⟨i,hi,e⟩:=zp hr;obtain⟨l,r⟩:=h.ro i row (by rw[zC hi,e]);obtain⟨j,hj,e2⟩:=zp hm;obtain⟨xs,e3,_⟩:=r j (by lia);rw[zC hj,e2] at e3;cases e3;exact PR xs
 . obtain⟨i,hi,e⟩:=zp hr;have:=(h.ro i row (by rw[zC hi,e])).1
   lia
theorem E7.uniq (a:E7 ts n R)(b:E7 ts n R'):R=R':=by refine List.ext_getElem (by rw[a.rl,b.rl]) fun i h1 h2=>?_;obtain⟨l1,r1⟩:=a.ro i R[i] (zC h1);obtain⟨l2,r2⟩:=b.ro i R'[i] (zC h2);refine List.ext_getElem (by rw[l1,l2]) fun j g1 g2=>?_;obtain⟨xs,e1,p1,m1⟩:=r1 j (by lia);obtain⟨ys,e2,p2,m2⟩:=r2 j (by lia);rw[zC g1] at e1;rw[zC g2] at e2;rw[zV e1,zV e2,Wv p1 p2 fun x=>(m1 x).trans (m2 x).symm]
theorem Al.smT (h:Al H t N)(k:BG H H'):Al H' t N:=by obtain⟨p,ns,gK,rest,a,b,c⟩:=h;exact⟨p,ns,gK,rest,k.get a (by intro ps z;cases z),k.get b (by intro ps z;cases z),c⟩
theorem RL (T:Al H t N)(k:Sm t H H')(h:TabAt H PT pos q):TabAt H' PT pos q:=by obtain⟨p,ns,gK,rest,a,_⟩:=T;obtain⟨ps,hp,_⟩:=id h;exact h.keep (fun o e=>k _ _ (Ar hp a (by intro z;cases z)) e) fun c φ e=>k _ _ (Ar e a (by intro z;cases z)) e
theorem at0 {nu:List Int}(h:0<nu.length):Cm (nu.map V.int) 0=some (V.int (nu.getD 0 0)):=
 C5 (j:=0) (by rw[zM,zF,zC h];rfl)
theorem E6.perm {os:List Nat}(o:E6 R n nu os)(h:os.length=n):os.Perm (List.range n):=by
 refine (Mp o.nd List.nodup_range).mpr fun x=>?_;rw[Cr];constructor
 . exact o.lt x
 . intro hx;refine zw fun c=>?_;have:=S2 (l:=x::os) (l':=List.range n) (BZ.mpr ⟨c,o.nd⟩) fun y hy=>by
    rcases zX.mp hy with rfl | hy
    . exact Cr.mpr hx
    . exact Cr.mpr (o.lt y hy)
   rw[zk,Bv] at this
   lia
theorem aY {nu:List Int}(h:0<nu.length):Cm (nu.map V.int) (-1)=some (V.int (nu.getD (nu.length-1) 0)):=by
 have e:nu=nu.dropLast++[nu.getLast (List.ne_nil_of_length_pos h)]:=(List.dropLast_concat_getLast _).symm;have g:nu.getD (nu.length-1) 0=nu.getLast (List.ne_nil_of_length_pos h):=by rw[zF,zC (by lia),List.getLast_eq_getElem];rfl
 rw[g];generalize nu.getLast (List.ne_nil_of_length_pos h)=z at e;rw[e,zQ];exact ZQ _ _
noncomputable abbrev nI (os:List Nat):List Int:=os.map fun (p:Nat)=>(p:Int)
theorem EW.leOk (d:EW R n nu 0):Jp R n nu:=fun t ht h hh=>d.le t (zg _) ht h hh
theorem RJ {os:List Nat}(pm:os.Perm (List.range n)):os.Nodup/\(∀p∈os,p<n)/\os.length=n/\Ab os=2 ^ n-1:=by
 have nd:=pm.nodup_iff.mpr List.nodup_range;have mm:∀p,p∈os↔p<n:=fun p=>by rw[pm.mem_iff,Cr]
 exact⟨nd,fun p hp=>(mm p).mp hp,by rw[pm.length_eq,Bv],Zp nd mm⟩
theorem Jp.min {os:List Nat}(d:Jp R n nu)(last:nu.getD (2 ^ n-1) 0=0)(pm:os.Perm (List.range n)):nu.getD 0 0<=(CW R 0 os:Nat):=by
 obtain⟨nd,lt,_,e⟩:=RJ pm;have:=VT d (os:=os) (t:=0) (ND _) nd fun p hp=>⟨lt p hp,Nat.zero_testBit _⟩;rw[Nat.zero_add,e,last] at this
 lia
theorem Q5 {os:List Nat}(pm:os.Perm (List.range n)):C0 (n:Int) (nI os):=by
 obtain⟨nd,lt,ln,_⟩:=RJ pm;refine⟨by rw[zB,ln];lia,?_,fun p hp=>?_⟩
 . rw[DN,DO];exact (DN.mp nd).imp fun h=>by lia
 . obtain⟨q,hq,rfl⟩:=zq.mp hp;have:=lt q hq
   lia
theorem bf {n:Nat}{os:List Int}(O:C0 (n:Int) os):∃ps:List Nat,os=nI ps/\ps.Perm (List.range n):=by
 have e:os=nI (os.map Int.toNat):=by
  unfold nI;rw[Ec]
  conv=>lhs;rw[<-List.map_id os]
  refine Gy fun x hx=>?_;have:=O.rng x hx;show x=((x.toNat:Nat):Int)
  lia
 refine⟨os.map Int.toNat,e,?_⟩;have nd:(os.map Int.toNat).Nodup:=by
  rw[DN,DO];refine (DN.mp O.nd).imp_of_mem fun ha hb h=>?_;have:=O.rng _ ha;have:=O.rng _ hb
  lia
 refine (Mp nd List.nodup_range).mpr fun x=>?_;rw[Cr];constructor
 . intro hx;obtain⟨y,hy,rfl⟩:=zq.mp hx;have:=O.rng y hy
   lia
 . intro hx;exact zq.mpr ⟨(x:Int),O.mem (by lia) (by lia),by lia⟩
theorem Zr {n:Nat}(G:GW (n:Int) ts)(S:E7 ts n R){os:List Nat}(nd:os.Nodup)(lt:∀p∈os,p<n)(hh:h<n):B5 R (Ab os) h=FQ ts n (nI os) h:=by
 have hR:h<R.length:=by rw[S.rl];lia
 obtain⟨l,ro⟩:=S.ro h R[h] (zC hR);unfold B5 FQ;rw[zF,zC hR];show (R[h].filter _).length=_;have key:=Z2 (l:=R[h]) (f:=fun x=>x) (k:=lowTo ((n:Int)).toNat) (p:=Dh ((Ab os:Nat):Int)) (q:=Nh ts (nI os) h) (by rw[l,CA]) (fun i a b h1 h2=>by
  have hi:i<((n:Int)).toNat:=by have:=(zH.mp h2).1;rw[CA] at this;exact this
  obtain⟨xs,e1,p1,m1⟩:=ro i hi;rw[e1] at h1;cases h1;have eb:b=(i:Int):=by rw[lowTo,zM,List.getElem?_range hi] at h2;exact (zV h2).symm
  subst eb;rw[<-WL];refine Z0 G (by lia) (by lia) ?_ (fun x hx=>?_) p1 m1
  . rw[DN,DO];exact (DN.mp nd).imp fun h=>by lia
  . obtain⟨q,hq,rfl⟩:=zq.mp hx;have:=lt q hq
    lia)
 rw[List.map_id'] at key;exact key
theorem YZ {os:List Nat}:∀m,m<=os.length->CW R 0 (os.take m)=((List.range m).map fun k=>B5 R (Ab (os.take k)) (os.getD k 0)).sum
 | 0,_=>rfl
 | m+1,hm=>by
  have e:os[m]?=some (os.getD m 0):=by rw[zF,zC (by lia)];rfl
  rw[(ZY (R:=R) e).1,YZ m (by lia),List.range_succ,zQ,List.sum_append];simp
theorem Sl {n:Nat}{os:List Nat}(G:GW (n:Int) ts)(S:E7 ts n R)(pm:os.Perm (List.range n))(Rk:Gq n (nI os) rk)(L:Na ts n rk gM):((gM.map List.length).map fun k:Nat=>(k:Int)).sum=((CW R 0 os:Nat):Int):=by
 obtain⟨nd,lt,ln,_⟩:=RJ pm;have h1:=YZ (R:=R) (os:=os) os.length (zI _);rw[zY (zI _)] at h1;have h2:=Zs (bs:=(List.range os.length).map fun k=>B5 R (Ab (os.take k)) (os.getD k 0)) G (Q5 pm) Rk L (by rw[zB,Bv,ln];lia) fun k h hk=>by
  rw[zM] at hk;obtain⟨q,hq,rfl⟩:∃q:Nat,os[k]?=some q/\(q:Int)=h:=by
   cases e:os[k]? with
   | none=>rw[e] at hk;cases hk
   | some q=>rw[e] at hk;exact⟨q,rfl,zV hk⟩
  have jR:=(zH.mp hq).1;rw[zM,List.getElem?_range jR];show some (B5 R (Ab (os.take k)) (os.getD k 0))=_;have eg:os.getD k 0=q:=by rw[zF,hq];rfl
  rw[eg,Zr G S (os:=os.take k) (nd.sublist (List.take_sublist _ _)) (fun p hp=>lt p (List.mem_of_mem_take hp)) (lt q (zP hq)),<-List.map_take]
 have h3:=Xk id (gM.map List.length);rw[List.map_id] at h3;rw[h1,h2];exact h3
structure ZH (R:List (List Int))(n:Nat)(os:List Nat)(nu:List Int):Prop where
 pm:os.Perm (List.range n)
 ln:nu.length=2 ^ n
 last:nu.getD (2 ^ n-1) 0=0
 at0:nu.getD 0 0=(CW R 0 os:Nat)
def O9 (H:Hp)(th:Addr)(os:List Nat)(nu:List Int):Prop:=∃oa na:Addr,H th=some (.tup [.ref oa,.ref na])/\H oa=some (.tup ((nI os).map V.int))/\H na=some (.tup (nu.map V.int))
def VN (PT:Addr):Sp:=fun vs H Q _=>∃wa na,∃(n:Nat),∃ts R,∃(nu:List Int),vs=[.ref wa,.ref na]/\Af H wa n ts/\n<=8/\E7 ts n R/\H na=some (.tup (nu.map V.int))/\nu.length=2 ^ n/\Tb H PT /\
 (Jp R n nu->∀H',AN PT H H'->Tb H' PT->Q .non H')/\(¬ Jp R n nu->∀p(t h:Int)H',AN PT H H'->Tb H' PT->H' p=some (.tup [.int t,.int h])->Q (.ref p) H')
theorem Nn:AW ["web","numbers","sets","taken","number","hub"] QS (defScope OI):=AY
theorem cP (F:Fu K "step_fault" OI f gA)
 (FA:AD K mg "all_sets" MY fA fdA Ai) (GA:AJ P w base 6 FA (Q7 PT))
 (FL:AD K mg "left_places" Dy fL fdL MK) (GL:AJ P w base 6 FL RU)
 (FB:AD K mg "by_way_of" He fB jm HR) (GB:AJ P w base 6 FB Tv) (iQ:mg "enumerate"=none):
 AH P w K mg base AL 7 f gA QS (VN PT):=by
 refine F.okD Nn fun _ A _ _ H vs Q E hr h=>?_;obtain⟨wa,na,n,ts,R,nu,rfl,W,n8,SR,ig,iH,T,kY,kN⟩:=h;obtain⟨ta,tys,gF,_,_,G⟩:=id W;have p8:=UO n8;have hRl:R.length=n:=by rw[SR.rl];lia
 have kC:∀row∈R,row.length<=24:=(SR.nn (by lia)).r24;refine⟨_,zW (Ak (i:=2) Nn.nd (AI GA hr FA (zD (pv 0) zO)))
  (zW (CB (Ym (by rfl) iQ (zD (pv 1) zO)) (Ml rfl (BF (BN (i:=3) Nn.nd) (BF (BN (i:=4) Nn.nd) E2)))
   (zh (CB (CZ (AI GL hr FL (zD (pv 0) (zD (pv 3) zO)))) (BN (i:=5) Nn.nd)
    (zh (Ap (Ad Hj (pv 4) (AI GB hr FB (zD (pv 2) (zD (pv 1) (zD (pv 3) (zD (pv 5) zO))))) (AZ _)) (zh (AQ (Ba (zD (pv 3) (zD (pv 5) zO))))) As)))))
  (zh (AQ BK))),?_⟩
 refine⟨_,rfl,wa,(n:Int),ts,rfl,W,T,fun sl R' H1 gw T1 ST1 SR'=>?_⟩;obtain rfl:=SR.uniq SR';have ir:H1 na=some (.tup (nu.map V.int)):=gw.get ig (by intro ps z;cases z);have hJ:H1 wa=some (.tup [.int n,.ref ta]):=gw.get gF (by intro ps z;cases z);refine⟨_,rfl,na,rfl,⟨_,AB.of ir⟩,ZM (K:=K) (a:=na) (xs:=nu.map V.int) (fun i σ H2=>IM fun (v3 v4 v5:Option V)=>σ=[some (.ref wa),some (.ref na),some (.ref sl),v3,v4,v5]/\AF H1 H2/\∀t,t<i->∀h∈A9 t n,nu.getD t 0<=BX R nu t h)
  ⟨_,_,_,rfl,AF.refl _,fun t ht=>absurd ht (HC _)⟩ (fun i σ H2 _ ⟨_,_,_,_,s2,_⟩=>AB.of (s2 _ _ ir)) ?turn ?after⟩
 case after=>
  rintro σ H2 ⟨v3,v4,v5,rfl,s2,le⟩;rw[zB,iH] at le;exact kY le H2 (gw.trans (AN.of s2)) (T1.same s2)
 case turn=>
  rintro i x σ H2 Tp hx ⟨v3,v4,v5,rfl,s2,le⟩ hTp;obtain⟨y,hy,rfl⟩:=int_at hx;have hi:i<2 ^ n:=by rw[<-iH];exact (zH.mp hy).1
  have ey:nu.getD i 0=y:=by rw[zF,hy];rfl
  have s3:=s2.trans (zL (o:=.tup [.int (i:Int),.int y]) hTp);refine⟨Tp,_,rfl,AB.of zK,rfl,_,_,rfl,_,_,rfl,rfl,?_⟩;generalize upd H2 Tp (.tup [.int (i:Int),.int y])=H3 at s3 ⊢;refine⟨_,rfl,_,rfl,wa,ta,n,i,rfl,s3 _ _ hJ,by lia,fun l H4 _ s4 hl=>?_⟩;have s14:=s3.trans s4;refine⟨l,rfl,⟨_,AE.of hl⟩,TH (K:=K) (a:=l) (xs:=(A9 i n).map fun (p:Nat)=>V.int p) (fun j σ H5=>∃(v5:Option V),σ=[some (.ref wa),some (.ref na),some (.ref sl),some (.int i),some (.int y),v5]/\AF H4 H5/\∀h∈(A9 i n).take j,nu.getD i 0<=BX R nu i h) ⟨_,rfl,AF.refl _,fun h hh=>by simp at hh⟩ (fun j σ H5 _ z=>?_) (fun j v σ H5 hv z=>?_) (fun σ H5 z=>?_)⟩
  . obtain⟨_,_,s5,_⟩:=z;exact AE.of (s5 _ _ hl)
  . obtain⟨v5',rfl,s5,le'⟩:=z;obtain⟨h,hh,rfl⟩:∃h:Nat,(A9 i n)[j]?=some h/\V.int h=v:=by
     rw[zM] at hv;cases e:(A9 i n)[j]? with
     | none=>rw[e] at hv;cases hv
     | some h=>rw[e] at hv;exact⟨h,rfl,zV hv⟩
    have hm:=zP hh;obtain⟨q1,q2⟩:=Jr.mp hm;have gD:=Rg hi q1 q2;have s15:=s14.trans s5;refine⟨_,rfl,_,rfl,_,rfl,_,rfl,_,rfl,sl,na,R,nu,i,h,rfl,ST1.same s15,s15 _ _ ir,by rw[hRl];exact q1,q2,by rw[iH];exact gD,kC,by lia,fun H6 s6=>?_⟩;refine⟨_,_,rfl,rfl,_,rfl,CF (fun c=>?_) (fun c=>?_)⟩
    . have c:=of_decide_eq_true c;refine⟨_,rfl,_,rfl,BO,fun p hp=>?_⟩;have s17:=(s15.trans s6).trans (zL (o:=.tup [.int (i:Int),.int (h:Int)]) hp);refine kN (fun z=>?_) p i h _ (gw.trans (AN.of s17)) (T1.same s17) zK;have:=z i hi h hm;unfold BX at this
      lia
    . have c:¬ _:=fun z=>c (zR z);refine⟨_,rfl,s5.trans s6,fun g hg=>?_⟩;rw[zy,hh] at hg;rcases zU.mp hg with hg | hg
      . exact le' g hg
      . obtain rfl:g=h:=by simpa using hg
        unfold BX
        lia
  . obtain⟨v5',rfl,s5,le'⟩:=z;rw[zB,zY (zI _)] at le';refine⟨_,_,_,rfl,s14.trans s5,fun t ht h hh=>?_⟩;by_cases c:t=i
    . subst c;exact le' h hh
    . exact le t (by lia) h hh
def Tf:Sp:=fun vs H Q _=>∃wa th,∃(n:Nat),∃ts,∃(os:List Nat)(nu:List Int),vs=[.ref wa,.ref th]/\Af H wa n ts/\n<=8/\O9 H th os nu/\os.Perm (List.range n)/\nu.length=2 ^ n/\∀H',AF H H'->Q (.bl true) H'
structure Og (PT:Addr)(H:Hp)(wa th:Addr)(n:Nat)(ts:List T3)(R:List (List Int))(os:List Nat)(nu:List Int):Prop where
 wb:Af H wa n ts
 n8:n<=8
 th:O9 H th os nu
 sr:E7 ts n R
 tg:ZH R n os nu
 tb:Tb H PT
theorem Af.smP (h:Af H wa n ts)(k:AN PT H H'):Af H' wa n ts:=h.keepT fun b ys e=>k.get e (by intro ps z;cases z)
theorem MG:AW Bb Bb (defScope N7):=AY
theorem eQ {fT:Addr}(F:Fu K "is_order_with_numbers" N7 f gA) (FT:AD K mg "is_tuple_of" J0 fT jI Ih) (GT:AJ P w base 4 FT Np)
 (FO:AD K mg "is_order" D6 fO fdO Bb) (GO:AJ P w base 4 FO Ro)
 (FN:AD K mg "is_number" Eu fN fdN BV) (GN:AJ P w base 4 FN NS) (gO:mg "all"=none):AH P w K mg base AL 5 f gA Bb Tf:=by
 refine F.okD MG fun _ A _ _ H vs Q E hr h=>?_;obtain⟨wa,th,n,ts,os,nu,rfl,W,n8,⟨oa,na,hth,hoa,ig⟩,pm,iH,k⟩:=h;obtain⟨ta,tys,gF,_,_,G⟩:=id W;have p8:=UO n8;refine⟨_,zW (Ap (PW.pt (DJ (CG (Bq (AI GT hr FT (zD (pv 1) (zD zm zO)))))
  (Es (CG (Bq (AI GO hr FO (zD (pv 0) (zD (AK AX (pv 1) zm) zO)))))))) By As)
  (zh (AQ (EU (AI GT hr FT (zD (AK AX (pv 1) zm) (zD (Ac Jh zm (AK AX (pv 0) zm)) zO)))
   (GQ (Aj (Jy rfl) gO (zD (A0 (own:=["number"]) (cn:=[]) (ci:=[]) rfl (An rfl rfl) trivial rfl (Bo (AK AX (pv 1) zm)) (fun _ _ _ _=>Aq)
    (fun _ _ _ _=>BI) (fun _ _ _ _=>AI GN hr FN (zD (pv 0) zO))) zO)))))),?_⟩
 refine⟨_,rfl,th,[.ref oa,.ref na],rfl,hth,_,rfl,Am ?_⟩;refine⟨_,rfl,_,rfl,th,_,_,.ref oa,rfl,rfl,AB.of hth,rfl,wa,oa,n,ts,nI os,rfl,W,hoa,Q5 pm,fun H1 s1=>?_⟩;refine⟨_,rfl,Am ?_⟩;have ir:=s1 _ _ ig;refine⟨_,rfl,th,_,_,.ref na,rfl,rfl,AB.of (s1 _ _ hth),rfl,_,rfl,wa,_,_,_,rfl,rfl,AB.of (s1 _ _ gF),rfl,1,(n:Int),rfl,rfl,⟨by lia,by lia,by decide⟩,na,nu.map V.int,?_,ir,true,rfl,Aw ?_⟩
 . show [V.ref na,V.int (1*2 ^ ((n:Int)).toNat)]=_;rw[Nz,zB,iH]
 refine⟨_,rfl,th,_,_,.ref na,rfl,rfl,AB.of (s1 _ _ hth),rfl,na,rfl,⟨_,AB.of ir⟩,[],rfl,fun D hD=>?_⟩;refine C8 (a:=na) (xs:=nu.map V.int) (fun i ys H4=>i<=nu.length/\ys=(List.replicate i true).map V.bl/\H4=upd H1 D (.lst ys)) ⟨zg _,rfl,rfl⟩ (fun i ys H4 h=>?_) (fun i ys H4 h=>?_) (fun i v ys H4 hv h=>?_) (fun ys H4 h=>?_)
 . obtain⟨_,_,rfl⟩:=h;exact AB.of (by rw[zf (zn ir hD)];exact ir)
 . obtain⟨hi,rfl,_⟩:=h;rw[zB,Ey];exact zr (by lia)
 . obtain⟨_,rfl,rfl⟩:=h;obtain⟨x,hx,rfl⟩:=int_at hv;refine⟨⟨rfl,rfl⟩,?_⟩;refine BH ?_;refine⟨_,rfl,x,rfl,?_⟩;refine⟨zK,(zH.mp hx).1,?_,BQ⟩;rw[List.replicate_succ',zQ];rfl
 . obtain⟨_,rfl,rfl⟩:=h;refine⟨D,List.replicate (nu.map V.int).length true,rfl,AE.of zK,?_⟩;have gn:(List.replicate (nu.map V.int).length true).all id=true:=GU.mpr fun b hb=>(List.mem_replicate.mp hb).2;rw[gn];exact k _ (s1.trans (zL hD))
theorem Y0:AW ["web","thing","at"] Bb (defScope Q3):=AY
theorem Zb:AW DC DC (defScope NP):=AY
theorem Z3 {fT:Addr}(F:Fu K "beside" NP f gA) (FT:AD K mg "ties_at" G1 fT jI DC) (gB:mg "sorted"=none) (fw:mg "tuple"=none):
 AH P w K mg base AL 2 f gA DC WQ:=by
 have GT:AJ P w base 1 FT RP:=UN FT.F gB;refine F.okD Zb fun _ A _ _ H vs Q E hr h=>?_;obtain⟨wa,n,ts,p,rfl,W,k⟩:=h;have G:GW n ts:=by obtain⟨_,_,_,_,_,g⟩:=W;exact g
 refine⟨_,zh (AQ (Bi B9 fw (zD
  (A0 (own:=["other","long"]) (cn:=[]) (ci:=[]) rfl (An rfl rfl) trivial rfl
   (CZ (AI GT hr FT (zD (pv 0) (zD (pv 1) zO))))
   (fun _ _ _ _=>Mn (n:=2) rfl (BF (Aq) (BF (DZ (i:=1) (Ex rfl) rfl (Or.inl rfl)) E2)))
   (fun _ _ _ _=>BI) (fun _ _ _ _=>pv 0)) zO))),?_⟩
 refine⟨_,rfl,_,rfl,wa,n,ts,p,rfl,W,fun l zs ms H1 s1 jQ hW T1 hp jZ=>?_⟩;have hlz:=T1.length;have hlm:ms.length<64:=by have e2:=Nf (n:=n) p (ts:=ts) fun t ht=>(G.rng t ht).2.1;have:=G.len;rw[hp.length_eq];lia
 refine⟨l,rfl,⟨_,AE.of hW⟩,[],rfl,fun D hD=>?_⟩;have nlD:l≠D:=zn hW hD;refine DM (a:=l) (xs:=zs) (fun i ys H6=>ys=((ms.take i).map hd).map V.int/\H6=upd H1 D (.lst ys)) ⟨rfl,rfl⟩ (fun i ys H6 h=>?_) (fun i ys H6 h=>?_) (fun i x ys H6 hx h=>?_) (fun ys H6 h=>?_)
 . obtain⟨_,rfl⟩:=h;exact AE.of (by rw[zf nlD];exact hW)
 . obtain⟨rfl,_⟩:=h;rw[zB,zB,zt];exact zr (by lia)
 . obtain⟨rfl,rfl⟩:=h;obtain⟨ya,ky,rfl,iN,iZ,_⟩:=T1.get hx;obtain⟨z,c,rfl,ha⟩:=Fv.mp (hp.mem_iff.mp (zP iN));refine⟨ya,_,rfl,AB.of (by rw[zf (zn iZ hD)];exact iZ),rfl,_,_,rfl,_,_,rfl,rfl,⟨rfl,rfl⟩,?_⟩;refine BH ?_;refine⟨_,rfl,zK,?_,BQ⟩;rw[zy,iN];simp[hd]
 . obtain⟨rfl,rfl⟩:=h;refine⟨D,_,rfl,.inl ⟨AE.of zK,fun q hq=>?_⟩⟩;rw[hlz,zY (zI _)] at hq ⊢;have nqD:q≠D:=fun e=>by rw[e,zK] at hq;cases hq
   have hq1:H1 q=none:=by rw[zf nqD] at hq;exact hq
   have s2:AF H (upd (upd H1 D (.lst ((ms.map hd).map V.int))) q (.tup ((ms.map hd).map V.int))):=s1.trans (BM (zL hD) hq1);have hk:∀k∈ms,∃y l,k=[y,l]:=fun k hk=>by obtain⟨y,l,e,_⟩:=Fv.mp (hp.mem_iff.mp hk);exact⟨y,l,e⟩
   refine k q (ms.map hd) _ s2 ?_ zK (Wg jZ hk ((hp.map hd).nodup_iff.mpr (Wr G p))) fun y=>?_
   . cases e:H q with
     | none=>rfl
     | some o=>have:=s1 q o e;rw[hq1] at this;cases this
   . constructor
     . intro hy;obtain⟨k,hk,rfl⟩:=zq.mp hy;obtain⟨y,l,rfl,ha⟩:=Fv.mp (hp.mem_iff.mp hk);exact⟨l,ha⟩
     . rintro ⟨l,ha⟩;exact zq.mpr ⟨[y,l],hp.mem_iff.mpr (Fv.mpr ⟨y,l,rfl,ha⟩),rfl⟩
structure D5 (ts:List T3)(left:List Int)(x0:Int)(met:List Int):Prop where
 nd:met.Nodup
 z:x0∈met
 sub:∀x∈met,x∈left
 gr:∀S:Int->Prop,S x0->(∀a b l,a∈met->b∈met->Ah ts a b l->S a->S b)->∀y∈met,S y
theorem D5.start {left:List Int}(h:x0∈left):D5 ts left x0 [x0]:=
 ⟨by simp,by simp,fun x hx=>by rw[zi.mp hx];exact h,fun S hS _ y hy=>by rw[zi.mp hy];exact hS⟩
theorem D5.more {left:List Int}(h:D5 ts left x0 met)(hx:x∈met)(ha:Ah ts x y k)(yl:y∈left)(hy:¬ y∈met):D5 ts left x0 (met++[y]):=by
 refine⟨TQ h.nd hy,Di _ h.z,fun z hz=>?_,fun S hS hc=>?_⟩
 . rcases zU.mp hz with q | q
   . exact h.sub z q
   . rw[zi.mp q];exact yl
 . have h1:=h.gr S hS fun a b l ha hb=>hc a b l (Di _ ha) (Di _ hb);intro z hz;rcases zU.mp hz with q | q
   . exact h1 z q
   . rw[zi.mp q];exact hc x y k (Di _ hx) (by simp) ha (h1 x hx)
theorem D5.len {left:List Int}(h:D5 ts left x0 met):met.length<=left.length:=DG h.nd h.sub
theorem Su {ms:List Int}(h:ms.Pairwise (· <= ·))(nd:ms.Nodup):ms.Pairwise (· < ·):=(h.and nd).imp fun h=>by lia
theorem D5.part {left:List Int}(h:D5 ts left x0 met)(hp:ms.Perm met)(hs:ms.Pairwise (· <= ·))(hc:∀x∈met,∀y c,Ah ts x y c->y∈left->y∈met):Dk ts left x0 ms:=by have me:∀y,y∈ms↔y∈met:=fun y=>hp.mem_iff;refine⟨Su hs (hp.nodup_iff.mpr h.nd),fun y hy=>h.sub y ((me y).mp hy),(me _).mpr h.z,fun a ha b l A hb=>(me b).mpr (hc a ((me a).mp ha) b l A hb),XF (x:=x0) fun S hS jF y hy=>?_⟩;exact h.gr S hS (fun a b l ha hb=>jF a b l ((me a).mpr ha) ((me b).mpr hb)) y ((me y).mp hy)
def HV:Sp:=fun vs H Q _=>∃wa pl n ts left x0,vs=[.ref wa,.ref pl,.int x0]/\Af H wa n ts/\H pl=some (.lst (left.map V.int))/\x0∈left/\left.length<64 /\
 ∀la p H',H la=none->AF H H'->H' la=some (.lst (p.map V.int))->Dk ts left x0 p->Q (.ref la) H'
theorem Fo:AW ["web","places","start","met","gone","place"] JW (defScope M0):=AY
theorem Qu {fT:Addr}(F:Fu K "joined_within" M0 f gA) (FB:AD K mg "beside" NP fB jm DC)
 (FT:AD K mg "ties_at" G1 fT jI DC) (gB:mg "sorted"=none) (fw:mg "tuple"=none) (f9:mg "len"=none):
 AH P w K mg base AL 3 f gA JW HV:=by
 have GB:AJ P w base 2 FB WQ:=Z3 FB.F FT gB fw;refine F.okD Fo fun _ A _ _ H vs Q E hr h=>?_;obtain⟨wa,pl,n,ts,left,x0,rfl,W,gZ,jt,iW,k⟩:=h;obtain⟨ta,tys,gF,_,_,G⟩:=id W;refine⟨_,zW (Ak (i:=3) Fo.nd (DR (zD (pv 2) zO))) (zW (Ak (i:=4) Fo.nd zm)
  (zW (Nb PassesOwn.never (Ad J6 (pv 4) (Aj Bz f9 (zD (pv 3) zO)) (AZ _))
   (zW (CB (Bo (AI GB hr FB (zD (pv 0) (zD (AK BU (pv 3) (pv 4)) zO)))) (BN (i:=5) Fo.nd)
    (zh (Ap (PW.pt (NZ (Ad Yk (pv 5) (pv 1) (by with_unfolding_all rfl)) (NY (Ad Q8 (pv 5) (pv 3) (by with_unfolding_all rfl))))) (zh (DL (Gd PySem.F.plainAttrs_list PySem.F.slot_list_append PySem.F.type_list_append HB (pv 3) (zD (pv 5) zO)))) As)))
   (zh (MB (i:=4) Fo.nd rfl (Or.inl rfl) zm KP))))
  (zh (AQ (Aj eP gB (zD (pv 3) zO)))))),?_⟩
 refine⟨_,rfl,R7,fun ma hma=>?_⟩;have hnw:wa≠ma:=zn gF hma;refine⟨fun m σ H2=>∃(g:Nat)(met:List Int)(vp:Option V),σ=[some (.ref wa),some (.ref pl),some (.int x0),some (.ref ma),some (.int g),vp]/\m=left.length-g/\AF H H2/\H2 ma=some (.lst (met.map V.int))/\D5 ts left x0 met/\g<=met.length/\(∀j x,j<g->met[j]?=some x->∀y c,Ah ts x y c->y∈left->y∈met),
  ⟨_,0,[x0],none,rfl,rfl,zL hma,zK,D5.start jt,zg _,fun j x h=>by lia⟩,?_⟩
 rintro m σ H2 ⟨g,met,vp,rfl,rfl,s2,hm2,M,hg,jF⟩;refine⟨_,rfl,_,rfl,ma,_,rfl,.inl (AE.of hm2),_,_,rfl,rfl,_,rfl,?_⟩;have hlen:=M.len;refine CF (fun hc=>?_) (fun hc=>?_)
 . have gD:g<met.length:=by
    have:=of_decide_eq_true hc;rw[zB] at this
    lia
   refine⟨fun σ' H'=>∃(jB:List Int)(vp:Option V),σ'=[some (.ref wa),some (.ref pl),some (.int x0),some (.ref ma),some (.int (g+1)),vp]/\AF H H'/\H' ma=some (.lst (jB.map V.int))/\D5 ts left x0 jB/\g+1<=jB.length/\(∀j x,j<g+1->jB[j]?=some x->∀y c,Ah ts x y c->y∈left->y∈jB),?_,?_⟩
   . rintro σ' H' ⟨jB,vp',rfl,s',hm',M',hg',jj⟩;exact⟨left.length-(g+1),by lia,g+1,jB,vp',rfl,rfl,s',hm',M',hg',jj⟩
   . -- for place in beside(web,met[gone])
     refine⟨_,rfl,_,rfl,_,rfl,ma,_,_,_,rfl,rfl,AE.of hm2,C5 (v:=V.int met[g]) (by simp[gD]),wa,n,ts,met[g],rfl,W.keep s2,fun la hs H3 s3 j5 gx h7 gg=>?_⟩;have hm3:H3 ma=some (.lst (met.map V.int)):=s3 _ _ hm2;have nlm:la≠ma:=Ar gx hm3 (by intro z;cases z);refine⟨la,rfl,⟨_,AB.of gx⟩,Mc (K:=K) (a:=la) (xs:=hs.map V.int) (fun i σ H4=>MC fun (ex:List Int)(vp:Option V)=>σ=[some (.ref wa),some (.ref pl),some (.int x0),some (.ref ma),some (.int g),vp]/\AF H H4/\H4 la=some (.tup (hs.map V.int))/\H4 ma=some (.lst ((met++ex).map V.int))/\D5 ts left x0 (met++ex)/\∀j y,j<i->hs[j]?=some y->y∈left->y∈met++ex)
      ⟨[],vp,rfl,s2.trans s3,gx,by rw[BR];exact hm3,by rw[BR];exact M,fun j y h=>by lia⟩ (fun i σ H4 _ ⟨_,_,_,_,e,_⟩=>AB.of e) ?turn ?after⟩
     case turn=>
      rintro i x σ H4 hi ⟨ex,vp,rfl,s4,iy,hm4,M4,hin⟩;obtain⟨y,hy,rfl⟩:∃y,hs[i]?=some y/\V.int y=x:=by
       rw[zM] at hi;cases e:hs[i]? with
       | none=>rw[e] at hi;cases hi
       | some y=>rw[e] at hi;exact⟨y,rfl,zV hi⟩
      obtain⟨c,ha⟩:=(gg y).mp (zP hy);refine⟨_,rfl,_,rfl,pl,_,rfl,.inl (AE.of (s4 _ _ gZ)),rfl,G8 _,_,rfl,?_⟩;by_cases ylow:y∈left
      case neg=>
       refine BL (show Dg (.int y) (left.map V.int)=false by rw[E9];exact zT ylow) (Am ?_);refine⟨ex,_,rfl,s4,iy,hm4,M4,fun j z hj hz zl=>?_⟩;by_cases hji:j<i
       . exact hin j z hji hz zl
       . have e:j=i:=by lia
         subst e;rw[hy] at hz;cases hz;exact absurd zl ylow
      refine FV (show Dg (.int y) (left.map V.int)=true by rw[E9];exact zR ylow) ?_;refine⟨_,rfl,_,rfl,ma,_,rfl,.inl (AE.of hm4),rfl,G8 _,_,rfl,?_⟩;refine CF (fun i0=>?_) (fun i0=>?_)
      . have hno:¬ y∈met++ex:=fun hy2=>by have hc3:(!Dg (.int y) ((met++ex).map V.int))=true:=i0;rw[E9,zR hy2] at hc3;cases hc3
        have hl4:=M4.len;refine⟨_,rfl,.inl ⟨rfl,_,AE.of hm4⟩,_,rfl,ma,_,_,rfl,rfl,hm4,zr (by rw[zB];lia),?_⟩;refine⟨ex++[y],_,rfl,BM s4 hma,by rw[zf nlm];exact iy,by rw[zK,<-DT,zQ (l₁:=met++ex)];rfl,?_,fun j z hj hz zl=>?_⟩
        . rw[<-DT];exact M4.more (Di _ (DF gD)) ha ylow hno
        . rw[<-DT];by_cases hji:j<i
          . exact Di _ (hin j z hji hz zl)
          . have e:j=i:=by lia
            subst e;rw[hy] at hz;cases hz;simp
      . have hyes:y∈met++ex:=by
         by_cases hy2:y∈met++ex
         . exact hy2
         . exfalso;apply i0;show (!Dg (.int y) ((met++ex).map V.int))=true;rw[E9,zT hy2];rfl
        refine⟨ex,_,rfl,s4,iy,hm4,M4,fun j z hj hz zl=>?_⟩;by_cases hji:j<i
        . exact hin j z hji hz zl
        . have e:j=i:=by lia
          subst e;rw[hy] at hz;cases hz;exact hyes
     case after=>
      rintro σ H4 ⟨ex,vp,rfl,s4,iy,hm4,M4,hin⟩;refine⟨_,rfl,_,_,rfl,rfl,?_⟩;refine⟨met++ex,_,rfl,s4,hm4,M4,by rw[zJ];lia,fun j x hj hx y c ha yl=>?_⟩;by_cases hjg:j<g
      . rw[zc (by lia)] at hx;exact Di _ (jF j x hjg hx y c ha yl)
      . have e:j=g:=by lia
        subst e;rw[zc gD,zC gD] at hx;cases hx;obtain⟨i,hi,e⟩:=zp ((gg y).mpr ⟨c,ha⟩);exact hin i y (by rw[zB];exact hi) (by rw[zC hi,e]) yl
 . have ja:g=met.length:=by
    have h1:¬ ((g:Int)<((met.map V.int).length:Int)):=fun z=>hc (zR z);rw[zB] at h1
    lia
   subst ja;refine⟨_,rfl,ma,met,rfl,AE.of hm2,by lia,fun la ms gx hp hso=>?_⟩;have j5:H la=none:=by
    cases e:H la with
    | none=>rfl
    | some o=>have:=s2 la o e;rw[gx] at this;cases this
   refine k la ms _ j5 (s2.trans (zL gx)) zK (M.part hp hso fun x hx y c ha yl=>?_);obtain⟨j,hj,e⟩:=zp hx;exact jF j x hj (by rw[zC hj,e]) y c ha yl
theorem Nx (h:Br H xs ds):xs.length=ds.length:=by
 induction xs generalizing ds with
 | nil=>cases h;rfl
 | cons x xs ih=>
  cases h with
  | cons a b=>rw[zk,zk,ih b]
theorem Dt (k:AF H H')(s:A4 H v d):A4 H' v d:=
 A4.rec (motive_1:=fun v d _=>A4 H' v d) (motive_2:=fun xs ds _=>Br H' xs ds) .non (fun b=>.bl b) (fun i=>.int i) (fun x=>.str x) (fun e _ ih=>.tup (k _ _ e) ih) (fun e _ ih=>.lst (k _ _ e) ih) .nil (fun _ _ i1 i2=>.cons i1 i2) s
theorem Kg :∀{xs:List V}{os:List Int},Br H xs (os.map PyData.int)->xs=os.map V.int:=by
 intro xs os h
 induction os generalizing xs with
 | nil=>cases h;rfl
 | cons o os ih=>
  cases h with
  | cons a b=>cases a;rw[ih b];rfl
noncomputable def Ef:List Int->Bool
 | a::b::r=>decide (a<b) && Ef (b::r)
 | _=>true
theorem WC:∀ms,Ef ms=(List.range (ms.length-1)).all fun k=>decide (ms.getD k 0<ms.getD (k+1) 0)
 | []=>rfl
 | [_]=>rfl
 | a::b::r=>by show (decide (a<b) && Ef (b::r))=_;rw[WC (b::r)];show _=(List.range (r.length+1)).all _;rw[List.range_succ_eq_map,List.all_cons,List.all_map];rfl
theorem UG:∀ms,Ef ms=true↔ms.Pairwise (· < ·)
 | []=>by simp[Ef]
 | [_]=>by simp[Ef]
 | a::b::r=>by
  have ih:=UG (b::r);show (decide (a<b) && Ef (b::r))=true↔_;rw[Jb,ih,EZ,Hn (a:=a)];constructor
  . rintro ⟨h1,h2⟩;refine⟨fun x hx=>?_,h2⟩;rcases zX.mp hx with rfl | hx
    . exact h1
    . have:=(Hn.mp h2).1 x hx
      lia
  . rintro ⟨h1,h2⟩;exact⟨h1 b zS,h2⟩
def Sf:Sp:=fun vs H Q _=>∃p xs,vs=[.ref p]/\H p=some (.tup (xs.map V.int))/\xs.length<=1000/\∀H',AF H H'->Q (.bl (Ef xs)) H'
theorem Pg:AW IL IL (defScope ED):=AY
theorem YX (F:Fu K "is_rising" ED f gA) (f9:mg "len"=none) (f7:mg "range"=none) (gO:mg "all"=none):AH P w K mg base AL 1 f gA IL Sf:=by
 refine F.okD Pg fun _ A _ _ H vs Q E hr h=>?_;obtain⟨p,xs,rfl,hp,hl,k⟩:=h;refine⟨_,zh (AQ (Aj (Jy rfl) gO (zD (A0 (own:=["k"]) (cn:=IL) (ci:=[0]) rfl (An rfl rfl) ⟨rfl,rfl,rfl,trivial⟩ rfl
  (Sn rfl f7 (zD zm (zD (Aj Bz f9 (zD (pv 0) zO)) zO))) (fun _ _ _ _=>Aq) (fun _ _ _ _=>BI)
  (fun _ _ _ _=>Cy J6 (AK Bg (pv 1) (Ac Jq (pv 0) zm)) (AK Bg (pv 1) (pv 0)) (AZ _))) zO))),?_⟩
 refine⟨_,rfl,p,_,rfl,.inr (AB.of hp),1,_,rfl,⟨by decide,by decide,by rw[zB];lia,by rw[zB];lia⟩,[.ref p],rfl,fun D hD=>?_⟩;refine Dv (lo:=1) (n:=(((xs.map V.int).length:Int)-1).toNat) (fun q ys H4=>q<=(((xs.map V.int).length:Int)-1).toNat/\ys=((List.range q).map fun k=>decide (xs.getD k 0<xs.getD (k+1) 0)).map V.bl/\H4=upd H D (.lst ys)) ⟨zg _,rfl,rfl⟩ (fun q ys H4 z=>?_) (fun q ys H4 hq z=>?_) (fun ys H4 z=>?_)
 . obtain⟨hq,rfl,_⟩:=z;rw[zB] at hq;rw[zB,zB,Bv];exact zr (by lia)
 . obtain⟨_,rfl,rfl⟩:=z;rw[zB] at hq;have hp4:=zL (o:=.lst (((List.range q).map fun k=>decide (xs.getD k 0<xs.getD (k+1) 0)).map V.bl)) hD _ _ hp;have h1:q<xs.length:=by lia
   have h2:q+1<xs.length:=by lia
   refine⟨⟨rfl,rfl⟩,?_⟩;refine BH ?_;refine⟨_,rfl,_,rfl,_,_,rfl,rfl,p,_,_,.int xs[q],rfl,rfl,AB.of hp4,BB (by lia) (by rw[show ((1:Int)+q-1).toNat=q by lia,zM,zC h1];rfl),_,rfl,_,rfl,p,_,_,.int xs[q+1],rfl,rfl,AB.of hp4,BB (by lia) (by rw[show ((1:Int)+q).toNat=q+1 by lia,zM,zC h2];rfl),_,_,rfl,rfl,zK,by rw[zB];lia,?_,BQ⟩;have d1:xs.getD q 0=xs[q]:=by rw[zF,zC h1];rfl
   have d2:xs.getD (q+1) 0=xs[q+1]:=by rw[zF,zC h2];rfl
   rw[List.range_succ,zQ,zQ];show _=_++[V.bl (decide (xs.getD q 0<xs.getD (q+1) 0))];rw[d1,d2]
 . obtain⟨_,rfl,rfl⟩:=z;refine⟨D,_,rfl,AE.of zK,?_⟩;have e:(((List.range (((xs.map V.int).length:Int)-1).toNat).map fun k=>decide (xs.getD k 0<xs.getD (k+1) 0)).all id)=Ef xs:=by rw[WC,List.all_map,zB,show ((xs.length:Int)-1).toNat=xs.length-1 by lia];rfl
   rw[e];exact k _ (zL hD)
inductive Aa where
 | mk (ps:List Int)(ks:List Aa)
mutual
noncomputable def AG:Aa->List Int
 | .mk ps ks=>ps++Ae ks
noncomputable def Ae:List Aa->List Int
 | []=>[]
 | k::ks=>AG k++Ae ks
end
mutual
noncomputable def Av (x:Int):Aa->Option (List Int)
 | .mk ps ks=>if x∈ps then some ps else (Bu x ks).map (ps ++ ·)
noncomputable def Bu (x:Int):List Aa->Option (List Int)
 | []=>none
 | k::ks=>match Av x k with
  | some r=>some r
  | none=>Bu x ks
end
mutual
noncomputable def Cc:Aa->Nat
 | .mk ps ks=>ps.length+CY ks
noncomputable def CY:List Aa->Nat
 | []=>0
 | k::ks=>max (Cc k) (CY ks)
end
mutual
noncomputable def BE:Aa->Nat
 | .mk _ ks=>EF ks+1
noncomputable def EF:List Aa->Nat
 | []=>0
 | k::ks=>max (BE k) (EF ks)
end
mutual
noncomputable def Bm:Aa->PyData
 | .mk ps ks=>.tuple [.tuple (ps.map PyData.int),.tuple (Ce ks)]
noncomputable def Ce:List Aa->List PyData
 | []=>[]
 | k::ks=>Bm k::Ce ks
end
theorem MZ:∀ks:List Aa,(Ce ks).length=ks.length
 | []=>rfl
 | _::ks=>by rw[Ce,zk,zk,MZ ks]
theorem Md :∀{ks:List Aa},k∈ks->BE k<=EF ks
 | [],h=>by cases h
 | j::ks,h=>by
  rw[EF];rcases zX.mp h with rfl | h
  . lia
  . have:=Md h
    lia
theorem Vn :∀{ks:List Aa}{i:Nat},ks[i]?=some k->Ae (ks.take (i+1))=Ae (ks.take i)++AG k
 | [],_,h=>by cases h
 | j::ks,0,h=>by cases h;show AG k++Ae (ks.take 0)=Ae []++AG k;simp[Ae]
 | j::ks,i+1,h=>by show AG j++Ae (ks.take (i+1))=(AG j++Ae (ks.take i))++AG k;rw[Vn (ks:=ks) (by simpa using h),DT]
theorem Ny :∀{ks:List Aa},k∈ks->(AG k).length<=(Ae ks).length
 | [],h=>by cases h
 | j::ks,h=>by
  rw[Ae,zJ];rcases zX.mp h with rfl | h
  . lia
  . have:=Ny h
    lia
theorem Wl:∀ks i,(Ae (ks.take i)).length<=(Ae ks).length
 | ks,0=>by simp[Ae]
 | [],_+1=>zI _
 | k::ks,i+1=>by
  show (AG k++Ae (ks.take i)).length<=(AG k++Ae ks).length;rw[zJ,zJ];have:=Wl ks i
  lia
theorem Nq :∀{zs:List V}{ks:List Aa}{i:Nat}{z:V},Br H zs (Ce ks)->zs[i]?=some z->∃k,ks[i]?=some k/\A4 H z (Bm k)
 | [],_,_,_,_,h=>by cases h
 | z::zs,[],_,_,s,_=>by cases s
 | z::zs,k::ks,i,y,s,h=>by
  rw[Ce] at s;cases s with
  | cons a b=>
   cases i with
   | zero=>cases h;exact⟨k,rfl,a⟩
   | succ i=>obtain⟨k',h1,h2⟩:=Nq (ks:=ks) (i:=i) b (by simpa using h);exact⟨k',by simpa using h1,h2⟩
theorem NT (S:A4 H v (Bm (.mk ps ks))):∃a b c zs,v=.ref a/\H a=some (.tup [.ref b,.ref c])/\H b=some (.tup (ps.map V.int))/\H c=some (.tup zs)/\Br H zs (Ce ks):=by
 rw[Bm] at S;cases S with
 | tup e al=>cases al with
  | cons s1 al=>cases al with
   | cons s2 al=>
    cases al;cases s1 with
    | tup e1 a1=>cases s2 with
     | tup e2 a2=>rw[Kg a1] at e1;exact⟨_,_,_,_,rfl,e,e1,e2,a2⟩
def Js (h:Nat):Sp:=fun vs H Q _=>∃v p,vs=[v]/\A4 H v (Bm p)/\BE p<=h/\(AG p).length<=1000/\∀l H',AF H H'->H' l=some (.tup ((AG p).map V.int))->Q (.ref l) H'
theorem HU:AW ["plan","found","part"] Bs (defScope KJ):=AY
theorem JO (F:Fu K "plan_order" KJ f gA) (bF:CU K gA Bs []) (mF:mg "plan_order"=some (.ref f)) (gN:mg "list"=none) (fw:mg "tuple"=none):∀h:Nat,AH P w K mg base AL (h+1) f gA Bs (Js h)
 | 0=>F.ok HU (fun vs H Q E h=>by obtain⟨v,p,rfl,_⟩:=h;rfl) (fun gP A outer s H vs Q E hr h=>by
  obtain⟨v,⟨ps,ks⟩,rfl,_,h0,_⟩:=h;rw[BE] at h0
  lia)
 | h+1=>by
  have GP:AH P w K mg base AL (h+1) f gA Bs (Js h):=JO F bF mF gN fw h;refine F.ok HU (fun vs H Q E h=>?_) (fun gP A outer s H vs Q E hr h=>?_)
  . obtain⟨v,p,rfl,_⟩:=h;rfl
  . obtain⟨v,⟨ps,ks⟩,rfl,S,hh,hl,k⟩:=h;rw[BE] at hh;rw[AG] at hl k;obtain⟨a,b,c,zs,rfl,ha,hb,hc,al⟩:=NT S;have jr:=Nx al;rw[MZ] at jr;refine⟨_,zW (Ak (i:=1) HU.nd (Bi cR gN (zD (AK AX (pv 0) zm) zO)))
     (zW (CB (Bo (AK AX (pv 0) zm)) (BN (i:=2) HU.nd)
      (zh (DL (Gd PySem.F.plainAttrs_list PySem.F.slot_list_extend PySem.F.type_list_extend ZJ (pv 1) (zD (Eg GP hr rfl mF F.kp bF .nil Ei (zD (pv 2) zO)) zO)))))
     (zh (AQ (Bi B9 fw (zD (pv 1) zO))))),?_⟩
    refine⟨_,rfl,_,_,_,_,rfl,rfl,AB.of ha,rfl,b,_,rfl,.inr (AB.of hb),fun D hD=>?_⟩;have s1:=zL (o:=.lst (ps.map V.int)) hD;refine⟨_,rfl,_,_,_,_,rfl,rfl,AB.of (s1 _ _ ha),rfl,c,rfl,⟨_,AB.of (s1 _ _ hc)⟩,Mc (K:=K) (a:=c) (xs:=zs) (fun i σ H2=>∃vt:Option V,σ=[some (.ref a),some (.ref D),vt]/\i<=ks.length/\H2 D=some (.lst ((ps++Ae (ks.take i)).map V.int))/\AF H H2)
     ⟨none,rfl,zg _,by rw[zK];simp[Ae],s1⟩ (fun i σ H2 _ z=>?_) (fun i x σ H2 hx z=>?_) (fun σ H2 z=>?_)⟩
    . obtain⟨_,_,_,_,s2⟩:=z;exact AB.of (s2 _ _ hc)
    . obtain⟨vt,rfl,hi,h2,s2⟩:=z;obtain⟨kd,hk,Sk⟩:=Nq al hx;have hkm:=zP hk;have j9:=(zH.mp hk).1;have hf:=Vn hk;have jR:=Ny hkm;have hkh:=Md hkm;have hlen:(Ae (ks.take (i+1))).length<=(Ae ks).length:=Wl ks (i+1);rw[hf,zJ] at hlen;rw[zJ] at hl;refine⟨_,rfl,.inl ⟨rfl,_,AE.of h2⟩,_,rfl,x,kd,rfl,Dt s2 Sk,by lia,by lia,fun l H3 s3 h3=>?_⟩;refine⟨D,l,_,_,rfl,rfl,s3 _ _ h2,h3,?_,?_⟩
      . rw[zB,zB,zJ];exact Ea (zr (by lia))
      . exact⟨_,rfl,j9,by rw[hf,zK,<-zQ,DT],BM (s2.trans s3) hD⟩
    . obtain⟨vt,rfl,hi,h2,s2⟩:=z;rw[jr,zY (zI _)] at h2;refine⟨_,rfl,D,_,rfl,.inl ⟨AE.of h2,fun l gm=>?_⟩⟩;exact k l _ (s2.trans (zL gm)) zK
end K91
namespace K91
open PySem L2 WM
mutual
theorem Tg :∀(p:Aa){r:List Int},Av x p=some r->r.length<=(AG p).length
 | .mk ps ks,r,h=>by
  rw[Av] at h;rw[AG,zJ];split at h
  . cases h
    lia
  . rw[Ht] at h;obtain⟨r',h1,rfl⟩:=h;have:=YD ks h1;rw[zJ]
    lia
theorem YD :∀(ks:List Aa){r:List Int},Bu x ks=some r->r.length<=(Ae ks).length
 | [],r,h=>by rw[Bu] at h;cases h
 | k::ks,r,h=>by
  rw[Bu] at h;rw[Ae,zJ];split at h
  . next r' e=>
    cases h;have:=Tg k e
    lia
  . have:=YD ks h
    lia
end
theorem ZR {ks:List Aa}(h:ks[i]?=some k):Bu x (ks.drop i)=match Av x k with | some r=>some r | none=>Bu x (ks.drop (i+1)):=by
 obtain⟨hi,e⟩:=zH.mp h;rw[List.drop_eq_getElem_cons hi,e,Bu]
 try (cases Av x k <;> rfl)
theorem Y8 :∀{ks:List Aa},k∈ks->Cc k<=CY ks
 | [],h=>by cases h
 | j::ks,h=>by
  rw[CY];rcases zX.mp h with rfl | h
  . lia
  . have:=Y8 h
    lia
theorem Wc:∀{ks:List Aa},ks≠[]->∃k∈ks,Cc k=CY ks
 | [],h=>absurd rfl h
 | [k],_=>⟨k,zS,by rw[CY,CY];lia⟩
 | k::j::ks,_=>by
  obtain⟨m,hm,e⟩:=Wc (ks:=j::ks) (by simp);by_cases c:CY (j::ks)<=Cc k
  . exact⟨k,zS,by rw[CY];lia⟩
  . exact⟨m,zZ _ hm,by rw[CY];lia⟩
mutual
def Hg:Aa->Prop
 | .mk _ ks=>ks.length<=1000/\Pj ks
def Pj:List Aa->Prop
 | []=>True
 | k::ks=>Hg k/\Pj ks
end
theorem S7 :∀{ks:List Aa},Pj ks->k∈ks->Hg k
 | [],_,h=>by cases h
 | j::ks,h,hm=>by
  rw[Pj] at h;rcases zX.mp hm with rfl | hm
  . exact h.1
  . exact S7 h.2 hm
def Ki (h:Nat):Sp:=fun vs H Q _=>∃v p x,vs=[v,.int x]/\A4 H v (Bm p)/\BE p<=h/\(AG p).length<=1000/\(Av x p=none->∀H',AF H H'->Q .non H')/\(∀r l H',Av x p=some r->AF H H'->H' l=some (.tup (r.map V.int))->Q (.ref l) H')
def HL (h:Nat):Sp:=fun vs H Q _=>∃v p,∃(x:Int)(r:List Int),vs=[v,.int x]/\A4 H v (Bm p)/\BE p<=h/\(AG p).length<64/\Av x p=some r/\(∀(ms:List Int)l H',ms.Pairwise (· < ·)->(∀z,z∈ms↔z∈r)->AF H H'->H' l=some (.tup (ms.map V.int))->Q (.ref l) H')
def HS (h:Nat):Sp:=fun vs H Q _=>∃v p,vs=[v]/\A4 H v (Bm p)/\BE p<=h/\(AG p).length<=1000/\Hg p/\∀H',AF H H'->Q (.int (Cc p)) H'
theorem HW:AW ["plan","place","part","rest"] DD (defScope Oz):=AY
theorem JX (F:Fu K "chain_or_none" Oz f gA) (bF:CU K gA DD []) (mF:mg "chain_or_none"=some (.ref f)):∀h:Nat,AH P w K mg base AL (h+1) f gA DD (Ki h)
 | 0=>F.ok HW (fun vs H Q E h=>by obtain⟨v,p,x,rfl,_⟩:=h;rfl) (fun gP A outer s H vs Q E hr h=>by
  obtain⟨v,⟨ps,ks⟩,x,rfl,_,h0,_⟩:=h;rw[BE] at h0
  lia)
 | h+1=>by
  have GP:AH P w K mg base AL (h+1) f gA DD (Ki h):=JX F bF mF h;refine F.ok HW (fun vs H Q E h=>?_) (fun gP A outer s H vs Q E hr h=>?_)
  . obtain⟨v,p,x,rfl,_⟩:=h;rfl
  . obtain⟨v,⟨ps,ks⟩,x,rfl,S,hh,hl,kn,ks'⟩:=h;rw[BE] at hh;rw[AG,zJ] at hl;rw[Av] at kn ks';obtain⟨a,b,c,zs,rfl,ha,hb,hc,al⟩:=NT S;have jr:=Nx al;rw[MZ] at jr;refine⟨_,zW (Ap (Ad Yk (pv 1) (AK AX (pv 0) zm) (by with_unfolding_all rfl)) (zh (AQ (AK AX (pv 0) zm))) As)
     (zW (CB (Bo (AK AX (pv 0) zm)) (BN (i:=2) HW.nd)
      (zW (Ak (i:=3) HW.nd (Eg GP hr rfl mF F.kp bF .nil Ei (zD (pv 2) (zD (pv 1) zO))))
      (zh (Ap (Ad JZ (pv 3) BK (AZ _)) (zh (AQ (Ac Zf (AK AX (pv 0) zm) (pv 3)))) As))))
     (zh (AQ BK))),?_⟩
    refine⟨_,rfl,_,rfl,_,_,_,_,rfl,rfl,AB.of ha,rfl,b,_,rfl,.inr (AB.of hb),rfl,G8 _,_,rfl,?_⟩;show (if Dg (.int x) (ps.map V.int)=true then _ else _)
    rw[E9];by_cases cx:x∈ps
    . refine FV (zR cx) ?_;rw[if_pos cx] at ks';exact⟨_,rfl,_,_,_,_,rfl,rfl,AB.of ha,rfl,ks' ps b H rfl (AF.refl _) hb⟩
    . refine BL (zT cx) ?_;rw[if_neg cx] at kn ks';refine⟨_,rfl,_,_,_,_,rfl,rfl,AB.of ha,rfl,c,rfl,⟨_,AB.of hc⟩,Mc (K:=K) (a:=c) (xs:=zs) (fun i σ H2=>MC fun (v2 v3:Option V)=>σ=[some (.ref a),some (.int x),v2,v3]/\Bu x ks=Bu x (ks.drop i)/\AF H H2) ⟨none,none,rfl,rfl,AF.refl _⟩ (fun i σ H2 _ z=>?_) (fun i y σ H2 hy z=>?_) (fun σ H2 z=>?_)⟩
      . obtain⟨_,_,_,_,s2⟩:=z;exact AB.of (s2 _ _ hc)
      . obtain⟨v2,v3,rfl,hd,s2⟩:=z;obtain⟨kd,hk,Sk⟩:=Nq al hy;have hkm:=zP hk;have jR:=Ny hkm;have hkh:=Md hkm;rw[ZR hk] at hd;refine⟨_,rfl,_,rfl,y,kd,x,rfl,Dt s2 Sk,by lia,by lia,fun e H3 s3=>?_,fun r l H3 e s3 h3=>?_⟩
        . rw[e] at hd;refine⟨_,rfl,rfl,_,rfl,BL rfl ?_⟩;exact⟨_,_,rfl,hd,s2.trans s3⟩
        . rw[e] at hd;have i4:=Tg kd e;have s23:=s2.trans s3;refine⟨_,rfl,rfl,_,rfl,FV rfl ?_⟩;have ke:∀(l:Addr)(H':Hp),AF H H'->H' l=some (.tup ((ps++r).map V.int))->Q (.ref l) H':=fun l H' s' h'=>ks' (ps++r) l H' (by rw[hd];rfl) s' h';refine⟨_,rfl,_,_,_,_,rfl,rfl,AB.of (s23 _ _ ha),rfl,_,rfl,b,l,ps.map V.int,r.map V.int,rfl,rfl,AB.of (s23 _ _ hb),AB.of h3,?_,fun e0=>?_,fun _ e0=>?_,fun _ _ p hp=>?_⟩
          . rw[zB,zB];exact Ea (zr (by lia))
          . have:ps=[]:=Jm.mp e0;subst this;exact ke l H3 s23 h3
          . have:r=[]:=Jm.mp e0;subst this;exact ke b H3 s23 (by rw[BR];exact s23 _ _ hb)
          . exact ke p _ (s23.trans (zL hp)) (by rw[zQ];exact zK)
      . obtain⟨v2,v3,rfl,hd,s2⟩:=z;rw[jr,List.drop_of_length_le (zI _),Bu] at hd;exact kn (by rw[hd];rfl) _ s2
theorem VC:AW DD DD (defScope M8):=AY
theorem Om (F:Fu K "chain" M8 f gA) (FC:AD K mg "chain_or_none" Oz fC fdC DD) (fw:mg "tuple"=none) (gB:mg "sorted"=none) (jY:mg "set"=none):AH P w K mg base AL (h+2) f gA DD (HL h):=by have GC:AJ P w base (h+1) FC (Ki h):=JX FC.F FC.b FC.m h;refine F.okD VC fun _ A _ _ H vs Q E hr h=>?_;obtain⟨v,p,x,r,rfl,S,hh,hl,hx,k⟩:=h;refine⟨_,zh (AQ (Bi B9 fw (zD (bu rfl rfl gB rfl jY (zD (AI GC hr FC (zD (pv 0) (zD (pv 1) zO))) zO)) zO))),?_⟩;refine⟨_,rfl,_,rfl,v,p,x,rfl,S,hh,by lia,(fun e=>by rw[hx] at e;cases e),fun r' l H1 e s1 h1=>?_⟩;rw[hx] at e;cases e;have i4:=Tg p hx;refine⟨l,r,rfl,AB.of h1,by lia,fun l2 ms gS hr2 hm2=>?_⟩;refine⟨l2,_,rfl,.inl ⟨AE.of zK,fun l3 hl3=>?_⟩⟩;exact k ms l3 _ hr2 hm2 (s1.trans ((zL gS).trans (zL hl3))) zK
theorem Qa:AW Bs Bs (defScope Qe):=AY
theorem JC (F:Fu K "deepest" Qe f gA) (bF:CU K gA Bs []) (mF:mg "deepest"=some (.ref f)) (f9:mg "len"=none) (iK:mg "max"=none):∀h:Nat,AH P w K mg base AL (h+1) f gA Bs (HS h)
 | 0=>F.ok Qa (fun vs H Q E h=>by obtain⟨v,p,rfl,_⟩:=h;rfl) (fun gP A outer s H vs Q E hr h=>by
  obtain⟨v,⟨ps,ks⟩,rfl,_,h0,_⟩:=h;rw[BE] at h0
  lia)
 | h+1=>by
  have GP:AH P w K mg base AL (h+1) f gA Bs (HS h):=JC F bF mF f9 iK h;refine F.ok Qa (fun vs H Q E h=>?_) (fun gP A outer s H vs Q E hr h=>?_)
  . obtain⟨v,p,rfl,_⟩:=h;rfl
  . obtain⟨v,⟨ps,ks⟩,rfl,S,hh,hl,j7,k⟩:=h;rw[BE] at hh;rw[AG,zJ] at hl;rw[Cc] at k;rw[Hg] at j7;obtain⟨a,b,c,zs,rfl,ha,hb,hc,al⟩:=NT S;have jr:=Nx al;rw[MZ] at jr;have hu:=Fy hr;refine⟨_,zh (AQ (Ac Ci (Aj Bz f9 (zD (AK AX (pv 0) zm) zO))
     (XN rfl hu rfl iK (zD (A0 (own:=["part"]) (cn:=[]) (ci:=[]) rfl (An rfl rfl) trivial rfl (Bo (AK AX (pv 0) zm)) (fun _ _ _ _=>Aq) (fun _ _ _ _=>BI)
      (fun _ _ _ _=>Eg GP hr rfl mF F.kp bF .nil Ei (zD (pv 0) zO))) zO) zm))),?_⟩
    refine⟨_,rfl,_,_,_,_,rfl,rfl,AB.of ha,rfl,b,_,rfl,.inr (AB.of hb),?_⟩;refine⟨_,rfl,_,_,_,_,rfl,rfl,AB.of ha,rfl,c,rfl,⟨_,AB.of hc⟩,[],rfl,fun D hD=>?_⟩;refine C8 (a:=c) (xs:=zs) (fun i ys H4=>ys=((ks.take i).map fun k=>(Cc k:Int)).map V.int/\AF H H4/\H4 D=some (.lst ys)) ⟨rfl,zL hD,zK⟩ (fun i ys H4 z=>?_) (fun i ys H4 z=>?_) (fun i y ys H4 hy z=>?_) (fun ys H4 z=>?_)
    . obtain⟨_,s4,_⟩:=z;exact AB.of (s4 _ _ hc)
    . obtain⟨rfl,_⟩:=z;rw[zB,zB,zt];exact zr (by lia)
    . obtain⟨rfl,s4,h4⟩:=z;obtain⟨kd,hk,Sk⟩:=Nq al hy;have hkm:=zP hk;have jR:=Ny hkm;have hkh:=Md hkm;refine⟨⟨rfl,rfl⟩,?_⟩;refine BH ?_;refine⟨_,rfl,y,kd,rfl,Dt s4 Sk,by lia,by lia,S7 j7.2 hkm,fun H5 s5=>⟨s5 _ _ h4,?_,BM (s4.trans s5) hD,zK⟩⟩;rw[zy,hk,zQ,zQ];rfl
    . obtain⟨rfl,s4,h4⟩:=z;rw[jr,zY (zI _)] at h4;refine⟨_,rfl,D,_,rfl,.inl (AE.of h4),fun e0=>?_,fun n hn hm=>?_⟩
      . have:ks=[]:=Jm.mp e0;subst this;refine⟨_,_,rfl,rfl,?_⟩;rw[CY] at k;have:=k _ s4;rw[zB];exact this
      . refine⟨_,_,rfl,rfl,?_⟩;obtain⟨kd,hkd,rfl⟩:=zq.mp hn;obtain⟨kx,hkx,ex⟩:=Wc (ks:=ks) (fun z=>by subst z;cases hkd);have h1:=Y8 hkd;have h2:=hm (Cc kx:Int) (zq.mpr ⟨kx,hkx,rfl⟩);have:=k _ s4;rw[zB];rw[show (((ps.length+CY ks:Nat)):Int)=(ps.length:Int)+(Cc kd:Int) by lia] at this;exact this
mutual
theorem TX :∀p:Aa,(Av x p).isSome=decide (x∈AG p)
 | .mk ps ks=>by
  rw[Av,AG];by_cases c:x∈ps
  . rw[if_pos c,zR (zU.mpr (.inl c))];rfl
  . rw[if_neg c,Option.isSome_map,XE ks];by_cases c2:x∈Ae ks
    . rw[zR c2,zR (zU.mpr (.inr c2))]
    . rw[zT c2,zT (fun z=>(zU.mp z).elim c c2)]
theorem XE :∀ks:List Aa,(Bu x ks).isSome=decide (x∈Ae ks)
 | []=>by rw[Bu,Ae];simp
 | k::ks=>by
  have h1:=TX (x:=x) k;have h2:=XE (x:=x) ks;rw[Bu,Ae];cases e:Av x k with
  | some r=>rw[e] at h1;have:x∈AG k:=of_decide_eq_true h1.symm;rw[zR (zU.mpr (.inl this))];rfl
  | none=>
   rw[e] at h1;have c:¬ x∈AG k:=of_decide_eq_false h1.symm;show (Bu x ks).isSome=_;rw[h2];by_cases c2:x∈Ae ks
   . rw[zR c2,zR (zU.mpr (.inr c2))]
   . rw[zT c2,zT (fun z=>(zU.mp z).elim c c2)]
end
theorem OD (h:x∈AG p):∃r,Av x p=some r:=by have:=TX (x:=x) p;rw[zR h] at this;exact Ni.mp this
theorem bX (h:¬ x∈AG p):Av x p=none:=by
 have:=TX (x:=x) p;rw[zT h] at this;cases e:Av x p with
 | none=>rfl
 | some r=>rw[e] at this;cases this
mutual
def good:Aa->Prop
 | .mk ps ks=>ps≠[]/\NJ ks
def NJ:List Aa->Prop
 | []=>True
 | k::ks=>good k/\NJ ks
end
theorem Vv :∀{ks:List Aa},NJ ks->k∈ks->good k
 | [],_,h=>by cases h
 | j::ks,h,hm=>by
  rw[NJ] at h;rcases zX.mp hm with rfl | hm
  . exact h.1
  . exact Vv h.2 hm
mutual
theorem R0 :∀(p:Aa){r:List Int},Av x p=some r->r.Sublist (AG p)/\x∈r/\r.length<=Cc p
 | .mk ps ks,r,h=>by
  rw[Av] at h;rw[AG,Cc];split at h
  . next c=>
    cases h;exact⟨List.sublist_append_left _ _,c,by lia⟩
  . rw[Ht] at h;obtain⟨r',h1,rfl⟩:=h;obtain⟨a,b,c⟩:=YN ks h1;exact⟨a.append_left ps,zU.mpr (.inr b),by rw[zJ];lia⟩
theorem YN :∀(ks:List Aa){r:List Int},Bu x ks=some r->r.Sublist (Ae ks)/\x∈r/\r.length<=CY ks
 | [],r,h=>by rw[Bu] at h;cases h
 | k::ks,r,h=>by
  rw[Bu] at h;rw[Ae,CY];split at h
  . next r' e=>
    cases h;obtain⟨a,b,c⟩:=R0 k e;exact⟨a.trans (List.sublist_append_left _ _),b,by lia⟩
  . obtain⟨a,b,c⟩:=YN ks h;exact⟨a.trans (List.sublist_append_right _ _),b,by lia⟩
end
theorem Fs (hx:x∈AG k):∀{ks:List Aa},k∈ks->x∈Ae ks
 | [],h=>by cases h
 | j::ks,h=>by
  rw[Ae];rcases zX.mp h with rfl | h
  . exact zU.mpr (.inl hx)
  . exact zU.mpr (.inr (Fs hx h))
theorem Yv (hx:x∈AG k):∀{ks:List Aa},(Ae ks).Nodup->k∈ks->Bu x ks=Av x k
 | [],_,h=>by cases h
 | j::ks,nd,h=>by
  rw[Ae,DW] at nd;rw[Bu];by_cases c:x∈AG j
  . rcases zX.mp h with rfl | h
    . obtain⟨r,hr⟩:=OD c;rw[hr]
    . exact absurd rfl (nd.2.2 x c x (Fs hx h))
  . rw[bX c];rcases zX.mp h with rfl | h
    . exact absurd hx c
    . exact Yv hx nd.2.1 h
theorem VY :∀{ks:List Aa},(Ae ks).Nodup->k∈ks->(AG k).Nodup
 | [],_,h=>by cases h
 | j::ks,nd,h=>by
  rw[Ae,DW] at nd;rcases zX.mp h with rfl | h
  . exact nd.1
  . exact VY nd.2.1 h
theorem Y2 :∀l:List Int,Br H (l.map V.int) (l.map PyData.int)
 | []=>.nil
 | _::r=>.cons (.int _) (Y2 r)
mutual
theorem Sh (k:∀b ys,H b=some (.tup ys)->H' b=some (.tup ys)):∀(q:Aa){v:V},A4 H v (Bm q)->A4 H' v (Bm q)
 | .mk ps ks,v,S=>by obtain⟨a,b,c,zs,rfl,ha,hb,hc,al⟩:=NT S;rw[Bm];exact .tup (k _ _ ha) (.cons (.tup (k _ _ hb) (Y2 _)) (.cons (.tup (k _ _ hc) (Nu k ks al)) .nil))
theorem Nu (k:∀b ys,H b=some (.tup ys)->H' b=some (.tup ys)):∀(ks:List Aa){zs:List V},Br H zs (Ce ks)->Br H' zs (Ce ks)
 | [],zs,S=>by rw[Ce] at S ⊢;cases S;exact .nil
 | q::ks,zs,S=>by
  rw[Ce] at S ⊢;cases S with
  | cons a b=>exact .cons (Sh k q a) (Nu k ks b)
end
theorem WR:∀ks js:List Aa,Ce (ks++js)=Ce ks++Ce js
 | [],_=>rfl
 | k::ks,js=>by rw[List.cons_append,Ce,Ce,WR ks js];rfl
theorem Yw:∀ks js:List Aa,Ae (ks++js)=Ae ks++Ae js
 | [],_=>rfl
 | k::ks,js=>by rw[List.cons_append,Ae,Ae,Yw ks js,DT]
theorem NQ {α:Type}{l k:List α}(h:(l++k).Nodup){x:α}(h1:x∈l)(h2:x∈k):False:=(DW.mp h).2.2 x h1 x h2 rfl
theorem NU :∀{ks:List Aa},x∈Ae ks->∃k∈ks,x∈AG k
 | [],h=>by rw[Ae] at h;cases h
 | k::ks,h=>by
  rw[Ae] at h;rcases zU.mp h with h | h
  . exact⟨k,zS,h⟩
  . obtain⟨j,h1,h2⟩:=NU h;exact⟨j,zZ _ h1,h2⟩
theorem X0 :∀{ks:List Aa},(Ae ks).Nodup->j∈ks->k∈ks->x∈AG j->x∈AG k->AG j=AG k/\Av x j=Av x k
 | [],_,h,_,_,_=>by cases h
 | i::ks,nd,hj,hk,xj,xk=>by
  have jN:=nd;rw[Ae] at jN;rcases zX.mp hj with e | hj'
  . rcases zX.mp hk with e' | iS
    . rw[e,e'];exact⟨rfl,rfl⟩
    . exact (NQ jN (e ▸ xj) (Fs xk iS)).elim
  . rcases zX.mp hk with e' | iS
    . exact (NQ jN (e' ▸ xk) (Fs xj hj')).elim
    . exact X0 (DW.mp jN).2.1 hj' iS xj xk
theorem Vq (h:x∈ps):Av x (.mk ps ks)=some ps:=by rw[Av,if_pos h]
theorem Jz (nd:(AG (.mk ps ks)).Nodup)(hk:k∈ks)(hx:x∈AG k):Av x (.mk ps ks)=(Av x k).map (ps ++ ·):=by rw[AG] at nd;rw[Av,if_neg fun z=>NQ nd z (Fs hx hk),Yv hx (DW.mp nd).2.1 hk]
def J2 (ts:List T3)(p:Aa):Prop:=∀a b l,Ah ts a b l->a∈AG p->b∈AG p->(∃r,Av b p=some r/\a∈r)\/∃r,Av a p=some r/\b∈r
structure G7 (n:Int)(ts:List T3)(p:Aa):Prop where
 nd:(AG p).Nodup
 rng:∀x∈AG p,0<=x/\x<n
 all:∀x,0<=x->x<n->x∈AG p
 tie:J2 ts p
theorem G7.len (L:G7 n ts p):(AG p).length<=n.toNat:=by
 have:=nd_len (n:=n.toNat) L.nd fun x hx=>by have:=L.rng x hx;lia
 exact this
theorem Oy (h:PS X st u)(m:∀D σ H,u' D σ H->u D σ H):PS X st u':=fun pins s σ H D I q=>h pins s σ H D I (m D σ H q)
noncomputable def El:Nat->Aa->Bool
 | 0,_=>false
 | m+1,.mk ps ks=>Ef ps && ks.all (El m)
structure LV (p:Aa):Prop where
 gd:good p
 nn:∀x∈AG p,0<=x
 ln:(AG p).length<64
 k1:Hg p
theorem LV.kid (g:LV (.mk ps ks))(h:k∈ks):LV k:=by obtain⟨a,b,c,d⟩:=g;rw[good] at a;rw[AG] at b c;rw[Hg] at d;rw[zJ] at c;exact⟨Vv a.2 h,fun x hx=>b x (zU.mpr (.inr (Fs hx h))),by have:=Ny h;lia,S7 d.2 h⟩
def MU:Sp:=fun vs H Q _=>∃p ps,vs=[.ref p]/\H p=some (.tup (ps.map V.int))/\ps≠[]/\(∀x∈ps,0<=x)/\ps.length<64/\∀H',AF H H'->Q (.bl (Ef ps)) H'
def HY (m:Nat):Sp:=fun vs H Q _=>∃v p,vs=[v,.int m]/\A4 H v (Bm p)/\LV p/\∀H',AF H H'->Q (.bl (El m p)) H'
def ME:Sp:=fun vs H Q _=>∃v p,vs=[v]/\A4 H v (Bm p)/\LV p/\∀H',AF H H'->Q (.bl (El 24 p)) H'
theorem U2:AW BV BV (defScope ON):=AY
theorem PU (F:Fu K "are_plan_places" ON f gA) (FN:AD K mg "is_number" Eu fN fdN BV)
 (FR:AD K mg "is_rising" ED fR fdR IL) (gE:mg "isinstance"=none) (gT:mg "int"=none) (gI:mg "bool"=none) (fw:mg "tuple"=none) (f9:mg "len"=none) (f7:mg "range"=none) (gO:mg "all"=none):AH P w K mg base AL 2 f gA BV MU:=by
 have GN:AJ P w base 1 FN NS:=R4 FN.F gE gT gI;have GR:AJ P w base 1 FR Sf:=YX FR.F f9 f7 gO;refine F.okD U2 fun _ A _ _ H vs Q E hr h=>?_;obtain⟨p,ps,rfl,hp,gL,nn,hl,k⟩:=h;refine⟨_,zW (Ap (PW.pt (DJ (CG (Bq (Aj Jo gE (zD (pv 0) (zD (J9 (T := "tuple") fw) zO))))) (Es (Ad CN (Aj Bz f9 (zD (pv 0) zO)) zm (AZ _))))) By As)
  (zh (AQ (EU (Aj (Jy rfl) gO (zD (A0 (own:=CK) (cn:=[]) (ci:=[]) rfl (An rfl rfl) trivial rfl (Bo (pv 0)) (fun _ _ _ _=>Aq)
   (fun _ _ _ _=>BI) (fun _ _ _ _=>EU (AI GN hr FN (zD (pv 0) zO)) (GQ (Cy IK (pv 0) zm (AZ _))))) zO))
   (GQ (AI GR hr FR (zD (pv 0) zO)))))),?_⟩
 refine⟨_,rfl,_,_,_,true,rfl,.tup hp,rfl,true,rfl,Am ?_⟩;refine⟨_,rfl,p,_,rfl,.inr (AB.of hp),rfl,_,rfl,BL (zT fun z=>?_) ?_⟩
 . have z:=V.int.inj z;rw[zB] at z;exact gL (Ep.mp (by lia))
 refine⟨_,rfl,p,rfl,⟨_,AB.of hp⟩,[],rfl,fun D hD=>?_⟩;refine C8 (a:=p) (xs:=ps.map V.int) (fun i ys H4=>i<=ps.length/\ys=(List.replicate i true).map V.bl/\H4=upd H D (.lst ys)) ⟨zg _,rfl,rfl⟩ (fun i ys H4 h=>?_) (fun i ys H4 h=>?_) (fun i v ys H4 hv h=>?_) (fun ys H4 h=>?_)
 . obtain⟨_,_,rfl⟩:=h;exact AB.of (by rw[zf (zn hp hD)];exact hp)
 . obtain⟨hi,rfl,_⟩:=h;rw[zB,Ey];exact zr (by lia)
 . obtain⟨_,rfl,rfl⟩:=h;obtain⟨x,hx,rfl⟩:∃x,ps[i]?=some x/\V.int x=v:=by
    rw[zM] at hv;cases e:ps[i]? with
    | none=>rw[e] at hv;cases hv
    | some x=>rw[e] at hv;exact⟨x,rfl,zV hv⟩
   have x0:=nn x (zP hx);refine⟨⟨rfl,rfl⟩,?_⟩;refine BH ?_;refine⟨_,rfl,x,rfl,true,rfl,Aw ?_⟩;refine⟨_,rfl,_,_,rfl,rfl,?_⟩;rw[zR x0];refine⟨zK,(zH.mp hx).1,?_,BQ⟩;rw[List.replicate_succ',zQ];rfl
 . obtain⟨_,rfl,rfl⟩:=h;refine⟨D,List.replicate (ps.map V.int).length true,rfl,AE.of zK,?_⟩;have gn:(List.replicate (ps.map V.int).length true).all id=true:=GU.mpr fun b hb=>(List.mem_replicate.mp hb).2;rw[gn];refine⟨true,rfl,Aw ?_⟩;have s1:=zL (o:=.lst ((List.replicate (ps.map V.int).length true).map V.bl)) hD;exact⟨_,rfl,p,ps,rfl,s1 _ _ hp,by lia,fun H' s'=>k H' (s1.trans s')⟩
theorem Py:AW IU IU (defScope QC):=AY
theorem Ij {fT:Addr}(F:Fu K "is_plan_within" QC f gA) (bF:CU K gA IU []) (mF:mg "is_plan_within"=some (.ref f)) (FT:AD K mg "is_tuple_of" J0 fT jI Ih)
 (FA:AD K mg "are_plan_places" ON fA fdA BV) (GT:∀m,AJ P w base (m+2) FT Np) (GA:∀m,AJ P w base (m+2) FA MU)
 (gE:mg "isinstance"=none) (fw:mg "tuple"=none) (gO:mg "all"=none):∀m:Nat,AH P w K mg base AL (m+3) f gA IU (HY m)
 | 0=>by
  refine F.ok Py (fun vs H Q E h=>?_) (fun gP A outer s H vs Q E hr h=>?_)
  . obtain⟨v,p,rfl,_⟩:=h;rfl
  . obtain⟨v,p,rfl,S,g,k⟩:=h;refine⟨_,zW (Ap (PW.pt (DJ (Ad CN (pv 1) zm (AZ _)) (DJ (CG (Bq (Eg (GT 0) hr rfl FT.m FT.F.kp FT.b .nil Ei (zD (pv 0) (zD zm zO))))) (Es (CG (Bq (Aj Jo gE (zD (AK AX (pv 0) zm) (zD (J9 (T := "tuple") fw) zO))))))))) (zh (AQ E1)) As) By,?_⟩;exact⟨_,rfl,rfl,_,rfl,Aw (Aw (k H (AF.refl _)))⟩
 | m+1=>by
  have GW:AH P w K mg base AL (m+3) f gA IU (HY m):=Ij F bF mF FT FA GT GA gE fw gO m;refine F.ok Py (fun vs H Q E h=>?_) (fun gP A outer s H vs Q E hr h=>?_)
  . obtain⟨v,p,rfl,_⟩:=h;rfl
  . obtain⟨v,⟨ps,ks⟩,rfl,S,g,k⟩:=h;obtain⟨a,b,c,zs,rfl,ha,hb,hc,al⟩:=NT S;have jr:=Nx al;rw[MZ] at jr;obtain⟨gd,nn,ln,k1⟩:=id g;rw[good] at gd;rw[AG] at nn ln;rw[Hg] at k1;rw[zJ] at ln;refine⟨_,zW (Ap (PW.pt (DJ (Ad CN (pv 1) zm (AZ _)) (DJ (CG (Bq (Eg (GT (m+1)) hr rfl FT.m FT.F.kp FT.b .nil Ei (zD (pv 0) (zD zm zO))))) (Es (CG (Bq (Aj Jo gE (zD (AK AX (pv 0) zm) (zD (J9 (T := "tuple") fw) zO))))))))) By As)
     (zh (AQ (EU (Eg (GA (m+1)) hr rfl FA.m FA.F.kp FA.b .nil Ei (zD (AK AX (pv 0) zm) zO))
      (GQ (Aj (Jy rfl) gO (zD (A0 (own:=Bs) (cn:=["most"]) (ci:=[1]) rfl (An rfl rfl) ⟨rfl,rfl,rfl,trivial⟩ rfl (Bo (AK AX (pv 0) zm)) (fun _ _ _ _=>Aq)
       (fun _ _ _ _=>BI) (fun _ _ _ _=>Eg GW hr rfl mF F.kp bF .nil Ei (zD (pv 0) (zD (Ac Jq (pv 1) zm) zO)))) zO)))))),?_⟩
    refine⟨_,rfl,rfl,_,rfl,BL (zT fun z=>?_) ?_⟩
    . have z:=V.int.inj z
      lia
    refine⟨_,rfl,a,[.ref b,.ref c],rfl,ha,true,rfl,Am ?_⟩;refine⟨_,rfl,a,_,_,.ref c,rfl,rfl,AB.of ha,rfl,_,_,_,true,rfl,.tup hc,rfl,true,rfl,Am ?_⟩;refine⟨_,rfl,a,_,_,.ref b,rfl,rfl,AB.of ha,rfl,b,ps,rfl,hb,gd.1,fun x hx=>nn x (zU.mpr (.inl hx)),by lia,fun H1 s1=>?_⟩;rw[El] at k;refine⟨_,rfl,?_⟩;cases cr:Ef ps with
    | false=>rw[cr] at k;exact Am (k H1 s1)
    | true=>
     rw[cr,Bool.true_and] at k;refine Aw ?_;refine⟨_,rfl,a,_,_,.ref c,rfl,rfl,AB.of (s1 _ _ ha),rfl,c,rfl,⟨_,AB.of (s1 _ _ hc)⟩,[.int ((m+1:Nat):Int)],rfl,fun D hD=>?_⟩;have hc1:=s1 _ _ hc;refine C8 (a:=c) (xs:=zs) (fun i ys H4=>i<=ks.length/\ys=((ks.take i).map (El m)).map V.bl/\AF H1 H4/\H4 D=some (.lst ys)) ⟨zg _,rfl,zL hD,zK⟩ (fun i ys H4 h=>?_) (fun i ys H4 h=>?_) (fun i v ys H4 hv h=>?_) (fun ys H4 h=>?_)
     . obtain⟨_,_,s4,_⟩:=h;exact AB.of (s4 _ _ hc1)
     . obtain⟨hi,rfl,_⟩:=h;rw[zB,zB,zt];have:=k1.1;exact zr (by lia)
     . obtain⟨_,rfl,s4,h4⟩:=h;obtain⟨kd,hk,Sk⟩:=Nq al hv;refine⟨⟨rfl,rfl⟩,?_⟩;refine BH ?_;refine⟨_,rfl,_,rfl,_,_,rfl,rfl,v,kd,?_,Dt (s1.trans s4) Sk,g.kid (zP hk),fun H5 s5=>?_⟩
       . show [v,V.int (((m+1:Nat):Int)-1)]=_;rw[show ((m+1:Nat):Int)-1=(m:Int) by lia]
       refine⟨s5 _ _ h4,(zH.mp hk).1,?_,BM (s4.trans s5) hD,zK⟩;rw[zy,hk,zQ,zQ];rfl
     . obtain⟨_,rfl,s4,h4⟩:=h;rw[jr,zY (zI _)] at h4;refine⟨D,ks.map (El m),rfl,AE.of h4,?_⟩;have e:(ks.map (El m)).all id=ks.all (El m):=by rw[List.all_map];rfl
       rw[e];exact k H4 (s1.trans s4)
theorem Ua:AW BV BV (defScope PH):=AY
theorem OR (F:Fu K "is_plan" PH f gA) (FW:AD K mg "is_plan_within" QC fW fdW IU) (GW:AJ P w base 27 FW (HY 24)) (mMW:mg "MOST_WITHIN"=some (.int 24 tk)):AH P w K mg base AL 28 f gA BV ME:=by
 refine F.ok Ua (fun vs H Q E h=>?_) (fun gP A outer s H vs Q E hr h=>?_)
 . obtain⟨v,p,rfl,_⟩:=h;rfl
 . obtain⟨v,p,rfl,S,g,k⟩:=h;refine⟨_,zh (AQ (AI GW hr FW (zD (pv 0) (zD (XM (v:=.int 24) rfl mMW ⟨tk,rfl⟩) zO)))),?_⟩;exact⟨_,rfl,v,p,rfl,S,g,k⟩
mutual
def NX:Aa->Prop
 | .mk ps ks=>ps.Pairwise (· < ·)/\NC ks
def NC:List Aa->Prop
 | []=>True
 | k::ks=>NX k/\NC ks
end
theorem Vj :∀{ks:List Aa},NC ks->k∈ks->NX k
 | [],_,h=>by cases h
 | j::ks,h,hm=>by
  rw[NC] at h;rcases zX.mp hm with rfl | hm
  . exact h.1
  . exact Vj h.2 hm
theorem Vz:∀m p,BE p<=m->NX p->El m p=true
 | 0,.mk ps ks,h,_=>by rw[BE] at h;lia
 | m+1,.mk ps ks,h,r=>by rw[BE] at h;rw[NX] at r;rw[El,(UG ps).mpr r.1,Bool.true_and,GU];intro k hk;have:=Md hk;exact Vz m k (by lia) (Vj r.2 hk)
variable {P:Program}{w:World}{K:AO}{mg:Be}{base:Heap}{PT:Addr}{X:Cx}
def SM (n:Int)(fl:List Int)(i:Nat)(x:Int):Prop:=x∈fl.take i\/¬ (0<=x/\x<n)
theorem dJ:∀{fl:List Int},(∀i x,fl[i]?=some x->x∉fl.take i)->fl.Nodup:=fun {fl} h=>by
 rw[DN,Cz];intro i j hi hj gu e;refine h j fl[j] (zC hj) ?_;rw[<-e];have:i<(fl.take j).length:=by rw[zt];lia
 have e2:(fl.take j)[i]=fl[i]:=List.getElem_take;exact e2 ▸ DF this
theorem ah {fl:List Int}(nd:fl.Nodup)(h:fl[i]?=some x):x∉fl.take i:=fun z=>by obtain⟨j,hj,e⟩:=zp z;rw[zt] at hj;rw[List.getElem_take] at e;obtain⟨hi,ei⟩:=zH.mp h;exact Cz.mp (DN.mp nd) j i (by lia) hi (by lia) (by rw[e,ei])
def Iw (n:Int)(fl:List Int):Prop:=∀i x,fl[i]?=some x->¬ SM n fl i x
theorem dq :Iw n fl↔fl.Nodup/\∀x∈fl,0<=x/\x<n:=by
 constructor
 . intro h;refine⟨dJ fun i x hx z=>h i x hx (.inl z),fun x hx=>?_⟩;obtain⟨i,hi,e⟩:=zp hx;exact zw fun z=>h i x (by rw[zC hi,e]) (.inr z)
 . rintro ⟨nd,rng⟩ i x hx (z | z)
   . exact ah nd hx z
   . exact z (rng x (zP hx))
def JF:Sp:=fun vs H Q _=>∃n i:Int,vs=[.int n,.int i]/\Q (.bl (decide (0<=i/\i<n))) H
def Ll (h:Nat):Sp:=fun vs H Q _=>∃wa ta v n p,vs=[.ref wa,v]/\H wa=some (.tup [.int n,.ref ta])/\A4 H v (Bm p)/\BE p<=h/\(AG p).length<=1000 /\
 (Iw n (AG p)->∀H',AF H H'->Q .non H')/\∀i x H',(AG p)[i]?=some x->SM n (AG p) i x->(∀j y,j<i->(AG p)[j]?=some y->¬ SM n (AG p) j y)->AF H H'->Q (.int x) H'
def MI (h:Nat):Sp:=fun vs H Q _=>∃wa ta v n p,vs=[.ref wa,v]/\H wa=some (.tup [.int n,.ref ta])/\0<=n/\n<=24/\A4 H v (Bm p)/\BE p<=h/\(AG p).length<=1000 /\
 ((∀x,0<=x->x<n->x∈AG p)->∀H',AF H H'->Q .non H')/\∀x H',0<=x->x<n->x∉AG p->(∀y,0<=y->y<n->y∉AG p->x<=y)->AF H H'->Q (.int x) H'
def D4 (p:Aa)(a b:Int):Prop:=(∃r,Av b p=some r/\a∈r)\/∃r,Av a p=some r/\b∈r
def Kz (h:Nat):Sp:=fun vs H Q _=>∃wa v,∃(n:Int),∃ts p,vs=[.ref wa,v]/\Af H wa n ts/\A4 H v (Bm p)/\BE p<=h/\(AG p).length<64/\(∀x,0<=x->x<n->x∈AG p) /\
 ((∀a b l,(a,b,l)∈ts->D4 p a b)->∀H',AF H H'->Q .non H')/\∀(i:Nat)(a b l:Int)q H',ts[i]?=some (a,b,l)->¬ D4 p a b->(∀(j:Nat)(a' b' l':Int),j<i->ts[j]?=some (a',b',l')->D4 p a' b')->AF H H'->H' q=some (.tup [.int a,.int b])->Q (.ref q) H'
theorem LW (F:Fu K "is_place" HN f gA) (FW:AD K mg "is_within" Ig fW fdW HQ) (FN:AD K mg "is_number" Eu fN fdN BV) (gE:mg "isinstance"=none) (gT:mg "int"=none) (gI:mg "bool"=none):
 AH P w K mg base AL 3 f gA Cw JF:=by
 have GN:AJ P w base 1 FN NS:=R4 FN.F gE gT gI;have GW':AJ P w base 2 FW (fun vs H Q _=>∃i a b:Int,vs=[.int i,.int a,.int b]/\Q (.bl (decide (a<=i/\i<=b))) H):=by
  refine FW.F.ok Qt (fun vs H Q E h=>?_) (fun gP A outer s H vs Q E hr h=>?_)
  . obtain⟨i,a,b,rfl,_⟩:=h;rfl
  . obtain⟨i,a,b,rfl,k⟩:=h;refine⟨_,zh (AQ (EU (AI GN hr FN (zD (pv 0) zO)) (EU (Cy IF (pv 1) (pv 0) (AZ _)) (GQ (Cy IF (pv 0) (pv 2) (AZ _)))))),?_⟩;refine⟨_,rfl,i,rfl,true,rfl,Aw ?_⟩;refine⟨_,rfl,_,rfl,_,_,rfl,rfl,_,rfl,CF (fun c=>?_) (fun c=>?_)⟩
    . have c:=of_decide_eq_true c;refine⟨_,rfl,_,rfl,_,_,rfl,rfl,?_⟩;have e:decide (i<=b)=decide (a<=i/\i<=b):=decide_eq_decide.mpr ⟨fun z=>⟨c,z⟩,fun z=>z.2⟩;dsimp only;rw[e];exact k
    . have e:decide (a<=i/\i<=b)=decide (a<=i):=decide_eq_decide.mpr ⟨fun z=>z.1,fun z=>absurd (zR z) c⟩;rw[e,zT fun z=>c (zR z)] at k;exact k
 refine F.okD Ku fun _ A _ _ H vs Q E hr h=>?_;obtain⟨n,i,rfl,k⟩:=h;refine⟨_,zh (AQ (AI GW' hr FW (zD (pv 1) (zD zm (zD (Ac Jq (pv 0) zm) zO))))),?_⟩;refine⟨_,rfl,_,rfl,_,_,rfl,rfl,i,0,n-1,rfl,?_⟩;have e:decide (0<=i/\i<=n-1)=decide (0<=i/\i<n):=decide_eq_decide.mpr (by lia);rw[e];exact k
theorem MS:AW ["web","plan","ahead","place"] DE (defScope QN):=AY
theorem OY (F:Fu K "place_fault" QN f gA) (FO:AD K mg "plan_order" KJ fO fdO Bs) (GO:AJ P w base (h+3) FO (Js h))
 (FP:AD K mg "is_place" HN fP fdP Cw) (GP:AJ P w base (h+3) FP JF):AH P w K mg base AL (h+4) f gA DE (Ll h):=by
 refine F.okD MS fun _ A _ _ H vs Q E hr h=>?_;obtain⟨wa,ta,v,n,p,rfl,gF,S,hh,hl,kY,kN⟩:=h;have hu:=Fy hr;refine⟨_,zW (Ak (i:=2) MS.nd az)
  (zW (CB (Bo (AI GO hr FO (zD (pv 1) zO))) (BN (i:=3) MS.nd)
   (zW (Ap (PW.pt (DJ (WH (Ys hu (pv 3) (pv 2)) (by with_unfolding_all rfl)) (Es (CG (Bq (AI GP hr FP (zD (AK AX (pv 0) zm) (zD (pv 3) zO)))))))) (zh (AQ (pv 3))) As)
   (zh (Rm hu (pv 2) (pv 3) E1 rfl))))
  (zh (AQ BK))),?_⟩
 intro d hd;have sd:=zL (o:=.dK []) hd;refine⟨_,rfl,v,p,rfl,Dt sd S,hh,hl,fun l H1 s1 hW=>?_⟩;have hd1:=s1 _ _ (zK (H:=H) (a:=d) (o:=.dK []));refine⟨l,rfl,⟨_,AB.of hW⟩,Mc (K:=K) (a:=l) (xs:=(AG p).map V.int) (fun i σ H2=>MC fun (v3:Option V)(fu:List (AU×V))=>σ=[some (.ref wa),some v,some (.ref d),v3]/\AF H H2/\H2 l=some (.tup ((AG p).map V.int))/\H2 d=some (.dK fu)/\fu.length<=i/\(∀x:Int,(Ao fu (Sum.inl x)).isSome=decide (x∈(AG p).take i))/\∀(j:Nat)(y:Int),j<i->(AG p)[j]?=some y->¬ SM n (AG p) j y)
  ⟨_,[],rfl,sd.trans s1,hW,hd1,zI _,fun x=>by rw[List.take_zero];simp[YE],fun j y hj=>absurd hj (HC _)⟩ (fun i σ H2 _ z=>?_) (fun i x σ H2 hx z=>?_) (fun σ H2 z=>?_)⟩
 . obtain⟨_,_,_,_,h2,_⟩:=z;exact AB.of h2
 . obtain⟨v3,fu,rfl,s2,gS,hd2,jR,gq,nb⟩:=z;obtain⟨y,hy,rfl⟩:∃y,(AG p)[i]?=some y/\V.int y=x:=by
    rw[zM] at hx;cases e:(AG p)[i]? with
    | none=>rw[e] at hx;cases hx
    | some y=>rw[e] at hx;exact⟨y,rfl,zV hx⟩
   have hi:=(zH.mp hy).1;refine⟨_,rfl,_,rfl,d,_,rfl,Cg.k (k:=Sum.inl y) hd2,_,rfl,?_⟩;rw[gq y];by_cases c1:y∈(AG p).take i
   . rw[zR c1];exact Aw (Aw ⟨_,rfl,kN i y H2 hy (.inl c1) nb s2⟩)
   . rw[zT c1];refine Am ?_;refine⟨_,rfl,wa,_,_,_,rfl,rfl,AB.of (s2 _ _ gF),rfl,_,rfl,n,y,rfl,_,rfl,?_⟩;by_cases c2:0<=y/\y<n
     . rw[zR c2];refine Am ?_;refine⟨_,rfl,_,rfl,d,_,rfl,.inl ⟨fu,Sum.inl y,hd2,rfl,zr (by lia),rfl⟩,?_⟩;have e0:Ao fu (Sum.inl y)=none:=by
        have:=gq y;rw[zT c1] at this;cases z:Ao fu (Sum.inl y) with
        | none=>rfl
        | some u=>rw[z] at this;cases this
       refine⟨_,_,rfl,BM s2 hd,by rw[zf (Ar gS hd2 (by intro z;cases z))];exact gS,zK,by rw[Se _ e0,zJ];show fu.length+1<=i+1;lia,fun x=>?_,fun j z hj hz=>?_⟩
       . rw[YJ,zy,hy];by_cases c3:x=y
         . subst c3;rw[if_pos rfl];exact (zR (zU.mpr (.inr (zi.mpr rfl)))).symm
         . rw[if_neg (fun z=>c3 (Sum.inl.inj z)),gq x];refine decide_eq_decide.mpr ⟨fun z=>zU.mpr (.inl z),fun z=>?_⟩;rcases zU.mp z with z | z
           . exact z
           . exact absurd (zi.mp z) c3
       . by_cases c4:j=i
         . subst c4;rw[hy] at hz;cases hz;rintro (q | q)
           . exact c1 q
           . exact q c2
         . exact nb j z (by lia) hz
     . rw[zT c2];exact Aw ⟨_,rfl,kN i y H2 hy (.inr c2) nb s2⟩
 . obtain⟨v3,fu,rfl,s2,gS,hd2,jR,gq,nb⟩:=z;rw[zB] at nb;exact kY (fun i x hx=>nb i x (zH.mp hx).1 hx) H2 s2
theorem QO:AW ["web","plan","order"] DE (defScope QZ):=AY
theorem Pf (F:Fu K "lacks_fault" QZ f gA) (FO:AD K mg "plan_order" KJ fO fdO Bs) (GO:AJ P w base (h+3) FO (Js h)) (f7:mg "range"=none) (gH:mg "min"=none):AH P w K mg base AL (h+4) f gA DE (MI h):=by
 refine F.okD QO fun _ A _ _ H vs Q E hr h=>?_;obtain⟨wa,ta,v,n,p,rfl,gF,n0,n24,S,hh,hl,kY,kN⟩:=h;have hu:=Fy hr;refine⟨_,zW (DU (i:=2) QO.nd rfl (Or.inr rfl) (AI GO hr FO (zD (pv 1) zO)))
  (zh (AQ (OE rfl hu (by rfl) gH (zD (A0 (own:=CK) (cn:=["order"]) (ci:=[2]) rfl (An rfl rfl) ⟨rfl,rfl,rfl,trivial⟩ rfl (CT rfl f7 (zD (AK AX (pv 0) zm) zO)) (fun _ _ _ _=>Aq)
   (fun _ _ _ _=>Cn (Ad TY (pv 0) (pv 1) (by with_unfolding_all rfl))) (fun _ _ _ _=>pv 0)) zO) BK))),?_⟩
 refine⟨_,rfl,v,p,rfl,S,hh,hl,fun l H1 s1 hW=>?_⟩;refine⟨_,rfl,wa,_,_,_,rfl,rfl,AB.of (s1 _ _ gF),rfl,n,rfl,by lia,by lia,[.ref l],rfl,fun D hD=>?_⟩;refine Dv (lo:=0) (n:=n.toNat) (fun q ys H4=>q<=n.toNat/\ys=((lowTo q).filter fun x=>!decide (x∈AG p)).map V.int/\H4=upd H1 D (.lst ys)) ⟨zg _,rfl,rfl⟩ (fun q ys H4 z=>?_) (fun q ys H4 hq z=>?_) (fun ys H4 z=>?_)
 . obtain⟨hq,rfl,_⟩:=z;rw[zB];refine Cv (CH _ _) ?_;rw[CA];exact zr (by lia)
 . obtain⟨_,rfl,rfl⟩:=z;rw[Ca];have st:(lowTo (q+1)).filter (fun x=>!decide (x∈AG p))=(lowTo q).filter (fun x=>!decide (x∈AG p))++[(q:Int)].filter (fun x=>!decide (x∈AG p)):=by rw[SQ,Ga]
   refine⟨⟨rfl,rfl⟩,?_⟩;refine⟨_,rfl,_,rfl,l,_,rfl,.inr (AB.of (by rw[zf (zn hW hD)];exact hW)),rfl,G8 _,_,rfl,?_⟩;show (if (!Dg (.int q) ((AG p).map V.int))=true then _ else _)
   rw[E9];by_cases c:(q:Int)∈AG p
   . rw[zR c];refine Am ⟨by lia,?_,rfl⟩;rw[st,Gu (by rw[zR c];decide),Du,BR]
   . rw[zT c];refine Aw ⟨_,rfl,zK,by lia,?_,BQ⟩;rw[st,Hl (by rw[zT c];rfl),Du,zQ];rfl
 . obtain⟨_,rfl,rfl⟩:=z;have sD:=zL (o:=.lst (((lowTo n.toNat).filter fun x=>!decide (x∈AG p)).map V.int)) hD;have mm:∀x,x∈(lowTo n.toNat).filter (fun x=>!decide (x∈AG p))↔(0<=x/\x<n)/\x∉AG p:=fun x=>by rw[Bf,Cs,Bool.not_eq_true',decide_eq_false_iff_not];constructor <;> rintro ⟨a,b⟩ <;> exact⟨by lia,b⟩
   refine⟨_,rfl,D,_,rfl,.inl (AE.of zK),fun e=>kY (fun x x0 x1=>?_) _ (s1.trans sD),.inr ⟨_,rfl,fun x hx hm=>?_⟩⟩
   . refine zw fun z=>?_;have:=(mm x).mpr ⟨⟨x0,x1⟩,z⟩;rw[Jm.mp e] at this;cases this
   . obtain⟨⟨x0,x1⟩,nx⟩:=(mm x).mp hx;exact kN x _ x0 x1 nx (fun y y0 y1 ny=>hm y ((mm y).mpr ⟨⟨y0,y1⟩,ny⟩)) (s1.trans sD)
theorem Fm:AW ["web","plan","chains","a","b","long"] DE (defScope PY):=AY
theorem Ob (F:Fu K "tie_fault" PY f gA) (FC:AD K mg "chain" M8 fC fdC DD) (GC:AJ P w base (h+3) FC (HL h)) (f7:mg "range"=none):AH P w K mg base AL (h+4) f gA DE (Kz h):=by
 refine F.okD Fm fun _ A _ _ H vs Q E hr h=>?_;obtain⟨wa,v,n,ts,p,rfl,⟨ta,tys,gF,jw,TA,G⟩,S,hh,hl,al,kY,kN⟩:=h;have iI:=G.n1;have gQ:=G.n24;refine⟨_,zW (IE (i:=2) (own:=CK) (cn:=Bs) (ci:=[1]) Fm.nd rfl (Or.inl rfl) rfl (An rfl rfl) ⟨rfl,rfl,rfl,trivial⟩ rfl (CT rfl f7 (zD (AK AX (pv 0) zm) zO)) (fun _ _ _ _=>Aq)
  (fun _ _ _ _=>BI) (fun _ _ _ _=>AI GC hr FC (zD (pv 1) (zD (pv 0) zO))))
  (zW (CB (Bo (AK AX (pv 0) zm)) (Ml rfl (BF (BN (i:=3) Fm.nd) (BF (BN (i:=4) Fm.nd) (BF (BN (i:=5) Fm.nd) E2))))
   (zh (Ap (PW.pt (NZ (Ad Q8 (pv 3) (AK BU (pv 2) (pv 4)) (by with_unfolding_all rfl)) (NY (Ad Q8 (pv 4) (AK BU (pv 2) (pv 3)) (by with_unfolding_all rfl))))) (zh (AQ (Ba (zD (pv 3) (zD (pv 4) zO))))) As)))
  (zh (AQ BK))),?_⟩
 refine⟨_,rfl,wa,_,_,_,rfl,rfl,AB.of gF,rfl,n,rfl,by lia,by lia,[v],rfl,fun D hD=>?_⟩;refine Dv (lo:=0) (n:=n.toNat) (fun q ys H4=>q<=n.toNat/\AF H H4/\H4 D=some (.lst ys)/\∃as:List Addr,ys=as.map V.ref/\as.length=q/\∀(i:Nat)(a:Addr),as[i]?=some a->∃(r ms:List Int),Av i p=some r/\H4 a=some (.tup (ms.map V.int))/\∀z,z∈ms↔z∈r)
  ⟨zg _,zL hD,zK,[],rfl,rfl,fun i a e=>by simp at e⟩ (fun q ys H4 z=>?_) (fun q ys H4 hq z=>?_) (fun ys H4 z=>?_)
 . obtain⟨hq,_,_,as,rfl,jb,_⟩:=z;rw[zB,jb];exact zr (by lia)
 . obtain⟨_,s4,gV,as,rfl,jb,jT⟩:=z;rw[Ca];obtain⟨r,gW⟩:=OD (al (q:Int) (by lia) (by lia));refine⟨⟨rfl,rfl⟩,?_⟩;refine BH ?_;refine⟨_,rfl,_,rfl,v,p,(q:Int),r,rfl,Dt s4 S,hh,hl,gW,fun ms l H5 _ hm s5 h5=>?_⟩;refine⟨s5 _ _ gV,hq,BM (s4.trans s5) hD,zK,as++[l],by rw[zQ];rfl,by rw[zJ,jb];rfl,fun i a ha=>?_⟩;have hkeep:∀b zs,H5 b=some (.tup zs)->upd H5 D (.lst (as.map V.ref++[.ref l])) b=some (.tup zs):=fun b zs e=>by rw[zf (Ar e (s5 _ _ gV) (by intro z;cases z))];exact e
   by_cases c:i<q
   . rw[zc (by lia)] at ha;obtain⟨r',ms',e1,e2,e3⟩:=jT i a ha;exact⟨r',ms',e1,hkeep _ _ (s5 _ _ e2),e3⟩
   . have hi:i=q:=by
      have:=(zH.mp ha).1;rw[zJ,jb] at this;have:i<q+1:=this
      lia
     subst hi;rw[za (by lia),jb,Ge] at ha;cases ha;exact⟨r,ms,gW,hkeep _ _ h5,hm⟩
 . obtain⟨_,s4,gV,as,rfl,jb,jT⟩:=z;refine⟨_,rfl,wa,_,_,_,rfl,rfl,AB.of (s4 _ _ gF),rfl,ta,rfl,⟨_,AB.of (s4 _ _ jw)⟩,Mc (K:=K) (a:=ta) (xs:=tys) (fun i σ H5=>IM fun (va vb vl:Option V)=>σ=[some (.ref wa),some v,some (.ref D),va,vb,vl]/\AF H4 H5/\∀(j:Nat)(a' b' l':Int),j<i->ts[j]?=some (a',b',l')->D4 p a' b')
    ⟨_,_,_,rfl,AF.refl _,fun j a' b' l' hj=>absurd hj (HC _)⟩ (fun i σ H5 _ ⟨_,_,_,_,s5,_⟩=>AB.of (s5 _ _ (s4 _ _ jw))) ?turn ?after⟩
   case after=>
    rintro σ H5 ⟨va,vb,vl,rfl,s5,nb⟩;refine kY (fun a b l hm=>?_) H5 (s4.trans s5);obtain⟨j,hj,e⟩:=zp hm;exact nb j a b l (by rw[TA.length,zB];exact hj) (by rw[zC hj,e])
   case turn=>
    rintro i y σ H5 hi ⟨va,vb,vl,rfl,s5,nb⟩;obtain⟨ya,ky,rfl,iN,iZ,_⟩:=TA.get hi;rw[zM] at iN;obtain⟨⟨a,b,c⟩,hti,rfl⟩:∃t:T3,ts[i]?=some t/\tl t=ky:=by
     cases e:ts[i]? with
     | none=>rw[e] at iN;cases iN
     | some t=>rw[e] at iN;exact⟨t,rfl,zV iN⟩
    have rg:=G.adj (.inl (zP hti):Ah ts a b c);have s45:=s4.trans s5;have look:∀x:Int,0<=x->x<n->∃(q:Addr)(r ms:List Int),Cm (as.map V.ref) x=some (.ref q)/\Av x p=some r/\H5 q=some (.tup (ms.map V.int))/\∀z,z∈ms↔z∈r:=fun x x0 x1=>by
     obtain⟨j,rfl⟩:=Int.eq_ofNat_of_zero_le x0;have hj:j<as.length:=by lia
     obtain⟨r,ms,e1,e2,e3⟩:=jT j as[j] (zC hj);exact⟨as[j],r,ms,C5 (by rw[zM,zC hj];rfl),e1,s5 _ _ e2,e3⟩
    obtain⟨qb,rb,mb,ab,eb,hqb,mmb⟩:=look b rg.2.2.1 rg.2.2.2.1;obtain⟨qa,ra,ma,aa,ea,hqa,mma⟩:=look a rg.1 rg.2.1;have next:D4 p a b->∀(j:Nat)(a' b' l':Int),j<i+1->ts[j]?=some (a',b',l')->D4 p a' b':=fun tc j a' b' l' hj ht=>by
     by_cases cj:j=i
     . subst cj;rw[hti] at ht;cases ht;exact tc
     . exact nb j a' b' l' (by lia) ht
    refine⟨ya,_,rfl,AB.of (s45 _ _ iZ),rfl,_,_,rfl,_,_,rfl,_,_,rfl,rfl,?_⟩;have hZ:=s5 _ _ gV;refine⟨_,rfl,_,rfl,_,rfl,D,_,_,.ref qb,rfl,rfl,AE.of hZ,ab,qb,_,rfl,.inr (AB.of hqb),rfl,G8 _,_,rfl,?_⟩;show (if (!Dg (.int a) (mb.map V.int))=true then _ else _)
    rw[E9];by_cases c1:a∈mb
    . rw[zR c1];exact Am (Am ⟨_,_,_,rfl,s5,next (.inl ⟨rb,eb,(mmb a).mp c1⟩)⟩)
    . rw[zT c1];refine Aw ?_;refine⟨_,rfl,_,rfl,_,rfl,D,_,_,.ref qa,rfl,rfl,AE.of hZ,aa,qa,_,rfl,.inr (AB.of hqa),rfl,G8 _,_,rfl,?_⟩;show (if (!Dg (.int b) (ma.map V.int))=true then _ else _)
      rw[E9];by_cases c2:b∈ma
      . rw[zR c2];exact Am ⟨_,_,_,rfl,s5,next (.inr ⟨ra,ea,(mma b).mp c2⟩)⟩
      . rw[zT c2];refine Aw ⟨_,rfl,_,rfl,BO,fun q hq=>?_⟩;refine kN i a b c q _ hti ?_ nb (s45.trans (zL hq)) zK;rintro (⟨r,e,z⟩ | ⟨r,e,z⟩)
        . rw[eb] at e;cases e;exact c1 ((mmb a).mpr z)
        . rw[ea] at e;cases e;exact c2 ((mma b).mpr z)
theorem MA:AW Mz Mz (defScope NR):=AY
theorem bb:AW Bb Bb (defScope N5):=AY
theorem Cp.snoc (h:Cp H rs R)(hr:H r=some (.lst (row.map V.int))):Cp H (rs++[r]) (R++[row]):=by
 refine⟨by rw[zJ,zJ,h.1];rfl,fun i b w e1 e2=>?_⟩;by_cases c:i<rs.length
 . rw[zc c] at e1;rw[zc (by rw[<-h.1];exact c)] at e2;exact h.2 i b w e1 e2
 . rw[za (by lia)] at e1;rw[za (by rw[<-h.1];lia),<-h.1] at e2;have hi:i-rs.length=0:=by
    have:=(zH.mp e1).1;rw[Gw] at this
    lia
   rw[hi] at e1 e2;cases e1;cases e2;exact hr
theorem Cp.off (h:Cp H rs R)(nl:l∉rs):Cp (upd H l o) rs R:=⟨h.1,fun i r row a b=>by rw[zf (show r≠l from fun z=>nl (z ▸ zP a))];exact h.2 i r row a b⟩
structure QM (ts:List T3)(xs le:List Int)(fs:List (List Int)):Prop where
 pw:le.Pairwise (· < ·)
 sub:∀x∈le,x∈xs
 ac:∀qs,CC ts le qs->CC ts xs (fs++qs)
theorem QM.step' (h:QM ts xs le fs)(ele:le=x0::le')(hp:Dk ts le x0 p):QM ts xs (le.filter fun x=>!decide (x∈p)) (fs++[p]):=by refine⟨h.pw.filter _,fun x hx=>h.sub x (Bf.mp hx).1,fun qs hq=>?_⟩;rw[DT];refine h.ac _ ?_;subst ele;exact .cons hp hq
def Sd:Sp:=fun vs H Q _=>∃wa n ts,vs=[.ref wa]/\Af H wa n ts/\∀b H',(b=true↔Ee ts (lowTo n.toNat))->AF H H'->Q (.bl b) H'
def Hd (n:Int)(ts:List T3):Prop:=Ee ts (lowTo n.toNat)/\(ts.length:Int)=n-1
def LZ:Sp:=fun vs H Q _=>∃wa n ts,vs=[.ref wa]/\Af H wa n ts/\∀b H',(b=true↔Hd n ts)->AF H H'->Q (.bl b) H'
def Nk:Sp:=fun vs H Q _=>∃wa pl,∃(n:Int),∃ts,∃(xs:List Int)(g:Int),vs=[.ref wa,.ref pl,.int g]/\Af H wa n ts/\H pl=some (.lst (xs.map V.int))/\xs.Pairwise (· < ·)/\xs.length<64 /\
 ∀fl ps H',H fl=none->AF H H'->Ed H' fl ps->CC ts (xs.filter fun y=>decide (y≠g)) ps->Q (.ref fl) H'
def L8:Sp:=fun vs H Q _=>∃wa pl,∃(n:Int),∃ts,∃(xs:List Int)(g:Int),vs=[.ref wa,.ref pl,.int g]/\Af H wa n ts/\H pl=some (.lst (xs.map V.int))/\xs.Pairwise (· < ·)/\xs.length<64 /\
 ∀ps H',AF H H'->CC ts (xs.filter fun y=>decide (y≠g)) ps->Q (.int (big ps)) H'
theorem cw (q):(lowTo q).Nodup:=(J5 q).imp fun h=>by lia
theorem UC (q):(lowTo q).Pairwise (· < ·):=(J5 q).imp fun h=>by lia
theorem dO:AW Ai Ai (defScope NI):=AY
theorem cg (F:Fu K "is_whole" NI f gA) (FJ:AD K mg "joined_within" M0 fJ fdJ JW)
 (GJ:AH P w K mg base AL m fJ fdJ JW HV) (f9:mg "len"=none) (f7:mg "range"=none) (gN:mg "list"=none):
 AH P w K mg base AL (m+1) f gA Ai Sd:=by
 refine F.okD dO fun _ A _ _ H vs Q E hr h=>?_;obtain⟨wa,n,ts,rfl,W,k⟩:=h;obtain⟨ta,tys,gF,_,_,G⟩:=id W;have iI:=G.n1;have gQ:=G.n24;refine⟨_,zh (AQ (Cy CN (Aj Bz f9 (zD (AI GJ hr FJ (zD (pv 0) (zD (Rw rfl rfl gN rfl f7 (zD (AK AX (pv 0) zm) zO)) (Bw zO)))) zO)) (AK AX (pv 0) zm) (AZ _))),?_⟩;refine⟨_,rfl,_,rfl,wa,_,_,_,rfl,rfl,AB.of gF,rfl,n,rfl,by lia,by lia,fun pl gZ=>?_⟩;refine⟨wa,pl,n,ts,lowTo n.toNat,0,rfl,W.keep (zL gZ),zK,Cs.mpr (by lia),by rw[CA];lia,fun la p H' _ s' gx hp=>?_⟩;have s2:=(zL gZ).trans s';refine⟨la,_,rfl,.inl (AE.of gx),_,rfl,wa,_,_,_,rfl,rfl,AB.of (s2 _ _ gF),rfl,rfl,?_⟩;rw[Hh,zB];refine k _ H' ?_ s2;rw[EZ,<-ck hp (cw _),CA]
 lia
theorem VB:AW Ai Ai (defScope P8):=AY
theorem OP (F:Fu K "is_tree" P8 f gA) (FJ:AD K mg "is_whole" NI fJ fdJ Ai)
 (GJ:AH P w K mg base AL m fJ fdJ Ai Sd) (f9:mg "len"=none):AH P w K mg base AL (m+1) f gA Ai LZ:=by
 refine F.okD VB fun _ A _ _ H vs Q E hr h=>?_;obtain⟨wa,n,ts,rfl,W,k⟩:=h;obtain⟨ta,tys,gF,jw,TA,G⟩:=id W;have htl:=TA.length;rw[zB] at htl;refine⟨_,zh (AQ (EU (AI GJ hr FJ (zD (pv 0) zO)) (GQ (Cy CN (Aj Bz f9 (zD (AK AX (pv 0) zm) zO)) (Ac Jq (AK AX (pv 0) zm) zm) (AZ _))))),?_⟩;refine⟨_,rfl,wa,n,ts,rfl,W,fun b H1 hb s1=>⟨_,rfl,?_⟩⟩;cases b with
 | false=>exact Am (k false H1 ⟨(fun z=>by cases z),(fun z=>hb.mpr z.1)⟩ s1)
 | true=>refine Aw ⟨_,rfl,wa,_,_,.ref ta,rfl,rfl,AB.of (s1 _ _ gF),rfl,ta,_,rfl,.inr (AB.of (s1 _ _ jw)),_,rfl,wa,_,_,.int n,rfl,rfl,AB.of (s1 _ _ gF),rfl,_,_,rfl,rfl,rfl,?_⟩;rw[Hh,htl];refine k _ H1 ?_ s1;rw[EZ];exact⟨fun z=>⟨hb.mp rfl,z⟩,fun z=>z.2⟩
theorem OA:AW ["web","places","gone","left","parts","part"] DB (defScope EK):=AY
theorem Km (F:Fu K "parts_without" EK f gA) (FJ:AD K mg "joined_within" M0 fJ fdJ JW)
 (GJ:AH P w K mg base AL m fJ fdJ JW HV):AH P w K mg base AL (m+1) f gA DB Nk:=by
 refine F.okD OA fun _ A _ _ H vs Q E hr h=>?_;obtain⟨wa,pl,n,ts,xs,g,rfl,W,gZ,pw,iE,k⟩:=h;refine⟨_,zW (IE (i:=3) (own:=CK) (cn:=["gone"]) (ci:=[2]) OA.nd rfl (Or.inl rfl) rfl (An rfl rfl) ⟨rfl,rfl,rfl,trivial⟩ rfl (CZ (pv 1)) (fun _ _ _ _=>Aq) (fun _ _ _ _=>Cn (Ad Me (pv 0) (pv 1) (AZ _))) (fun _ _ _ _=>pv 0))
  (zW (Ak (i:=4) OA.nd (DR zO))
  (zW (Nb PassesOwn.never (UB (pv 3) (fun _=>rfl))
   (zW (DU (i:=5) OA.nd rfl (Or.inr rfl) (AI GJ hr FJ (zD (pv 0) (zD (pv 3) (zD (AK BU (pv 3) zm) zO)))))
   (zW (DL (Gd PySem.F.plainAttrs_list PySem.F.slot_list_append PySem.F.type_list_append HB (pv 4) (zD (pv 5) zO)))
   (zh (IE (i:=3) (own:=CK) (cn:=["part"]) (ci:=[5]) OA.nd rfl (Or.inl rfl) rfl (An rfl rfl) ⟨rfl,rfl,rfl,trivial⟩ rfl (CZ (pv 3)) (fun _ _ _ _=>Aq) (fun _ _ _ _=>Cn (Ad TY (pv 0) (pv 1) (by with_unfolding_all rfl))) (fun _ _ _ _=>pv 0))))))
  (zh (AQ (pv 4))))),?_⟩
 refine⟨_,rfl,pl,rfl,⟨_,AE.of gZ⟩,[.int g],rfl,fun D hD=>?_⟩;refine DM (a:=pl) (xs:=xs.map V.int) (fun i ys H8=>ys=((xs.take i).filter fun y=>decide (y≠g)).map V.int/\H8=upd H D (.lst ys)) ⟨rfl,rfl⟩ (fun i ys H8 z=>?_) (fun i ys H8 z=>?_) (fun i v ys H8 hv z=>?_) (fun ys H8 z=>?_)
 . obtain⟨_,rfl⟩:=z;exact AE.of (by rw[zf (zn gZ hD)];exact gZ)
 . obtain⟨rfl,_⟩:=z;rw[zB];refine Cv (CH _ _) ?_;rw[zt];exact zr (by lia)
 . obtain⟨rfl,rfl⟩:=z;obtain⟨y,hy,rfl⟩:∃y,xs[i]?=some y/\V.int y=v:=by
    rw[zM] at hv;cases e:xs[i]? with
    | none=>rw[e] at hv;cases hv
    | some y=>rw[e] at hv;exact⟨y,rfl,zV hv⟩
   have st:(xs.take (i+1)).filter (fun y=>decide (y≠g))=(xs.take i).filter (fun y=>decide (y≠g))++[y].filter (fun y=>decide (y≠g)):=by rw[zy,hy,Ga];rfl
   refine⟨⟨rfl,rfl⟩,?_⟩;refine⟨_,rfl,_,rfl,rfl,_,rfl,?_⟩;by_cases c2:y=g
   . refine BL (by rw[c2];simp) ⟨?_,rfl⟩;rw[st,Gu (by simp[c2]),Du,BR]
   . refine FV (by simp[c2]) ⟨_,rfl,zK,?_,BQ⟩;rw[st,Hl (by simp[c2]),Du,zQ];rfl
 . obtain⟨rfl,rfl⟩:=z;rw[zB,zY (zI _)];have s1:=zL (o:=.lst ((xs.filter fun y=>decide (y≠g)).map V.int)) hD;have jQ:(xs.filter fun y=>decide (y≠g)).length<64:=Cv (CH _ _) iE;have pw0:(xs.filter fun y=>decide (y≠g)).Pairwise (· < ·):=pw.filter _;have jk:(upd H D (.lst ((xs.filter fun y=>decide (y≠g)).map V.int))) D=some (.lst ((xs.filter fun y=>decide (y≠g)).map V.int)):=zK;generalize upd H D (.lst ((xs.filter fun y=>decide (y≠g)).map V.int))=H1 at s1 jk ⊢;generalize xs.filter (fun y=>decide (y≠g))=ls at k jQ pw0 jk ⊢;refine⟨zg _,fun fo hfo=>?_⟩;have hfo0:H fo=none:=AF.none s1 hfo;have s2:=s1.trans (zL (o:=.lst []) hfo);refine⟨fun m σ H2=>∃(v5:Option V)(ll:Addr)(le:List Int)(as:List Addr)(fs:List (List Int)),σ=[some (.ref wa),some (.ref pl),some (.int g),some (.ref ll),some (.ref fo),v5]/\m=le.length/\AF H H2/\H2 ll=some (.lst (le.map V.int))/\H2 fo=some (.lst (as.map V.ref))/\fo∉as/\ll≠fo/\Cp H2 as fs/\fs.length+le.length<=ls.length/\QM ts ls le fs,
    ⟨ls.length,none,D,ls,[],[],rfl,rfl,s2,zL hfo _ _ jk,zK,by simp,(zn jk hfo),⟨rfl,fun i r row e=>by simp at e⟩,by simp,⟨pw0,fun _ h=>h,fun _ h=>h⟩⟩,fun m σ H2 z=>?_⟩
   obtain⟨v5,ll,le,as,fs,rfl,rfl,s2,iW,hfo2,nfo,nlf,RF,hcnt,PS⟩:=z;refine⟨_,rfl,_,.inl ⟨_,AE.of iW,rfl⟩,?_⟩;cases le with
   | nil=>refine Am ⟨_,rfl,k fo fs H2 hfo0 s2 ⟨as,hfo2,RF⟩ ?_⟩;have:=PS.ac [] .nil;rwa [BR] at this
   | cons x0 le'=>
   refine Aw ⟨fun σ' H'=>∃(v5:Option V)(ll:Addr)(le1:List Int)(as:List Addr)(fs:List (List Int)),σ'=[some (.ref wa),some (.ref pl),some (.int g),some (.ref ll),some (.ref fo),v5]/\le1.length<(x0::le').length/\AF H H'/\H' ll=some (.lst (le1.map V.int))/\H' fo=some (.lst (as.map V.ref))/\fo∉as/\ll≠fo/\Cp H' as fs/\fs.length+le1.length<=ls.length/\QM ts ls le1 fs,?_,?_⟩
   . rintro σ' H' ⟨v5,ll,le1,as,fs,rfl,gD,r⟩;exact⟨le1.length,gD,v5,ll,le1,as,fs,rfl,rfl,r⟩
   . obtain⟨le,ele⟩:∃le,le=x0::le':=⟨_,rfl⟩;have jt:Cm (le.map V.int) 0=some (.int x0):=C5 (j:=0) (by rw[ele];rfl);rw[<-ele] at iW PS hcnt ⊢;refine⟨_,rfl,_,rfl,_,rfl,ll,_,_,.int x0,rfl,rfl,AE.of iW,jt,wa,ll,n,ts,le,x0,rfl,W.keep s2,iW,by rw[ele];exact zS,by lia,fun la p H3 j5 s3 gx hp=>?_⟩;have iF:=s2.trans s3;have hfo3:=s3 _ _ hfo2;have hll3:=s3 _ _ iW;have nlaf:la≠fo:=fun z=>by rw[z,hfo2] at j5;cases j5
     have has:as.length<=64:=by have:=RF.1;lia
     refine⟨_,rfl,.inl ⟨rfl,_,AE.of hfo3⟩,_,rfl,fo,_,_,rfl,rfl,hfo3,by rw[zB];exact zr (by lia),?_⟩;have RF4:Cp (upd H3 fo (.lst (as.map V.ref++[.ref la]))) (as++[la]) (fs++[p]):=by
      refine Cp.off (Cp.snoc (RF.same s3) gx) fun z=>?_;rcases zU.mp z with z | z
      . exact nfo z
      . exact nlaf (zi.mp z).symm
     have s4:AF H (upd H3 fo (.lst (as.map V.ref++[.ref la]))):=BM iF hfo0;have hfo4:(upd H3 fo (.lst (as.map V.ref++[.ref la]))) fo=some (.lst ((as++[la]).map V.ref)):=by rw[zK,zQ];rfl
     have hll4:(upd H3 fo (.lst (as.map V.ref++[.ref la]))) ll=some (.lst (le.map V.int)):=by rw[zf nlf];exact hll3
     have iy:(upd H3 fo (.lst (as.map V.ref++[.ref la]))) la=some (.lst (p.map V.int)):=by rw[zf nlaf];exact gx
     generalize upd H3 fo (.lst (as.map V.ref++[.ref la]))=H4 at RF4 s4 hfo4 hll4 iy ⊢;refine⟨_,rfl,ll,rfl,⟨_,AE.of hll4⟩,[.ref la],rfl,fun D2 gj=>?_⟩;refine DM (a:=ll) (xs:=le.map V.int) (fun i ys H8=>ys=((le.take i).filter fun y=>!decide (y∈p)).map V.int/\H8=upd H4 D2 (.lst ys)) ⟨rfl,rfl⟩ (fun i ys H8 z=>?_) (fun i ys H8 z=>?_) (fun i v ys H8 hv z=>?_) (fun ys H8 z=>?_)
     . obtain⟨_,rfl⟩:=z;exact AE.of (by rw[zf (zn hll4 gj)];exact hll4)
     . obtain⟨rfl,_⟩:=z;rw[zB];refine Cv (CH _ _) ?_;rw[zt];exact zr (by lia)
     . obtain⟨rfl,rfl⟩:=z;obtain⟨y,hy,rfl⟩:∃y,le[i]?=some y/\V.int y=v:=by
        rw[zM] at hv;cases e:le[i]? with
        | none=>rw[e] at hv;cases hv
        | some y=>rw[e] at hv;exact⟨y,rfl,zV hv⟩
       have st:(le.take (i+1)).filter (fun y=>!decide (y∈p))=(le.take i).filter (fun y=>!decide (y∈p))++[y].filter (fun y=>!decide (y∈p)):=by rw[zy,hy,Ga];rfl
       refine⟨⟨rfl,rfl⟩,?_⟩;refine⟨_,rfl,_,rfl,la,_,rfl,.inl (AE.of (by rw[zf (zn iy gj)];exact iy)),rfl,G8 _,_,rfl,?_⟩;show (if (!Dg (.int y) (p.map V.int))=true then _ else _)
       rw[E9];by_cases c2:y∈p
       . rw[zR c2];refine Am ⟨?_,rfl⟩;rw[st,Gu (by rw[zR c2];decide),Du,BR]
       . rw[zT c2];refine Aw ⟨_,rfl,zK,?_,BQ⟩;rw[st,Hl (by rw[zT c2];rfl),Du,zQ];rfl
     . obtain⟨rfl,rfl⟩:=z;rw[zB,zY (zI _)];have sD:=zL (o:=.lst ((le.filter fun y=>!decide (y∈p)).map V.int)) gj;have flen:(le.filter fun y=>!decide (y∈p)).length<le.length:=by refine Nat.lt_of_le_of_ne (CH _ _) fun z=>?_;have:=List.length_filter_eq_length_iff.mp z x0 (by rw[ele];exact zS);rw[zR hp.mem] at this;cases this
       refine⟨_,D2,_,as++[la],fs++[p],rfl,flen,s4.trans sD,zK,sD _ _ hfo4,fun z=>?_,fun z=>?_,RF4.same sD,?_,PS.step' ele hp⟩
       . rcases zU.mp z with z | z
         . exact nfo z
         . exact nlaf (zi.mp z).symm
       . rw[z,hfo4] at gj;cases gj
       . rw[zJ,Gw]
         lia
theorem Uj:AW DB DB (defScope PK):=AY
theorem c7:∀{ps:List (List Int)}{n:Int},n∈ps.map (fun p=>(p.length:Int))->(∀a∈ps.map (fun p=>(p.length:Int)),a<=n)->n=big ps:=fun {ps n} hn hm=>by
 obtain⟨p,hp,rfl⟩:=zq.mp hn;obtain⟨q,hq,e⟩:=Yn (ps:=ps) (List.ne_nil_of_mem hp);have h1:=Tj.mp (zI (big ps)) p hp;have h2:=hm _ (zq.mpr ⟨q,hq,rfl⟩)
 lia
theorem QJ (F:Fu K "greatest_part" PK f gA) (FJ:AD K mg "parts_without" EK fJ fdJ DB)
 (GJ:AH P w K mg base AL m fJ fdJ DB Nk) (f9:mg "len"=none) (iK:mg "max"=none):AH P w K mg base AL (m+1) f gA DB L8:=by
 refine F.okD Uj fun _ A _ _ H vs Q E hr h=>?_;obtain⟨wa,pl,n,ts,xs,g,rfl,W,gZ,pw,iE,k⟩:=h;have hu:=Fy hr;refine⟨_,zh (AQ (XN rfl hu rfl iK (zD (A0 (own:=["part"]) (cn:=[]) (ci:=[]) rfl (An rfl rfl) trivial rfl (CZ (AI GJ hr FJ (zD (pv 0) (zD (pv 1) (zD (pv 2) zO))))) (fun _ _ _ _=>Aq) (fun _ _ _ _=>BI)
  (fun _ _ _ _=>Aj UM f9 (zD (pv 0) zO))) zO) zm)),?_⟩
 refine⟨_,rfl,_,rfl,_,rfl,wa,pl,n,ts,xs,g,rfl,W,gZ,pw,iE,fun fl ps H1 hfl s1 ST PA=>?_⟩;obtain⟨rs,jZ,RI⟩:=ST;have pl64:ps.length<64:=by
  have h1:=(PA.all (List.Pairwise.imp (fun h=>by lia) (pw.filter _))).1;have h2:=(PA.all (List.Pairwise.imp (fun h=>by lia) (pw.filter _))).2.length_eq;have h3:∀(qs:List (List Int)),(∀p∈qs,p≠[])->qs.length<=qs.flatten.length:=fun qs=>by
   induction qs with
   | nil=>exact fun _=>zI _
   | cons q qs ih=>
    intro h;have a:=ih fun p hp=>h p (zZ _ hp);have b:0<q.length:=Gv.mpr (h q zS);rw[Ew,zJ,zk]
    lia
  have h4:=h3 ps fun p hp=>(h1 p hp).2.2.1;have h5:(xs.filter fun y=>decide (y≠g)).length<=xs.length:=CH _ _
  lia
 refine⟨fl,rfl,⟨_,AE.of jZ⟩,[],rfl,fun D hD=>?_⟩;refine DM (a:=fl) (xs:=rs.map V.ref) (fun i ys H4=>ys=((ps.take i).map fun p=>(p.length:Int)).map V.int/\H4=upd H1 D (.lst ys)) ⟨rfl,rfl⟩ (fun i ys H4 z=>?_) (fun i ys H4 z=>?_) (fun i y ys H4 hy z=>?_) (fun ys H4 z=>?_)
 . obtain⟨_,rfl⟩:=z;exact AE.of (by rw[zf (zn jZ hD)];exact jZ)
 . obtain⟨rfl,_⟩:=z;rw[zB,zB,zt];exact zr (by lia)
 . obtain⟨rfl,rfl⟩:=z;obtain⟨r,gW,rfl⟩:∃r,rs[i]?=some r/\V.ref r=y:=by
    rw[zM] at hy;cases e:rs[i]? with
    | none=>rw[e] at hy;cases hy
    | some y=>rw[e] at hy;exact⟨y,rfl,zV hy⟩
   have hi:=(zH.mp gW).1;have jy:ps[i]?=some (ps[i]'(by rw[<-RI.1];exact hi)):=zC _;have hU:=RI.2 i r _ gW jy;generalize (ps[i]'(by rw[<-RI.1];exact hi))=p at jy hU;refine⟨⟨rfl,rfl⟩,?_⟩;refine BH ?_;refine⟨_,rfl,r,_,rfl,.inl (AE.of (by rw[zf (zn hU hD)];exact hU)),zK,?_,BQ⟩;rw[zy,jy,zQ,zQ,zB];rfl
 . obtain⟨rfl,rfl⟩:=z;rw[zB,RI.1,zY (zI _)];have sD:=zL (o:=.lst ((ps.map fun p=>(p.length:Int)).map V.int)) hD;refine⟨_,rfl,D,_,rfl,.inl (AE.of zK),fun e0=>?_,fun m hm hmx=>?_⟩
   . have:ps=[]:=Jm.mp e0;have:=k ps _ (s1.trans sD) PA;subst ps;exact this
   . rw[c7 hm hmx];exact k ps _ (s1.trans sD) PA
structure Vf (ts:List T3)(xs:List Int)(fs:List (List Int)):Prop where
 ne:∀f∈fs,f≠[]
 cl:∀f∈fs,∀a∈f,∀b l,Ah ts a b l->b∈xs->b∈f
structure JK (ts:List T3)(xs:List Int)(p:Aa):Prop where
 pm:(AG p).Perm xs
 gd:good p
 rs:NX p
 ht:BE p<=xs.length
 tie:J2 ts p
 k1:Hg p
inductive Jj (ts:List T3):List (List Int)->List Aa->Prop
 | nil:Jj ts [] []
 | cons {f:List Int}{k:Aa}{fs:List (List Int)}{ks:List Aa}(h:JK ts f k)(t:Jj ts fs ks):Jj ts (f::fs) (k::ks)
theorem Jj.all (h:Jj ts fs ks):(Ae ks).Perm fs.flatten/\NJ ks/\NC ks/\EF ks<=fs.flatten.length/\Pj ks/\ks.length=fs.length/\∀k∈ks,∃f∈fs,JK ts f k:=by
 induction h with
 | nil=>exact⟨.nil,trivial,trivial,zI _,trivial,rfl,fun k hk=>by cases hk⟩
 | cons x _ ih=>
  obtain⟨a,b,c,d,e,g,i⟩:=ih;refine⟨?_,⟨x.gd,b⟩,⟨x.rs,c⟩,?_,⟨x.k1,e⟩,by rw[zk,zk,g],fun k hk=>?_⟩
  . rw[Ae,Ew];exact x.pm.append a
  . rw[EF,Ew,zJ];have:=x.ht
    lia
  . rcases zX.mp hk with rfl | hk
    . exact⟨_,zS,x⟩
    . obtain⟨f,h1,h2⟩:=i k hk;exact⟨f,zZ _ h1,h2⟩
theorem YA {fs:List (List Int)}(h:∀f∈fs,f≠[]):fs.length<=fs.flatten.length:=by
 induction fs with
 | nil=>exact zI _
 | cons f fs ih=>
  have:=ih fun g hg=>h g (zZ _ hg);have:0<f.length:=Gv.mpr (h f zS);rw[zk,Ew,zJ]
  lia
theorem JK.build (pm:(ow++le).Perm xs)(nd:xs.Nodup)(ps:so.Perm ow)(st:so.Pairwise (· <= ·))(ne:ow≠[])(pf:fs.flatten.Perm le)(ok:Vf ts le fs)(R:Jj ts fs ks)(iE:xs.length<64):JK ts xs (.mk so ks):=by
 obtain⟨a,b,c,d,e,g,i⟩:=R.all;have pl:(Ae ks).Perm le:=a.trans pf;have pmA:(so++Ae ks).Perm xs:=(ps.append pl).trans pm;have ndA:(AG (.mk so ks)).Nodup:=by rw[AG];exact pmA.nodup_iff.mpr nd
 have ndA':=ndA;rw[AG] at ndA';have ll:ow.length+le.length=xs.length:=by rw[<-zJ];exact pm.length_eq
 have ol:0<ow.length:=Gv.mpr ne;have fl:=YA ok.ne;have fl':=pf.length_eq;refine⟨by rw[AG];exact pmA,⟨fun z=>ne (List.perm_nil.mp (z ▸ ps.symm)),b⟩,⟨?_,c⟩,by rw[BE];lia,?_,⟨by lia,e⟩⟩
 . exact (st.and (DW.mp ndA').1).imp fun h=>by
    have:=h.1;have:=h.2
    lia
 . intro x y l A hx hy;rw[AG] at hx hy;have kid:∀z,z∈so++Ae ks->z∉so->∃k∈ks,z∈AG k:=fun z hz nz=>NU ((zU.mp hz).resolve_left nz);have up:∀u v,u∈so->v∈so++Ae ks->∃r,Av v (.mk so ks)=some r/\u∈r:=fun u v hu hv=>by
    by_cases cv:v∈so
    . exact⟨so,Vq cv,hu⟩
    . obtain⟨k,hk,hvk⟩:=kid v hv cv;obtain⟨r,hr⟩:=OD hvk;exact⟨so++r,by rw[Jz ndA hk hvk,hr];rfl,zU.mpr (.inl hu)⟩
   by_cases cx:x∈so
   . exact .inl (up x y cx hy)
   . by_cases cy:y∈so
     . exact .inr (up y x cy hx)
     . obtain⟨k,hk,hxk⟩:=kid x hx cx;obtain⟨f,hf,Rf⟩:=i k hk;have hyl:y∈le:=pl.mem_iff.mp ((zU.mp hy).resolve_left cy);have hyk:y∈AG k:=Rf.pm.mem_iff.mpr (ok.cl f hf x (Rf.pm.mem_iff.mp hxk) y l A hyl);have dn:∀u v,v∈AG k->(∃r,Av v k=some r/\u∈r)->∃r,Av v (.mk so ks)=some r/\u∈r:=fun u v hv ⟨r,hr,hu⟩=>⟨so++r,by rw[Jz ndA hk hv,hr];rfl,zU.mpr (.inr hu)⟩;exact (Rf.tie x y l A hxk hyk).imp (dn x y hyk) (dn y x hxk)
theorem da :∀{zs:List V}{ds:List PyData}{z:V}{d:PyData},Br H zs ds->A4 H z d->Br H (zs++[z]) (ds++[d]):=by
 intro zs
 induction zs with
 | nil=>intro ds z d h s;cases h;exact .cons s .nil
 | cons y ys ih=>
  intro ds z d h s;cases h with
  | cons a b=>exact .cons a (ih b s)
mutual
inductive Ib (ts:List T3):List Int->Aa->Prop
 | mk {xs:List Int}{m:Int}{ps:List (List Int)}{ks:List Aa}(hm:U8 ts xs m ps)(hk:Er ts ps ks):Ib ts xs (.mk [m] ks)
inductive Er (ts:List T3):List (List Int)->List Aa->Prop
 | nil:Er ts [] []
 | cons {x:List Int}{k:Aa}{xs:List (List Int)}{ks:List Aa}(h:Ib ts x k)(t:Er ts xs ks):Er ts (x::xs) (k::ks)
end
theorem Er.snoc :∀{fs:List (List Int)}{ks:List Aa}{f:List Int}{k:Aa},Er ts fs ks->Ib ts f k->Er ts (fs++[f]) (ks++[k])
 | [],[],_,_,.nil,h=>.cons h .nil
 | _::_,_::_,_,_,.cons a b,h=>.cons a (Er.snoc b h)
theorem MV {xs:List Int}(h:xs.Pairwise (· < ·)):xs.Nodup:=h.imp fun h=>by lia
theorem Wi {m:Int}(h:m∈xs)(pw:xs.Pairwise (· < ·)):([m]++xs.filter fun y=>decide (y≠m)).Perm xs:=by
 refine (Mp ?_ (MV pw)).mpr fun y=>?_
 . refine DW.mpr ⟨by simp,(MV pw).filter _,fun a ha b hb e=>?_⟩;rw[Bf,EZ] at hb;exact hb.2 (by rw[<-e];exact zi.mp ha)
 . rw[zU,zi,Bf,EZ];constructor
   . rintro (z | z)
     . rw[z];exact h
     . exact z.1
   . intro z;by_cases c:y=m
     . exact .inl c
     . exact .inr ⟨z,c⟩
theorem Rx (h:U8 ts xs m ps)(pw:xs.Pairwise (· < ·)):(∀p∈ps,p.Pairwise (· < ·)/\p≠[]/\Ee ts p/\(∀y∈p,y∈xs)/\p.length<=big ps/\p.length+1<=xs.length)/\Vf ts (xs.filter fun y=>decide (y≠m)) ps/\ps.flatten.Perm (xs.filter fun y=>decide (y≠m)):=by
 have nf:=(MV pw).filter fun y=>decide (y≠m);obtain⟨a,b⟩:=h.pa.all nf;have e:=(Wi h.mem pw).length_eq;rw[zJ,Gw] at e;refine⟨fun p hp=>?_,⟨fun p hp=>(a p hp).2.2.1,fun p hp=>(a p hp).2.2.2.2⟩,b⟩;obtain⟨a1,a2,a3,a4,a5⟩:=a p hp;refine⟨a1,a3,a2,fun y hy=>(Bf.mp (a4 y hy)).1,Tj.mp (zI _) p hp,?_⟩;have:=DG (MV a1) a4
 lia
mutual
theorem Xj :∀(p:Aa){xs:List Int},Ib ts xs p->xs.Pairwise (· < ·)->xs.length<64->JK ts xs p
 | .mk _ ks,xs,.mk hm hk,pw,iE=>by obtain⟨a,b,c⟩:=Rx hm pw;exact JK.build (Wi hm.mem pw) (MV pw) (Hf _) (by simp) (by simp) c b (X2 ks hk fun f hf=>⟨(a f hf).1,by have:=(a f hf).2.2.2.2.2;lia⟩) iE
theorem X2 :∀(ks:List Aa){fs:List (List Int)},Er ts fs ks->(∀f∈fs,f.Pairwise (· < ·)/\f.length<64)->Jj ts fs ks
 | [],_,.nil,_=>.nil
 | k::ks,_,.cons h t,hf=>.cons (Xj k h (hf _ zS).1 (hf _ zS).2) (X2 ks t fun f h=>hf f (zZ _ h))
end
mutual
theorem We :∀(p:Aa){xs:List Int}(M:Nat),Ib ts xs p->IG ts xs->xs.Pairwise (· < ·)->xs.length<=M->Cc p<=Bh M xs.length
 | .mk _ ks,xs,M,.mk (m:=v) (ps:=ps) hm hk,T,pw,hM=>by
  obtain⟨a,b,c⟩:=Rx hm pw;have h1:1<=xs.length:=Gv.mpr (List.ne_nil_of_mem hm.mem);have hb:=KI T (MV pw) hm.mem hm.pa (fun u hu qs hq=>(hm.le u hu qs hq).1) fun u _=>Si ts _ (zI _) (pw.filter _);cases M with
  | zero=>lia
  | succ M=>
   rw[Cc,Bh,if_neg (show ¬ xs.length=0 by lia)];have:=V1 ks M (xs.length/2) hk fun f hf=>⟨T.sub (a f hf).2.2.2.1 (a f hf).2.2.1,(a f hf).1,by have:=(a f hf).2.2.2.2.1;lia,by have:=(a f hf).2.2.2.2.1;lia⟩;show 1+CY ks<=_
   lia
theorem V1 :∀(ks:List Aa){fs:List (List Int)}(M d:Nat),Er ts fs ks->(∀f∈fs,IG ts f/\f.Pairwise (· < ·)/\f.length<=M/\f.length<=d)->CY ks<=Bh M d
 | [],_,_,_,.nil,_=>zg _
 | k::ks,_,M,d,.cons (x:=x) h t,hf=>by
  obtain⟨a,b,c,e⟩:=hf _ zS;have h1:=We k M h a b c;have h2:=V1 ks M d t fun f h=>hf f (zZ _ h);have h3:=Yl M x.length d e;rw[CY]
  lia
end
noncomputable def Us:Pos:=⟨267,27,267,74⟩
noncomputable abbrev Pp:Str:=(("middle_place" : Str) ++ ".<locals>.") ++ "<lambda>"
abbrev HX (H:Hp)(PT:Addr):Prop:=TabAt H PT Us Pp
def HP (PT:Addr):Sp:=fun vs H Q _=>∃wa pl n ts xs,vs=[.ref wa,.ref pl]/\Af H wa n ts/\H pl=some (.lst (xs.map V.int))/\xs.Pairwise (· < ·)/\xs.length<64/\xs≠[]/\HX H PT /\
 ∀m ps H',U8 ts xs m ps->AN PT H H'->HX H' PT->Q (.int m) H'
def Rv (PT:Addr)(h:Nat):Sp:=fun vs H Q _=>∃wa pl n ts xs,vs=[.ref wa,.ref pl]/\Af H wa n ts/\H pl=some (.lst (xs.map V.int))/\xs.Pairwise (· < ·)/\xs.length<64/\xs≠[]/\xs.length<=h/\HX H PT /\
 ∀v p H',A4 H' v (Bm p)->Ib ts xs p->AN PT H H'->HX H' PT->Q v H'
section
variable {P:Program}{w:World}{K:AO}{mg:Be}{base:Heap}{PT:Addr}
theorem Ur:AW Ck Ck (defScope SE):=AY
theorem Qs (F:Ct K "middle_place" "middle_place" SE f gA c) (C:PySem.W.CodeHd base c PT)(g6:Co mg base)(gH:mg "min"=none)
 (FG:AD K mg "greatest_part" PK fG fdG DB) (GG:AH P w K mg base AL k0 fG fdG DB L8):AH P w K mg base AL (k0+3) f gA Ck (HP PT):=by
 refine F.ok Ur (fun vs H Q E h=>?_) (fun A outer s H vs Q E hr h=>?_)
 . obtain⟨wa,pl,n,ts,xs,rfl,_⟩:=h;rfl
 . obtain⟨wa,pl,n,ts,xs,rfl,W,gZ,pw,iE,gL,T,k⟩:=h;refine⟨_,zh (AQ (UW (k:=k0) (P:=PT) (c:=c) (pn := "place") (cn:=["places","web"]) (ci:=[1,0]) rfl hr rfl gH (zD (pv 1) zO) rfl C g6 (An rfl rfl) rfl rfl rfl ⟨rfl,rfl,rfl,rfl,rfl,rfl,trivial⟩ rfl rfl (fun _ _ _ _ _ _ _=>rfl)
    (fun f' cd' s3 H3 hr3=>AI GG hr3 FG (zD (pv 2) (zD (pv 1) (zD (pv 0) zO)))))),?_⟩
   obtain⟨val,iq⟩:=Classical.axiomOfChoice (r:=fun (u:Int)(z:Int)=>∃qs,CC ts (xs.filter fun y=>decide (y≠u)) qs/\z=big qs) fun u=>by obtain⟨qs,hq⟩:=Si ts _ (zI _) (pw.filter fun y=>decide (y≠u));exact⟨_,qs,hq,rfl⟩
   refine⟨_,rfl,pl,xs,val,[.ref pl,.ref wa],rfl,gZ,gL,rfl,T,fun H2 sm T2=>⟨fun x hx H3 s3=>?_,fun M b H4 B s4=>?_⟩⟩
   . have W3:Af H3 wa n ts:=(W.keepT fun b ys e=>sm.get e (by intro ps z;cases z)).keep s3;refine⟨_,rfl,_,rfl,_,rfl,wa,pl,n,ts,xs,x,rfl,W3,s3 _ _ (sm.get gZ (by intro ps z;cases z)),pw,iE,fun ps H5 s5 PA=>⟨?_,s5⟩⟩;obtain⟨qs,hq,e⟩:=iq x;rw[e,hq.uniq PA]
   . obtain⟨b1,_,b3⟩:=B;obtain⟨ps,i5,eM⟩:=iq M;refine k M ps H4 ⟨zP b1,i5,fun u hu qs hq=>?_⟩ (AN.trans sm (AN.of (P:=PT) s4)) (T2.same s4);obtain⟨i,hi,ei⟩:=zp hu;have hb:=b3 i u hi (by rw[zC hi,ei]);obtain⟨qs',iG,eu⟩:=iq u;have e:=hq.uniq iG;subst e;rw[eM,eu] at hb;refine⟨by have:=hb.1;lia,fun lt=>?_⟩;have:i<b:=by
      obtain⟨iU,eb⟩:=zH.mp b1;refine zw fun z=>?_;by_cases c:i=b
      . subst c;rw[ei] at eb
        lia
      . have:=Cz.mp pw b i iU hi (by lia);rw[ei,eb] at this
        lia
     have:=hb.2 this
     lia
end
end K91
namespace K91
open PySem L2 WM
variable {P:Program}{w:World}{K:AO}{mg:Be}{base:Heap}{PT:Addr}{X:Cx}
theorem _root_.L2.TabAt.lst {H:Hp}{P D:Addr}{pos:Pos}{q:Str}{ys zs:List V}(T:TabAt H P pos q)(h:H D=some (.lst ys)):TabAt (upd H D (.lst zs)) P pos q:=by obtain⟨ps,hp,_⟩:=id T;exact T.keep (fun o e=>by rw[zf (Ar hp h (by intro z;cases z))];exact e) fun c φ e=>by rw[zf (Ar e h (by intro z;cases z))];exact e
theorem RV:AW ["web","places","middle","parts"] Ck (defScope Fh):=AY
theorem Yg (F:Fu K "plan_of_part" Fh f gA) (bF:CU K gA Ck []) (mF:mg "plan_of_part"=some (.ref f)) (kM:PySem.W.keepIn K (.ref fM)=true)(bM:CU K fdM Ck []) (mM:mg "middle_place"=some (.ref fM)) (GM:AH P w K mg base AL m fM fdM Ck (HP PT))
 (FP:AD K mg "parts_without" EK fP fdP DB) (GP:AH P w K mg base AL m fP fdP DB Nk) (fw:mg "tuple"=none):∀h:Nat,AH P w K mg base AL (m+h+1) f gA Ck (Rv PT h)
 | 0=>F.ok RV (fun vs H Q E h=>by obtain⟨wa,pl,n,ts,xs,rfl,_⟩:=h;rfl) (fun gP A outer s H vs Q E hr h=>by obtain⟨wa,pl,n,ts,xs,rfl,_,_,_,_,gL,h0,_⟩:=h;exact absurd (Ep.mp (by lia)) gL)
 | h+1=>by
  have GS:AH P w K mg base AL (m+h+1) f gA Ck (Rv PT h):=Yg F bF mF kM bM mM GM FP GP fw h;have GM':AH P w K mg base AL (m+h+1) fM fdM Ck (HP PT):=GM.mono (by lia);have GP':AJ P w base (m+h+1) FP Nk:=GP.mono (by lia);refine F.ok RV (fun vs H Q E h=>?_) (fun gP A outer s H vs Q E hr h=>?_)
  . obtain⟨wa,pl,n,ts,xs,rfl,_⟩:=h;rfl
  . obtain⟨wa,pl,n,ts,xs,rfl,W,gZ,pw,iE,gL,hxl,T,k⟩:=h;refine⟨_,zW (Ak (i:=2) RV.nd (Eg GM' hr rfl mM kM bM .nil Ei (zD (pv 0) (zD (pv 1) zO))))
     (zW (Ak (i:=3) RV.nd (AI GP' hr FP (zD (pv 0) (zD (pv 1) (zD (pv 2) zO)))))
     (zh (AQ (Ba (zD (Ba (zD (pv 2) zO)) (zD (Bi B9 fw (zD (A0 (own:=["part"]) (cn:=Ai) (ci:=[0]) rfl (An rfl rfl) ⟨rfl,rfl,rfl,trivial⟩ rfl (CZ (pv 3)) (fun _ _ _ _=>Aq) (fun _ _ _ _=>BI)
      (fun _ _ _ _=>Eg GS hr rfl mF F.kp bF .nil Ei (zD (pv 1) (zD (pv 0) zO)))) zO)) zO)))))),?_⟩
    refine⟨_,rfl,_,rfl,wa,pl,n,ts,xs,rfl,W,gZ,pw,iE,gL,T,fun mi ps0 H1 Mi s1 T1=>?_⟩;have hpl1:=s1.get gZ (by intro ps z;cases z);refine⟨_,rfl,_,rfl,_,rfl,wa,pl,n,ts,xs,mi,rfl,W.smT s1,hpl1,pw,iE,fun fl ps H2 hfl s2 ST PA=>?_⟩;obtain rfl:=Mi.pa.uniq PA;obtain⟨pm,_,_⟩:=Rx Mi pw;obtain⟨rs,jZ,RI⟩:=ST;refine⟨_,rfl,R7,fun a ha=>?_⟩;have s3:=zL (o:=.tup [V.int mi]) ha;have iF:AN PT H (upd H2 a (.tup [V.int mi])):=s1.trans (AN.of (P:=PT) (s2.trans s3));have T3:=(T1.same s2).same s3;have W3:=W.smT iF;have hrs3:=s3 _ _ jZ;have RI3:=RI.same s3;have ha3:(upd H2 a (.tup [V.int mi])) a=some (.tup [V.int mi]):=zK;generalize upd H2 a (.tup [V.int mi])=H3 at iF T3 W3 hrs3 RI3 ha3 ⊢;have pl64:ps0.length<=xs.length:=by
     have h1:=YA (fs:=ps0) fun f hf=>(pm f hf).2.1;have h2:=(Rx Mi pw).2.2.length_eq;have h3:(xs.filter fun y=>decide (y≠mi)).length<=xs.length:=CH _ _
     lia
    refine⟨_,rfl,fl,rfl,⟨_,AE.of hrs3⟩,[.ref wa],rfl,fun D hD=>?_⟩;refine DM (a:=fl) (xs:=rs.map V.ref) (fun i ys H4=>∃ks,Er ts (ps0.take i) ks/\ks.length=i/\i<=ps0.length/\Br H4 ys (Ce ks)/\AN PT H3 H4/\H4 D=some (.lst ys)/\HX H4 PT)
     ⟨[],.nil,rfl,zg _,.nil,AN.of (P:=PT) (zL hD),zK,T3.same (zL hD)⟩ (fun i ys H4 z=>?_) (fun i ys H4 z=>?_) (fun i v ys H4 hv z=>?_) (fun ys H4 z=>?_)
    . obtain⟨ks,_,_,_,_,s4,_,_⟩:=z;exact AE.of (s4.get hrs3 (by intro ps z;cases z))
    . obtain⟨ks,_,hk,hi,S4,_⟩:=z;rw[Nx S4,MZ,hk];exact zr (by lia)
    . obtain⟨ks,tp,hk,hi,S4,s4,h4,T4⟩:=z;obtain⟨r,gW,rfl⟩:∃r,rs[i]?=some r/\V.ref r=v:=by
       rw[zM] at hv;cases e:rs[i]? with
       | none=>rw[e] at hv;cases hv
       | some y=>rw[e] at hv;exact⟨y,rfl,zV hv⟩
      have i6:i<ps0.length:=by rw[<-RI3.1];exact (zH.mp gW).1
      have jy:ps0[i]?=some ps0[i]:=zC i6;have hU:=RI3.2 i r _ gW jy;have hpm:=pm _ (DF i6);generalize ps0[i]=q at jy hU hpm;refine⟨⟨rfl,rfl⟩,?_⟩;refine BH ?_;refine⟨_,rfl,_,rfl,wa,r,n,ts,q,rfl,W3.smT s4,s4.get hU (by intro ps z;cases z),hpm.1,by lia,hpm.2.1,by lia,T4,fun v' p' H5 S5 tp5 s5 T5=>?_⟩;have h5:=s5.get h4 (by intro ps z;cases z);have kT:∀b zs,H5 b=some (.tup zs)->upd H5 D (.lst (ys++[v'])) b=some (.tup zs):=fun b zs e=>by rw[zf (Ar e h5 (by intro z;cases z))];exact e
      refine⟨h5,ks++[p'],?_,by rw[zJ,hk];rfl,i6,?_,?_,zK,?_⟩
      . rw[zy,jy];exact tp.snoc tp5
      . rw[WR];exact da (Nu kT ks (Nu (fun b zs e=>s5.get e (by intro ps z;cases z)) ks S4)) (Sh kT p' S5)
      . exact (s4.trans s5).chg hD
      . exact T5.lst h5
    . obtain⟨ks,tp,hk,hi,S4,s4,h4,T4⟩:=z;rw[zB,RI3.1,zY (zI _)] at tp;refine⟨D,_,rfl,.inl ⟨AE.of h4,fun c2 i0=>⟨BO,fun e he=>?_⟩⟩⟩;have s5:=(zL (o:=.tup ys) i0).trans (zL (o:=.tup [.ref a,.ref c2]) he);refine k (.ref e) (.mk [mi] ks) _ ?_ (.mk Mi tp) ((iF.trans s4).trans (AN.of (P:=PT) s5)) (T4.same s5);rw[Bm];exact .tup zK (.cons (.tup (s5 _ _ (s4.get ha3 (by intro ps z;cases z))) (.cons (.int _) .nil)) (.cons (.tup (zL he _ _ zK) (Nu (fun b zs e=>s5 _ _ e) ks S4)) .nil))
theorem Uz:AW Ai Ai (defScope QK):=AY
theorem JK.letP (R:JK ts (lowTo n.toNat) p)(n0:0<=n):G7 n ts p:=by
 refine⟨R.pm.nodup_iff.mpr ((J5 _).imp fun h=>by lia),fun x hx=>?_,fun x x0 x1=>?_,R.tie⟩
 . have:=Cs.mp (R.pm.mem_iff.mp hx)
   lia
 . exact R.pm.mem_iff.mpr (Cs.mpr (by lia))
def Ik:Sp:=fun vs H Q _=>∃n:Int,vs=[.int n]/\0<=n/\Q (.int (Bh n.toNat n.toNat)) H
def TV (h:Nat):Sp:=fun vs H Q _=>∃wa v n ts p,vs=[.ref wa,v]/\Af H wa n ts/\A4 H v (Bm p)/\LV p/\BE p<=h/\El 24 p=true/\G7 n ts p/\∀H',AF H H'->Q (.bl true) H'
theorem RC:AW ["_law_n","_law_found"] ["_law_n"] (defScope FU):=AY
theorem L7 (F:Fu K "_law_figures" FU f gA):AH P w K mg base AL 1 f gA ["_law_n"] Ik:=by
 refine F.okD RC fun _ A _ _ H vs Q E hr h=>?_;obtain⟨n,rfl,h0,k⟩:=h;refine⟨_,zW (Ak (i:=1) RC.nd zm)
  (zW (Nb PassesOwn.never (Ad Hj (pv 0) zm (AZ _))
   (zW (Ak (i:=0) RC.nd (Ac N9 (pv 0) zm))
   (zh (Ak (i:=1) RC.nd (Ac Ci (pv 1) zm)))))
  (zh (AQ (pv 1)))),?_⟩
 refine⟨fun m σ H2=>∃(q c:Nat),σ=[some (.int q),some (.int c)]/\m=q/\H2=H/\c+Bh q q=Bh n.toNat n.toNat,⟨n.toNat,n.toNat,0,by rw[Ja h0];rfl,rfl,rfl,by lia⟩,fun m σ H2 z=>?_⟩;obtain⟨q,c,rfl,rfl,rfl,e⟩:=z;refine⟨_,rfl,_,_,rfl,rfl,_,rfl,CF (fun cc=>?_) (fun cc=>?_)⟩
 . have cc:=of_decide_eq_true cc;refine⟨fun σ' H'=>∃(q' c':Nat),σ'=[some (.int q'),some (.int c')]/\q'<m/\H'=H2/\c'+Bh q' q'=Bh n.toNat n.toNat,?_,?_⟩
   . rintro σ' H' ⟨q',c',rfl,lt,rfl,e'⟩;exact⟨q',lt,q',c',rfl,rfl,rfl,e'⟩
   . refine⟨_,rfl,_,_,rfl,rfl,⟨by decide,by decide⟩,?_⟩;refine⟨_,rfl,_,_,rfl,rfl,?_⟩;refine⟨m/2,c+1,?_,by lia,rfl,?_⟩
     . rfl
     . rw[<-e];cases m with
       | zero=>lia
       | succ m=>
        show _=c+(if m+1=0 then 0 else Bh m ((m+1)/2)+1)
        rw[if_neg (by lia),Yb m ((m+1)/2) ((m+1)/2) (by lia) (zI _)]
        lia
 . have cc:¬ ((m:Int) > 0):=fun z=>cc (zR z);obtain rfl:m=0:=by lia
   refine⟨_,rfl,?_⟩;rw[show Bh 0 0=0 from rfl,Nat.add_zero] at e;rw[e];exact k
end K91
namespace K91
open PySem L2 WM
variable {P:Program}{w:World}{K:AO}{mg:Be}{base:Heap}{PT:Addr}{X:Cx}
inductive Wk (ts:List T3)(S:Int->Prop):Int->Int->Prop where
 | nil (x:Int):Wk ts S x x
 | cons {x y z l:Int}(h:S x)(a:Ah ts x y l)(k:S y)(w:Wk ts S y z):Wk ts S x z
theorem V7 (g:GW n ts):∀(m:Nat){x d:Int},d.toNat<=m->IsD ts x v d->A8 ts h v x->Wk ts (A8 ts h v) x v
 | m,x,d,hm,hd,hb=>by
  by_cases c:x=v
  . subst c;exact .nil _
  . obtain⟨p,hp⟩:=ER.exists g hd c;have hq:=ER.btw g hb hp;obtain⟨l,b,a,ib,id⟩:=hp;have e:=hd.uniq id;have l1:=(g.adj a).2.2.2.2.2.1;have b0:=ib.1.nn g
    match m,hm with
    | 0,hm=>lia
    | m+1,hm=>exact .cons hb a hq (V7 g m (by lia) ib hq)
theorem bJ (nd:(AG (.mk ps ks)).Nodup)(T:J2 ts (.mk ps ks))(hk:k∈ks):J2 ts k:=by
 have jN:=nd;rw[AG] at jN;have one:∀a b,a∈AG k->b∈AG k->(∃r,Av b (.mk ps ks)=some r/\a∈r)->∃r,Av b k=some r/\a∈r:=fun a b ha hb ⟨r,e,hr⟩=>by
  rw[Jz nd hk hb,Ht] at e;obtain⟨r',e',rfl⟩:=e;refine⟨r',e',?_⟩;rcases zU.mp hr with z | z
  . exact (NQ jN z (Fs ha hk)).elim
  . exact z
 intro a b l A ha hb;have fa:a∈AG (.mk ps ks):=by rw[AG];exact zU.mpr (.inr (Fs ha hk))
 have fb:b∈AG (.mk ps ks):=by rw[AG];exact zU.mpr (.inr (Fs hb hk))
 exact (T a b l A fa fb).imp (one a b ha hb) (one b a hb ha)
theorem ZT (nd:(AG (.mk ps ks)).Nodup)(T:J2 ts (.mk ps ks))(A:Ah ts a b l)(na:a∉ps)(nb:b∉ps)(fa:a∈AG (.mk ps ks))(fb:b∈AG (.mk ps ks))(hk:k∈ks)(hb:b∈AG k):a∈AG k:=by
 have jN:=nd;rw[AG] at jN;rcases T a b l A fa fb with ⟨r,e,hr⟩ | ⟨r,e,hr⟩
 . rw[Jz nd hk hb,Ht] at e;obtain⟨r',e',rfl⟩:=e;rcases zU.mp hr with z | z
   . exact absurd z na
   . exact (R0 k e').1.subset z
 . rw[AG] at fa;rcases zU.mp fa with z | z
   . exact absurd z na
   obtain⟨j,hj,haj⟩:=NU z;rw[Jz nd hj haj,Ht] at e;obtain⟨r',e',rfl⟩:=e;rcases zU.mp hr with z | z
   . exact absurd z nb
   have hbj:=(R0 j e').1.subset z;exact (X0 (DW.mp jN).2.1 hj hk hbj hb).1 ▸ haj
theorem eS (nd:(AG (.mk ps ks)).Nodup)(T:J2 ts (.mk ps ks))(hS:∀x,S x->x∈AG (.mk ps ks))(nS:∀x,S x->x∉ps)(hk:k∈ks)(w:Wk ts S x v)(hv:v∈AG k):x∈AG k:=by
 induction w with
 | nil x=>exact hv
 | cons h a k' w ih=>exact ZT nd T a (nS _ h) (nS _ k') (hS _ h) (hS _ k') hk (ih hv)
theorem VU :∀(m:Nat)(p:Aa)(i:Int->Nat),BE p<=m->(AG p).Nodup->J2 ts p->(∀x,S x->x∈AG p)->S h->S v->(∀x,S x->Wk ts S x v)->(∀x,x∈AG p->(AG p)[i x]?=some x)->(∀x,S x->i h<=i x)->∃r,Av v p=some r/\h∈r
 | 0,.mk ps ks,i,hm,_,_,_,_,_,_,_,_=>by rw[BE] at hm;lia
 | m+1,.mk ps ks,i,hm,nd,T,hS,sh,sv,cn,ix,le=>by
  rw[BE] at hm;have jN:=nd;rw[AG] at jN;by_cases c:∃u,S u/\u∈ps
  . obtain⟨u,su,hu⟩:=c;have iu:=ix u (hS u su);have ih:=ix h (hS h sh);have l1:=le u su;rw[AG] at iu ih;have hup:i u<ps.length:=by refine zw fun z=>?_;rw[za (by lia)] at iu;exact NQ jN hu (zP iu)
    have hhp:h∈ps:=by rw[zc (by lia)] at ih;exact zP ih
    by_cases cv:v∈ps
    . exact⟨ps,Vq cv,hhp⟩
    . have fv:=hS v sv;rw[AG] at fv;obtain⟨k,hk,hvk⟩:=NU ((zU.mp fv).resolve_left cv);obtain⟨r,hr⟩:=OD hvk;exact⟨ps++r,by rw[Jz nd hk hvk,hr];rfl,zU.mpr (.inl hhp)⟩
  . have nS:∀x,S x->x∉ps:=fun x sx z=>c ⟨x,sx,z⟩;have fv:=hS v sv;rw[AG] at fv;obtain⟨k,hk,hvk⟩:=NU ((zU.mp fv).resolve_left (nS v sv));have hkS:∀x,S x->x∈AG k:=fun x sx=>eS nd T hS nS hk (cn x sx) hvk;have hkh:=Md hk;obtain⟨o,ho⟩:∃o,∀x j,(AG k)[j]?=some x->(AG (.mk ps ks))[o+j]?=some x:=by
     rw[AG];obtain⟨q,hq,ek⟩:=zp hk;refine⟨ps.length+(Ae (ks.take q)).length,fun x j hj=>?_⟩;have sp:Ae ks=Ae (ks.take q)++(AG k++Ae (ks.drop (q+1))):=by
      conv=>lhs;rw[<-List.take_append_drop q ks,Yw,List.drop_eq_getElem_cons hq,ek]
      rw[Ae]
     have hjl:=(zH.mp hj).1;rw[sp,<-hj,<-DT,za (by rw[zJ];exact Nat.le_add_right _ _),zJ,Nat.add_sub_cancel_left,zc hjl]
    have ndk:=VY (DW.mp jN).2.1 hk;have ix':∀x,x∈AG k->(AG k)[i x-o]?=some x/\o<=i x:=fun x hx=>by
     obtain⟨j,hj,ej⟩:=zp hx;have h1:=ho x j (by rw[zC hj,ej]);have h2:=ix x (by rw[AG];exact zU.mpr (.inr (Fs hx hk)));have e:o+j=i x:=by
      obtain⟨b1,e1⟩:=zH.mp h1;obtain⟨b2,e2⟩:=zH.mp h2;have hp:=Cz.mp (DN.mp nd);refine zw fun z=>?_;by_cases cc:o+j<i x
      . exact hp _ _ b1 b2 cc (by rw[e1,e2])
      . exact hp _ _ b2 b1 (by lia) (by rw[e1,e2])
     rw[<-e];exact⟨by rw[Nat.add_sub_cancel_left,zC hj,ej],by lia⟩
    obtain⟨r,hr,hh⟩:=VU m k (fun x=>i x-o) (by lia) ndk (bJ nd T hk) hkS sh sv cn (fun x hx=>(ix' x hx).1) fun x sx=>by
     have:=le x sx;have:=(ix' h (hkS h sh)).2;show i h-o<=i x-o
     lia
    exact⟨ps++r,by rw[Jz nd hk hvk,hr];rfl,zU.mpr (.inr hh)⟩
theorem G7.ordr (L:G7 n ts p):C0 n (AG p):=by
 refine⟨Nat.le_antisymm L.len ?_,L.nd,L.rng⟩;have h:=DG (l₁:=lowTo n.toNat) (l₂:=AG p) ((J5 n.toNat).imp fun h=>by lia) fun x hx=>by have:=Cs.mp hx;exact L.all x this.1 (by lia)
 rw[CA] at h;exact h
theorem G7.hub (G:GW n ts)(L:G7 n ts p)(R:Gq n (AG p) rk)(h0:0<=h)(h1:h<n)(v0:0<=v)(v1:v<n)(H:G4 ts rk h v):∃r,Av v p=some r/\h∈r:=by
 obtain⟨⟨d,hd⟩,le⟩:=H;have inn:∀x,A8 ts h v x->0<=x/\x<n:=fun x hx=>by obtain⟨a,b,ia,_⟩:=hx;exact ia.1.in_ G h0 h1
 refine VU (S:=A8 ts h v) (BE p) p (fun x=>(rk x).toNat) (zI _) L.nd L.tie (fun x hx=>L.all x (inn x hx).1 (inn x hx).2) (A8.self G hd) (A8.self G hd.symm).symm (fun x hx=>?_) (fun x hx=>?_) fun x hx=>?_
 . obtain⟨a,b,_,ib,_⟩:=id hx;exact V7 G b.toNat (zI _) ib hx
 . have:=L.rng x hx;exact (R x this.1 this.2).2
 . have:=le x hx;have r1:=(R x (inn x hx).1 (inn x hx).2).1;have r2:=(R h h0 h1).1;show (rk h).toNat<=(rk x).toNat
   lia
def JN:Sp:=fun vs H Q _=>∃n i:Int,vs=[.int n,.int i]/\0<=i/\i<n/\Q (.bl true) H
structure Je (n:Int)(ps:List Int):Prop where
 ne:ps≠[]
 ln:(ps.length:Int)<=n
 rng:∀p∈ps,0<=p/\p<n
 rise:ps.Pairwise (· < ·)
def Te:Sp:=fun vs H Q _=>∃n p ps,vs=[.int n,.ref p]/\H p=some (.tup (ps.map V.int))/\Je n ps/\n<=24/\∀H',AF H H'->Q (.bl true) H'
theorem Kb (F:Fu K "is_place" HN f gA) (FW:AD K mg "is_within" Ig fW fdW HQ) (FN:AD K mg "is_number" Eu fN fdN BV) (gE:mg "isinstance"=none) (gT:mg "int"=none) (gI:mg "bool"=none):
 AH P w K mg base AL 3 f gA Cw JN:=by
 have GW':AJ P w base 2 FW K4:=Ic FW.F FN gE gT gI;refine F.okD Ku fun _ A _ _ H vs Q E hr h=>?_;obtain⟨n,i,rfl,h0,h1,k⟩:=h;refine⟨_,zh (AQ (AI GW' hr FW (zD (pv 1) (zD zm (zD (Ac Jq (pv 0) zm) zO))))),?_⟩;exact⟨_,rfl,_,rfl,_,_,rfl,rfl,i,0,n-1,rfl,h0,by lia,k⟩
theorem O6:AW Cw Cw (defScope Fn):=AY
theorem KG (F:Fu K "are_places" Fn f gA) (FP:AD K mg "is_place" HN fP fdP Cw) (GP:AJ P w base 3 FP JN)
 (FR:AD K mg "is_rising" ED fR fdR IL) (gE:mg "isinstance"=none) (fw:mg "tuple"=none) (f9:mg "len"=none) (f7:mg "range"=none) (gO:mg "all"=none):
 AH P w K mg base AL 4 f gA Cw Te:=by
 have GR:AJ P w base 3 FR Sf:=(YX FR.F f9 f7 gO).mono;refine F.okD O6 fun _ A _ _ H vs Q E hr h=>?_;obtain⟨n,p,ps,rfl,hp,O,hn,k⟩:=h;have hln:=O.ln;refine⟨_,zW (Ap (PW.pt (DJ (CG (Bq (Aj Jo gE (zD (pv 1) (zD (J9 (T := "tuple") fw) zO)))))
  (DJ (Ad CN (Aj Bz f9 (zD (pv 1) zO)) zm (AZ _))
  (Es (Ad Hj (Aj Bz f9 (zD (pv 1) zO)) (pv 0) (AZ _)))))) (zh (AQ E1)) As)
  (zh (AQ (EU (Aj (Jy rfl) gO (zD (A0 (own:=CK) (cn:=["n"]) (ci:=[0]) rfl (An rfl rfl) ⟨rfl,rfl,rfl,trivial⟩ rfl
   (Bo (pv 1)) (fun _ _ _ _=>Aq) (fun _ _ _ _=>BI)
   (fun _ _ _ _=>AI GP hr FP (zD (pv 1) (zD (pv 0) zO)))) zO))
   (GQ (AI GR hr FR (zD (pv 1) zO)))))),?_⟩
 have gZ:0<ps.length:=Gv.mpr O.ne;refine⟨_,rfl,_,_,_,true,rfl,.tup hp,rfl,_,rfl,Am ?_⟩;refine⟨_,rfl,p,_,rfl,.inr (AB.of hp),rfl,_,rfl,BL (by rw[zB];exact zT fun z=>by have:=V.int.inj z;lia) ?_⟩;refine⟨_,rfl,p,_,rfl,.inr (AB.of hp),_,rfl,_,_,rfl,rfl,_,rfl,BL (by rw[zB];exact zT (by lia)) ?_⟩;refine⟨_,rfl,p,rfl,⟨_,AB.of hp⟩,[.int n],rfl,fun D hD=>?_⟩;refine C8 (a:=p) (xs:=ps.map V.int) (fun q ys H4=>q<=ps.length/\ys=(List.replicate q true).map V.bl/\H4=upd H D (.lst ys)) ⟨zg _,rfl,rfl⟩ (fun q ys H4 z=>?_) (fun q ys H4 z=>?_) (fun q v ys H4 hv z=>?_) (fun ys H4 z=>?_)
 . obtain⟨_,rfl,rfl⟩:=z;exact AB.of (zL hD _ _ hp)
 . obtain⟨hq,rfl,_⟩:=z;rw[zB,Ey];exact zr (by lia)
 . obtain⟨_,rfl,rfl⟩:=z;obtain⟨i,hi,rfl⟩:∃i,ps[q]?=some i/\V.int i=v:=by
    rw[zM] at hv;cases e:ps[q]? with
    | none=>rw[e] at hv;cases hv
    | some i=>rw[e] at hv;exact⟨i,rfl,zV hv⟩
   have gW:=O.rng i (zP hi);have hql:=(zH.mp hi).1;refine⟨⟨rfl,rfl⟩,?_⟩;refine BH ?_;refine⟨_,rfl,_,rfl,n,i,rfl,gW.1,gW.2,zK,by lia,?_,BQ⟩;rw[List.replicate_succ',zQ];rfl
 . obtain⟨_,rfl,rfl⟩:=z;refine⟨D,_,rfl,AE.of zK,true,?_,Aw ?_⟩
   . congr 1;generalize (ps.map V.int).length=m
     induction m with
     | zero=>rfl
     | succ m ih=>rw[GZ,List.all_cons];simpa using ih
   . refine⟨_,rfl,p,ps,rfl,zL hD _ _ hp,by lia,fun H' s'=>?_⟩;rw[(UG ps).mpr O.rise];exact k H' ((zL hD).trans s')
def p2 (ks:List (List Int)):Prop:=∀k∈ks,∃a b:Int,k=[a,b]
noncomputable def BC (kn:List (Option Int))(ps:List Int):List (List Int):=ps.filterMap fun p=>(AV kn p).map fun d=>[p,d]
theorem Mq :k∈BC kn ps↔∃p d,k=[p,d]/\p∈ps/\AV kn p=some d:=by
 unfold BC;rw[Hq];constructor
 . rintro ⟨p,hp,h⟩;cases e:AV kn p with
   | none=>rw[e] at h;cases h
   | some d=>rw[e] at h;exact⟨p,d,(zV h).symm,hp,e⟩
 . rintro ⟨p,d,rfl,hp,e⟩;exact⟨p,hp,by rw[e];rfl⟩
theorem Hz (kn)(ps):p2 (BC kn ps):=fun k hk=>by obtain⟨p,d,e,_⟩:=Mq.mp hk;exact⟨p,d,e⟩
theorem RW (kn)(ps):(BC kn ps).length<=ps.length:=List.length_filterMap_le _ _
theorem WE (h:AV kn p=none):BC kn (ps++[p])=BC kn ps:=by unfold BC;rw[List.filterMap_append];simp[h]
theorem Vi (h:AV kn p=some d):BC kn (ps++[p])=BC kn ps++[[p,d]]:=by unfold BC;rw[List.filterMap_append];simp[h]
structure NL where
 x:Int
 home:Option (Int×Int)
 near:List (List Int)
 far:List (List Int)
def Hc (H:Hp)(hv:V):Option (Int×Int)->Prop
 | none=>hv=.non
 | some (p,d)=>∃ha:Addr,hv=.ref ha/\H ha=some (.tup [.int p,.int d])
theorem Hc.keep (h:Hc H hv o)(k:∀b ys,H b=some (.tup ys)->H' b=some (.tup ys)):Hc H' hv o:=by
 cases o with
 | none=>exact h
 | some pd=>obtain⟨p,d⟩:=pd;obtain⟨ha,e,z⟩:=h;exact⟨ha,e,k _ _ z⟩
theorem Hc.isN (h:Hc H hv o):decide (hv=.non)=o.isNone:=by
 cases o with
 | none=>rw[show hv=.non from h];rfl
 | some pd=>obtain⟨p,d⟩:=pd;obtain⟨ha,e,_⟩:=h;rw[e];exact zT (by intro z;cases z)
noncomputable def DI:Option (Int×Int)->List Int->Bool
 | none,_=>true
 | some (_,d),k=>decide (k.getD 1 0<d)
def Xe (ks:List (List Int)):Option (Int×Int)->Prop
 | none=>ks=[]
 | some (p,d)=>[p,d]∈ks/\∀k∈ks,d<=k.getD 1 0
structure DQ (H:Hp)(L:Addr)(A:NL):Prop where
 ex:∃(hv:V)(na fa:Addr)(nys jl:List V),H L=some (.tup [.int A.x,hv,.ref na,.ref fa])/\Hc H hv A.home/\H na=some (.tup nys)/\Ag H nys A.near/\H fa=some (.tup jl)/\Ag H jl A.far
 n2:p2 A.near
 f2:p2 A.far
 nl:A.near.length<=100
 fl:A.far.length<=100
theorem DQ.keep (h:DQ H L A)(k:∀b ys,H b=some (.tup ys)->H' b=some (.tup ys)):DQ H' L A:=by obtain⟨hv,na,fa,nys,jl,a,b,c,d,e,f⟩:=h.ex;exact⟨⟨hv,na,fa,nys,jl,k _ _ a,b.keep k,k _ _ c,d.keep k,k _ _ e,f.keep k⟩,h.n2,h.f2,h.nl,h.fl⟩
theorem DQ.same (h:DQ H L A)(k:AF H H'):DQ H' L A:=h.keep fun b ys e=>k _ _ e
noncomputable def U7 (n:Int):List Int:=WM.lowTo n.toNat
structure CP (n x:Int)(kn:List (Option Int))(ps:List Int)(A:NL):Prop where
 x_:A.x=x
 far_:A.far=BC kn ps
 home_:Xe (BC kn ps) A.home
 near_:A.near=(BC kn (U7 n)).filter (DI A.home)
noncomputable def Pr:Pos:=⟨183,24,183,44⟩
noncomputable abbrev Qb:Str:=(("near_label" : Str) ++ ".<locals>.") ++ "<lambda>"
abbrev Tq (H:Hp)(PQ:Addr):Prop:=TabAt H PQ Pr Qb
def Xo:Sp:=fun vs H Q _=>∃rl pa n kn ps,vs=[.ref rl,.ref pa]/\H rl=some (.tup (kn.map oV))/\kn.length=n.toNat/\H pa=some (.tup (ps.map V.int))/\(∀p∈ps,0<=p/\p<n)/\ps.length<=100 /\
 ∀l ys H',AF H H'->H l=none->H' l=some (.lst ys)->Ag H' ys (BC kn ps)->Q (.ref l) H'
def V4:Sp:=fun vs H Q _=>∃rl pa n kn ps,vs=[.ref rl,.ref pa]/\H rl=some (.tup (kn.map oV))/\kn.length=n.toNat/\H pa=some (.lst (ps.map V.int))/\(∀p∈ps,0<=p/\p<n)/\ps.length<=100 /\
 ∀l ys H',AF H H'->H l=none->H' l=some (.lst ys)->Ag H' ys (BC kn ps)->Q (.ref l) H'
def LP (PQ:Addr):Sp:=fun vs H Q _=>∃x n rl pa kn ps,vs=[.int x,.ref rl,.ref pa]/\H rl=some (.tup (kn.map oV))/\kn.length=n.toNat/\0<=n/\n<=24/\H pa=some (.tup (ps.map V.int))/\(∀p∈ps,0<=p/\p<n)/\ps.length<=100/\Tq H PQ /\
 ∀L A H',AN PQ H H'->Tq H' PQ->H L=none->DQ H' L A->CP n x kn ps A->Q (.ref L) H'
theorem RB (hl:kn.length=n.toNat)(h0:0<=p)(h1:p<n):(kn.map oV)[p.toNat]?=some (oV (AV kn p)):=by unfold AV;rw[if_pos h0,zM,zF,zC (by lia)];rfl
theorem IS:AW KL KL (defScope D9):=AY
theorem dg (F:Fu K "reached" D9 f gA):AH P w K mg base AL 1 f gA KL Xo:=by
 refine F.okD IS fun _ A _ _ H vs Q E hr h=>?_;obtain⟨rl,pa,n,kn,ps,rfl,i4,hkn,iV,i5,gZ,k⟩:=h;refine⟨_,zh (AQ (A0 (own:=CK) (cn:=["row"]) (ci:=[0]) rfl (An rfl rfl) ⟨rfl,rfl,rfl,trivial⟩ rfl
  (Bo (pv 1)) (fun _ _ _ _=>Aq)
  (fun _ _ _ _=>Cn (Ad JZ (AK Bg (pv 1) (pv 0)) BK (AZ _)))
  (fun _ _ _ _=>Ba (zD (pv 0) (zD (AK Bg (pv 1) (pv 0)) zO))))),?_⟩
 refine⟨_,rfl,pa,rfl,⟨_,AB.of iV⟩,[.ref rl],rfl,fun D hD=>?_⟩;refine C8 (a:=pa) (xs:=ps.map V.int) (fun i ys H4=>Ag H4 ys (BC kn (ps.take i))/\AF H H4/\H4 D=some (.lst ys)) ⟨by rw[List.take_zero];exact trivial,zL hD,zK⟩ (fun i ys H4 h=>?_) (fun i ys H4 h=>?_) (fun i v ys H4 hv h=>?_) (fun ys H4 h=>?_)
 . exact AB.of (h.2.1 _ _ iV)
 . have h1:=h.1.length;have h2:=RW kn (ps.take i);rw[zt] at h2;exact zr (by lia)
 . obtain⟨TA,s4,gV⟩:=h;obtain⟨p,hp,rfl⟩:∃p,ps[i]?=some p/\V.int p=v:=by
    rw[zM] at hv;cases e:ps[i]? with
    | none=>rw[e] at hv;cases hv
    | some p=>rw[e] at hv;exact⟨p,rfl,zV hv⟩
   obtain⟨h0,h1⟩:=i5 p (zP hp);have jx:=s4 _ _ i4;have kD:ps.take (i+1)=ps.take i++[p]:=by rw[zy,hp];rfl
   refine⟨⟨rfl,rfl⟩,?_⟩;refine⟨_,rfl,_,rfl,rl,_,_,oV (AV kn p),rfl,rfl,AB.of jx,BB h0 (RB hkn h0 h1),rfl,_,rfl,?_⟩;rw[Gs];cases hd:AV kn p with
   | none=>refine Am ?_;exact⟨by rw[kD,WE hd];exact TA,s4,gV⟩
   | some d=>refine Aw ?_;refine⟨_,rfl,_,rfl,_,rfl,rl,_,_,.int d,rfl,rfl,AB.of jx,BB h0 (by rw[RB hkn h0 h1,hd];rfl),BO,fun q hq=>?_⟩;have nDq:D≠q:=zn gV hq;refine⟨by rw[zf nDq];exact gV,?_,BM (s4.trans (zL hq)) hD,zK⟩;rw[kD,Vi hd];refine (TA.keep fun b zs e=>?_).snoc ⟨q,rfl,by rw[zf nDq.symm,zK];rfl,by simp⟩;rw[zf (Ar e gV (by intro z;cases z)),zf (zn e hq)];exact e
 . obtain⟨TA,s4,gV⟩:=h;rw[zB,zY (zI _)] at TA;exact k D ys H4 s4 hD gV TA
theorem ba (F:Fu K "reached" D9 f gA):AH P w K mg base AL 1 f gA KL V4:=by
 refine F.okD IS fun _ A _ _ H vs Q E hr h=>?_;obtain⟨rl,pa,n,kn,ps,rfl,i4,hkn,iV,i5,gZ,k⟩:=h;refine⟨_,zh (AQ (A0 (own:=CK) (cn:=["row"]) (ci:=[0]) rfl (An rfl rfl) ⟨rfl,rfl,rfl,trivial⟩ rfl
  (CZ (pv 1)) (fun _ _ _ _=>Aq)
  (fun _ _ _ _=>Cn (Ad JZ (AK Bg (pv 1) (pv 0)) BK (AZ _)))
  (fun _ _ _ _=>Ba (zD (pv 0) (zD (AK Bg (pv 1) (pv 0)) zO))))),?_⟩
 refine⟨_,rfl,pa,rfl,⟨_,AE.of iV⟩,[.ref rl],rfl,fun D hD=>?_⟩;refine DM (a:=pa) (xs:=ps.map V.int) (fun i ys H4=>Ag H4 ys (BC kn (ps.take i))/\AF H H4/\H4 D=some (.lst ys)) ⟨by rw[List.take_zero];exact trivial,zL hD,zK⟩ (fun i ys H4 h=>?_) (fun i ys H4 h=>?_) (fun i v ys H4 hv h=>?_) (fun ys H4 h=>?_)
 . exact AE.of (h.2.1 _ _ iV)
 . have h1:=h.1.length;have h2:=RW kn (ps.take i);rw[zt] at h2;exact zr (by lia)
 . obtain⟨TA,s4,gV⟩:=h;obtain⟨p,hp,rfl⟩:∃p,ps[i]?=some p/\V.int p=v:=by
    rw[zM] at hv;cases e:ps[i]? with
    | none=>rw[e] at hv;cases hv
    | some p=>rw[e] at hv;exact⟨p,rfl,zV hv⟩
   obtain⟨h0,h1⟩:=i5 p (zP hp);have jx:=s4 _ _ i4;have kD:ps.take (i+1)=ps.take i++[p]:=by rw[zy,hp];rfl
   refine⟨⟨rfl,rfl⟩,?_⟩;refine⟨_,rfl,_,rfl,rl,_,_,oV (AV kn p),rfl,rfl,AB.of jx,BB h0 (RB hkn h0 h1),rfl,_,rfl,?_⟩;rw[Gs];cases hd:AV kn p with
   | none=>refine Am ?_;exact⟨by rw[kD,WE hd];exact TA,s4,gV⟩
   | some d=>refine Aw ?_;refine⟨_,rfl,_,rfl,_,rfl,rl,_,_,.int d,rfl,rfl,AB.of jx,BB h0 (by rw[RB hkn h0 h1,hd];rfl),BO,fun q hq=>?_⟩;have nDq:D≠q:=zn gV hq;refine⟨by rw[zf nDq];exact gV,?_,BM (s4.trans (zL hq)) hD,zK⟩;rw[kD,Vi hd];refine (TA.keep fun b zs e=>?_).snoc ⟨q,rfl,by rw[zf nDq.symm,zK];rfl,by simp⟩;rw[zf (Ar e gV (by intro z;cases z)),zf (zn e hq)];exact e
 . obtain⟨TA,s4,gV⟩:=h;rw[zB,zY (zI _)] at TA;exact k D ys H4 s4 hD gV TA
theorem HJ:AW ["place","row","posts","far","home","near"] LM (defScope QX):=AY
theorem UT :p∈WM.lowTo m↔0<=p/\p<m:=by
 unfold WM.lowTo;rw[zq];constructor
 . rintro ⟨i,hi,rfl⟩;have:=Cr.mp hi
   lia
 . rintro ⟨h0,h1⟩;exact⟨p.toNat,Cr.mpr (by lia),by lia⟩
theorem Xz (m):(WM.lowTo m).length=m:=by unfold WM.lowTo;rw[zB,Bv]
theorem So {ks:List (List Int)}(h:ks[i]?=some k):(ks.take (i+1)).filter f=(ks.take i).filter f++(if f k=true then [k] else []):=by rw[zy,h,Ga];show _++List.filter f [k]=_;rw[Et];rfl
theorem aC (T:Ag H ys ks)(h2:p2 ks)(h:∀hv home,Hc H hv home->Xe ks home->Q hv H):
 Ox ys ks H Q:=by
 refine⟨fun e=>h .non none rfl (Ep.mp (by rw[<-T.length,e];rfl)),fun i y k hy hk hb=>?_⟩;obtain⟨ya,k0,rfl,j7,iZ,_⟩:=T.get hy;rw[hk] at j7;cases j7;obtain⟨p,d,rfl⟩:=h2 k (zP hk);exact h (.ref ya) (some (p,d)) ⟨ya,rfl,iZ⟩ ⟨zP hk,fun k' iS=>hb k' iS⟩
theorem Qo (F:Ct K "near_label" "near_label" QX f gA c) (C:PySem.W.CodeHd base c PQ)(g6:Co mg base)(FR:AD K mg "reached" D9 fR fdR KL)
 (gH:mg "min"=none) (gN:mg "list"=none) (f7:mg "range"=none) (f9:mg "len"=none) (fw:mg "tuple"=none):AH P w K mg base AL 2 f gA LM (LP PQ):=by
 have GT:AJ P w base 1 FR Xo:=dg FR.F;have GL:AJ P w base 1 FR V4:=ba FR.F;refine F.ok HJ (fun vs H Q E h=>?_) (fun A outer s H vs Q E hr h=>?_)
 . obtain⟨x,n,rl,pa,kn,ps,rfl,_⟩:=h;rfl
 . obtain⟨x,n,rl,pa,kn,ps,rfl,i4,hkn,hn0,hn,iV,i5,gZ,T,k⟩:=h;refine⟨_,zW (Ak (i:=3) HJ.nd (AI GT hr FR (zD (pv 1) (zD (pv 2) zO))))
    (zW (DU (i:=4) HJ.nd rfl (Or.inr rfl) (dA (k:=0) (P:=PQ) (c:=c) (pn := "pair") rfl hr rfl gH (zD (pv 3) zO) rfl C g6 rfl rfl rfl (by decide +kernel) (Za rfl) rfl rfl (fun _ _ _ _ _ _ _=>rfl)))
    (zW (IE (i:=5) (own:=["pair"]) (cn:=["home"]) (ci:=[4]) HJ.nd rfl (Or.inl rfl) rfl (An rfl rfl) ⟨rfl,rfl,rfl,trivial⟩ rfl
     (CZ (AI GL hr FR (zD (pv 1) (zD (Rw rfl (by rfl) gN (by rfl) f7 (zD (Aj Bz f9 (zD (pv 1) zO)) zO)) zO))))
     (fun _ _ _ _=>Aq)
     (fun _ _ _ _=>Cn (PW.pt (DJ (Ad ID (pv 1) BK (AZ _)) (Es (Ad J6 (AK Bg (pv 0) zm) (AK Bg (pv 1) zm) (AZ _))))))
     (fun _ _ _ _=>pv 0))
    (zh (AQ (Ba (zD (pv 0) (zD (pv 4) (zD (Bi B9 fw (zD (pv 5) zO)) (zD (Bi B9 fw (zD (pv 3) zO)) zO))))))))),?_⟩
   refine⟨_,rfl,_,rfl,rl,pa,n,kn,ps,rfl,i4,hkn,iV,i5,gZ,fun fl jl H1 s1 hfl0 hfl TF=>?_⟩;have hlF:=TF.length;have hW:=RW kn ps;refine⟨_,rfl,fl,jl,BC kn ps,rfl,hfl,TF,Hz kn ps,T.same s1,fun H2 gi T2=>?_⟩;have TF2:Ag H2 jl (BC kn ps):=TF.keep fun b zs e=>gi.get e (by intro ps z;cases z);refine aC TF2 (Hz kn ps) fun hv home hH hO=>?_;have tup2:∀b ys,H1 b=some (.tup ys)->H2 b=some (.tup ys):=fun b ys e=>gi.get e (by intro ps z;cases z);have hrl2:H2 rl=some (.tup (kn.map oV)):=tup2 _ _ (s1 _ _ i4);have hfl2:H2 fl=some (.lst jl):=gi.get hfl (by intro ps z;cases z);refine⟨_,rfl,_,rfl,rl,_,rfl,.inr (AB.of hrl2),(kn.map oV).length,rfl,by lia,by rw[zB,hkn];lia,fun ll iW=>?_⟩;have eln:(((kn.map oV).length:Int)).toNat=n.toNat:=by rw[zB,hkn];lia
   rw[eln];have s3:=zL (o:=.lst ((WM.lowTo n.toNat).map V.int)) iW;refine⟨rl,ll,n,kn,WM.lowTo n.toNat,rfl,s3 _ _ hrl2,hkn,zK,fun p hp=>by have:=UT.mp hp;lia,by rw[Xz];lia,fun nl nys H4 s4 hnl0 iH TN=>?_⟩;have s24:=s3.trans s4;refine⟨nl,rfl,⟨_,AE.of iH⟩,[hv],rfl,fun D hD=>?_⟩;have hlN:=TN.length;have gS:=RW kn (WM.lowTo n.toNat);rw[Xz] at gS;refine DM (a:=nl) (xs:=nys) (fun i ys H5=>Ag H5 ys (((BC kn (WM.lowTo n.toNat)).take i).filter (DI home))/\AF H4 H5/\H5 D=some (.lst ys)) ⟨by rw[List.take_zero];exact trivial,zL hD,zK⟩ (fun i ys H5 h=>?_) (fun i ys H5 h=>?_) (fun i v ys H5 hv5 h=>?_) (fun ys H5 h=>?_)
   . exact AE.of (h.2.1 _ _ iH)
   . have h1:=h.1.length;have h2:=CH (DI home) ((BC kn (WM.lowTo n.toNat)).take i);have h3:=List.length_take_le i (BC kn (WM.lowTo n.toNat));rw[h1];refine zr ?_;have h4:((BC kn (WM.lowTo n.toNat)).take i).length<=(BC kn (WM.lowTo n.toNat)).length:=by rw[zt];lia
     lia
   . obtain⟨TA,s5,hZ⟩:=h;obtain⟨ya,kk,rfl,hkk,iZ,gL⟩:=TN.get hv5;obtain⟨p,d,rfl⟩:=Hz kn _ kk (zP hkk);have hya5:=s5 _ _ iZ;have H5H:Hc H5 hv home:=hH.keep fun b zs e=>s5 _ _ (s24 _ _ e);have grow:DI home [p,d]=true->Ag (upd H5 D (.lst (ys++[.ref ya]))) (ys++[.ref ya]) (((BC kn (WM.lowTo n.toNat)).take (i+1)).filter (DI home)):=fun hb=>by
      rw[So hkk,if_pos hb];refine (TA.keep fun b zs e=>?_).snoc ⟨ya,rfl,?_,by simp⟩
      . rw[zf (Ar e hZ (by intro z;cases z))];exact e
      . rw[zf (Ar hya5 hZ (by intro z;cases z))];exact hya5
     have stay:DI home [p,d]=false->Ag H5 ys (((BC kn (WM.lowTo n.toNat)).take (i+1)).filter (DI home)):=fun hb=>by rw[So hkk,hb,if_neg (by decide),BR];exact TA
     refine⟨⟨rfl,rfl⟩,?_⟩;refine⟨_,rfl,rfl,_,rfl,?_⟩;rw[hH.isN];cases home with
     | none=>exact Aw (Aw ⟨_,rfl,hZ,grow rfl,BM s5 hD,zK⟩)
     | some pd=>
      obtain⟨q,e⟩:=pd;obtain⟨ha,rfl,hha⟩:=H5H;refine Am ?_;refine⟨_,rfl,ya,_,_,.int d,rfl,rfl,AB.of hya5,rfl,_,rfl,ha,_,_,.int e,rfl,rfl,AB.of hha,rfl,_,_,rfl,rfl,_,rfl,?_⟩;refine CF (fun c=>?_) (fun c=>?_)
      . exact⟨_,rfl,hZ,grow c,BM s5 hD,zK⟩
      . exact⟨stay (by cases hz:DI (some (q,e)) [p,d] with
         | false=>rfl
         | true=>exact absurd hz c),s5,hZ⟩
   . obtain⟨TA,s5,hZ⟩:=h;rw[hlN,zY (zI _)] at TA;have hlA:=TA.length;refine⟨_,rfl,_,rfl,_,rfl,D,_,rfl,.inl ⟨AE.of hZ,fun na ig=>?_⟩⟩;have s6:=zL (o:=.tup ys) ig;have hfl6:=s6 _ _ (s5 _ _ (s24 _ _ hfl2));refine⟨_,rfl,fl,_,rfl,.inl ⟨AE.of hfl6,fun fa hfa=>?_⟩⟩;have s7:=zL (o:=.tup jl) hfa;refine⟨SD,fun L hL=>?_⟩;have s8:=zL (o:=.tup [.int x,hv,.ref na,.ref fa]) hL;have s58:=s6.trans (s7.trans s8);have s28:=(s24.trans s5).trans s58;have sm:AN PQ H _:=(AN.of s1).trans (gi.trans (AN.of s28));have hL0:H L=none:=by
      cases q:H L with
      | none=>rfl
      | some o=>
       rcases ((AN.of s1).trans (gi.trans (AN.of ((s24.trans s5).trans (s6.trans s7)))):AN PQ H _) L o q with ⟨rfl,ps',z⟩ | z
       . obtain⟨pt,hpt,_⟩:=T2;rw[((s24.trans s5).trans (s6.trans s7)) _ _ hpt] at hL;cases hL
       . rw[hL] at z;cases z
     have hlr:((BC kn (WM.lowTo n.toNat)).filter (DI home)).length<=24:=by
      have h2:=CH (DI home) (BC kn (WM.lowTo n.toNat))
      lia
     refine k L ⟨x,home,(BC kn (WM.lowTo n.toNat)).filter (DI home),BC kn ps⟩ _ sm (T2.same s28) hL0 ⟨⟨hv,na,fa,ys,jl,zK,hH.keep fun b zs e=>s28 _ _ e,s8 _ _ (s7 _ _ zK),TA.keep fun b zs e=>s58 _ _ e,s8 _ _ zK,TF.keep fun b zs e=>s28 _ _ (tup2 _ _ e)⟩,fun k' iS=>Hz kn _ k' (Bf.mp iS).1,Hz kn ps,by dsimp only;lia,by dsimp only;lia⟩ ⟨rfl,rfl,hO,rfl⟩
structure SV (H:Hp)(la:Addr)(n:Int)(M:M6)(ps:List Int):Prop where
 ex:∃Ls:List Addr,H la=some (.tup (Ls.map V.ref))/\Ls.length=n.toNat/\∀(i:Nat)(L:Addr),Ls[i]?=some L->∃A,DQ H L A/\CP n i (M.getD i []) ps A
theorem SV.at_ (h:SV H la n M ps)(h0:0<=x)(h1:x<n):∃(Ls:List Addr)(L:Addr)(A:NL),H la=some (.tup (Ls.map V.ref))/\(Ls.map V.ref)[x.toNat]?=some (.ref L)/\DQ H L A/\CP n x (M.getD x.toNat []) ps A:=by
 obtain⟨Ls,a,b,c⟩:=h.ex;have hl:x.toNat<Ls.length:=by lia
 obtain⟨A,d,e⟩:=c x.toNat Ls[x.toNat] (zC hl);rw[show ((x.toNat:Nat):Int)=x by lia] at e;exact⟨Ls,Ls[x.toNat],A,a,by rw[zM,zC hl];rfl,d,e⟩
def Sv (PT PQ:Addr):Sp:=fun vs H Q _=>∃wa pa n ts ps,vs=[.ref wa,.ref pa]/\Af H wa n ts/\H pa=some (.tup (ps.map V.int))/\Je n ps/\Tb H PT/\Tq H PQ /\
 ∀la M H',Dd PT PQ H H'->Tb H' PT->Tq H' PQ->Rows ts n M->SV H' la n M ps->Q (.ref la) H'
theorem Qv:AW K0 K0 (defScope Fp):=AY
theorem KQ (hPQ:PQ≠PT)(F:Fu K "near_labels" Fp f gA) (FA:AD K mg "are_places" Fn fA fdA Cw) (GA:AJ P w base 5 FA Te)
 (FL:AD K mg "lengths" Jg fL fdL Ai) (GL:AJ P w base 5 FL (N3 PT))
 (FN:Ct K "near_label" "near_label" QX fN fdN c) (bN:CU K fdN LM []) (mN:mg "near_label"=some (.ref fN)) (GN:AH P w K mg base AL 5 fN fdN LM (LP PQ))
 (fw:mg "tuple"=none) (iQ:mg "enumerate"=none):AH P w K mg base AL 6 f gA K0 (Sv PT PQ):=by
 refine F.okD Qv fun _ A _ _ H vs Q E hr h=>?_;obtain⟨wa,pa,n,ts,ps,rfl,W,iV,O,T,T',k⟩:=h;obtain⟨ta,tys,gF,_,_,G⟩:=id W;have iI:=G.n1;have gQ:=G.n24;refine⟨_,zW (Ap (CG (Bq (AI GA hr FA (zD (AK AX (pv 0) zm) (zD (pv 1) zO))))) (zh Ii) As)
  (zh (AQ (Bi B9 fw (zD
   (A0 (own:=["place","row"]) (cn:=["posts"]) (ci:=[1]) rfl (An rfl rfl) ⟨rfl,rfl,rfl,trivial⟩ rfl
    (Ym (by rfl) iQ (zD (AI GL hr FL (zD (pv 0) zO)) zO))
    (fun _ _ _ _=>Mn (n:=2) rfl (BF (Aq) (BF (DZ (i:=1) (Ex rfl) rfl (Or.inl rfl)) E2)))
    (fun _ _ _ _=>BI)
    (fun _ _ _ _=>Eg GN hr rfl mN FN.kp bN .nil Ei (zD (pv 0) (zD (pv 1) (zD (pv 2) zO))))) zO)))),?_⟩
 refine⟨_,rfl,wa,_,_,_,rfl,rfl,AB.of gF,rfl,_,rfl,n,pa,ps,rfl,iV,O,gQ,fun H1 s1=>?_⟩;refine⟨true,rfl,Am ?_⟩;refine⟨_,rfl,wa,n,ts,rfl,W.keep s1,T.same s1,fun l rs M H2 gi T2 hl R RO=>?_⟩;have T2':Tq H2 PQ:=gi.tab hPQ (T'.same s1);have hpa2:H2 pa=some (.tup (ps.map V.int)):=gi.get (s1 _ _ iV) (by intro ps z;cases z);have hMl:=RO.1;have i4:=R.1;refine⟨l,rfl,⟨_,AB.of hl⟩,[.ref pa],rfl,fun D hD=>?_⟩;refine bL (a:=l) (xs:=rs.map V.ref) (fun i ys H3=>∃Ls:List Addr,ys=Ls.map V.ref/\Ls.length=i/\i<=n.toNat/\(∀(j:Nat)(L:Addr),Ls[j]?=some L->∃A,DQ H3 L A/\CP n j (M.getD j []) ps A)/\AN PQ H2 H3/\Tq H3 PQ/\H3 D=some (.lst ys))
  ⟨[],rfl,rfl,zg _,fun j L h=>by simp at h,AN.of (zL hD),T2'.same (zL hD),zK⟩ (fun i ys H3 h=>?_) (fun i ys H3 h=>?_) (fun i v ys H3 Tp hv h hTp=>?_) (fun ys H3 h=>?_)
 . obtain⟨Ls,_,_,_,_,gy,_⟩:=h;exact AB.of (gy.get hl (by intro ps z;cases z))
 . obtain⟨Ls,rfl,iW,hi,_⟩:=h;rw[zB,iW];exact zr (by lia)
 . obtain⟨Ls,rfl,iW,hi,hA,gy,T3,iD⟩:=h;obtain⟨r,gW,rfl⟩:∃r,rs[i]?=some r/\V.ref r=v:=by
    rw[zM] at hv;cases e:rs[i]? with
    | none=>rw[e] at hv;cases hv
    | some r=>rw[e] at hv;exact⟨r,rfl,zV hv⟩
   have j9:i<rs.length:=(zH.mp gW).1;have hiM:i<M.length:=by lia
   have hU:H3 r=some (.tup ((M.getD i []).map oV)):=by refine gy.get (R.2 i r _ gW ?_) (by intro ps z;cases z);rw[zF,zC hiM];rfl
   have sT:=zL (o:=.tup [.int (i:Int),.ref r]) hTp;have LL:=RO.2 i (by lia) (by lia);rw[show ((i:Int)).toNat=i by lia] at LL;refine⟨Tp,_,rfl,AB.of zK,rfl,_,_,rfl,_,_,rfl,rfl,⟨rfl,rfl⟩,?_⟩;refine BH ?_;have hpa3:H3 pa=some (.tup (ps.map V.int)):=gy.get hpa2 (by intro ps z;cases z);refine⟨_,rfl,_,rfl,_,rfl,(i:Int),n,r,pa,M.getD i [],ps,rfl,sT _ _ hU,LL.ln,by lia,gQ,sT _ _ hpa3,O.rng,by have:=O.ln;lia,T3.same sT,fun L A H4 sm4 T4 hL0 LA NA=>?_⟩;have sm34:AN PQ H3 H4:=(AN.of sT).trans sm4;have gV:H4 D=some (.lst (Ls.map V.ref)):=sm34.get iD (by intro ps z;cases z);have tupD:∀b zs,H4 b=some (.tup zs)->(upd H4 D (.lst (Ls.map V.ref++[.ref L]))) b=some (.tup zs):=fun b zs e=>by rw[zf (Ar e gV (by intro z;cases z))];exact e
   refine⟨gV,Ls++[L],by rw[zQ];rfl,by rw[zJ,iW];rfl,by lia,fun j L' hj=>?_,(gy.trans sm34).chg hD,T4.chg gV,zK⟩;by_cases hjl:j<Ls.length
   . rw[zc hjl] at hj;obtain⟨B,hB,hB'⟩:=hA j L' hj;exact⟨B,(hB.keep fun b zs e=>sm34.get e (by intro ps z;cases z)).keep tupD,hB'⟩
   . rw[za (by lia)] at hj;cases hz:j-Ls.length with
     | zero=>
      rw[hz] at hj;have e1:L=L':=by simpa using hj
      subst e1;have e2:j=i:=by lia
      subst e2;exact⟨A,LA.keep tupD,NA⟩
     | succ z=>rw[hz] at hj;simp at hj
 . obtain⟨Ls,rfl,iW,hi,hA,gy,T3,iD⟩:=h;rw[zB] at iW;refine⟨D,_,rfl,.inl ⟨AE.of iD,fun la gx=>?_⟩⟩;have s4:=zL (o:=.tup (Ls.map V.ref)) gx;have smq:AN PQ H2 _:=gy.trans (AN.of s4);have hPT2:PT≠PQ:=fun z=>hPQ z.symm;refine k la M _ ((MO ((AN.of s1).trans gi)).trans (QD smq)) (smq.tab hPT2 T2) (T3.same s4) RO ⟨Ls,zK,by lia,fun i L e=>?_⟩;obtain⟨A,hA1,hA2⟩:=hA i L e;exact⟨A,hA1.same s4,hA2⟩
theorem aj (s:AF H H')(h:H' p=none):H p=none:=by
 cases e:H p with
 | none=>rfl
 | some o=>rw[s p o e] at h;cases h
noncomputable def lin (ks:List (List Int))(p:Int):List Int:=(ks.filter fun k=>decide (k.getD 0 0=p)).map fun k=>k.getD 1 0
theorem RT (h2:p2 ks):v∈lin ks p↔[p,v]∈ks:=by
 unfold lin;rw[zq];constructor
 . rintro ⟨k,hk,rfl⟩;obtain⟨hm,e⟩:=Bf.mp hk;obtain⟨a,b,rfl⟩:=h2 k hm;have e':a=p:=of_decide_eq_true e;subst e';exact hm
 . intro h;exact⟨[p,v],Bf.mpr ⟨h,zR rfl⟩,rfl⟩
theorem Wj {ks:List (List Int)}(h:ks[i]?=some [a,b]):lin (ks.take (i+1)) p=lin (ks.take i) p++(if a=p then [b] else []):=by
 unfold lin;rw[So h,zQ];congr 1;by_cases c:a=p
 . rw[if_pos (show decide (([a,b]:List Int).getD 0 0=p)=true from zR c),if_pos c];rfl
 . rw[if_neg (show ¬ decide (([a,b]:List Int).getD 0 0=p)=true from fun z=>c (of_decide_eq_true z)),if_neg c];rfl
theorem OL (ks)(p):(lin ks p).length<=ks.length:=by unfold lin;rw[zB];exact CH _ _
noncomputable def CD (A B:NL):List Int:=match A.home with
 | none=>[]
 | some (p,d)=>(lin B.far p).map fun l=>d+l
theorem YL (A B:NL):(CD A B).length<=B.far.length:=by
 unfold CD;split
 . exact zg _
 . rw[zB];exact OL _ _
def Qg (S:List Int):Option Int->Prop
 | none=>S=[]
 | some m=>m∈S/\∀a∈S,m<=a
def VS (F S:List Int)(o:Option Int):Prop:=(F=[]/\Qg S o)\/∃v r,F=v::r/\o=some v
def UA:Sp:=fun vs H Q _=>∃pa ys ks p,vs=[.ref pa,.int p]/\H pa=some (.tup ys)/\Ag H ys ks/\p2 ks/\ks.length<=100 /\
 ∀l H',AF H H'->H l=none->H' l=some (.lst ((lin ks p).map V.int))->Q (.ref l) H'
def XO:Sp:=fun vs H Q _=>∃la lb A B,vs=[.ref la,.ref lb]/\DQ H la A/\DQ H lb B /\
 ∀l H',AF H H'->H l=none->H' l=some (.lst ((CD A B).map V.int))->Q (.ref l) H'
def Tc:Sp:=fun vs H Q _=>∃la lb A B,vs=[.ref la,.ref lb]/\DQ H la A/\DQ H lb B /\
 ∀o H',AF H H'->VS (lin B.near A.x++lin A.near B.x) (CD A B++CD B A) o->Q (oV o) H'
theorem QY:AW La La (defScope D8):=AY
theorem VW (F:Fu K "lengths_in" D8 f gA):AH P w K mg base AL 1 f gA La UA:=by
 refine F.okD QY fun _ A _ _ H vs Q E hr h=>?_;obtain⟨pa,ys,ks,p,rfl,iV,TA,h2,hl,k⟩:=h;refine⟨_,zh (AQ (A0 (own:=["other","long"]) (cn:=CK) (ci:=[1]) rfl (An rfl rfl) ⟨rfl,rfl,rfl,trivial⟩ rfl
  (Bo (pv 0)) (fun _ _ _ _=>Mn (n:=2) rfl (BF (Aq) (BF (DZ (i:=1) (Ex rfl) rfl (Or.inl rfl)) E2)))
  (fun _ _ _ _=>Cn (Ad CN (pv 0) (pv 2) (AZ _))) (fun _ _ _ _=>pv 1))),?_⟩
 refine⟨_,rfl,pa,rfl,⟨_,AB.of iV⟩,[.int p],rfl,fun D hD=>?_⟩;have hlT:=TA.length;refine C8 (a:=pa) (xs:=ys) (fun i zs H4=>zs=(lin (ks.take i) p).map V.int/\H4=upd H D (.lst zs)) ⟨by rw[List.take_zero];rfl,rfl⟩ (fun i zs H4 h=>?_) (fun i zs H4 h=>?_) (fun i v zs H4 hv h=>?_) (fun zs H4 h=>?_)
 . obtain⟨_,rfl⟩:=h;exact AB.of (zL hD _ _ iV)
 . obtain⟨rfl,_⟩:=h;have h1:=OL (ks.take i) p;rw[zt] at h1;rw[zB];exact zr (by lia)
 . obtain⟨rfl,rfl⟩:=h;obtain⟨ya,kk,rfl,hkk,iZ,_⟩:=TA.get hv;obtain⟨a,b,rfl⟩:=h2 kk (zP hkk);refine⟨ya,_,rfl,AB.of (zL hD _ _ iZ),rfl,_,_,rfl,_,_,rfl,rfl,⟨rfl,rfl⟩,?_⟩;refine⟨_,rfl,_,rfl,rfl,_,rfl,?_⟩;rw[Hh];refine CF (fun c=>?_) (fun c=>?_)
   . refine⟨_,rfl,zK,?_,BQ⟩;rw[Wj hkk,if_pos (of_decide_eq_true c),zQ];rfl
   . refine⟨?_,rfl⟩;rw[Wj hkk,if_neg (fun z=>c (zR z)),BR]
 . obtain⟨rfl,rfl⟩:=h;rw[hlT,zY (zI _)];exact k D _ (zL hD) hD zK
theorem WN:AW ["one","other","home"] Bc (defScope Nr):=AY
theorem eO (F:Fu K "sums_by_home" Nr f gA) (FL:AD K mg "lengths_in" D8 fL fdL La):AH P w K mg base AL 2 f gA Bc XO:=by
 have GL:AJ P w base 1 FL UA:=VW FL.F;refine F.ok WN (fun vs H Q E h=>?_) (fun gP A' outer s H vs Q E hr h=>?_)
 . obtain⟨la,lb,A,B,rfl,_⟩:=h;rfl
 . obtain⟨la,lb,A,B,rfl,LA,LB,k⟩:=h;refine⟨_,zW (DU (i:=2) WN.nd rfl (Or.inr rfl) (AK AX (pv 0) zm))
    (zW (Ap (Ad ID (pv 2) BK (AZ _)) (zh (AQ (DR zO))) As)
    (zh (AQ (A0 (own:=["long"]) (cn:=["home"]) (ci:=[2]) rfl (An rfl rfl) ⟨rfl,rfl,rfl,trivial⟩ rfl
     (CZ (AI GL hr FL (zD (AK AX (pv 1) zm) (zD (AK AX (pv 2) zm) zO))))
     (fun _ _ _ _=>Aq) (fun _ _ _ _=>BI)
     (fun _ _ _ _=>Ac Ci (AK Bg (pv 1) zm) (pv 0)))))),?_⟩
   obtain⟨hv,na,fa,nys,jl,gx,hH,ig,TN,hfa,TF⟩:=LA.ex;obtain⟨hv',nb,fb,nys',fys',hlb,hH',hnb,TN',hfb,TF'⟩:=LB.ex;refine⟨_,rfl,la,_,_,hv,rfl,rfl,AB.of gx,rfl,?_⟩;refine⟨_,rfl,rfl,_,rfl,?_⟩;rw[hH.isN];cases hh:A.home with
   | none=>refine Aw ?_;refine⟨Em,fun l hl=>?_⟩;refine k l _ (zL hl) hl ?_;unfold CD;rw[hh];exact zK
   | some pd=>
    obtain⟨p,d⟩:=pd;rw[hh] at hH;obtain⟨ha,rfl,hha⟩:=hH;refine Am ?_;refine⟨_,rfl,lb,_,_,.ref fb,rfl,rfl,AB.of hlb,rfl,_,rfl,ha,_,_,.int p,rfl,rfl,AB.of hha,rfl,fb,fys',B.far,p,rfl,hfb,TF',LB.f2,LB.fl,fun l H1 s1 jQ hl=>?_⟩;refine⟨l,rfl,⟨_,AE.of hl⟩,[.ref ha],rfl,fun D hD=>?_⟩;have iW:=OL B.far p;have hfl:=LB.fl;refine DM (a:=l) (xs:=(lin B.far p).map V.int) (fun i zs H4=>zs=(((lin B.far p).take i).map fun l=>d+l).map V.int/\H4=upd H1 D (.lst zs)) ⟨by rw[List.take_zero];rfl,rfl⟩ (fun i zs H4 h=>?_) (fun i zs H4 h=>?_) (fun i v zs H4 hv h=>?_) (fun zs H4 h=>?_)
    . obtain⟨_,rfl⟩:=h;exact AE.of (zL hD _ _ hl)
    . obtain⟨rfl,_⟩:=h;rw[zB,zB,zt];exact zr (by lia)
    . obtain⟨rfl,rfl⟩:=h;obtain⟨b,hb,rfl⟩:∃b,(lin B.far p)[i]?=some b/\V.int b=v:=by
       rw[zM] at hv;cases e:(lin B.far p)[i]? with
       | none=>rw[e] at hv;cases hv
       | some b=>rw[e] at hv;exact⟨b,rfl,zV hv⟩
      refine⟨⟨rfl,rfl⟩,?_⟩;refine BH ?_;refine⟨_,rfl,ha,_,_,.int d,rfl,rfl,AB.of (zL hD _ _ (s1 _ _ hha)),rfl,_,rfl,_,_,rfl,rfl,zK,?_,BQ⟩;rw[zy,hb,zQ,zQ];rfl
    . obtain⟨rfl,rfl⟩:=h;rw[zB,zY (zI _)];refine k D _ (s1.trans (zL hD)) (aj s1 hD) ?_;unfold CD;rw[hh];exact zK
theorem Wh:AW ["one","other","found"] Bc (defScope NV):=AY
theorem cS (F:Fu K "near_told" NV f gA) (FL:AD K mg "lengths_in" D8 fL fdL La)
 (FS:AD K mg "sums_by_home" Nr fS fdS Bc) (gH:mg "min"=none):AH P w K mg base AL 3 f gA Bc Tc:=by
 have GL:AJ P w base 2 FL UA:=(VW FL.F).mono;have GS:AJ P w base 2 FS XO:=eO FS.F FL;refine F.ok Wh (fun vs H Q E h=>?_) (fun gP A' outer s H vs Q E hr h=>?_)
 . obtain⟨la,lb,A,B,rfl,_⟩:=h;rfl
 . obtain⟨la,lb,A,B,rfl,LA,LB,k⟩:=h;have hu:=Fy hr;refine⟨_,zW (Ak (i:=2) Wh.nd (Ac Wz (AI GL hr FL (zD (AK AX (pv 1) zm) (zD (AK AX (pv 0) zm) zO)))
    (AI GL hr FL (zD (AK AX (pv 0) zm) (zD (AK AX (pv 1) zm) zO)))))
    (zW (Ap (UB (pv 2) (fun _=>rfl)) (zh (AQ (AK BU (pv 2) zm))) As)
    (zh (AQ (OE rfl hu (by rfl) gH (zD (Ac Wz (AI GS hr FS (zD (pv 0) (zD (pv 1) zO))) (AI GS hr FS (zD (pv 1) (zD (pv 0) zO)))) zO) BK)))),?_⟩
   obtain⟨hv,na,fa,nys,jl,gx,hH,ig,TN,hfa,TF⟩:=LA.ex;obtain⟨hv',nb,fb,nys',fys',hlb,hH',hnb,TN',hfb,TF'⟩:=LB.ex;refine⟨_,rfl,lb,_,_,.ref nb,rfl,rfl,AB.of hlb,rfl,_,rfl,la,_,_,.int A.x,rfl,rfl,AB.of gx,rfl,nb,nys',B.near,A.x,rfl,hnb,TN',LB.n2,LB.nl,fun l1 H1 s1 hl10 hW=>?_⟩;refine⟨_,rfl,la,_,_,.ref na,rfl,rfl,AB.of (s1 _ _ gx),rfl,_,rfl,lb,_,_,.int B.x,rfl,rfl,AB.of (s1 _ _ hlb),rfl,na,nys,A.near,B.x,rfl,s1 _ _ ig,TN.keep fun b zs e=>s1 _ _ e,LA.n2,LA.nl,fun l2 H2 s2 hl20 gS=>?_⟩;have e1:=OL B.near A.x;have e2:=OL A.near B.x;have e3:=LA.nl;have e4:=LB.nl;refine⟨l1,l2,_,_,rfl,rfl,s2 _ _ hW,gS,by rw[zB,zB];exact Ea (zr (by lia)),fun l3 hl3=>?_⟩;rw[<-zQ];have s3:=zL (o:=.lst ((lin B.near A.x++lin A.near B.x).map V.int)) hl3;have iF:=(s1.trans s2).trans s3;cases hF:lin B.near A.x++lin A.near B.x with
   | cons v r=>rw[hF] at s3 iF;refine⟨_,rfl,true,.inl ⟨_,AE.of zK,rfl⟩,Aw ?_⟩;refine⟨_,rfl,l3,_,_,.int v,rfl,rfl,AE.of zK,BB (by decide) rfl,?_⟩;exact k (some v) _ iF (.inr ⟨v,r,hF,rfl⟩)
   | nil=>
    rw[hF] at s3 iF;refine⟨_,rfl,false,.inl ⟨_,AE.of zK,rfl⟩,Am ?_⟩;refine⟨_,rfl,_,rfl,la,lb,A,B,rfl,LA.same iF,LB.same iF,fun l4 H4 s4 hl40 hl4=>?_⟩;refine⟨_,rfl,_,rfl,lb,la,B,A,rfl,(LB.same iF).same s4,(LA.same iF).same s4,fun l5 H5 s5 hl50 hl5=>?_⟩;have e5:=YL A B;have e6:=YL B A;have e7:=LA.fl;have e8:=LB.fl;refine⟨l4,l5,_,_,rfl,rfl,s5 _ _ hl4,hl5,by rw[zB,zB];exact Ea (zr (by lia)),fun l6 hl6=>?_⟩;rw[<-zQ];have s6:=zL (o:=.lst ((CD A B++CD B A).map V.int)) hl6;have s06:=((iF.trans s4).trans s5).trans s6;refine⟨_,rfl,l6,_,rfl,.inl (AE.of zK),fun z=>?_,.inr ⟨_,rfl,fun m hm hb=>?_⟩⟩
    . exact k none _ s06 (.inl ⟨hF,Jm.mp z⟩)
    . exact k (some m) _ s06 (.inl ⟨hF,hm,hb⟩)
noncomputable def Ip:Option (Int×Int)->List (List Int)->List Int
 | none,_=>[]
 | some (p,d),far=>(lin far p).map fun l=>d+l
theorem Y3 (A B:NL):CD A B=Ip A.home B.far:=by
 unfold CD;split <;> rename_i e
 . rw[e];rfl
 . rw[e];rfl
theorem YU (R:Rows ts n M)(x0:0<=x)(x1:x<n)(y0:0<=y)(y1:y<n):AV (M.getD x.toNat []) y=AV (M.getD y.toNat []) x:=
 A6.uniq ((R.2 x x0 x1).len y y0 y1) (A6.symm ((R.2 y y0 y1).len x x0 x1))
theorem Jn (R:Rows ts n M)(x0:0<=x)(x1:x<n)(y0:0<=y)(y1:y<n)(h:AV (M.getD x.toNat []) y=some d):IsD ts x y d:=by have l:=(R.2 x x0 x1).len y y0 y1;rw[h] at l;exact l
theorem CP.n2 (N:CP n x kn ps A):p2 A.near:=by rw[N.near_];exact fun k hk=>Hz _ _ k (Bf.mp hk).1
theorem CP.mem (N:CP n x kn ps A):[q,v]∈A.near↔(0<=q/\q<n)/\AV kn q=some v/\DI A.home [q,v]=true:=by
 rw[N.near_,Bf,Mq];constructor
 . rintro ⟨⟨p,d,e,hp,hf⟩,hb⟩;simp only[List.cons.injEq,and_true] at e;obtain⟨rfl,rfl⟩:=e;have:=UT.mp hp;exact⟨by lia,hf,hb⟩
 . rintro ⟨h,hf,hb⟩;exact⟨⟨q,v,rfl,UT.mpr (by lia),hf⟩,hb⟩
theorem CP.lin {n x q v:Int}{kn:List (Option Int)}{ps:List Int}{A:NL}(N:CP n x kn ps A)(h:v∈lin A.near q):AV kn q=some v:=(N.mem.mp ((RT N.n2).mp h)).2.1
theorem aR (R:Rows ts n M)(NA:CP n x (M.getD x.toNat []) ps A)(NB:CP n y (M.getD y.toNat []) ps B)(x0:0<=x)(x1:x<n)(y0:0<=y)(y1:y<n)(h:v∈lin B.near A.x\/v∈lin A.near B.x):AV (M.getD x.toNat []) y=some v:=by
 rw[NA.x_,NB.x_] at h;rcases h with h | h
 . rw[YU R x0 x1 y0 y1];exact NB.lin h
 . exact NA.lin h
theorem VR (R:Rows ts n M)(O:Je n ps)(NA:CP n x (M.getD x.toNat []) ps A)(NB:CP n y (M.getD y.toNat []) ps B)(x0:0<=x)(x1:x<n)(y0:0<=y)(y1:y<n)(h:s∈CD A B):∃d,AV (M.getD x.toNat []) y=some d/\d<=s:=by
 have hO:=NA.home_;rw[Y3] at h;cases hh:A.home with
 | none=>rw[hh] at h;simp[Ip] at h
 | some pd=>obtain⟨p,dp⟩:=pd;rw[hh] at h hO;obtain⟨e,he,rfl⟩:=zq.mp (show s∈(lin B.far p).map fun l=>dp+l from h);rw[NB.far_] at he;obtain⟨p',e',z,hp,hye⟩:=Mq.mp ((RT (Hz _ _)).mp he);simp only[List.cons.injEq,and_true] at z;obtain⟨rfl,rfl⟩:=z;obtain⟨p',d',z,_,hxp⟩:=Mq.mp hO.1;simp only[List.cons.injEq,and_true] at z;obtain⟨rfl,rfl⟩:=z;obtain⟨p0,p1⟩:=O.rng p hp;have ixp:=Jn R x0 x1 p0 p1 hxp;have iyp:=Jn R y0 y1 p0 p1 hye;obtain⟨d,hd,_⟩:=A6.via (IsD.symm ixp) (IsD.symm iyp) ((R.2 x x0 x1).len y y0 y1);obtain⟨b,hb,hle⟩:=A6.via ixp (Jn R x0 x1 y0 y1 hd) (show A6 ts p y (some e) from IsD.symm iyp);rw[zV hb];exact⟨d,hd,by rw[<-zV hb];rw[<-zV hb] at hle;exact hle⟩
theorem Zx (R:Rows ts n M)(O:Je n ps)(NA:CP n x (M.getD x.toNat []) ps A)(NB:CP n y (M.getD y.toNat []) ps B)(x0:0<=x)(x1:x<n)(y0:0<=y)(y1:y<n)(hd:AV (M.getD x.toNat []) y=some d)(hh:A.home=some (p,dp)):∃e,dp+e∈CD A B/\e<=d+dp:=by have hO:=NA.home_;rw[hh] at hO;obtain⟨p',d',z,hp,hxp⟩:=Mq.mp hO.1;simp only[List.cons.injEq,and_true] at z;obtain⟨rfl,rfl⟩:=z;obtain⟨p0,p1⟩:=O.rng p hp;have ixp:=Jn R x0 x1 p0 p1 hxp;have ixy:=Jn R x0 x1 y0 y1 hd;obtain⟨e,he,_⟩:=A6.via ixy ixp ((R.2 y y0 y1).len p p0 p1);obtain⟨b,hb,hle⟩:=A6.via (IsD.symm ixy) (Jn R y0 y1 p0 p1 he) (show A6 ts x p (some dp) from ixp);rw[<-zV hb] at hle;refine⟨e,?_,hle⟩;rw[Y3,hh];refine zq.mpr ⟨e,?_,rfl⟩;rw[NB.far_];exact (RT (Hz _ _)).mpr (Mq.mpr ⟨p,e,rfl,hp,he⟩)
theorem told_right (G:GW n ts)(R:Rows ts n M)(O:Je n ps)(NA:CP n x (M.getD x.toNat []) ps A)(NB:CP n y (M.getD y.toNat []) ps B)(x0:0<=x)(x1:x<n)(y0:0<=y)(y1:y<n)
 (h:VS (lin B.near A.x++lin A.near B.x) (CD A B++CD B A) o):
 (AV (M.getD x.toNat []) y=none->o=none)/\∀d,AV (M.getD x.toNat []) y=some d->∃v,o=some v/\d<=v/\v<=3*d/\(y∈A.near.map (fun k=>k.getD 0 0)->v=d):=by
 have all:∀v,v∈lin B.near A.x++lin A.near B.x->AV (M.getD x.toNat []) y=some v:=fun v hv=>aR R NA NB x0 x1 y0 y1 (zU.mp hv);have low:∀s,s∈CD A B++CD B A->∃d,AV (M.getD x.toNat []) y=some d/\d<=s:=fun s hs=>by
  rcases zU.mp hs with z | z
  . exact VR R O NA NB x0 x1 y0 y1 z
  . rw[YU R x0 x1 y0 y1];exact VR R O NB NA y0 y1 x0 x1 z
 constructor
 . intro hn;rcases h with ⟨_,hm⟩ | ⟨v,r,hF,rfl⟩
   . cases o with
     | none=>rfl
     | some m=>obtain⟨d,hd,_⟩:=low m hm.1;rw[hn] at hd;cases hd
   . have:=all v (by rw[hF];exact zS);rw[hn] at this;cases this
 . intro d hd;have d0:=(cC G x y x0 x1 d (Jn R x0 x1 y0 y1 hd)).1;rcases h with ⟨hF,hm⟩ | ⟨v,r,hF,rfl⟩
   . have hA:lin A.near B.x=[]:=(List.append_eq_nil_iff.mp hF).2;have noN:∀v,[y,v]∉A.near:=fun v hv=>by have:=(RT NA.n2).mpr hv;rw[NB.x_] at hA;rw[hA] at this;simp at this
     have nb:DI A.home [y,d]=false:=by
      cases e:DI A.home [y,d] with
      | false=>rfl
      | true=>exact absurd (NA.mem.mpr ⟨⟨y0,y1⟩,hd,e⟩) (noN d)
     cases hh:A.home with
     | none=>rw[hh] at nb;cases nb
     | some pd=>
      obtain⟨p,dp⟩:=pd;rw[hh] at nb;have hdp:¬ d<dp:=of_decide_eq_false (show decide (d<dp)=false from nb);obtain⟨e,he,hle⟩:=Zx R O NA NB x0 x1 y0 y1 hd hh;cases o with
      | none=>rw[(List.append_eq_nil_iff.mp (show CD A B++CD B A=[] from hm)).1] at he;simp at he
      | some m=>
       refine⟨m,rfl,?_,?_,fun z=>?_⟩
       . obtain⟨d',hd',hle'⟩:=low m hm.1;rw[hd] at hd';cases hd';exact hle'
       . have:=hm.2 (dp+e) (Di _ he)
         lia
       . obtain⟨k,hk,e0⟩:=zq.mp z;obtain⟨a,b,rfl⟩:=NA.n2 k hk;have e1:a=y:=e0;subst e1;exact absurd hk (noN b)
   . have:=all v (by rw[hF];exact zS);rw[hd] at this;cases this;exact⟨d,rfl,E3 _,by lia,fun _=>rfl⟩
def Iq:Sp:=fun vs H Q _=>∃p q es fs,vs=[.ref p,.ref q]/\DS H p es/\DS H q fs/\Mu fs /\
 ∀r lm H',AF H H'->HD (Cd es fs) lm->H' r=some (.tup [oV (lm.map (·.1)),oV (lm.map (·.2))])->Q (.ref r) H'
def UR:Sp:=fun vs H Q _=>∃p q es fs,vs=[.ref p,.ref q]/\DS H p es/\DS H q fs/\Mu fs /\
 ∀lm H',AF H H'->HD (Cd es fs) lm->Q (oV (lm.map (·.1))) H'
theorem US:AW ["one","other","longs","sums"] Bc (defScope Fd):=AY
theorem KR (F:Fu K "least_sum" Fd f gA) (ip:mg "dict"=none) (gH:mg "min"=none):AH P w K mg base AL 1 f gA Bc Iq:=by
 refine F.okD US fun _ A _ _ H vs Q E hr h=>?_;obtain⟨p,q,es,fs,rfl,L1,L2',hF,k⟩:=h;obtain⟨as,hp,EA,hl⟩:=id L1;obtain⟨bs,hq,EB,gS⟩:=id L2';have hu:=Fy hr;refine⟨_,zW (DU (i:=2) US.nd rfl (Or.inr rfl) (Bi (ZP rfl) ip (zD
  (A0 (own:=["hub","long","up","down"]) (cn:=[]) (ci:=[]) rfl (An rfl rfl) trivial rfl (Bo (pv 1))
   (fun _ _ _ _=>Mn (n:=4) rfl (BF (Aq) (BF (DZ (i:=1) (Ex rfl) rfl (Or.inl rfl)) (BF (DZ (i:=2) (Ex rfl) rfl (Or.inl rfl)) (BF (DZ (i:=3) (Ex rfl) rfl (Or.inl rfl)) E2)))))
   (fun _ _ _ _=>BI) (fun _ _ _ _=>Ba (zD (pv 0) (zD (pv 1) zO)))) zO)))
  (zW (IE (i:=3) (own:=["hub","long","up","down"]) (cn:=["longs"]) (ci:=[2]) US.nd rfl (Or.inl rfl) rfl (An rfl rfl) ⟨rfl,rfl,rfl,trivial⟩ rfl (Bo (pv 0))
   (fun _ _ _ _=>Mn (n:=4) rfl (BF (Aq) (BF (DZ (i:=1) (Ex rfl) rfl (Or.inl rfl)) (BF (DZ (i:=2) (Ex rfl) rfl (Or.inl rfl)) (BF (DZ (i:=3) (Ex rfl) rfl (Or.inl rfl)) E2)))))
   (fun _ _ _ _=>Cn (WH (Ys hu (pv 0) (pv 4)))) (fun _ _ _ _=>Ba (zD (Ac Ci (pv 1) (Tn hu (pv 4) (pv 0) (fun _ _=>rfl))) (zD (pv 0) zO))))
  (zh (AQ (OE rfl hu (by rfl) gH (zD (pv 3) zO) (Ba (zD BK (zD BK zO))))))),?_⟩
 refine⟨_,rfl,q,rfl,⟨_,AB.of hq⟩,[],rfl,fun D hD=>?_⟩;refine C8 (a:=q) (xs:=bs.map V.ref) (fun i ys H4=>i<=fs.length/\ys.length=i/\(∀(j:Nat)(y:V),ys[j]?=some y->∃c e,y=.ref c/\fs[j]?=some e/\H4 c=some (.tup [.int e.h,.int e.l]))/\AF H H4/\H4 D=some (.lst ys)) ⟨zg _,rfl,fun j y z=>by simp at z,zL hD,zK⟩ (fun i ys H4 h=>?_) (fun i ys H4 h=>?_) (fun i v ys H4 hv h=>?_) (fun ys H4 h=>?_)
 . exact AB.of (h.2.2.2.1 _ _ hq)
 . exact Wm (by have:=h.1;have:=h.2.1;lia)
 . obtain⟨hi,hyl,hys,s4,gV⟩:=h;obtain⟨a,x,rfl,hx,ha⟩:=EB.at hv;refine⟨a,_,rfl,AB.of (s4 _ _ ha),rfl,_,_,rfl,_,_,rfl,_,_,rfl,_,_,rfl,rfl,⟨rfl,rfl⟩,?_⟩;refine BH ?_;refine⟨_,rfl,_,rfl,BO,fun c hc=>?_⟩;have nDc:D≠c:=zn gV hc;refine⟨zL hc _ _ gV,(zH.mp hx).1,by rw[zJ,hyl];rfl,fun j y hy=>?_,BM (s4.trans (zL hc)) hD,zK⟩;by_cases cj:j<i
   . rw[zc (by lia)] at hy;obtain⟨c',e,h1,h2,h3⟩:=hys j y hy;refine⟨c',e,h1,h2,?_⟩;rw[zf (Ar h3 gV (by intro z;cases z))];exact zL hc _ _ h3
   . have ej:j=i:=by have:=(zH.mp hy).1;rw[zJ,hyl] at this;simp at this;lia
     subst ej;rw[za (by lia),hyl,Ge] at hy;have ey:V.ref c=y:=by simpa using hy
     subst ey;exact⟨c,x,rfl,hx,by rw[zf (Ne.symm nDc)];exact zK⟩
 . obtain⟨_,hyl,hys,s4,gV⟩:=h;rw[zB,EB.1] at hyl;refine⟨D,ys,fs.map fun e=>(Sum.inl e.h,V.int e.l),rfl,AE.of gV,⟨by rw[zB,hyl],fun j y hy=>?_⟩,fun dd hdd=>?_⟩
   . obtain⟨c,e,h1,h2,h3⟩:=hys j y hy;exact⟨c,Sum.inl e.h,.int e.l,h1,h3,by rw[zM,h2];rfl⟩
   have hnd:((fs.map fun e=>((Sum.inl e.h:AU),V.int e.l)).map (·.1)).Nodup:=by rw[Ec,List.Nodup,DO];exact hF.imp fun h z=>by injection z with z;lia
   rw[dQ hnd];have iq:∀x:Int,Ao (fs.map fun e=>((Sum.inl e.h:AU),V.int e.l)) (Sum.inl x)=(Jw fs x).map fun e=>V.int e.l:=fun x=>by
    unfold Ao Jw;rw[List.find?_map,Option.map_map];have:((fun kv:AU×V=>decide (kv.1=Sum.inl x))∘fun e:En=>((Sum.inl e.h:AU),V.int e.l))=fun e:En=>decide (e.h=x):=by
     funext e;show decide ((Sum.inl e.h:AU)=Sum.inl x)=_;by_cases c:e.h=x
     . rw[zR c,zR (by rw[c])]
     . rw[zT c,zT (by intro z;injection z with z;exact c z)]
    rw[this];rfl
   have s5:AF H (upd H4 dd (.dK (fs.map fun e=>(Sum.inl e.h,V.int e.l)))):=s4.trans (zL hdd);have hd5:(upd H4 dd (.dK (fs.map fun e=>((Sum.inl e.h:AU),V.int e.l)))) dd=some (.dK (fs.map fun e=>(Sum.inl e.h,V.int e.l))):=zK;generalize upd H4 dd (.dK (fs.map fun e=>((Sum.inl e.h:AU),V.int e.l)))=H5 at s5 hd5 ⊢;generalize (fs.map fun e=>((Sum.inl e.h:AU),V.int e.l))=fu at iq hd5;refine⟨_,rfl,p,rfl,⟨_,AB.of (s5 _ _ hp)⟩,[.ref dd],rfl,fun D2 gj=>?_⟩;refine C8 (a:=p) (xs:=as.map V.ref) (fun i ys H6=>Ag H6 ys (((es.take i).filterMap (Gm fs)).map fun c=>[c.1,c.2])/\AF H5 H6/\H6 D2=some (.lst ys)) ⟨trivial,zL gj,zK⟩ (fun i ys H6 h=>?_) (fun i ys H6 h=>?_) (fun i v ys H6 hv h=>?_) (fun ys H6 h=>?_)
   . exact AB.of (h.2.1 _ _ (s5 _ _ hp))
   . have:=h.1.length;rw[this,zB];exact Cv (List.length_filterMap_le _ _) (Wm (by rw[zt];lia))
   . obtain⟨T6,s6,i7⟩:=h;obtain⟨a,x,rfl,hx,ha⟩:=EA.at hv;refine⟨a,_,rfl,AB.of (s6 _ _ (s5 _ _ ha)),rfl,_,_,rfl,_,_,rfl,_,_,rfl,_,_,rfl,rfl,⟨rfl,rfl⟩,?_⟩;refine⟨_,rfl,_,rfl,dd,_,rfl,Cg.k (k:=Sum.inl x.h) (s6 _ _ hd5),_,rfl,?_⟩;have st:=c6 (Gm fs) hx;have hv2:=iq x.h;cases e:Jw fs x.h with
     | none=>
      rw[e] at hv2;rw[hv2];refine Am ?_;have ec:Gm fs x=none:=by unfold Gm;rw[e];rfl
      refine⟨?_,s6,i7⟩;rw[st,ec];simpa using T6
     | some g=>
      rw[e] at hv2;have hv3:Ao fu (Sum.inl x.h)=some (.int g.l):=hv2;rw[hv3];refine Aw ?_;have ec:Gm fs x=some (x.l+g.l,x.h):=by unfold Gm;rw[e];rfl
      refine⟨_,rfl,_,rfl,_,rfl,dd,.int g.l,rfl,hv3 ▸ Cg.k (k:=Sum.inl x.h) (s6 _ _ hd5),_,_,rfl,rfl,_,rfl,BO,fun c hc=>?_⟩;refine⟨zL hc _ _ i7,?_,BM (s6.trans (zL hc)) gj,zK⟩;rw[st,ec,zQ];refine Ag.snoc (T6.keep fun b zs e=>?_) ⟨c,rfl,?_,by intro z;cases z⟩
      . rw[zf (Ar e i7 (by intro z;cases z))];exact zL hc _ _ e
      . rw[zf (Ne.symm (zn i7 hc))];exact zK
   . obtain⟨T6,s6,i7⟩:=h;rw[zB,EA.1,zY (zI _)] at T6;have gg:=fun c=>aB (es:=es) hF c;generalize es.filterMap (Gm fs)=cs at T6 gg;refine⟨_,rfl,_,rfl,BO,fun n hn=>?_⟩;have s7:AF H (upd H6 n (.tup [.non,.non])):=(s5.trans s6).trans (zL hn);refine⟨D2,ys,rfl,.inl (AE.of (zL hn _ _ i7)),fun e0=>?_,.inl ⟨_,T6.keep fun b zs e=>zL hn _ _ e,fun i y kk hy hk gf=>?_⟩⟩
     . refine k n none _ s7 (fun c z=>?_) zK;have:cs=[]:=by have:=T6.length;rw[e0,zB] at this;exact Ep.mp this.symm
       rw[<-gg,this] at z;simp at z
     . obtain⟨a,k',e1,e2,e3,_⟩:=T6.get hy;rw[hk] at e2;cases e2;rw[zM] at hk;cases ec:cs[i]? with
       | none=>rw[ec] at hk;cases hk
       | some c=>
        rw[ec] at hk;have ek:[c.1,c.2]=kk:=zV hk;subst ek e1;refine k a (some c) _ s7 ⟨(gg c).mp (zP ec),fun c' jj=>?_⟩ (zL hn _ _ e3);have:=gf [c'.1,c'.2] (zq.mpr ⟨c',(gg c').mpr jj,rfl⟩);rw[HT.lexLt_cons] at this;by_cases q:c'.1=c.1
        . rw[if_pos q,HT.lexLt_cons] at this;by_cases q2:c'.2=c.2
          . exact .inr ⟨q.symm,by lia⟩
          . rw[if_neg q2] at this;have:=of_decide_eq_false this;exact .inr ⟨q.symm,by lia⟩
        . rw[if_neg q] at this;have:=of_decide_eq_false this;exact .inl (by lia)
theorem dP:AW Bc Bc (defScope OJ):=AY
theorem af (F:Fu K "told" OJ f gA) (FS:AD K mg "least_sum" Fd fS fdS Bc) (ip:mg "dict"=none) (gH:mg "min"=none):AH P w K mg base AL 2 f gA Bc UR:=by have GS:AJ P w base 1 FS Iq:=KR FS.F ip gH;refine F.okD dP fun _ A _ _ H vs Q E hr h=>?_;obtain⟨p,q,es,fs,rfl,L1,L2',hF,k⟩:=h;refine⟨_,zh (AQ (AK AX (AI GS hr FS (zD (pv 0) (zD (pv 1) zO))) zm)),?_⟩;refine⟨_,rfl,_,rfl,p,q,es,fs,rfl,L1,L2',hF,fun r lm H' s1 hm gW=>?_⟩;exact⟨r,_,_,_,rfl,rfl,AB.of gW,rfl,k lm H' s1 hm⟩
structure RN (ts:List T3)(n:Int)(gM:List (List En)):Prop where
 ln:gM.length=n.toNat
 lg:∀(i:Nat)(es:List En),gM[i]?=some es->LG ts n i es
 cov:∀(i j:Nat)(es fs:List En),gM[i]?=some es->gM[j]?=some fs->Qr ts i j es fs
theorem IA.some_of {P:Int->Prop}(h:IA P o)(hp:P p):∃m,o=some m/\P m:=by
 cases o with
 | none=>exact absurd hp (h p)
 | some m=>exact⟨m,rfl,h.1⟩
theorem MW.lg (G:GW n ts)(L:MW ts n rk v es)(v0:0<=v)(v1:v<n):LG ts n v es:=by
 refine⟨L.hub,fun e he=>?_,?_⟩
 . have E:=L.ent e he;refine⟨E.rng,E.len,fun gL=>?_,fun gL=>?_⟩
   . obtain⟨p,hp⟩:=ER.exists G E.len (Ne.symm gL);exact E.up.some_of hp
   . obtain⟨p,hp⟩:=ER.exists G E.len.symm gL;exact E.dn.some_of hp
 . refine L.all v v0 v1 ⟨⟨0,NG G v⟩,fun p hp=>?_⟩;obtain⟨a,b,ia,ib,iab⟩:=hp;have e0:a+b=0:=iab.uniq (NG G v);have:=ia.1.nn G;have:=ib.1.nn G;have:a=0:=by lia
   rw[<-(ae G ia).mp this];exact E3 _
theorem Na.good (G:GW n ts){os:List Int}(R:Gq n os rk)(L:Na ts n rk gM):RN ts n gM:=by
 have hln:=L.1;have inr:∀(i:Nat)(es:List En),gM[i]?=some es->(0:Int)<=i/\(i:Int)<n:=fun i es h=>by
  have:=(zH.mp h).1
  lia
 refine⟨L.1,fun i es h=>(L.2 i es h).lg G (inr i es h).1 (inr i es h).2,fun i j es fs hi hj d hd=>?_⟩;obtain⟨p,hp,gf⟩:=Wf (P:=A8 ts i j) rk (rk (i:Int)).toNat i (A8.self G hd) (zI _);have i01:=inr i es hi;obtain⟨a,b,ia,ib,iab⟩:=id hp;have jX:=ia.1.in_ G i01.1 i01.2;have le:∀q,A8 ts i j q->rk p<=rk q:=fun q hq=>by
  obtain⟨a',b',ia',_⟩:=id hq;have qr:=ia'.1.in_ G i01.1 i01.2;have h1:=gf q hq;have h2:=(R p jX.1 jX.2).1;have h3:=(R q qr.1 qr.2).1
  lia
 refine⟨p,hp,(L.2 i es hi).all p jX.1 jX.2 ⟨⟨a,ia.symm⟩,fun q hq=>le q (hp.trans hq.symm)⟩,(L.2 j fs hj).all p jX.1 jX.2 ⟨⟨b,ib⟩,fun q hq=>le q (hp.symm.trans hq.symm).symm⟩⟩
def IX:Sp:=fun vs H Q _=>∃l ks,vs=[.ref l]/\D0 H l ks/\ks.length<=24/\ks≠[]/\∀(M:Int) H',AF H H'->M∈ks.map (fun k:Nat=>(k:Int))->(∀a∈ks.map (fun k:Nat=>(k:Int)),a<=M)->Q (.int M) H'
theorem PZ:AW EE EE (defScope Fe):=AY
theorem L3 (F:Fu K "longest" Fe f gA) (f9:mg "len"=none) (iK:mg "max"=none):AH P w K mg base AL 1 f gA EE IX:=by
 refine F.okD PZ fun _ A _ _ H vs Q E hr h=>?_;obtain⟨l,ks,rfl,⟨as,hl,jb,hk⟩,jR,gL,k⟩:=h;refine⟨_,zh (AQ (Aj (ZV rfl) iK (zD (A0 (own:=["label"]) (cn:=[]) (ci:=[]) rfl (An rfl rfl) trivial rfl (Bo (pv 0)) (fun _ _ _ _=>Aq) (fun _ _ _ _=>BI)
  (fun _ _ _ _=>Aj UM f9 (zD (pv 0) zO))) zO))),?_⟩
 refine⟨_,rfl,l,rfl,⟨_,AB.of hl⟩,[],rfl,fun D hD=>?_⟩;refine C8 (a:=l) (xs:=as.map V.ref) (fun i ys H4=>ys=((ks.take i).map fun k:Nat=>(k:Int)).map V.int/\H4=upd H D (.lst ys)) ⟨rfl,rfl⟩ (fun i ys H4 z=>?_) (fun i ys H4 z=>?_) (fun i x ys H4 hx z=>?_) (fun ys H4 z=>?_)
 . obtain⟨_,rfl⟩:=z;exact AB.of (by rw[zf (zn hl hD)];exact hl)
 . obtain⟨rfl,_⟩:=z;rw[zB,zB,zt];exact zr (by lia)
 . obtain⟨rfl,rfl⟩:=z;obtain⟨a,ha,rfl⟩:∃a,as[i]?=some a/\V.ref a=x:=by
    rw[zM] at hx;cases e:as[i]? with
    | none=>rw[e] at hx;cases hx
    | some a=>rw[e] at hx;exact⟨a,rfl,zV hx⟩
   obtain⟨zs,e1,e2⟩:=hk i a ha;refine⟨⟨rfl,rfl⟩,?_⟩;refine BH ?_;refine⟨_,rfl,a,zs,rfl,.inr (AB.of (zL hD _ _ e1)),zK,?_,BQ⟩;rw[zy,e2,zQ,zQ];rfl
 . obtain⟨rfl,rfl⟩:=z;rw[zB,jb,zY (zI _)];exact⟨D,_,rfl,AE.of zK,by simpa using gL,fun M hM hb=>k M _ (zL hD) hM hb⟩
structure T4 (P1 P2 P3 P4:Addr)(H:Hp):Prop where
 a:Tb H P1
 b:Ek H P2
 c:Tq H P3
 d:HX H P4
 n12:P1≠P2
 n13:P1≠P3
 n14:P1≠P4
 n23:P2≠P3
 n24:P2≠P4
 n34:P3≠P4
theorem T4.same (h:T4 P1 P2 P3 P4 H)(s:AF H H'):T4 P1 P2 P3 P4 H':=⟨h.a.same s,h.b.same s,h.c.same s,h.d.same s,h.n12,h.n13,h.n14,h.n23,h.n24,h.n34⟩
theorem T4.p1 (h:T4 P1 P2 P3 P4 H)(k:AN P1 H H')(x:Tb H' P1):T4 P1 P2 P3 P4 H':=⟨x,k.tab h.n12.symm h.b,k.tab h.n13.symm h.c,k.tab h.n14.symm h.d,h.n12,h.n13,h.n14,h.n23,h.n24,h.n34⟩
theorem T4.p4 (h:T4 P1 P2 P3 P4 H)(k:AN P4 H H')(x:HX H' P4):T4 P1 P2 P3 P4 H':=⟨k.tab h.n14 h.a,k.tab h.n24 h.b,k.tab h.n34 h.c,x,h.n12,h.n13,h.n14,h.n23,h.n24,h.n34⟩
theorem T4.p12 (h:T4 P1 P2 P3 P4 H)(k:Dd P1 P2 H H')(x:Tb H' P1)(y:Ek H' P2):T4 P1 P2 P3 P4 H':=⟨x,y,k.tab h.n13.symm h.n23.symm h.c,k.tab h.n14.symm h.n24.symm h.d,h.n12,h.n13,h.n14,h.n23,h.n24,h.n34⟩
theorem T4.p13 (h:T4 P1 P2 P3 P4 H)(k:Dd P1 P3 H H')(x:Tb H' P1)(y:Tq H' P3):T4 P1 P2 P3 P4 H':=⟨x,k.tab h.n12.symm h.n23 h.b,y,k.tab h.n14.symm h.n34.symm h.d,h.n12,h.n13,h.n14,h.n23,h.n24,h.n34⟩
theorem T4.sm (h:T4 P1 P2 P3 P4 H)(T:Al H t N)(k:Sm t H H'):T4 P1 P2 P3 P4 H':=⟨RL T k h.a,RL T k h.b,RL T k h.c,RL T k h.d,h.n12,h.n13,h.n14,h.n23,h.n24,h.n34⟩
theorem T4.lst {D:Addr}{ys zs:List V}(h:T4 P1 P2 P3 P4 H)(e:H D=some (.lst ys)):T4 P1 P2 P3 P4 (upd H D (.lst zs)):=⟨h.a.lst e,h.b.lst e,h.c.lst e,h.d.lst e,h.n12,h.n13,h.n14,h.n23,h.n24,h.n34⟩
theorem Xg:A2 X (compareOp .IsNot) (fun x y H Q=>∃c d,x=.bl c/\y=.bl d/\Q (.bl (c != d)) H):=by intro pins s σ H x y v u Q I rx ry h;obtain⟨c,d,rfl,rfl,q⟩:=h;cases rx;cases ry;exact PyProof.Rows.isnot_bool (A3 I q rfl)
theorem Af.smt (h:Af H wa n ts)(k:BG H H'):Af H' wa n ts:=h.keepT fun b ys e=>k.get e (by intro ps z;cases z)
theorem KA (k:BG H H')(S:A4 H v (Bm p)):A4 H' v (Bm p):=Sh (fun b ys e=>k.get e (by intro ps z;cases z)) p S
def Vr (PT:Addr):Sp:=fun vs H Q _=>∃wa th n ts R os nu,vs=[.ref wa,.ref th]/\Og PT H wa th n ts R os nu/\Jp R n nu/\∀H',AN PT H H'->Tb H' PT->Q (.bl true) H'
def YG:Sp:=fun vs H Q _=>∃x:Str,vs=[.str x,.non]/\Q .non H
def Ry (PT:Addr):Sp:=fun vs H Q _=>∃wa n ts,vs=[.ref wa]/\Af H wa n ts/\HX H PT/\Hd n ts /\
 ∀v p H',A4 H' v (Bm p)->Ib ts (lowTo n.toNat) p->AN PT H H'->HX H' PT->Q v H'
theorem bQ {fT:Addr}(F:Fu K "lets_least" Q3 f gA)
 (FR:AD K mg "refuse_too_many" EL fR fdR Ai) (GR:AJ P w base 7 FR R6)
 (FO:AD K mg "is_order_with_numbers" N7 fO fdO Bb) (GO:AJ P w base 7 FO Tf)
 (FS:AD K mg "step_fault" OI fS fdS QS) (GS:AJ P w base 7 FS (VN PT))
 (FB:AD K mg "by_order" D7 fB jm KD) (GB:AJ P w base 7 FB (NO PT))
 (FT:AD K mg "total" Fi fT jI EE) (GT:AJ P w base 7 FT S0):AH P w K mg base AL 8 f gA Bb (Vr PT):=by
 refine F.okD Y0 fun _ A _ _ H vs Q E hr h=>?_;obtain⟨wa,th,n,ts,R,os,nu,rfl,L,le,k⟩:=h;obtain⟨ta,tys,gF,_,_,G⟩:=id L.wb;obtain⟨oa,na,hth,hoa,ig⟩:=id L.th;have iH:0<nu.length:=by rw[L.tg.ln];exact ND _
 have n8:=L.n8;refine⟨_,zW (DL (AI GR hr FR (zD (pv 0) zO)))
  (zW (Ap (CG (Bq (AI GO hr FO (zD (pv 0) (zD (pv 1) zO))))) By As)
  (zW (Ap (Ad Me (AK AX (AK AX (pv 1) zm) (RQ (SX Tw zm) (fun σ H Q q=>⟨1,rfl,q⟩))) zm (AZ _)) By As)
  (zW (Ak (i:=2) Y0.nd (AI GS hr FS (zD (pv 0) (zD (AK AX (pv 1) zm) zO))))
  (zW (Ap (Ad JZ (pv 2) BK (AZ _)) By As)
  (zW (Ap (Ad Me (AK AX (AK AX (pv 1) zm) zm) (AI GT hr FT (zD (AI GB hr FB (zD (pv 0) (zD (AK AX (pv 1) zm) zO))) zO)) (AZ _)) By As)
  (zh (AQ E1))))))),?_⟩
 refine⟨_,rfl,wa,ta,n,rfl,gF,n8,?_⟩;refine⟨_,rfl,_,rfl,wa,th,n,ts,os,nu,rfl,L.wb,n8,L.th,L.tg.pm,L.tg.ln,fun H1 s1=>?_⟩;refine⟨_,rfl,Am ?_⟩;refine⟨_,rfl,th,_,_,.ref na,rfl,rfl,AB.of (s1 _ _ hth),rfl,na,_,-1,.int (nu.getD (nu.length-1) 0),rfl,rfl,AB.of (s1 _ _ ig),aY iH,rfl,_,rfl,BL ?_ ?_⟩
 . rw[L.tg.ln,L.tg.last];rfl
 refine⟨_,rfl,_,rfl,th,_,_,.ref na,rfl,rfl,AB.of (s1 _ _ hth),rfl,wa,na,n,ts,R,nu,rfl,L.wb.keep s1,n8,L.sr,s1 _ _ ig,L.tg.ln,L.tb.same s1,fun _ H2 gi T2=>?_,fun nle=>absurd le nle⟩;refine⟨_,rfl,rfl,_,rfl,BL (by rfl) ?_⟩;have sm:AN PT H H2:=(AN.of s1).trans gi;have hth2:H2 th=some (.tup [.ref oa,.ref na]):=sm.get hth (by intro ps z;cases z);have hna2:H2 na=some (.tup (nu.map V.int)):=sm.get ig (by intro ps z;cases z);have hoa2:H2 oa=some (.tup ((nI os).map V.int)):=sm.get hoa (by intro ps z;cases z);refine⟨_,rfl,th,_,_,.ref na,rfl,rfl,AB.of hth2,rfl,na,_,_,.int (nu.getD 0 0),rfl,rfl,AB.of hna2,at0 iH,?_⟩;refine⟨_,rfl,_,rfl,th,_,_,.ref oa,rfl,rfl,AB.of hth2,rfl,wa,oa,n,ts,nI os,rfl,L.wb.smP sm,hoa2,Q5 L.tg.pm,T2,fun l gM rk H3 gy T3 LA RK LO=>?_⟩;refine⟨l,_,rfl,LA.tlen,by rw[zB,LO.1];lia,fun H4 s4=>?_⟩;refine⟨rfl,_,rfl,BL (by rw[Sl G L.sr L.tg.pm RK LO,L.tg.at0];simp) ?_⟩;exact k H4 ((sm.trans gy).trans (AN.of s4)) (T3.same s4)
theorem bO (F:Fu K "refuse_at" NR f gA):AH P w K mg base AL 1 f gA Mz YG:=by refine F.okD MA fun _ A _ _ H vs Q E hr h=>?_;obtain⟨x,rfl,k⟩:=h;refine⟨_,zh (Ap (Ad JZ (pv 1) BK (AZ _)) By As),?_⟩;exact⟨_,rfl,rfl,_,rfl,BL (by rfl) k⟩
theorem Lf {fT:Addr}(F:Fu K "lets_plan" N5 f gA)
 (FP:AD K mg "is_plan" PH fP fdP BV) (GP:AJ P w base (m+1) FP ME)
 (FR:AD K mg "refuse_at" NR fR fdR Mz)
 (FF:AD K mg "place_fault" QN fF fdF DE) (GF:AJ P w base (m+1) FF (Ll h))
 (FL:AD K mg "lacks_fault" QZ fL fdL DE) (GL:AJ P w base (m+1) FL (MI h))
 (FT:AD K mg "tie_fault" PY fT jI DE) (GT:AJ P w base (m+1) FT (Kz h)):AH P w K mg base AL (m+2) f gA Bb (TV h):=by
 have GR:AJ P w base (m+1) FR YG:=(bO FR.F).mono (by lia);refine F.okD bb fun _ A _ _ H vs Q E hr h=>?_;obtain⟨wa,v,n,ts,p,rfl,W,S,g,hh,pb,L,k⟩:=h;obtain⟨ta,tys,gF,_,_,G⟩:=id W;have iI:=G.n1;have gQ:=G.n24;have hlen:=g.ln;refine⟨_,zW (Ap (CG (Bq (AI GP hr FP (zD (pv 1) zO)))) By As)
  (zW (DL (AI GR hr FR (zD Sx (zD (AI GF hr FF (zD (pv 0) (zD (pv 1) zO))) zO))))
  (zW (DL (AI GR hr FR (zD Sx (zD (AI GL hr FL (zD (pv 0) (zD (pv 1) zO))) zO))))
  (zW (DL (AI GR hr FR (zD Sx (zD (AI GT hr FT (zD (pv 0) (zD (pv 1) zO))) zO))))
  (zh (AQ E1))))),?_⟩
 refine⟨_,rfl,v,p,rfl,S,g,fun H1 s1=>?_⟩;rw[pb];refine⟨_,rfl,Am ?_⟩;refine⟨_,rfl,_,rfl,wa,ta,v,n,p,rfl,s1 _ _ gF,Dt s1 S,hh,by lia,fun _ H2 s2=>?_,fun i x H2 hx hb _ s2=>absurd hb (dq.mpr ⟨L.nd,L.rng⟩ i x hx)⟩;refine⟨_,rfl,?_⟩;have s02:=s1.trans s2;refine⟨_,rfl,_,rfl,wa,ta,v,n,p,rfl,s02 _ _ gF,by lia,by lia,Dt s02 S,hh,by lia,fun _ H3 s3=>?_,fun x H3 x0 x1 nx _ s3=>absurd (L.all x x0 x1) nx⟩;refine⟨_,rfl,?_⟩;have iF:=s02.trans s3;refine⟨_,rfl,_,rfl,wa,v,n,ts,p,rfl,W.keep iF,Dt iF S,hh,hlen,L.all,fun _ H4 s4=>?_,fun i a b l q H4 ht nt _ s4 _=>absurd ?_ nt⟩
 . exact⟨_,rfl,k H4 (iF.trans s4)⟩
 . have hm:=zP ht;have rg:=G.adj (.inl hm:Ah ts a b l);exact L.tie a b l (.inl hm) (L.all a rg.1 rg.2.1) (L.all b rg.2.2.1 rg.2.2.2.1)
theorem XD (F:Fu K "tree_plan" QK f gA) (FI:AD K mg "is_tree" P8 fI fdI Ai) (GI:AH P w K mg base AL m fI fdI Ai LZ)
 (FP:AD K mg "plan_of_part" Fh fP fdP Ck) (GP:AH P w K mg base AL m fP fdP Ck (Rv PT 24)) (f7:mg "range"=none) (gN:mg "list"=none):AH P w K mg base AL (m+1) f gA Ai (Ry PT):=by
 refine F.okD Uz fun _ A _ _ H vs Q E hr h=>?_;obtain⟨wa,n,ts,rfl,W,T,tr,k⟩:=h;obtain⟨ta,tys,gF,jw,TA,G⟩:=id W;have iI:=G.n1;have gQ:=G.n24;refine⟨_,zW (Ap (CG (Bq (AI GI hr FI (zD (pv 0) zO)))) By As)
  (zh (AQ (AI GP hr FP (zD (pv 0) (zD (Rw rfl rfl gN rfl f7 (zD (AK AX (pv 0) zm) zO)) zO))))),?_⟩
 refine⟨_,rfl,wa,n,ts,rfl,W,fun b H1 hb s1=>⟨_,rfl,?_⟩⟩;rw[hb.mpr tr];refine Am ⟨_,rfl,_,rfl,wa,_,_,.int n,rfl,rfl,AB.of (s1 _ _ gF),rfl,n,rfl,by lia,by lia,fun la gx=>?_⟩;have s2:=s1.trans (zL (o:=.lst ((lowTo n.toNat).map V.int)) gx);refine⟨wa,la,n,ts,lowTo n.toNat,rfl,W.keep s2,zK,UC _,by rw[CA];lia,fun z=>?_,by rw[CA];lia,T.same s2,fun v p H' S tp sm T'=>k v p H' S tp ((AN.of (P:=PT) s2).trans sm) T'⟩;have:=congrArg List.length z;rw[CA,List.length_nil] at this
 lia
structure TR (q:Nat)(tk:List T3):Prop where
 ln:tk.length=q
 at':∀(i:Nat)(t:T3),tk[i]?=some t->0<=t.1/\t.1<t.2.1/\t.2.1=i+1/\1<=t.2.2/\t.2.2<=99
theorem TR.step (h:TR q tk){a:Int}(a0:0<=a)(a1:a<q+1)(l1:1<=l)(l2:l<=99):TR (q+1) (tk++[(a,(q:Int)+1,l)]):=by
 refine⟨by rw[zJ,h.ln];rfl,fun i t ht=>?_⟩;have hl:=h.ln;by_cases c:i<tk.length
 . rw[zc c] at ht;exact h.at' i t ht
 . have hi:=(zH.mp ht).1;rw[zJ,Gw] at hi;obtain rfl:i=q:=by lia
   rw[za (by lia),hl,Ge] at ht;cases ht;exact⟨a0,a1,rfl,l1,l2⟩
theorem TR.web (h:TR (n-1).toNat tk)(n1:1<=n)(n24:n<=24)(hp:ms.Perm (tk.map tl)):∃ts:List T3,ts.map tl=ms/\GW n ts/\Hd n ts:=by
 have hpt:(ms.map fun k:List Int=>((k.getD 0 0,k.getD 1 0,k.getD 2 0):T3)).Perm tk:=by
  have:=hp.map fun k:List Int=>((k.getD 0 0,k.getD 1 0,k.getD 2 0):T3);rw[Ec] at this;have e:tk.map ((fun k:List Int=>((k.getD 0 0,k.getD 1 0,k.getD 2 0):T3))∘tl)=tk:=by
   conv=>rhs;rw[<-List.map_id tk]
   exact Gy fun t' _=>rfl
  rw[e] at this;exact this
 have em:(ms.map fun k:List Int=>((k.getD 0 0,k.getD 1 0,k.getD 2 0):T3)).map tl=ms:=by
  rw[Ec]
  conv=>rhs;rw[<-List.map_id ms]
  refine Gy fun k hk=>?_;obtain⟨t',_,rfl⟩:=zq.mp (hp.mem_iff.mp hk);rfl
 generalize (ms.map fun k:List Int=>((k.getD 0 0,k.getD 1 0,k.getD 2 0):T3))=ts at hpt em;have hl:=h.ln;have gD:=hpt.length_eq;have di:tk.Pairwise fun s t=>¬ (s.1=t.1/\s.2.1=t.2.1):=Cz.mpr fun i j hi hj gu z=>by
  have h1:=(h.at' i _ (zC hi)).2.2.1;have h2:=(h.at' j _ (zC hj)).2.2.1;have:=z.2
  lia
 have tie:∀b:Nat,0<b->(b:Int)<n->∃a l,0<=a/\a<(b:Int)/\Ah ts a b l:=fun b b0 bn=>by
  have hb:b-1<tk.length:=by lia
  obtain⟨q1,q2,q3,_⟩:=h.at' (b-1) _ (zC hb);have hm:=hpt.mem_iff.mpr (DF hb);generalize tk[b-1]=t at q1 q2 q3 hm;obtain⟨x,y,l⟩:=t;obtain rfl:y=(b:Int):=by have:y=((b-1:Nat):Int)+1:=q3;lia
  exact⟨x,l,q1,q2,.inl hm⟩
 have mem:∀x:Int,0<=x->x<n->x∈lowTo n.toNat:=fun x x0 x1=>Cs.mpr (by lia);refine⟨ts,em,⟨n1,n24,by lia,fun t ht=>?_,(List.Perm.pairwise_iff (R:=fun s t:T3=>¬ (s.1=t.1/\s.2.1=t.2.1)) (fun h e=>h ⟨e.1.symm,e.2.symm⟩) hpt).mpr di⟩,fun S ⟨a,ha,sa⟩ cl b hb=>?_,by lia⟩
 . obtain⟨i,hi,e⟩:=zp (hpt.mem_iff.mp ht);have:=h.at' i t (by rw[zC hi,e])
   lia
 . have down:∀m:Nat,(m:Int)<n->S m->S 0:=fun m=>by
    induction m using Nat.strongRecOn with
    | ind m ih=>
     intro hm sm;by_cases c:m=0
     . subst c;exact sm
     . obtain⟨x,l,x0,x1,A⟩:=tie m (by lia) hm;have sx:=cl m x l (mem _ (by lia) hm) (mem _ x0 (by lia)) A.symm sm;obtain⟨y,rfl⟩:∃y:Nat,x=y:=⟨x.toNat,by lia⟩;exact ih y (by lia) (by lia) sx
   have a01:=Cs.mp ha;have s0:S 0:=down a.toNat (by lia) (by rw[Ja a01.1];exact sa);have up:∀m:Nat,(m:Int)<n->S m:=fun m=>by
    induction m using Nat.strongRecOn with
    | ind m ih=>
     intro hm;by_cases c:m=0
     . subst c;exact s0
     . obtain⟨x,l,x0,x1,A⟩:=tie m (by lia) hm;obtain⟨y,rfl⟩:∃y:Nat,x=y:=⟨x.toNat,by lia⟩;exact cl y m l (mem _ x0 (by lia)) (mem _ (by lia) hm) A (ih y (by lia) (by lia))
   have b01:=Cs.mp hb;have:=up b.toNat (by lia);rw[Ja b01.1] at this;exact this
theorem VM (h0:0<=r)(h1:r<4):∃L:List Int,Jx [.int 1,.int 2,.int 3,.int 99] none (some (1+r))=L.map V.int/\0<L.length/\L.length<=4/\∀x∈L,1<=x/\x<=99:=by
 have:r=0\/r=1\/r=2\/r=3:=by lia
 rcases this with rfl | rfl | rfl | rfl
 . exact⟨[1],rfl,by decide,by decide,by decide⟩
 . exact⟨[1,2],rfl,by decide,by decide,by decide⟩
 . exact⟨[1,2,3],rfl,by decide,by decide,by decide⟩
 . exact⟨[1,2,3,99],rfl,by decide,by decide,by decide⟩
theorem Bl.ne2 (h:Bl H t p N)(hb:H b=none):b≠t/\b≠p:=by obtain⟨ns,gK,rest,h1,h2,_⟩:=h;exact⟨(zn h1 hb).symm,(zn h2 hb).symm⟩
def XA:Sp:=fun vs H Q _=>∃t N n,vs=[.ref t,.int n]/\Al H t N/\N<800000/\1<=n/\n<=24 /\
 ∀wa ts H',Af H' wa n ts->Hd n ts->Al H' t (N+100)->Sm t H H'->Q (.ref wa) H'
theorem Rq:AW ["_law_tape_here","_law_n","_law_longs","_law_ties","_law_b"] Eo (defScope R1):=AY
theorem Zh (F:Fu K "_law_tree" R1 f gA) (FD:AD K mg "_law_draw" IB fD fdD IV)
 (f9:mg "len"=none) (f7:mg "range"=none) (fw:mg "tuple"=none) (gB:mg "sorted"=none):AH P w K mg base AL 2 f gA Eo XA:=by
 have GD:AJ P w base 1 FD Q1:=Rt FD.F f9;refine F.okD Rq fun _ A _ _ H vs Q E hr h=>?_;obtain⟨t,N,n,rfl,T,hN,iI,gQ,k⟩:=h;refine⟨_,zW (Ak (i:=2) Rq.nd (YR Yi (DR (Bw (Bw (Bw (Bw zO))))) Wq (Yp (Ac Ci zm (AI GD hr FD (zD (pv 0) (Bw zO)))))))
  (zW (Ak (i:=3) Rq.nd (DR zO))
  (zW (CB (Sn rfl f7 (Bw (zD (pv 1) zO))) (BN (i:=4) Rq.nd)
   (zh (DL (Gd PySem.F.plainAttrs_list PySem.F.slot_list_append PySem.F.type_list_append HB (pv 3) (zD (Ba (zD (AI GD hr FD (zD (pv 0) (zD (pv 4) zO))) (zD (pv 4) (zD (AK BU (pv 2) (AI GD hr FD (zD (pv 0) (zD (Aj Bz f9 (zD (pv 2) zO)) zO)))) zO)))) zO)))))
  (zh (AQ (Ba (zD (pv 1) (zD (Bi B9 fw (zD (Aj Xa gB (zD (pv 3) zO)) zO)) zO))))))),?_⟩
 refine⟨SD,fun l4 hl4=>?_⟩;have s2:=zL (o:=.lst [.int 1,.int 2,.int 3,.int 99]) hl4;have n4:=T.ne hl4;obtain⟨tp,TP1⟩:=id T;have TP2:Bl (upd H l4 (.lst [.int 1,.int 2,.int 3,.int 99])) t tp N:=TP1.keepF (fun o e=>s2 _ _ e) (fun o e=>s2 _ _ e) (zI _);refine⟨_,rfl,t,tp,_,4,rfl,TP2,by lia,by decide,by decide,fun r H3 r0 r4 TP3 e3=>?_⟩;obtain⟨L,eL,L0,L4,Lr⟩:=VM r0 r4;refine⟨_,_,rfl,rfl,_,rfl,l4,_,rfl,AE.of (by rw[e3 _ n4];exact zK),fun lg hlg=>?_⟩;rw[eL];have iF:Sm t H H3:=fun b o nb e=>by rw[e3 b nb];exact s2 _ _ e
 obtain⟨nlt,nlp⟩:=Bl.ne2 TP3 hlg;have hlg0:H lg=none:=by
  cases q:H lg with
  | none=>rfl
  | some o=>have:=iF lg o nlt q;rw[hlg] at this;cases this
 refine⟨zg _,fun D hD=>?_⟩;have nDl:D≠lg:=fun z=>by rw[z,zK] at hD;cases hD
 have iD:H3 D=none:=by rw[zf nDl] at hD;exact hD
 obtain⟨jf,nDp⟩:=Bl.ne2 TP3 iD;have hD0:H D=none:=by
  cases q:H D with
  | none=>rfl
  | some o=>have:=iF D o jf q;rw[iD] at this;cases this
 refine⟨_,rfl,1,n,rfl,⟨by decide,by lia,by lia⟩,IH (lo:=1) (n:=(n-1).toNat) (fun q σ H2=>IM fun (v4:Option V)(tys:List V)(tk:List T3)=>σ=[some (.ref t),some (.int n),some (.ref lg),some (.ref D),v4]/\H2 lg=some (.lst (L.map V.int))/\H2 D=some (.lst tys)/\Ag H2 tys (tk.map tl)/\TR q tk/\Bl H2 t tp (N+10+2*q)/\Sm t H H2)
  ⟨_,[],[],rfl,by rw[zf nDl.symm,zK],zK,trivial,⟨rfl,fun i t ht=>by cases ht⟩,TP3.keepF (fun o e=>by rw[zf jf.symm,zf nlt.symm];exact e) (fun o e=>by rw[zf nDp.symm,zf nlp.symm];exact e) (by lia),(iF.chg hlg0).chg hD0⟩ (fun q σ H4 hq z=>?_) (fun σ H4 z=>?_)⟩
 . obtain⟨v4,tys,tk,rfl,j6,gV,TA,I,P4,s4⟩:=z;have T4:Al H4 t _:=⟨tp,P4⟩;refine⟨_,rfl,.inl ⟨rfl,_,AE.of gV⟩,_,rfl,_,rfl,t,tp,_,_,rfl,P4,by lia,by lia,by lia,fun a H5 a0 a1 P5 e5=>?_⟩;have hl5:H5 lg=some (.lst (L.map V.int)):=by rw[e5 _ nlt];exact j6
   have hZ:H5 D=some (.lst tys):=by rw[e5 _ jf];exact gV
   refine⟨_,rfl,_,rfl,_,rfl,_,rfl,lg,_,rfl,.inl (AE.of hl5),t,tp,_,_,rfl,P5,by lia,by rw[zB];lia,by rw[zB];lia,fun c H6 c0 c1 P6 e6=>?_⟩;rw[zB] at c1;obtain⟨lo,ij,elo⟩:=VP (L:=L) c0 c1;refine⟨lg,_,_,_,rfl,rfl,AE.of (by rw[e6 _ nlt];exact hl5),elo,KS,fun e he=>?_⟩;have i7:H6 D=some (.lst tys):=by rw[e6 _ jf];exact hZ
   have gD:=TA.length;rw[zB] at gD;have hk:=I.ln;refine⟨D,_,_,rfl,rfl,zL he _ _ i7,zr (by lia),?_⟩;have I':=I.step a0 (by lia) (Lr lo ij).1 (Lr lo ij).2;have s46:∀b o,b≠t->H4 b=some o->H6 b=some o:=fun b o nb z=>by rw[e6 b nb,e5 b nb];exact z
   have tt:∀b ys,H4 b=some (.tup ys)->b≠t:=fun b ys z z2=>by obtain⟨p',ns,sp,rest,a,_⟩:=id T4;rw[z2,a] at z;cases z
   have he6:H6 e=none:=he;have neD:e≠D:=fun z=>by rw[z,i7] at he6;cases he6
   obtain⟨net,nep⟩:=Bl.ne2 P6 he;have he0:H e=none:=by
    cases q:H e with
    | none=>rfl
    | some o=>have:=s46 e o net (s4 e o net q);rw[he6] at this;cases this
   refine⟨_,tys++[.ref e],tk++[_],rfl,?_,zK,?_,I',?_,?_⟩
   . rw[zf nDl.symm,zf (fun z=>by rw[z] at j6;have:=s46 _ _ net j6;rw[he6] at this;cases this)];exact s46 _ _ nlt j6
   . rw[zQ];refine Ag.snoc (TA.keep fun b ys z=>?_) ⟨e,rfl,?_,?_⟩
     . have zb:=s46 b _ (tt b ys z) z;rw[zf (Ar zb i7 (by intro z;cases z)),zf (fun y=>by rw[y,he6] at zb;cases zb)];exact zb
     . rw[zf neD,zK,show (1:Int)+q=q+1 by lia];rfl
     . intro z;cases z
   . exact P6.keepF (fun o z=>by rw[zf jf.symm,zf net.symm];exact z) (fun o z=>by rw[zf nDp.symm,zf nep.symm];exact z) (by lia)
   . exact (Sm.chg (fun b o nb z=>by rw[zf (fun y=>by rw[y,he0] at z;cases z)];exact s46 b o nb (s4 b o nb z)) hD0)
 . obtain⟨v4,tys,tk,rfl,j6,gV,TA,I,P4,s4⟩:=z;have T4:Al H4 t _:=⟨tp,P4⟩;have gD:=TA.length;rw[zB] at gD;have hk:=I.ln;refine⟨_,rfl,_,rfl,D,tys,_,rfl,AE.of gV,TA,by rw[zB];lia,fun la zs ms gx TZ pm _=>?_⟩;refine⟨la,_,rfl,.inl ⟨AE.of zK,fun c hc=>⟨BO,fun wa gF=>?_⟩⟩⟩;have s5:=((zL (o:=.lst zs) gx).trans (zL (o:=.tup zs) hc)).trans (zL (o:=.tup [.int n,.ref c]) gF);obtain⟨ts,ets,Gt,tr⟩:=I.web iI gQ pm;refine k wa ts _ ⟨c,zs,zK,zL gF _ _ zK,?_,Gt⟩ tr ((T4.keep s5).mono (by lia)) (s4.trans (Sm.of s5));rw[ets];exact TZ.keep fun b ys e=>s5 _ _ e
structure TG (n:Int)(ts:List T3)(p:Aa):Prop where
 lp:G7 n ts p
 pg:LV p
 ht:BE p<=24
 pb:El 24 p=true
 dp:Cc p<=Bh n.toNat n.toNat
theorem IT (G:GW n ts)(it:Hd n ts)(tp:Ib ts (lowTo n.toNat) p):TG n ts p:=by
 have iI:=G.n1;have gQ:=G.n24;have R:=Xj p tp (UC _) (by rw[CA];lia);have Lp:=R.letP (by lia);have ht:=R.ht;rw[CA] at ht;have hfl:(AG p).length=n.toNat:=by rw[R.pm.length_eq,CA]
 have Tr:IG ts (lowTo n.toNat):=cJ it.1 (Sg _) (by rw[CA];have:=it.2;lia);have hd:=We p n.toNat tp Tr (UC _) (by rw[CA];exact zI _);rw[CA] at hd;exact⟨Lp,⟨R.gd,fun x hx=>(Lp.rng x hx).1,by lia,R.k1⟩,by lia,Vz 24 p (by lia) R.rs,hd⟩
def PX (P1 P2 P3 P4:Addr):Sp:=fun vs H Q _=>∃wa n ts,vs=[.ref wa]/\Af H wa n ts/\Hd n ts/\T4 P1 P2 P3 P4 H/\∀H',BG H H'->T4 P1 P2 P3 P4 H'->Q (.bl true) H'
theorem Ha:AW ["_law_web_here","_law_plan","_law_labels","_law_place"] R8 (defScope SA):=AY
theorem QB {fT:Addr}(F:Fu K "_law_tree_right" SA f gA)
 (FT:AD K mg "tree_plan" QK fT jI Ai) (GT:AH P w K mg base AL m fT jI Ai (Ry P4))
 (FO:AD K mg "plan_order" KJ fO fdO Bs) (GO:AH P w K mg base AL m fO fdO Bs (Js 24))
 (FB:AD K mg "by_order" D7 fB jm KD) (GB:AH P w K mg base AL m fB jm KD (NO P1))
 (FL:AD K mg "lets_plan" N5 fL fdL Bb) (GL:AH P w K mg base AL m fL fdL Bb (TV 24))
 (FG:AD K mg "longest" Fe fG fdG EE) (GG:AH P w K mg base AL m fG fdG EE IX)
 (FC:AD K mg "chain" M8 fC fdC DD) (GC:AH P w K mg base AL m fC fdC DD (HL 24))
 (FD:AD K mg "deepest" Qe fD fdD Bs) (GD:AH P w K mg base AL m fD fdD Bs (HS 24))
 (FF:AD K mg "_law_figures" FU fF fdF ["_law_n"]) (GF:AH P w K mg base AL m fF fdF ["_law_n"] Ik)
 (f7:mg "range"=none):AH P w K mg base AL (m+1) f gA R8 (PX P1 P2 P3 P4):=by
 refine F.okD Ha fun _ A _ _ H vs Q E hr h=>?_;obtain⟨wa,n,ts,rfl,W,it,T,k⟩:=h;have hu0:=hr.units0;obtain⟨ta,tys,gF,_,_,G⟩:=id W;have iI:=G.n1;have gQ:=G.n24;refine⟨_,zW (DU (i:=1) Ha.nd rfl (Or.inr rfl) (AI GT hr FT (zD (pv 0) zO)))
  (zW (Ak (i:=2) Ha.nd (AI GB hr FB (zD (pv 0) (zD (AI GO hr FO (zD (pv 1) zO)) zO))))
  (zW (Ap (PW.pt (DJ (Ad Xg (AI GL hr FL (zD (pv 0) (zD (pv 1) zO))) E1 (AZ _)) (Es (Ad Hj (AI GG hr FG (zD (pv 2) zO)) (AI GD hr FD (zD (pv 1) zO)) (AZ _))))) By As)
  (zW (CB (CT rfl f7 (zD (AK AX (pv 0) zm) zO)) (DZ (i:=3) Ha.nd rfl (Or.inr rfl))
   (zh (Ap (Ad (MR hu0) (A0 (own:=["_law_entry"]) (cn:=["_law_place","_law_plan"]) (ci:=[3,1]) rfl (An rfl rfl) ⟨rfl,rfl,rfl,rfl,rfl,rfl,trivial⟩ rfl (Bo (AK AX (pv 2) (pv 3))) (fun _ _ _ _=>Aq)
    (fun _ _ _ _=>Cn (Ad TY (AK Bg (pv 0) zm) (AI GC hr FC (zD (pv 2) (zD (pv 1) zO))) (by with_unfolding_all rfl))) (fun _ _ _ _=>AK Bg (pv 0) zm)) (DR zO) (AZ _)) By As)))
  (zh (AQ (Cy IF (AI GD hr FD (zD (pv 1) zO)) (AI GF hr FF (zD (AK AX (pv 0) zm) zO)) (AZ _))))))),?_⟩
 refine⟨_,rfl,wa,n,ts,rfl,W,T.d,it,fun v p H1 S1 tp gw D1=>?_⟩;obtain⟨L,g,hh,pb,hd⟩:=IT G it tp;have hlen:=g.ln;have T1:=T.p4 gw D1;have jA:=gw.smT;refine⟨_,rfl,_,rfl,v,p,rfl,S1,hh,by lia,fun o H2 s2 ho=>?_⟩;have T2:=T1.same s2;refine⟨wa,o,n,ts,AG p,rfl,(W.smt jA).keep s2,ho,L.ordr,T2.a,fun l gM rk H3 gy B3 LA RK LO=>?_⟩;have sm03:BG H H3:=(jA.trans (BG.of s2)).trans gy.smT;have T3:=T2.p1 gy B3;have W3:=W.smt sm03;have S3:=KA gy.smT (Dt s2 S1);refine⟨_,rfl,_,rfl,wa,v,n,ts,p,rfl,W3,S3,g,hh,pb,L,fun H4 s4=>?_⟩;refine⟨_,_,rfl,rfl,_,rfl,BL (by rfl) ?_⟩;obtain⟨as,hl3,jb,hA⟩:=id LA;have elen:gM.length=n.toNat:=LO.1;have jv:∀(q:Nat)(es:List En)(r:List Int),gM[q]?=some es->Av (q:Int) p=some r->(∀e∈es,e.h∈r)/\es.length<=r.length:=fun q es r he gW=>by
  have hq:=(zH.mp he).1;have LB:=LO.2 q es he;have jv:∀e∈es,e.h∈r:=fun e he=>by have EO:=LB.ent e he;obtain⟨r',e1,e2⟩:=L.hub G RK (EO.rng).1 (EO.rng).2 (by lia) (by lia) EO.hub;rw[gW] at e1;cases e1;exact e2
  refine⟨jv,?_⟩;rw[<-zB (f:=fun e:En=>e.h)];refine DG ?_ fun x hx=>?_
  . rw[DN,DO];exact LB.hub.imp fun h=>by lia
  . obtain⟨e,he,rfl⟩:=zq.mp hx;exact jv e he
 have chn:∀q:Nat,(q:Int)<n->∃r,Av (q:Int) p=some r:=fun q hq=>OD (L.all (q:Int) (by lia) hq);refine⟨_,rfl,l,_,rfl,LA.tlen.keep fun b ys e=>s4 _ _ e,by rw[zB];lia,fun z=>by have:=congrArg List.length z;rw[zB,List.length_nil] at this;lia,fun M H5 s5 hM _=>?_⟩;have s35:=s4.trans s5;refine⟨_,rfl,v,p,rfl,Dt s35 S3,hh,by lia,g.k1,fun H6 s6=>?_⟩;have s36:=s35.trans s6;have hMd:M<=Cc p:=by
  obtain⟨kk,hkk,rfl⟩:=zq.mp hM;obtain⟨es,hes,rfl⟩:=zq.mp hkk;obtain⟨q,hq,e⟩:=zp hes;obtain⟨r,gW⟩:=chn q (by lia);have h1:=(jv q es r (by rw[zC hq,e]) gW).2;have h2:=(R0 p gW).2.2
  lia
 refine⟨_,_,rfl,rfl,_,rfl,BL (zT (by lia)) ?_⟩;have ju:H3 wa=some (.tup [.int n,.ref ta]):=sm03.get gF (by intro ps z;cases z);refine⟨_,rfl,wa,_,_,_,rfl,rfl,AB.of (s36 _ _ ju),rfl,n,rfl,by lia,by lia,IH (lo:=0) (n:=n.toNat) (fun q σ H4=>∃v3:Option V,σ=[some (.ref wa),some v,some (.ref l),v3]/\AF H3 H4) ⟨_,rfl,s36⟩ (fun q σ H7 hq z=>?_) (fun σ H7 z=>?_)⟩
 . obtain⟨v3,rfl,s7⟩:=z;rw[Ca];obtain⟨r,gW⟩:=chn q (by lia);have iG:q<as.length:=by rw[jb,elen];exact hq
   have eas:as[q]?=some as[q]:=zC iG;obtain⟨es,hes,bs,hb,EA,_⟩:=hA q _ eas;generalize as[q]=la at eas hb;obtain⟨hub,_⟩:=jv q es r hes gW;have hb7:=s7 _ _ hb;refine⟨_,rfl,_,rfl,l,_,_,.ref la,rfl,rfl,AB.of (s7 _ _ hl3),C5 (by rw[zM,eas];rfl),la,rfl,⟨_,AB.of hb7⟩,[.int q,v],rfl,fun D hD=>?_⟩;have sD:=zL (o:=.lst []) hD;refine C8 (a:=la) (xs:=bs.map V.ref) (fun i ys H8=>ys=[]/\AF (upd H7 D (.lst [])) H8) ⟨rfl,AF.refl _⟩ (fun i ys H8 z=>?_) (fun i ys H8 z=>?_) (fun i x ys H8 hx z=>?_) (fun ys H8 z=>?_)
   . obtain⟨rfl,s8⟩:=z;exact AB.of (s8 _ _ (sD _ _ hb7))
   . obtain⟨rfl,_⟩:=z;exact zr (zg _)
   . obtain⟨rfl,s8⟩:=z;obtain⟨ea,e,rfl,he,hea⟩:=EA.at hx;have gg:=hub e (zP he);have s38:=(s7.trans sD).trans s8;refine⟨⟨rfl,rfl⟩,?_⟩;refine⟨_,rfl,ea,_,_,.int e.h,rfl,rfl,AB.of (s38 _ _ hea),rfl,_,rfl,_,rfl,v,p,(q:Int),r,rfl,Dt s38 S3,hh,hlen,gW,fun ms l1 H9 _ mms s9 h9=>?_⟩;refine⟨l1,_,rfl,.inr (AB.of h9),rfl,G8 _,_,rfl,?_⟩;show (if (!Dg (.int e.h) (ms.map V.int))=true then _ else _)
     rw[E9,zR ((mms e.h).mpr gg)];exact Am ⟨rfl,s8.trans s9⟩
   . obtain⟨rfl,s8⟩:=z;refine⟨zg _,fun b iU=>?_⟩;have sb:=zL (o:=.lst []) iU;refine⟨D,b,[],rfl,rfl,AE.of (sb _ _ (s8 _ _ zK)),AE.of zK,_,rfl,Am ?_⟩;exact⟨_,rfl,((s7.trans sD).trans s8).trans sb⟩
 . obtain⟨v3,rfl,s7⟩:=z;refine⟨_,rfl,v,p,rfl,Dt s7 S3,hh,by lia,g.k1,fun H8 s8=>?_⟩;have s38:=s7.trans s8;refine⟨_,rfl,wa,_,_,.int n,rfl,rfl,AB.of (s38 _ _ ju),rfl,n,rfl,by lia,_,_,rfl,rfl,?_⟩;show Q (.bl (decide (((Cc p:Nat):Int)<=((Bh n.toNat n.toNat:Nat):Int)))) H8;rw[zR (show ((Cc p:Nat):Int)<=((Bh n.toNat n.toNat:Nat):Int) by lia)];exact k _ (sm03.trans (BG.of s38)) (T3.same s38)
def P7 (P1 P2 P3 P4:Addr):Sp:=fun vs H Q _=>∃wa la pa n ts gM ps,vs=[.ref wa,.ref la,.ref pa]/\Af H wa n ts/\Hv H la gM/\RN ts n gM/\H pa=some (.tup (ps.map V.int))/\Je n ps/\T4 P1 P2 P3 P4 H/\∀H',BG H H'->T4 P1 P2 P3 P4 H'->Q (.bl true) H'
theorem RN.tell (G:GW n ts)(L:RN ts n gM){x y:Nat}(hx:gM[x]?=some es)(hy:gM[y]?=some fs)(h:HD (Cd es fs) lm):A6 ts x y (lm.map (·.1)):=(WM.told_right G (L.lg _ _ hx) (L.lg _ _ hy) (L.cov _ _ _ _ hx hy) h).1
theorem EH:AW ["_law_web_here","_law_labels","_law_posts","_law_nears","_law_one","_law_other","_law_due","_law_found"] SF (defScope SG):=AY
theorem QT {fT:Addr}(F:Fu K "_law_posts_right" SG f gA)
 (FN:AD K mg "near_labels" Fp fN fdN K0) (GN:AH P w K mg base AL m fN fdN K0 (Sv P1 P3))
 (FT:AD K mg "told" OJ fT jI Bc) (GT:AH P w K mg base AL m fT jI Bc UR)
 (FS:AD K mg "near_told" NV fS fdS Bc) (GS:AH P w K mg base AL m fS fdS Bc Tc)
 (f7:mg "range"=none):AH P w K mg base AL (m+1) f gA SF (P7 P1 P2 P3 P4):=by
 refine F.ok EH (fun vs H Q E h=>?_) (fun gP A' outer s H vs Q E hr h=>?_)
 . obtain⟨wa,la,pa,n,ts,gM,ps,rfl,_⟩:=h;rfl
 . obtain⟨wa,la,pa,n,ts,gM,ps,rfl,W,LA,LG,iV,O,T,k⟩:=h;obtain⟨ta,tys,gF,_,_,G⟩:=id W;have iI:=G.n1;have gQ:=G.n24;refine⟨_,zW (Ak (i:=3) EH.nd (AI GN hr FN (zD (pv 0) (zD (pv 2) zO))))
    (zW (CB (CT rfl f7 (zD (AK AX (pv 0) zm) zO)) (BN (i:=4) EH.nd)
     (zh (CB (CT rfl f7 (zD (AK AX (pv 0) zm) zO)) (BN (i:=5) EH.nd)
      (zW (Ak (i:=6) EH.nd (AI GT hr FT (zD (AK AX (pv 1) (pv 4)) (zD (AK AX (pv 1) (pv 5)) zO))))
      (zW (Ak (i:=7) EH.nd (AI GS hr FS (zD (AK AX (pv 3) (pv 4)) (zD (AK AX (pv 3) (pv 5)) zO))))
      (zW (Ap (Ad Me (Cy ID (pv 6) BK (AZ _)) (Cy ID (pv 7) BK (AZ _)) (AZ _)) By As)
      (zh (Ap (PW.pt (NZ (Ad JZ (pv 6) BK (AZ _)) (NY (CG (cD IF IF (pv 6) (pv 7) (Ac Mg zm (pv 6))))))) By As))))))))
    (zh (AQ E1))),?_⟩
   refine⟨_,rfl,_,rfl,wa,pa,n,ts,ps,rfl,W,iV,O,T.a,T.c,fun na M H1 gw B1 C1 RM LN=>?_⟩;have T1:=T.p13 gw B1 C1;have W1:=W.smt gw.smT;obtain⟨as,gx,jb,hA⟩:=id LA;have tup:∀b ys,H b=some (.tup ys)->H1 b=some (.tup ys):=fun b ys e=>gw.smT.get e (by intro ps z;cases z);have hJ:=tup _ _ gF;have hla1:=tup _ _ gx;have elen:=LG.ln;have labs:∀q:Nat,(q:Int)<n->∃(a:Addr)(es:List En),as[q]?=some a/\gM[q]?=some es/\DS H1 a es:=fun q hq=>by
    have iG:q<as.length:=by lia
    obtain⟨es,h1,h2⟩:=hA q _ (zC iG);exact⟨_,es,zC iG,h1,h2.keep tup⟩
   refine⟨_,rfl,wa,_,_,_,rfl,rfl,AB.of hJ,rfl,n,rfl,by lia,by lia,IH (lo:=0) (n:=n.toNat) (fun x σ H8=>U9 fun (v4 v5 v6 v7:Option V)=>σ=[some (.ref wa),some (.ref la),some (.ref pa),some (.ref na),v4,v5,v6,v7]/\AF H1 H8) ⟨_,_,_,_,rfl,AF.refl _⟩ (fun x σ H8 hx z=>?_) (fun σ H8 z=>?_)⟩
   . obtain⟨v4,v5,v6,v7,rfl,s8⟩:=z;rw[Ca];refine⟨_,rfl,wa,_,_,_,rfl,rfl,AB.of (s8 _ _ hJ),rfl,n,rfl,by lia,by lia,IH (lo:=0) (n:=n.toNat) (fun y σ H9=>IM fun (v5 v6 v7:Option V)=>σ=[some (.ref wa),some (.ref la),some (.ref pa),some (.ref na),some (.int x),v5,v6,v7]/\AF H1 H9) ⟨_,_,_,rfl,s8⟩ (fun y σ H9 hy z=>?_) (fun σ H9 z=>?_)⟩
     . obtain⟨v5,v6,v7,rfl,s9⟩:=z;rw[Ca];have x1:(x:Int)<n:=by lia
       have y1:(y:Int)<n:=by lia
       obtain⟨ax,es,hax,hes,Lx⟩:=labs x x1;obtain⟨ay,fs,hay,hfs,Ly⟩:=labs y y1;refine⟨_,rfl,_,rfl,la,_,_,.ref ax,rfl,rfl,AB.of (s9 _ _ hla1),C5 (by rw[zM,hax];rfl),_,rfl,_,rfl,la,_,_,.ref ay,rfl,rfl,AB.of (s9 _ _ hla1),C5 (by rw[zM,hay];rfl),ax,ay,es,fs,rfl,Lx.same s9,Ly.same s9,(LG.lg _ _ hfs).hub,fun lm H10 s10 hlm=>?_⟩;have s1:=s9.trans s10;have tl:=LG.tell G hes hfs hlm;obtain⟨Ls,LX,A,ig,hX,LAx,NA⟩:=LN.at_ (x:=(x:Int)) (by lia) x1;obtain⟨Ls',LY,B,hna',hY,LAy,NB⟩:=LN.at_ (x:=(y:Int)) (by lia) y1;rw[ig] at hna';have eL:Ls.map V.ref=Ls'.map V.ref:=by injection hna' with z;injection z
       rw[<-eL] at hY;refine⟨_,rfl,_,rfl,na,_,_,.ref LX,rfl,rfl,AB.of (s1 _ _ ig),BB (by lia) hX,_,rfl,_,rfl,na,_,_,.ref LY,rfl,rfl,AB.of (s1 _ _ ig),BB (by lia) hY,LX,LY,A,B,rfl,LAx.same s1,LAy.same s1,fun o H11 s11 TO=>?_⟩;have s2:=s1.trans s11;obtain⟨tn,tS⟩:=told_right G RM O NA NB (by lia) x1 (by lia) y1 TO;have e:=A6.uniq tl ((RM.2 x (by lia) x1).len y (by lia) y1);rw[e];refine⟨_,rfl,rfl,_,rfl,rfl,rfl,_,rfl,?_⟩;rw[Gs,Gs];cases hd:AV (M.getD (x:Int).toNat []) y with
       | none=>obtain rfl:=tn hd;refine BL (by rfl) ?_;exact⟨_,rfl,rfl,_,rfl,Am ⟨_,_,_,rfl,s2⟩⟩
       | some d=>obtain⟨v,rfl,h1,h2,_⟩:=tS d hd;refine BL (by rfl) ?_;refine⟨_,rfl,rfl,_,rfl,Aw ?_⟩;refine⟨_,rfl,_,rfl,_,_,rfl,rfl,_,rfl,FV (zR h1) ?_⟩;refine⟨_,rfl,_,_,rfl,rfl,.inl ⟨by decide,by decide⟩,_,_,rfl,rfl,?_⟩;refine⟨_,rfl,BL (by rw[zR h2];rfl) ⟨_,_,_,rfl,s2⟩⟩
     . obtain⟨v5,v6,v7,rfl,s9⟩:=z;exact⟨_,_,_,_,rfl,s9⟩
   . obtain⟨v4,v5,v6,v7,rfl,s8⟩:=z;exact k _ (gw.smT.trans (BG.of s8)) (T1.same s8)
theorem NW (T:Al H t N)(h:H b=some (.tup ys)):b≠t:=by obtain⟨p,ns,sp,re,e1,_⟩:=T;exact Ar h e1 (by intro z;cases z)
theorem Vc {as:List Addr}(T:Al H t N)(h:H l=some (.lst (as.map V.ref))):l≠t:=by
 obtain⟨p,ns,sp,re,e1,_⟩:=T;intro z;rw[z,e1] at h
 match as,h with
 | [],h=>cases h
 | [x],h=>cases h
 | x::y::r,h=>cases h
theorem eY (T:Al H t N)(h:H th=some (.lst (as.map V.ref)))(gL:as≠[]):Al (upd H th o) t N:=by
 have n1:=Vc T h;obtain⟨p,ns,sp,re,e1,e2,r⟩:=T;have n2:th≠p:=fun z=>by
  rw[z,e2] at h;cases as with
  | nil=>exact gL rfl
  | cons x l=>cases ns with
   | nil=>cases h
   | cons y l=>cases h
 exact⟨p,ns,sp,re,by rw[zf n1.symm];exact e1,by rw[zf n2.symm];exact e2,r⟩
def Bt (x:Addr)(H H':Hp):Prop:=∀b o,H b=some o->(∃ps,o=.tbl ps)\/b=x\/H' b=some o
theorem Bt.refl:Bt x H H:=fun b o e=>.inr (.inr e)
theorem Bt.t (h:Bt x H H1)(k:BG H1 H'):Bt x H H':=fun b o e=>(h b o e).elim .inl fun z=>z.elim (fun z=>.inr (.inl z)) fun z=>(k b o z).imp id .inr
theorem Bt.s (h:Bt x H H1)(k:Sm x H1 H'):Bt x H H':=fun b o e=>(h b o e).imp id fun z=>z.elim .inl fun z=>(Classical.em (b=x)).imp id fun n=>k b o n z
theorem Bt.put (h:Bt x H H1):Bt x H (upd H1 x o):=fun b u e=>(h b u e).imp id fun z=>(Classical.em (b=x)).imp id fun n=>z.elim (fun z=>absurd z n) fun z=>by rw[zf n];exact z
theorem Bt.get (h:Bt x H H')(e:H b=some o)(n:b≠x)(nt:∀ps,o ≠ .tbl ps):H' b=some o:=(h b o e).elim (fun ⟨ps,z⟩=>absurd z (nt ps)) fun z=>z.elim (fun z=>absurd z n) id
theorem Bt.tup {xs ys:List V}(h:Bt x H H')(hx:H x=some (.lst xs))(e:H b=some (.tup ys)):H' b=some (.tup ys):=h.get e (Ar e hx (by intro z;cases z)) (by intro ps z;cases z)
structure Ks (H:Hp)(lo:Addr)(n:Int)(as:List Addr):Prop where
 at':H lo=some (.lst (as.map V.ref))
 ok:∀a∈as,∃os:List Int,H a=some (.tup (os.map V.int))/\C0 n os
def Ud:TE:=fun σ H Q=>∃t,∃(N m:Nat)(b:Bool),σ[1]?=some (some (.ref t))/\σ[3]?=some (some (.int m))/\σ[4]?=some (some (.bl b))/\Al H t N/\N<800000/\1<=m/\m<=7 /\
 ∀wa ts H',Af H' wa m ts->(b=true->Hd m ts)->Al H' t (N+200)->Sm t H H'->Q (.ref wa) H'
def ff (P1 P2 P3 P4:Addr):TS:=fun D σ H=>∃v0 v2 v3 v6 v7 v9 v10 v11 t wa lo,∃(N m:Nat)(b:Bool),∃ts as,σ=[v0,some (.ref t),v2,v3,some (.bl b),some (.ref wa),v6,v7,some (.ref lo),v9,v10,v11]/\Al H t N/\Af H wa m ts/\(b=true->Hd m ts)/\T4 P1 P2 P3 P4 H/\Ks H lo m as/\as≠[]/\as.length<=3 /\
 ∀H' as',Bt lo H H'->Al H' t N->T4 P1 P2 P3 P4 H'->Ks H' lo m as'->as'.length<=4->D.nx [v0,some (.ref t),v2,v3,some (.bl b),some (.ref wa),v6,v7,some (.ref lo),v9,v10,v11] H'
def Q9 (K:AO)(P1 P2 P3 P4:Addr):Sp:=fun vs H Q _=>∃a,∃(ns:List Int),vs=[.ref a]/\AE K H a (ns.map V.int)/\ns.length<=63/\H P1=some (.tbl #[])/\H P2=some (.tbl #[])/\H P3=some (.tbl #[])/\H P4=some (.tbl #[])/\∀H',Q (.bl true) H'
theorem Ej:AW ["_law_script","_law_tape_here","_law_k","_law_n","_law_is_tree","_law_web_here","_law_order_here","_law_numbers","_law_orders","_law_other","_law_labels","_law_posts"] HG (defScope EI):=AY
theorem LJ {P1 P2 P3 P4 c1 c2 c3 c4 f fTa fD fW fT fNe fF fLe fBw fNb fNu fWi fPl fTo fIo fBy fLb fIh fEb fTt fCf fSf fSn fLt fRt fOw fSx fAs fLp fBo fLo fLn fBn fOr fB fWh fJw fTp fIt fPop fMi fGp fPwo fRs fIp fPw fPp fCh fCo fPo fDe fLtx fRa fPf fLk fTf fTr fFi fAr fNs fNl fRc fTox fLi fSu fSux fTd fLg fTrx fPr:Addr}{tk tk':Tok}{gA fdTa fdD fdW jI fdNe fdF fdLe fdBw fdNb fdNu fdWi fdPl fdTo fdIo fdBy fdLb fdIh fdEb fdTt fdCf fdSf fdSn fdLt fdRt fdOw fdSx fdAs fdLp fdBo fdLo fdLn fdBn fdOr jm fdWh fdJw fdTp fdIt fdPop fdMi fdGp fdPwo fdRs fdIp fdPw fdPp fdCh fdCo fdPo fdDe fdLtx fdRa fdPf fdLk fdTf fdTr fdFi fdAr fdNs fdNl fdRc fdTox fdLi fdSu fdSux fdTd fdLg fdTrx fdPr:FuncData}(F:Fu K "law" EI f gA) (CH1:PySem.W.CodeHd base c1 P1)(CH2:PySem.W.CodeHd base c2 P2)(CH3:PySem.W.CodeHd base c3 P3)(CH4:PySem.W.CodeHd base c4 P4)(g6:Co mg base)
 (n12:P1≠P2)(n13:P1≠P3)(n14:P1≠P4)(n23:P2≠P3)(n24:P2≠P4)(n34:P3≠P4)(mMT:mg "MOST_PLACES_OF_LEASTS"=some (.int 8 tk)) (mMW:mg "MOST_WITHIN"=some (.int 24 tk'))
 (FTa:AD K mg "_law_tape" RX fTa fdTa HG)
 (FD:AD K mg "_law_draw" IB fD fdD IV)
 (FW:AD K mg "_law_web" EN fW fdW Eo)
 (FT:AD K mg "ties_at" G1 fT jI DC)
 (FNe:Ct K "nearest" "nearest" OM fNe fdNe c1) (bNe:CU K fdNe JS []) (mNe:mg "nearest"=some (.ref fNe))
 (FF:AD K mg "lengths_from" OK fF fdF QL)
 (FLe:AD K mg "lengths" Jg fLe fdLe Ai)
 (FBw:AD K mg "between_rows" ES fBw fdBw Lm)
 (FNb:AD K mg "next_by_row" Fj fNb fdNb M3)
 (FNu:AD K mg "is_number" Eu fNu fdNu BV)
 (FWi:AD K mg "is_within" Ig fWi fdWi HQ)
 (FPl:AD K mg "is_place" HN fPl fdPl Cw)
 (FTo:AD K mg "is_tuple_of" J0 fTo fdTo Ih)
 (FIo:AD K mg "is_order" D6 fIo fdIo Bb)
 (FBy:AD K mg "by_order" D7 fBy fdBy KD)
 (FLb:AD K mg "label_by_ranks" Ff fLb fdLb Pe)
 (FIh:AD K mg "is_hub" Fb fIh fdIh Mw)
 (FEb:AD K mg "entry_by_rows" FX fEb fdEb OT)
 (FTt:AD K mg "total" Fi fTt fdTt EE)
 (FCf:AD K mg "count_free" Mv fCf fdCf Kx)
 (FSf:AD K mg "sets_from" Qw fSf fdSf Lb)
 (FSn:AD K mg "set_number" Ko fSn fdSn IQ)
 (FLt:AD K mg "lets_least" Q3 fLt fdLt Bb)
 (FRt:AD K mg "refuse_too_many" EL fRt fdRt Ai)
 (FOw:AD K mg "is_order_with_numbers" N7 fOw fdOw Bb)
 (FSx:AD K mg "step_fault" OI fSx fdSx QS)
 (FAs:AD K mg "all_sets" MY fAs fdAs Ai)
 (FLp:AD K mg "left_places" Dy fLp fdLp MK)
 (FBo:AD K mg "by_way_of" He fBo fdBo HR)
 (FLo:AD K mg "least_order" Ri fLo fdLo Ai)
 (FLn:AD K mg "least_numbers" N1 fLn fdLn QQ)
 (FBn:Ct K "best_next" "best_next" Mr fBn fdBn c2) (bBn:CU K fdBn IZ []) (mBn:mg "best_next"=some (.ref fBn))
 (FOr:AD K mg "_law_order" Rh fOr fdOr Eo)
 (FB:AD K mg "beside" NP fB jm DC)
 (FWh:AD K mg "is_whole" NI fWh fdWh Ai)
 (FJw:AD K mg "joined_within" M0 fJw fdJw JW)
 (FTp:AD K mg "tree_plan" QK fTp fdTp Ai)
 (FIt:AD K mg "is_tree" P8 fIt fdIt Ai)
 (iX:AD K mg "plan_of_part" Fh fPop fdPop Ck)
 (FMi:Ct K "middle_place" "middle_place" SE fMi fdMi c4) (bMi:CU K fdMi Ck []) (mMi:mg "middle_place"=some (.ref fMi))
 (FGp:AD K mg "greatest_part" PK fGp fdGp DB)
 (jJ:AD K mg "parts_without" EK fPwo fdPwo DB)
 (FRs:AD K mg "is_rising" ED fRs fdRs IL)
 (FIp:AD K mg "is_plan" PH fIp fdIp BV)
 (FPw:AD K mg "is_plan_within" QC fPw fdPw IU)
 (FPp:AD K mg "are_plan_places" ON fPp fdPp BV)
 (FCh:AD K mg "chain" M8 fCh fdCh DD)
 (FCo:AD K mg "chain_or_none" Oz fCo fdCo DD)
 (jn:AD K mg "plan_order" KJ fPo fdPo Bs)
 (FDe:AD K mg "deepest" Qe fDe fdDe Bs)
 (je:AD K mg "lets_plan" N5 fLtx fdLtx Bb)
 (FRa:AD K mg "refuse_at" NR fRa fdRa Mz)
 (FPf:AD K mg "place_fault" QN fPf fdPf DE)
 (FLk:AD K mg "lacks_fault" QZ fLk fdLk DE)
 (FTf:AD K mg "tie_fault" PY fTf fdTf DE)
 (FTr:AD K mg "_law_tree" R1 fTr fdTr Eo)
 (FFi:AD K mg "_law_figures" FU fFi fdFi ["_law_n"])
 (FAr:AD K mg "are_places" Fn fAr fdAr Cw)
 (FNs:AD K mg "near_labels" Fp fNs fdNs K0)
 (FNl:Ct K "near_label" "near_label" QX fNl fdNl c3) (bNl:CU K fdNl LM []) (mNl:mg "near_label"=some (.ref fNl))
 (FRc:AD K mg "reached" D9 fRc fdRc KL)
 (jd:AD K mg "near_told" NV fTox fdTox Bc)
 (FLi:AD K mg "lengths_in" D8 fLi fdLi La)
 (FSu:AD K mg "sums_by_home" Nr fSu fdSu Bc)
 (FSux:AD K mg "least_sum" Fd fSux fdSux Bc)
 (FTd:AD K mg "told" OJ fTd fdTd Bc)
 (FLg:AD K mg "longest" Fe fLg fdLg EE)
 (jc:AD K mg "_law_tree_right" SA fTrx fdTrx R8)
 (FPr:AD K mg "_law_posts_right" SG fPr fdPr SF)
 (f9:mg "len"=none) (f7:mg "range"=none) (fw:mg "tuple"=none) (gB:mg "sorted"=none) (gH:mg "min"=none) (iK:mg "max"=none) (gN:mg "list"=none) (gE:mg "isinstance"=none) (gT:mg "int"=none) (gI:mg "bool"=none) (gO:mg "all"=none) (jY:mg "set"=none) (g9:mg "sum"=none) (iQ:mg "enumerate"=none) (ip:mg "dict"=none):AH P w K mg base AL 40 f gA HG (Q9 K P1 P2 P3 P4):=by
 have GTa:AJ P w base 39 FTa (WT K):=(Z1 FTa.F).mono;have GD:AJ P w base 39 FD UJ:=(Xy FD.F f9).mono;have GDP:AJ P w base 39 FD Q1:=(Rt FD.F f9).mono;have GW':AJ P w base 39 FW JB:=(Lo FW.F FD f9 f7 fw gB).mono;have GTr:AJ P w base 39 FTr XA:=(Zh FTr.F FD f9 f7 fw gB).mono;have GOr:AJ P w base 39 FOr WJ:=(cO FOr.F FD f9 f7 fw gN).mono;have GF:AJ P w base 4 FF (UK P1):=dk FF.F FNe bNe mNe FT CH1 g6 gH gB fw;have GLe5:AJ P w base 5 FLe (N3 P1):=d4 FLe.F FF GF f7 fw;have GSf:AJ P w base 5 FSf KU:=(O5 FSf.F FSn FBw f7 fw f9 g9).mono;have GAs:AJ P w base 6 FAs (Q7 P1):=bg FAs.F FLe GLe5 FSf GSf f7;have GBo:AJ P w base 2 FBo Rp:=MT FBo.F FCf f9;have GBT:AJ P w base 6 FBo Tv:=(b8 FBo.F FCf f9).mono;have GLp:AJ P w base 4 FLp RU:=(Kv FLp.F f7).mono;have GBn:AH P w K mg base AL 5 fBn fdBn IZ (RY P2):=aF FBn CH2 g6 gH FLp GLp FBo GBo;have GLn:AJ P w base 6 FLn (TK P2):=cZ FLn.F ⟨FBn.fn,bBn,mBn⟩ GBn FBo (GBo.mono) f7;have GRt:AJ P w base 6 FRt R6:=(KY FRt.F mMT).mono;have GLo:AJ P w base 39 FLo (YT P1 P2):=(Zg FLo.F FRt GRt FAs GAs FLn GLn FSn ((L9 FSn.F g9).mono) ⟨FBn.fn,bBn,mBn⟩ (GBn.mono) f9 fw).mono;have GIo:AJ P w base 4 FIo Ro:=LS FIo.F FTo FWi FPl FNu gE gT gI fw f9 gO jY;have GLb:AJ P w base 5 FLb TB:=LC FLb.F FIh ((LR FIh.F FBw f7 fw f9 gO).mono) FEb (Lg FEb.F FNb FT gB fw gH) f7 fw;have GBy6:AJ P w base 6 FBy (NO P1):=MM FBy.F FIo (GIo.mono) FLe GLe5 FLb GLb f7 fw;have GBy:AJ P w base 39 FBy (NO P1):=GBy6.mono;have GTt:AJ P w base 39 FTt S0:=(Y6 FTt.F f9 g9).mono;have GOw:AJ P w base 7 FOw Tf:=(eQ FOw.F FTo ((SO FTo.F gE fw f9).mono) FIo GIo FNu ((R4 FNu.F gE gT gI).mono) gO).mono;have GLt:AJ P w base 39 FLt (Vr P1):=(bQ FLt.F FRt (GRt.mono) FOw GOw FSx (cP FSx.F FAs GAs FLp (GLp.mono) FBo GBT iQ) FBy (GBy6.mono) FTt ((Y6 FTt.F f9 g9).mono)).mono;have GJw:AJ P w base 3 FJw HV:=Qu FJw.F FB FT gB fw f9;have GWh:AJ P w base 4 FWh Sd:=cg FWh.F FJw GJw f9 f7 gN;have GIt:AJ P w base 5 FIt LZ:=OP FIt.F FWh GWh f9;have GPwo:AJ P w base 4 jJ Nk:=Km jJ.F FJw GJw;have GGp:AJ P w base 5 FGp L8:=QJ FGp.F jJ GPwo f9 iK;have GMi:AH P w K mg base AL 8 fMi fdMi Ck (HP P4):=Qs FMi CH4 g6 gH FGp GGp;have GPop:AJ P w base 33 iX (Rv P4 24):=Yg iX.F iX.b iX.m FMi.kp bMi mMi GMi jJ (GPwo.mono) fw 24;have GTp:AJ P w base 39 FTp (Ry P4):=(XD FTp.F FIt (GIt.mono) iX GPop f7 gN).mono;have GTp8:AJ P w base 38 FTp (Ry P4):=(XD FTp.F FIt (GIt.mono) iX GPop f7 gN).mono;have GPp:∀m,AJ P w base (m+2) FPp MU:=fun m=>(PU FPp.F FNu FRs gE gT gI fw f9 f7 gO).mono (by lia);have GTo:∀m,AJ P w base (m+2) FTo Np:=fun m=>(SO FTo.F gE fw f9).mono (by lia);have GPw:AJ P w base 27 FPw (HY 24):=Ij FPw.F FPw.b FPw.m FTo FPp GTo GPp gE fw gO 24;have GIp:AJ P w base 28 FIp ME:=OR FIp.F FPw GPw mMW;have jV:AJ P w base 25 jn (Js 24):=JO jn.F jn.b jn.m gN fw 24;have GPo:AJ P w base 39 jn (Js 24):=jV.mono;have GCh:AJ P w base 26 FCh (HL 24):=Om FCh.F FCo fw gB jY;have GDe:AJ P w base 25 FDe (HS 24):=JC FDe.F FDe.b FDe.m f9 iK 24;have GPf:AJ P w base 28 FPf (Ll 24):=OY FPf.F jn (jV.mono) FPl ((LW FPl.F FWi FNu gE gT gI).mono);have GLk:AJ P w base 28 FLk (MI 24):=Pf FLk.F jn (jV.mono) f7 gH;have GTf:AJ P w base 28 FTf (Kz 24):=Ob FTf.F FCh (GCh.mono) f7;have GV:AJ P w base 29 je (TV 24):=Lf je.F FIp GIp FRa FPf GPf FLk GLk FTf GTf
 have GTR:AJ P w base 39 jc (PX P1 P2 P3 P4):=QB jc.F FTp GTp8 jn (jV.mono) FBy (GBy6.mono) je (GV.mono) FLg ((L3 FLg.F f9 iK).mono) FCh (GCh.mono) FDe (GDe.mono) FFi ((L7 FFi.F).mono) f7;have GAr:AJ P w base 4 FAr Te:=KG FAr.F FPl (Kb FPl.F FWi FNu gE gT gI) FRs gE fw f9 f7 gO;have GNl:AH P w K mg base AL 2 fNl fdNl LM (LP P3):=Qo FNl CH3 g6 FRc gH gN f7 f9 fw;have GNs:AJ P w base 38 FNs (Sv P1 P3):=(KQ n13.symm FNs.F FAr (GAr.mono) FLe GLe5 FNl bNl mNl (GNl.mono) fw iQ).mono (by decide);have GNt:AJ P w base 38 jd Tc:=(cS jd.F FLi FSu gH).mono;have GTd:AJ P w base 38 FTd UR:=(af FTd.F FSux ip gH).mono;have GPR:AJ P w base 39 FPr (P7 P1 P2 P3 P4):=QT FPr.F FNs GNs FTd GTd jd GNt f7;refine F.okD Ej fun _ A _ _ H vs Q E hr h=>?_;obtain⟨a,ns,rfl,hS,hlen,h1,h2,h3,h4,k⟩:=h;refine⟨_,zW (DU (i:=1) Ej.nd rfl (Or.inr rfl) (AI GTa hr FTa (zD (pv 0) zO)))
  (zW (CB (CT rfl f7 (Bw zO)) (BN (i:=2) Ej.nd)
   (zW (DU (i:=3) Ej.nd rfl (Or.inr rfl) (Ac Ci zm (AI GD hr FD (zD (pv 1) (Bw zO)))))
   (zW (Ak (i:=4) Ej.nd (Cy CN (AI GD hr FD (zD (pv 1) (Bw zO))) zm (AZ _)))
   (zW (Ak (i:=5) Ej.nd (RQ (te':=Ud) (XC (Bq (pv 4)) (AI GTr hr FTr (zD (pv 1) (zD (pv 3) zO))) (AI GW' hr FW (zD (pv 1) (zD (pv 3) zO)))) ?web))
   (zW (Mo (AI GLo hr FLo (zD (pv 5) zO)) (Ml rfl (BF (BN (i:=6) Ej.nd) (BF (BN (i:=7) Ej.nd) E2))))
   (zW (Ap (PW.pt (DJ (Ad Xg (AI GLt hr FLt (zD (pv 5) (zD (Ba (zD (pv 6) (zD (pv 7) zO))) zO))) E1 (AZ _)) (Es (Ad Me (AI GTt hr FTt (zD (AI GBy hr FBy (zD (pv 5) (zD (pv 6) zO))) zO)) (AK AX (pv 7) zm) (AZ _))))) By As)
   (zW (IE (i:=8) (own:=["_law_turn"]) (cn:=["_law_n","_law_tape_here"]) (ci:=[3,1]) Ej.nd rfl (Or.inl rfl) rfl (An rfl rfl) ⟨rfl,rfl,rfl,rfl,rfl,rfl,trivial⟩ rfl (CT rfl f7 (Bw zO)) (fun _ _ _ _=>Aq) (fun _ _ _ _=>BI) (fun _ _ _ _=>AI GOr hr FOr (zD (pv 2) (zD (pv 1) zO))))
   (zW (Oy (u':=ff P1 P2 P3 P4) (Ap (Bq (pv 4)) (zW (DL (Gd PySem.F.plainAttrs_list PySem.F.slot_list_append PySem.F.type_list_append HB (pv 8) (zD (AI GPo hr jn (zD (AI GTp hr FTp (zD (pv 5) zO)) zO)) zO))) (zh (Ap (CG (Bq (AI GTR hr jc (zD (pv 5) zO)))) By As))) As) ?tr)
   (zh (CB (CZ (pv 8)) (DZ (i:=9) Ej.nd rfl (Or.inr rfl))
    (zW (Ak (i:=10) Ej.nd (AI GBy hr FBy (zD (pv 5) (zD (pv 9) zO))))
    (zW (Ap (Ad J6 (AI GTt hr FTt (zD (pv 10) zO)) (AK AX (pv 7) zm) (AZ _)) By As)
    (zW (Ak (i:=11) Ej.nd (Bi B9 fw (zD (A0 (own:=["_law_place"]) (cn:=["_law_other","_law_tape_here"]) (ci:=[9,1]) rfl (An rfl rfl) ⟨rfl,rfl,rfl,rfl,rfl,rfl,trivial⟩ rfl (CT rfl f7 (zD (pv 3) zO)) (fun _ _ _ _=>Aq)
     (fun _ _ _ _=>Cn (PW.pt (DJ (Ad CN (AI GDP hr FD (zD (pv 2) (Bw zO))) zm (AZ _)) (Es (Ad CN (pv 0) (AK Bg (pv 1) zm) (AZ _)))))) (fun _ _ _ _=>pv 0)) zO)))
    (zh (Ap (CG (Bq (AI GPR hr FPr (zD (pv 5) (zD (pv 10) (zD (pv 11) zO)))))) By As)))))))))))))))
  (zh (AQ E1))),?_⟩
 case web=>
  rintro σ H2 Q2 ⟨t,N,m,b,e1,e3,e4,T,hN,m1,m7,kk⟩;refine⟨_,e4,_,rfl,?_⟩;cases b with
  | true=>exact Aw ⟨_,e1,_,e3,t,N,(m:Int),rfl,T,by lia,by lia,by lia,fun wa ts H' W it T' s=>kk wa ts H' W (fun _=>it) (T'.mono (by lia)) s⟩
  | false=>exact Am ⟨_,e1,_,e3,t,N,(m:Int),rfl,T,by lia,by lia,by lia,fun wa ts H' _ W T' s=>kk wa ts H' W (fun z=>by cases z) T' s⟩
 case tr=>
  rintro D σ H ⟨v0,v2,v3,v6,v7,v9,v10,v11,t,wa,lo,N,m,b,ts,as,rfl,T,W,it,F,O,gL,hl,kk⟩;cases b with
  | false=>exact⟨_,rfl,_,rfl,Am (kk H as Bt.refl T F O (by lia))⟩
  | true=>
   have it:=it rfl;obtain⟨ta,tys,gF,_,_,G⟩:=id W;refine⟨_,rfl,_,rfl,Aw ?_⟩;refine⟨_,rfl,.inl ⟨rfl,_,AE.of O.at'⟩,_,rfl,wa,m,ts,rfl,W,F.d,it,fun v p H1 S1 tp gw D1=>?_⟩;have g:=IT G it tp;have hlen:=g.pg.ln;have F1:=F.p4 gw D1;refine⟨v,p,rfl,S1,g.ht,by lia,fun o H2 s2 ho=>?_⟩;have gi:BG H H2:=gw.smT.trans (BG.of s2);have hlo2:H2 lo=some (.lst (as.map V.ref)):=gi.get O.at' (by intro ps z;cases z);have kT:∀b zs,H2 b=some (.tup zs)->upd H2 lo (.lst (as.map V.ref++[.ref o])) b=some (.tup zs):=fun b zs e=>by rw[zf (Ar e hlo2 (by intro z;cases z))];exact e
   refine⟨lo,_,.ref o,rfl,rfl,hlo2,by rw[zB];exact zr (by lia),?_⟩;have T3:=eY (o:=.lst (as.map V.ref++[.ref o])) (T.smT gi) hlo2 gL;have F3:T4 P1 P2 P3 P4 (upd H2 lo (.lst (as.map V.ref++[.ref o]))):=(F1.same s2).lst hlo2;have W3:Af (upd H2 lo (.lst (as.map V.ref++[.ref o]))) wa m ts:=(W.smt gi).keepT kT;have O3:Ks (upd H2 lo (.lst (as.map V.ref++[.ref o]))) lo m (as++[o]):=by
    refine⟨by rw[zK,zQ];rfl,fun b hb=>?_⟩;rcases zU.mp hb with hb | hb
    . obtain⟨os,e,O'⟩:=O.ok b hb;exact⟨os,kT _ _ (gi.get e (by intro ps z;cases z)),O'⟩
    . rw[zi.mp hb];exact⟨_,kT _ _ ho,g.lp.ordr⟩
   have sU:Bt lo H (upd H2 lo (.lst (as.map V.ref++[.ref o]))):=(Bt.refl.t gi).put;generalize upd H2 lo (.lst (as.map V.ref++[.ref o]))=H3 at T3 F3 W3 O3 sU ⊢;refine⟨_,rfl,wa,m,ts,rfl,W3,it,F3,fun H4 sm4 F4=>⟨_,rfl,Am ?_⟩⟩;refine kk H4 (as++[o]) (sU.t sm4) (T3.smT sm4) F4 ⟨sm4.get O3.at' (by intro ps z;cases z),fun b hb=>?_⟩ (by rw[zJ,Gw];lia);obtain⟨os,e,O'⟩:=O3.ok b hb;exact⟨os,sm4.get e (by intro ps z;cases z),O'⟩
 refine⟨_,rfl,a,ns,rfl,hS,hlen,fun t H1 ht T1 s1=>?_⟩;have F1:T4 P1 P2 P3 P4 H1:=⟨⟨#[],s1 _ _ h1,trivial,.inl rfl⟩,⟨#[],s1 _ _ h2,trivial,.inl rfl⟩,⟨#[],s1 _ _ h3,trivial,.inl rfl⟩,⟨#[],s1 _ _ h4,trivial,.inl rfl⟩,n12,n13,n14,n23,n24,n34⟩;refine⟨2,rfl,by decide,by decide,IH (lo:=0) (n:=2) (fun q σ H2=>Ot fun (v2 v3 v4 v5 v6 v7 v8 v9 v10 v11:Option V)=>σ=[some (.ref a),some (.ref t),v2,v3,v4,v5,v6,v7,v8,v9,v10,v11]/\Al H2 t (2000*q)/\T4 P1 P2 P3 P4 H2) ⟨_,_,_,_,_,_,_,_,_,_,rfl,T1,F1⟩ (fun q σ H2 hq z=>?_) (fun σ H2 z=>?_)⟩
 . obtain⟨v2,v3,v4,v5,v6,v7,v8,v9,v10,v11,rfl,T2,F2⟩:=z;rw[Ca];refine⟨_,rfl,t,2000*q,7,rfl,T2,by lia,by decide,by decide,fun r H3 r0 r7 T3 e3=>?_⟩;obtain⟨m,em⟩:∃m:Nat,1+r=m:=⟨(1+r).toNat,by lia⟩;refine⟨1,r,rfl,rfl,?_⟩;dsimp only;rw[em];have F3:=F2.sm T2 (fun b o n e=>by rw[e3 b n];exact e:Sm t H2 H3);refine⟨_,rfl,t,_,2,rfl,T3,by lia,by decide,by decide,fun r' H4 _ _ T4' e4=>?_⟩;have F4:=F3.sm T3 (fun b o n e=>by rw[e4 b n];exact e:Sm t H3 H4);refine⟨rfl,?_⟩;have m1:1<=m:=by lia
   have m7:m<=7:=by lia
   clear T2 F2 T3 F3 e3 e4 em r0 r7 r H3;generalize decide (V.int r'=V.int 0)=bt;refine⟨t,_,m,bt,rfl,rfl,rfl,T4',by lia,m1,m7,fun wa ts H5 W5 it T5 s5=>?_⟩;have F5:=F4.sm T4' s5;clear T4' F4 s5 H4 H2;refine⟨_,rfl,wa,m,ts,rfl,W5,by lia,F5.a,F5.b,n12,fun rr oa na R nu os H6 sm6 B6 C6 hr6 hoa6 hna6 TD=>?_⟩;have F6:=F5.p12 sm6 B6 C6;have W6:=W5.smt sm6.smT;have T6:=T5.smT sm6.smT;clear T5 F5 W5 sm6 B6 C6 H5;have G:GW (m:Int) ts:=by obtain⟨_,_,_,_,_,G⟩:=id W6;exact G
   have tg:ZH R m os nu:=⟨TD.ow.perm TD.ln,TD.dp.ln,TD.dp.last,by rw[TD.ow.eq,(RJ (TD.ow.perm TD.ln)).2.2.2,TD.dp.last,Int.add_zero]⟩;have iH:0<nu.length:=by rw[tg.ln];exact ND _
   have le:=TD.dp.leOk;have SR:=TD.sr;refine⟨rr,_,rfl,AB.of hr6,rfl,_,_,rfl,_,_,rfl,rfl,?_⟩;refine⟨_,rfl,_,rfl,_,rfl,BO,fun p hp=>?_⟩;have sp:=zL (o:=.tup [.ref oa,.ref na]) hp;refine⟨wa,p,m,ts,R,os,nu,rfl,⟨W6.keep sp,by lia,⟨oa,na,zK,sp _ _ hoa6,sp _ _ hna6⟩,SR,tg,F6.a.same sp⟩,le,fun H7 sm7 B7=>?_⟩;refine⟨_,_,rfl,rfl,_,rfl,BL (by rfl) ?_⟩;have F7:=(F6.same sp).p1 sm7 B7;have sm67:BG H6 H7:=(BG.of sp).trans sm7.smT;have hoa7:H7 oa=some (.tup ((nI os).map V.int)):=sm67.get hoa6 (by intro ps z;cases z);refine⟨_,rfl,_,rfl,wa,oa,m,ts,nI os,rfl,W6.smt sm67,hoa7,Q5 tg.pm,F7.a,fun l gM rk H8 sm8 B8 LA RK LO=>?_⟩;refine⟨l,_,rfl,LA.tlen,by rw[zB,LO.1];lia,fun H9 s9=>?_⟩;have sm69:BG H6 H9:=(sm67.trans sm8.smT).trans (BG.of s9);have hna9:H9 na=some (.tup (nu.map V.int)):=sm69.get hna6 (by intro ps z;cases z);refine⟨_,rfl,na,_,_,.int (nu.getD 0 0),rfl,rfl,AB.of hna9,at0 iH,rfl,_,rfl,BL (by rw[Sl G SR tg.pm RK LO,tg.at0];simp) ?_⟩;have F9:=(F7.p1 sm8 B8).same s9;have W9:=W6.smt sm69;obtain⟨tp,TP9⟩:=T6.smT sm69;clear T6 F6 W6 F7 sm67 sm69 s9 sm8 B8 LA RK LO sm7 B7 sp hp hr6 hoa6 hna6 hoa7 H6 H7 H8;refine⟨3,rfl,by decide,by decide,[.int m,.ref t],rfl,fun lo ij=>?_⟩;have nt:lo≠t:=Al.ne ⟨tp,TP9⟩ ij;have np:lo≠tp:=(Bl.ne2 TP9 ij).2;have hlo9:H9 lo=none:=ij;refine Dv (lo:=0) (n:=3) (fun i ys Hx=>∃as:List Addr,ys=as.map V.ref/\as.length=i/\i<=3/\(∀a∈as,∃os:List Int,Hx a=some (.tup (os.map V.int))/\C0 m os)/\Bl Hx t tp (2000*q+300+24*i)/\Sm t H9 Hx/\Hx lo=some (.lst ys))
    ⟨[],rfl,rfl,zg _,fun a ha=>by simp at ha,TP9.keepF (fun o e=>zL ij _ _ e) (fun o e=>zL ij _ _ e) (by lia),Sm.laid ij,zK⟩ (fun i ys Hx z=>?_) (fun i ys Hx hi z=>?_) (fun ys H10 z=>?_)
   . obtain⟨as,rfl,hl,hi,_⟩:=z;rw[zB,hl];exact zr (by lia)
   . obtain⟨as,rfl,hl,_,ok,TPx,sx,hlx⟩:=z;refine⟨⟨rfl,rfl⟩,?_⟩;refine BH ?_;refine⟨_,rfl,_,rfl,t,tp,_,(m:Int),rfl,TPx,by lia,by lia,by lia,fun o jM Hy ho Oo TPy sy=>?_⟩;have hly:Hy lo=some (.lst (as.map V.ref)):=sy _ _ nt hlx;have kT:∀b zs,Hy b=some (.tup zs)->upd Hy lo (.lst (as.map V.ref++[.ref o])) b=some (.tup zs):=fun b zs e=>by rw[zf (Ar e hly (by intro z;cases z))];exact e
     refine⟨hly,as++[o],by rw[zQ];rfl,by rw[zJ,hl];rfl,by lia,fun b hb=>?_,TPy.keepF (fun o e=>by rw[zf nt.symm];exact e) (fun o e=>by rw[zf np.symm];exact e) (by lia),(sx.trans sy).chg hlo9,zK⟩;rcases zU.mp hb with hb | hb
     . obtain⟨os2,e,O2⟩:=ok b hb;exact⟨os2,kT _ _ (sy _ _ (NW ⟨tp,TPx⟩ e) e),O2⟩
     . rw[zi.mp hb];exact⟨jM,kT _ _ ho,Oo⟩
   obtain⟨as,rfl,hl,_,ok,TPx,sx,hlx⟩:=z;have T9:Al H9 t _:=⟨tp,TP9⟩;have hna10:=sx _ _ (NW T9 hna9) hna9;have W10:Af H10 wa m ts:=W9.keepT fun b ys e=>sx _ _ (NW T9 e) e;have F10:=F9.sm T9 sx;have T10:Al H10 t _:=⟨tp,TPx⟩;clear T9 F9 W9 hna9 TP9 TPx sx nt np ij hlo9 H9;refine⟨_,_,_,_,_,_,_,_,t,wa,lo,_,m,bt,ts,as,rfl,T10,W10,it,F10,⟨hlx,ok⟩,(fun z=>by rw[z] at hl;cases hl),by lia,fun H11 as' sU T11 F11 O11 hl11=>?_⟩;have hna11:=sU.tup hlx hna10;have W11:Af H11 wa m ts:=W10.keepT fun b ys e=>sU.tup hlx e;clear T10 F10 W10 hna10 sU hlx ok hl H10;obtain⟨xs,ht11⟩:∃xs,H11 t=some (.lst xs):=by obtain⟨p,ns,sp,re,e1,_⟩:=T11;exact⟨_,e1⟩
   refine⟨_,rfl,lo,rfl,⟨_,AE.of O11.at'⟩,TH (K:=K) (a:=lo) (xs:=as'.map V.ref) (fun i σ H'=>IM fun (v9 v10 v11:Option V)=>σ=[some (.ref a),some (.ref t),some (.int q),some (.int m),some (.bl bt),some (.ref wa),some (.ref oa),some (.ref na),some (.ref lo),v9,v10,v11]/\Bt t H11 H'/\Al H' t (2000*q+400+10*i)/\T4 P1 P2 P3 P4 H') ⟨_,_,_,rfl,Bt.refl,T11.mono (by lia),F11⟩ (fun i σ H' _ z=>?_) (fun i x σ H' hx z=>?_) (fun σ H' z=>?_)⟩
   . obtain⟨_,_,_,_,sU,_⟩:=z;exact AE.of (sU.get O11.at' (Vc T11 O11.at') (by intro ps z;cases z))
   . obtain⟨v9,v10,v11,rfl,sU,T12,F12⟩:=z;have hi:i<as'.length:=by have:=(zH.mp hx).1;rw[zB] at this;exact this
     obtain⟨o,ho,rfl⟩:∃o,as'[i]?=some o/\V.ref o=x:=by
      rw[zM] at hx;cases e:as'[i]? with
      | none=>rw[e] at hx;cases hx
      | some y=>rw[e] at hx;exact⟨y,rfl,zV hx⟩
     obtain⟨jM,eo,Oo⟩:=O11.ok o (zP ho);have eo12:=sU.tup ht11 eo;have W12:Af H' wa m ts:=W11.keepT fun b ys e=>sU.tup ht11 e;have hna12:=sU.tup ht11 hna11;refine⟨_,rfl,_,rfl,wa,o,m,ts,jM,rfl,W12,eo12,Oo,F12.a,fun l gM rk H13 sm13 B13 LA RK LO=>?_⟩;refine⟨_,rfl,l,_,rfl,LA.tlen,by rw[zB,LO.1];lia,fun H14 s14=>?_⟩;have jW:BG H' H14:=sm13.smT.trans (BG.of s14);have hna14:H14 na=some (.tup (nu.map V.int)):=jW.get hna12 (by intro ps z;cases z);have big:nu.getD 0 0<=((gM.map List.length).map fun k:Nat=>(k:Int)).sum:=by obtain⟨ps,rfl,pm⟩:=bf Oo;rw[Sl G SR pm RK LO];exact le.min tg.last pm
     refine⟨_,rfl,na,_,_,.int (nu.getD 0 0),rfl,rfl,AB.of hna14,at0 iH,_,_,rfl,rfl,_,rfl,BL (zT (by lia)) ?_⟩;have F14:=(F12.p1 sm13 B13).same s14;have T14:=T12.smT jW;have W14:=W12.smt jW;have LA14:Hv H14 l gM:=LA.keep fun b ys e=>s14 _ _ e;have eo14:H14 o=some (.tup (jM.map V.int)):=jW.get eo12 (by intro ps z;cases z);have sU14:=sU.t jW;have LG:=LO.good G RK;obtain⟨p0,hp0⟩:∃p0,jM[0]?=some p0:=⟨_,zC (by have:=Oo.ln;lia)⟩;have rp0:=Oo.rng p0 (zP hp0);clear T12 F12 W12 eo12 hna12 sm13 B13 LA RK LO s14 jW sU hna14 H13 big;obtain⟨tp,TP⟩:=id T14;refine⟨_,rfl,(m:Int),rfl,by lia,by lia,[.ref o,.ref t],rfl,fun D hD=>?_⟩;obtain⟨jf,nDp⟩:=Bl.ne2 TP hD;have hD0:H14 D=none:=hD;refine Dv (lo:=0) (n:=((m:Int)).toNat) (fun j ys Hx=>j<=m/\(∃qs:List Int,ys=qs.map V.int/\(∀a∈qs,0<=a/\a<j)/\qs.Pairwise (· < ·)/\qs.length<=j/\(p0<j->p0∈qs))/\Bl Hx t tp (2000*q+400+10*i+j)/\Sm t H14 Hx/\Hx D=some (.lst ys))
      ⟨zg _,⟨[],rfl,by simp,Ju,zI _,fun z=>by lia⟩,TP.keepF (fun o e=>zL hD _ _ e) (fun o e=>zL hD _ _ e) (by lia),Sm.laid hD,zK⟩ (fun j ys Hx z=>?_) (fun j ys Hx hj z=>?_) (fun ys Hx z=>?_)
     . obtain⟨hj,⟨qs,rfl,_,_,hk,_⟩,_⟩:=z;rw[zB];exact zr (by lia)
     . obtain⟨_,⟨qs,rfl,ha,nd,hk,hp⟩,TPx,sx,hDx⟩:=z;rw[Ca];have yes:∀Hy,Bl Hy t tp (2000*q+400+10*i+j+1)->Sm t H14 Hy->Hy D=some (.lst (qs.map V.int))->j+1<=m/\(∃qs':List Int,qs.map V.int++[.int j]=qs'.map V.int/\(∀a∈qs',0<=a/\a<((j+1:Nat):Int))/\qs'.Pairwise (· < ·)/\qs'.length<=j+1/\(p0<((j+1:Nat):Int)->p0∈qs'))/\Bl (upd Hy D (.lst (qs.map V.int++[.int j]))) t tp (2000*q+400+10*i+(j+1))/\Sm t H14 (upd Hy D (.lst (qs.map V.int++[.int j])))/\(upd Hy D (.lst (qs.map V.int++[.int j]))) D=some (.lst (qs.map V.int++[.int j])):=fun Hy TPy sy hDy=>by
        refine⟨by lia,⟨qs++[(j:Int)],by rw[zQ];rfl,fun a q=>?_,?_,by rw[zJ,Gw];lia,fun z=>?_⟩,TPy.keepF (fun o e=>by rw[zf jf.symm];exact e) (fun o e=>by rw[zf nDp.symm];exact e) (by lia),sy.chg hD0,zK⟩
        . rcases zU.mp q with z | z
          . have:=ha a z;lia
          . rw[zi.mp z];lia
        . exact List.pairwise_append.mpr ⟨nd,by simp,fun a q b z=>by rw[zi.mp z];exact (ha a q).2⟩
        . by_cases c:p0=(j:Int)
          . rw[c];simp
          . exact Di _ (hp (by lia))
       refine⟨⟨rfl,rfl⟩,?_⟩;refine⟨_,rfl,t,tp,_,3,rfl,TPx,by lia,by decide,by decide,fun r7 Hy _ _ TPy ey=>?_⟩;have sy:Sm t Hx Hy:=fun b o n e=>by rw[ey b n];exact e
       have hDy:=sy _ _ jf hDx;have sxy:=sx.trans sy;refine⟨rfl,_,rfl,CF (fun _=>Aw ⟨_,rfl,hDy,yes Hy TPy sxy hDy⟩) fun _=>?_⟩;refine⟨_,rfl,_,rfl,o,_,_,.int p0,rfl,rfl,AB.of (sxy _ _ (NW T14 eo14) eo14),C5 (j:=0) (by rw[zM,hp0];rfl),rfl,_,rfl,?_⟩;by_cases c:p0=(j:Int)
       . exact FV (zR (by rw[c])) ⟨_,rfl,hDy,yes Hy TPy sxy hDy⟩
       . refine BL (zT fun z=>c (by injection z with z;exact z.symm)) ⟨by lia,⟨qs,rfl,fun a q=>by have:=ha a q;lia,nd,by lia,fun z=>hp (by lia)⟩,TPy.keepF (fun o e=>e) (fun o e=>e) (by lia),sxy,hDy⟩
     . obtain⟨_,⟨qs,rfl,ha,nd,hk,hp⟩,TPx,sx,hDx⟩:=z;refine⟨D,_,rfl,.inl ⟨AE.of hDx,fun pa iV=>?_⟩⟩;have sL:=zL (o:=.tup (qs.map V.int)) iV;have hm:((m:Int)).toNat=m:=by lia
       rw[hm] at ha hk hp TPx;have po:Je m qs:=⟨fun z=>by have:=hp (by lia);rw[z] at this;simp at this,by lia,ha,nd⟩;have k14:∀b ys,H14 b=some (.tup ys)->(upd Hx pa (.tup (qs.map V.int))) b=some (.tup ys):=fun b ys e=>sL _ _ (sx _ _ (NW T14 e) e);have F15:=(F14.sm T14 sx).same sL;have T15:Al (upd Hx pa (.tup (qs.map V.int))) t (2000*q+400+10*i+m):=Al.keep ⟨tp,TPx⟩ sL;have sU15:=(sU14.s sx).s (Sm.of sL);refine⟨_,rfl,_,rfl,_,rfl,wa,l,pa,m,ts,gM,qs,rfl,W14.keepT k14,LA14.keep k14,LG,zK,po,F15,fun H16 sm16 F16=>?_⟩;exact⟨_,rfl,Am ⟨_,_,_,rfl,sU15.t sm16,(T15.smT sm16).mono (by lia),F16⟩⟩
   . obtain⟨v9,v10,v11,rfl,sU,T12,F12⟩:=z;rw[zB] at T12;exact⟨_,_,_,_,_,_,_,_,_,_,rfl,T12.mono (by lia),F12⟩
 . obtain⟨v2,v3,v4,v5,v6,v7,v8,v9,v10,v11,rfl,_⟩:=z;exact k H2
end K91
namespace K91
open PySem L2 WM
theorem B4:∀{us:List Value},us.length=1->∃u0,us=[u0]
 | [u0],_=>⟨u0,rfl⟩
theorem Ay:∀{us:List Value},us.length=2->∃u0 u1,us=[u0,u1]
 | [u0,u1],_=>⟨u0,u1,rfl⟩
theorem Hu:∀{us:List Value},us.length=3->∃u0 u1 u2,us=[u0,u1,u2]
 | [u0,u1,u2],_=>⟨u0,u1,u2,rfl⟩
theorem Fq:∀{us:List Value},us.length=4->∃u0 u1 u2 u3,us=[u0,u1,u2,u3]
 | [u0,u1,u2,u3],_=>⟨u0,u1,u2,u3,rfl⟩
theorem walk {l:PySem.W.OpenLaw}{K:Params->AO}(hn:l.most=some 63)(hdf:d.params.defaults=[])(iA:∀t∈(["nearest","best_next","near_label","middle_place"]:List Str),∃dn,(PyProof.Rows.recsOf q).find? (fun e=>e.name==t)=some dn) (hY:∀w h,YP w h->(K w.params).In h)
 (F:∀w mg fa h,(K w.params).In h->h.Ns mainGlobals mg->mg d.name=some (.ref fa)->∃fd c1 P1 c2 P2 c3 P3 c4 P4,PySem.W.tabIn (K w.params) "nearest"=some (c1,P1)/\PySem.W.tabIn (K w.params) "best_next"=some (c2,P2)/\PySem.W.tabIn (K w.params) "near_label"=some (c3,P3)/\PySem.W.tabIn (K w.params) "middle_place"=some (c4,P4)/\PySem.W.noTabs (K w.params)=true/\(∀s u,BindsTo s fd ⟨[u],[]⟩ [("_law_script",u)])/\∀base:Heap,(K w.params).In base->base.Ns mainGlobals mg->Co mg base->AH l.prog w (K w.params) mg base AL 40 fa fd HG (Q9 (K w.params) P1 P2 P3 P4)):
 PySem.W.WalkO q loose XP YP l.row.toRowW d [] (fun f vs=>PySem.call f vs):=
 L2.walk_T4 (n:=63) (k:=40) (x := "_law_script") (CX:=AL) (sp:=Q9) hn (by decide) hdf ⟨rfl,by decide,by decide,rfl⟩ iA hY F (fun _ P1 P2 P3 P4 _ a ns hl hP hS=>⟨a,ns,rfl,hS,hl,hP P1 (by simp),hP P2 (by simp),hP P3 (by simp),hP P4 (by simp),fun _=>rfl⟩) fun _ _ _ _ z=>z
theorem fk (w:World)(x:Str)(st:Stmt)(f:Addr)(pm cd:Value)(l:(Kf w.params).lookup f=some ⟨.type "function",.none,.func (PySem.W.fnOf x x (defArgs st) (defBody st) (defScope st) .none .none .none pm .none cd .none),#[]⟩:=by kernel_rfl) (c:PySem.W.codeIn (Kf w.params) cd x=true:=by kernel_rfl)(k:PySem.W.keepIn (Kf w.params) (.ref f)=true:=by kernel_rfl):FY (Kf w.params) x x st f (PySem.W.fnOf x x (defArgs st) (defBody st) (defScope st) .none .none .none pm .none cd .none):=K5 l c k
theorem SH (x)(st)(f)(pm)(cc)(l:K.lookup f=some ⟨.type "function",.none,.func (PySem.W.fnOf x x (defArgs st) (defBody st) (defScope st) .none .none .none pm .none (.ref cc) .none),#[]⟩:=by kernel_rfl) (c:PySem.W.codeIn K (.ref cc) x=true:=by kernel_rfl)(k:PySem.W.keepIn K (.ref f)=true:=by kernel_rfl):Ct K x x st f (PySem.W.fnOf x x (defArgs st) (defBody st) (defScope st) .none .none .none pm .none (.ref cc) .none) cc:=aM l c k
noncomputable def dL:DefRec:={ name := "law",params:=defArgs EI,body:=defBody EI,scope:=defScope EI,pos:=⟨344,0,365,15⟩ }
theorem facts (w:World)(mg:Be)(fa:Addr)(h:Heap)(KX:(Kf w.params).In h)(G:h.Ns mainGlobals mg)(hmg:mg "law"=some (.ref fa)):∃fd c1 P1 c2 P2 c3 P3 c4 P4,PySem.W.tabIn (Kf w.params) "nearest"=some (c1,P1)/\PySem.W.tabIn (Kf w.params) "best_next"=some (c2,P2)/\PySem.W.tabIn (Kf w.params) "near_label"=some (c3,P3)/\PySem.W.tabIn (Kf w.params) "middle_place"=some (c4,P4)/\PySem.W.noTabs (Kf w.params)=true/\(∀s u,BindsTo s fd ⟨[u],[]⟩ [("_law_script",u)])/\∀base:Heap,(Kf w.params).In base->base.Ns mainGlobals mg->Co mg base->AH (PySem.Challenge.rw_labelways_k91_whole_orders_plans_and_pos).prog w (Kf w.params) mg base AL 40 fa fd HG (Q9 (Kf w.params) P1 P2 P3 P4):=by
 have mk:∀(x:Str)(f:Addr),PySem.W.nsIn (Kf w.params) mainGlobals x=some (some (.ref f))->mg x=some (.ref f):=fun x f e=>PySem.W.mg_of KX G e;have mn:∀x:Str,PySem.W.nsIn (Kf w.params) mainGlobals x=some none->mg x=none:=fun x e=>PySem.W.mg_none_of KX G e;have FTa:=fk w "_law_tape" RX 483 qL (vR 482);have bTa:=FTa.binds (ps:=HG) fun _ _ _ _ _ _ us hl=>by obtain⟨u0,rfl⟩:=B4 hl;rfl
 have mTa:=mk "_law_tape" 483 (by kernel_rfl);have FD:=fk w "_law_draw" IB 490 qL (vR 489);have bD:=FD.binds (ps:=IV) fun _ _ _ _ _ _ us hl=>by obtain⟨u0,u1,rfl⟩:=Ay hl;rfl
 have mD:=mk "_law_draw" 490 (by kernel_rfl);have FW:=fk w "_law_web" EN 495 qL (vR 494);have bW:=FW.binds (ps:=Eo) fun _ _ _ _ _ _ us hl=>by obtain⟨u0,u1,rfl⟩:=Ay hl;rfl
 have mW:=mk "_law_web" 495 (by kernel_rfl);have FT:=fk w "ties_at" G1 158 (qS "labelways.webs" 371) (vR 157);have bT:=FT.binds (ps:=DC) fun _ _ _ _ _ _ us hl=>by obtain⟨u0,u1,rfl⟩:=Ay hl;rfl
 have mT:=mk "ties_at" 158 (by kernel_rfl);have FNe:=SH (K:=Kf w.params) "nearest" OM 196 (qS "labelways.lengths" 410) 195;have bNe:=FNe.fn.binds (ps:=JS) fun _ _ _ _ _ _ us hl=>by obtain⟨u0,rfl⟩:=B4 hl;rfl
 have mNe:=mk "nearest" 196 (by kernel_rfl);have FF:=fk w "lengths_from" OK 189 (qS "labelways.lengths" 410) (vR 188);have bF:=FF.binds (ps:=QL) fun _ _ _ _ _ _ us hl=>by obtain⟨u0,u1,rfl⟩:=Ay hl;rfl
 have mF:=mk "lengths_from" 189 (by kernel_rfl);have FLe:=fk w "lengths" Jg 182 (qS "labelways.lengths" 410) (vR 181);have bLe:=FLe.binds (ps:=Ai) fun _ _ _ _ _ _ us hl=>by obtain⟨u0,rfl⟩:=B4 hl;rfl
 have mLe:=mk "lengths" 182 (by kernel_rfl);have FBw:=fk w "between_rows" ES 201 (qS "labelways.lengths" 410) (vR 200);have bBw:=FBw.binds (ps:=Lm) fun _ _ _ _ _ _ us hl=>by obtain⟨u0,u1,u2,rfl⟩:=Hu hl;rfl
 have mBw:=mk "between_rows" 201 (by kernel_rfl);have FNb:=fk w "next_by_row" Fj 206 (qS "labelways.lengths" 410) (vR 205);have bNb:=FNb.binds (ps:=M3) fun _ _ _ _ _ _ us hl=>by obtain⟨u0,u1,u2,rfl⟩:=Hu hl;rfl
 have mNb:=mk "next_by_row" 206 (by kernel_rfl);have FNu:=fk w "is_number" Eu 120 (qS "labelways.kinds" 325) (vR 119);have bNu:=FNu.binds (ps:=BV) fun _ _ _ _ _ _ us hl=>by obtain⟨u0,rfl⟩:=B4 hl;rfl
 have mNu:=mk "is_number" 120 (by kernel_rfl);have FWi:=fk w "is_within" Ig 127 (qS "labelways.kinds" 325) (vR 126);have bWi:=FWi.binds (ps:=HQ) fun _ _ _ _ _ _ us hl=>by obtain⟨u0,u1,u2,rfl⟩:=Hu hl;rfl
 have mWi:=mk "is_within" 127 (by kernel_rfl);have FPl:=fk w "is_place" HN 146 (qS "labelways.kinds" 325) (vR 145);have bPl:=FPl.binds (ps:=Cw) fun _ _ _ _ _ _ us hl=>by obtain⟨u0,u1,rfl⟩:=Ay hl;rfl
 have mPl:=mk "is_place" 146 (by kernel_rfl);have FTo:=fk w "is_tuple_of" J0 134 (qS "labelways.kinds" 325) (vR 133);have bTo:=FTo.binds (ps:=Ih) fun _ _ _ _ _ _ us hl=>by obtain⟨u0,u1,rfl⟩:=Ay hl;rfl
 have mTo:=mk "is_tuple_of" 134 (by kernel_rfl);have FIo:=fk w "is_order" D6 211 (qS "labelways.orders" 452) (vR 210);have bIo:=FIo.binds (ps:=Bb) fun _ _ _ _ _ _ us hl=>by obtain⟨u0,u1,rfl⟩:=Ay hl;rfl
 have mIo:=mk "is_order" 211 (by kernel_rfl);have FBy:=fk w "by_order" D7 216 (qS "labelways.orders" 452) (vR 215);have bBy:=FBy.binds (ps:=KD) fun _ _ _ _ _ _ us hl=>by obtain⟨u0,u1,rfl⟩:=Ay hl;rfl
 have mBy:=mk "by_order" 216 (by kernel_rfl);have FLb:=fk w "label_by_ranks" Ff 221 (qS "labelways.orders" 452) (vR 220);have bLb:=FLb.binds (ps:=Pe) fun _ _ _ _ _ _ us hl=>by obtain⟨u0,u1,u2,u3,rfl⟩:=Fq hl;rfl
 have mLb:=mk "label_by_ranks" 221 (by kernel_rfl);have FIh:=fk w "is_hub" Fb 226 (qS "labelways.orders" 452) (vR 225);have bIh:=FIh.binds (ps:=Mw) fun _ _ _ _ _ _ us hl=>by obtain⟨u0,u1,u2,u3,rfl⟩:=Fq hl;rfl
 have mIh:=mk "is_hub" 226 (by kernel_rfl);have FEb:=fk w "entry_by_rows" FX 233 (qS "labelways.orders" 452) (vR 232);have bEb:=FEb.binds (ps:=OT) fun _ _ _ _ _ _ us hl=>by obtain⟨u0,u1,u2,u3,rfl⟩:=Fq hl;rfl
 have mEb:=mk "entry_by_rows" 233 (by kernel_rfl);have FTt:=fk w "total" Fi 238 (qS "labelways.orders" 452) (vR 237);have bTt:=FTt.binds (ps:=EE) fun _ _ _ _ _ _ us hl=>by obtain⟨u0,rfl⟩:=B4 hl;rfl
 have mTt:=mk "total" 238 (by kernel_rfl);have FCf:=fk w "count_free" Mv 248 (qS "labelways.leasts" 502) (vR 247);have bCf:=FCf.binds (ps:=Kx) fun _ _ _ _ _ _ us hl=>by obtain⟨u0,u1,rfl⟩:=Ay hl;rfl
 have mCf:=mk "count_free" 248 (by kernel_rfl);have FSf:=fk w "sets_from" Qw 253 (qS "labelways.leasts" 502) (vR 252);have bSf:=FSf.binds (ps:=Lb) fun _ _ _ _ _ _ us hl=>by obtain⟨u0,u1,rfl⟩:=Ay hl;rfl
 have mSf:=mk "sets_from" 253 (by kernel_rfl);have FSn:=fk w "set_number" Ko 258 (qS "labelways.leasts" 502) (vR 257);have bSn:=FSn.binds (ps:=IQ) fun _ _ _ _ _ _ us hl=>by obtain⟨u0,rfl⟩:=B4 hl;rfl
 have mSn:=mk "set_number" 258 (by kernel_rfl);have FLt:=fk w "lets_least" Q3 265 (qS "labelways.leasts" 502) (vR 264);have bLt:=FLt.binds (ps:=Bb) fun _ _ _ _ _ _ us hl=>by obtain⟨u0,u1,rfl⟩:=Ay hl;rfl
 have mLt:=mk "lets_least" 265 (by kernel_rfl);have FRt:=fk w "refuse_too_many" EL 272 (qS "labelways.leasts" 502) (vR 271);have bRt:=FRt.binds (ps:=Ai) fun _ _ _ _ _ _ us hl=>by obtain⟨u0,rfl⟩:=B4 hl;rfl
 have mRt:=mk "refuse_too_many" 272 (by kernel_rfl);have FOw:=fk w "is_order_with_numbers" N7 277 (qS "labelways.leasts" 502) (vR 276);have bOw:=FOw.binds (ps:=Bb) fun _ _ _ _ _ _ us hl=>by obtain⟨u0,u1,rfl⟩:=Ay hl;rfl
 have mOw:=mk "is_order_with_numbers" 277 (by kernel_rfl);have FSx:=fk w "step_fault" OI 284 (qS "labelways.leasts" 502) (vR 283);have bSx:=FSx.binds (ps:=QS) fun _ _ _ _ _ _ us hl=>by obtain⟨u0,u1,rfl⟩:=Ay hl;rfl
 have mSx:=mk "step_fault" 284 (by kernel_rfl);have FAs:=fk w "all_sets" MY 289 (qS "labelways.leasts" 502) (vR 288);have bAs:=FAs.binds (ps:=Ai) fun _ _ _ _ _ _ us hl=>by obtain⟨u0,rfl⟩:=B4 hl;rfl
 have mAs:=mk "all_sets" 289 (by kernel_rfl);have FLp:=fk w "left_places" Dy 294 (qS "labelways.leasts" 502) (vR 293);have bLp:=FLp.binds (ps:=MK) fun _ _ _ _ _ _ us hl=>by obtain⟨u0,u1,rfl⟩:=Ay hl;rfl
 have mLp:=mk "left_places" 294 (by kernel_rfl);have FBo:=fk w "by_way_of" He 301 (qS "labelways.leasts" 502) (vR 300);have bBo:=FBo.binds (ps:=HR) fun _ _ _ _ _ _ us hl=>by obtain⟨u0,u1,u2,u3,rfl⟩:=Fq hl;rfl
 have mBo:=mk "by_way_of" 301 (by kernel_rfl);have FLo:=fk w "least_order" Ri 308 (qS "labelways.leasts" 502) (vR 307);have bLo:=FLo.binds (ps:=Ai) fun _ _ _ _ _ _ us hl=>by obtain⟨u0,rfl⟩:=B4 hl;rfl
 have mLo:=mk "least_order" 308 (by kernel_rfl);have FLn:=fk w "least_numbers" N1 315 (qS "labelways.leasts" 502) (vR 314);have bLn:=FLn.binds (ps:=QQ) fun _ _ _ _ _ _ us hl=>by obtain⟨u0,u1,rfl⟩:=Ay hl;rfl
 have mLn:=mk "least_numbers" 315 (by kernel_rfl);have FBn:=SH (K:=Kf w.params) "best_next" Mr 322 (qS "labelways.leasts" 502) 321;have bBn:=FBn.fn.binds (ps:=IZ) fun _ _ _ _ _ _ us hl=>by obtain⟨u0,u1,u2,u3,rfl⟩:=Fq hl;rfl
 have mBn:=mk "best_next" 322 (by kernel_rfl);have FOr:=fk w "_law_order" Rh 502 qL (vR 501);have bOr:=FOr.binds (ps:=Eo) fun _ _ _ _ _ _ us hl=>by obtain⟨u0,u1,rfl⟩:=Ay hl;rfl
 have mOr:=mk "_law_order" 502 (by kernel_rfl);have FB:=fk w "beside" NP 163 (qS "labelways.webs" 371) (vR 162);have bB:=FB.binds (ps:=DC) fun _ _ _ _ _ _ us hl=>by obtain⟨u0,u1,rfl⟩:=Ay hl;rfl
 have mB:=mk "beside" 163 (by kernel_rfl);have FWh:=fk w "is_whole" NI 170 (qS "labelways.webs" 371) (vR 169);have bWh:=FWh.binds (ps:=Ai) fun _ _ _ _ _ _ us hl=>by obtain⟨u0,rfl⟩:=B4 hl;rfl
 have mWh:=mk "is_whole" 170 (by kernel_rfl);have FJw:=fk w "joined_within" M0 177 (qS "labelways.webs" 371) (vR 176);have bJw:=FJw.binds (ps:=JW) fun _ _ _ _ _ _ us hl=>by obtain⟨u0,u1,u2,rfl⟩:=Hu hl;rfl
 have mJw:=mk "joined_within" 177 (by kernel_rfl);have FTp:=fk w "tree_plan" QK 447 (qS "labelways.trees" 766) (vR 446);have bTp:=FTp.binds (ps:=Ai) fun _ _ _ _ _ _ us hl=>by obtain⟨u0,rfl⟩:=B4 hl;rfl
 have mTp:=mk "tree_plan" 447 (by kernel_rfl);have FIt:=fk w "is_tree" P8 454 (qS "labelways.trees" 766) (vR 453);have bIt:=FIt.binds (ps:=Ai) fun _ _ _ _ _ _ us hl=>by obtain⟨u0,rfl⟩:=B4 hl;rfl
 have mIt:=mk "is_tree" 454 (by kernel_rfl);have iX:=fk w "plan_of_part" Fh 459 (qS "labelways.trees" 766) (vR 458);have bPop:=iX.binds (ps:=Ck) fun _ _ _ _ _ _ us hl=>by obtain⟨u0,u1,rfl⟩:=Ay hl;rfl
 have mPop:=mk "plan_of_part" 459 (by kernel_rfl);have FMi:=SH (K:=Kf w.params) "middle_place" SE 466 (qS "labelways.trees" 766) 465;have bMi:=FMi.fn.binds (ps:=Ck) fun _ _ _ _ _ _ us hl=>by obtain⟨u0,u1,rfl⟩:=Ay hl;rfl
 have mMi:=mk "middle_place" 466 (by kernel_rfl);have FGp:=fk w "greatest_part" PK 471 (qS "labelways.trees" 766) (vR 470);have bGp:=FGp.binds (ps:=DB) fun _ _ _ _ _ _ us hl=>by obtain⟨u0,u1,u2,rfl⟩:=Hu hl;rfl
 have mGp:=mk "greatest_part" 471 (by kernel_rfl);have jJ:=fk w "parts_without" EK 476 (qS "labelways.trees" 766) (vR 475);have bPwo:=jJ.binds (ps:=DB) fun _ _ _ _ _ _ us hl=>by obtain⟨u0,u1,u2,rfl⟩:=Hu hl;rfl
 have mPwo:=mk "parts_without" 476 (by kernel_rfl);have FRs:=fk w "is_rising" ED 139 (qS "labelways.kinds" 325) (vR 138);have bRs:=FRs.binds (ps:=IL) fun _ _ _ _ _ _ us hl=>by obtain⟨u0,rfl⟩:=B4 hl;rfl
 have mRs:=mk "is_rising" 139 (by kernel_rfl);have FIp:=fk w "is_plan" PH 373 (qS "labelways.plans" 672) (vR 372);have bIp:=FIp.binds (ps:=BV) fun _ _ _ _ _ _ us hl=>by obtain⟨u0,rfl⟩:=B4 hl;rfl
 have mIp:=mk "is_plan" 373 (by kernel_rfl);have FPw:=fk w "is_plan_within" QC 378 (qS "labelways.plans" 672) (vR 377);have bPw:=FPw.binds (ps:=IU) fun _ _ _ _ _ _ us hl=>by obtain⟨u0,u1,rfl⟩:=Ay hl;rfl
 have mPw:=mk "is_plan_within" 378 (by kernel_rfl);have FPp:=fk w "are_plan_places" ON 383 (qS "labelways.plans" 672) (vR 382);have bPp:=FPp.binds (ps:=BV) fun _ _ _ _ _ _ us hl=>by obtain⟨u0,rfl⟩:=B4 hl;rfl
 have mPp:=mk "are_plan_places" 383 (by kernel_rfl);have FCh:=fk w "chain" M8 390 (qS "labelways.plans" 672) (vR 389);have bCh:=FCh.binds (ps:=DD) fun _ _ _ _ _ _ us hl=>by obtain⟨u0,u1,rfl⟩:=Ay hl;rfl
 have mCh:=mk "chain" 390 (by kernel_rfl);have FCo:=fk w "chain_or_none" Oz 397 (qS "labelways.plans" 672) (vR 396);have bCo:=FCo.binds (ps:=DD) fun _ _ _ _ _ _ us hl=>by obtain⟨u0,u1,rfl⟩:=Ay hl;rfl
 have mCo:=mk "chain_or_none" 397 (by kernel_rfl);have jn:=fk w "plan_order" KJ 404 (qS "labelways.plans" 672) (vR 403);have bPo:=jn.binds (ps:=Bs) fun _ _ _ _ _ _ us hl=>by obtain⟨u0,rfl⟩:=B4 hl;rfl
 have mPo:=mk "plan_order" 404 (by kernel_rfl);have FDe:=fk w "deepest" Qe 409 (qS "labelways.plans" 672) (vR 408);have bDe:=FDe.binds (ps:=Bs) fun _ _ _ _ _ _ us hl=>by obtain⟨u0,rfl⟩:=B4 hl;rfl
 have mDe:=mk "deepest" 409 (by kernel_rfl);have je:=fk w "lets_plan" N5 416 (qS "labelways.plans" 672) (vR 415);have bLtx:=je.binds (ps:=Bb) fun _ _ _ _ _ _ us hl=>by obtain⟨u0,u1,rfl⟩:=Ay hl;rfl
 have mLtx:=mk "lets_plan" 416 (by kernel_rfl);have FRa:=fk w "refuse_at" NR 423 (qS "labelways.plans" 672) (vR 422);have bRa:=FRa.binds (ps:=Mz) fun _ _ _ _ _ _ us hl=>by obtain⟨u0,u1,rfl⟩:=Ay hl;rfl
 have mRa:=mk "refuse_at" 423 (by kernel_rfl);have FPf:=fk w "place_fault" QN 430 (qS "labelways.plans" 672) (vR 429);have bPf:=FPf.binds (ps:=DE) fun _ _ _ _ _ _ us hl=>by obtain⟨u0,u1,rfl⟩:=Ay hl;rfl
 have mPf:=mk "place_fault" 430 (by kernel_rfl);have FLk:=fk w "lacks_fault" QZ 435 (qS "labelways.plans" 672) (vR 434);have bLk:=FLk.binds (ps:=DE) fun _ _ _ _ _ _ us hl=>by obtain⟨u0,u1,rfl⟩:=Ay hl;rfl
 have mLk:=mk "lacks_fault" 435 (by kernel_rfl);have FTf:=fk w "tie_fault" PY 440 (qS "labelways.plans" 672) (vR 439);have bTf:=FTf.binds (ps:=DE) fun _ _ _ _ _ _ us hl=>by obtain⟨u0,u1,rfl⟩:=Ay hl;rfl
 have mTf:=mk "tie_fault" 440 (by kernel_rfl);have FTr:=fk w "_law_tree" R1 509 qL (vR 508);have bTr:=FTr.binds (ps:=Eo) fun _ _ _ _ _ _ us hl=>by obtain⟨u0,u1,rfl⟩:=Ay hl;rfl
 have mTr:=mk "_law_tree" 509 (by kernel_rfl);have FFi:=fk w "_law_figures" FU 516 qL (vR 515);have bFi:=FFi.binds (ps:=["_law_n"]) fun _ _ _ _ _ _ us hl=>by obtain⟨u0,rfl⟩:=B4 hl;rfl
 have mFi:=mk "_law_figures" 516 (by kernel_rfl);have FAr:=fk w "are_places" Fn 151 (qS "labelways.kinds" 325) (vR 150);have bAr:=FAr.binds (ps:=Cw) fun _ _ _ _ _ _ us hl=>by obtain⟨u0,u1,rfl⟩:=Ay hl;rfl
 have mAr:=mk "are_places" 151 (by kernel_rfl);have FNs:=fk w "near_labels" Fp 339 (qS "labelways.nears" 631) (vR 338);have bNs:=FNs.binds (ps:=K0) fun _ _ _ _ _ _ us hl=>by obtain⟨u0,u1,rfl⟩:=Ay hl;rfl
 have mNs:=mk "near_labels" 339 (by kernel_rfl);have FNl:=SH (K:=Kf w.params) "near_label" QX 344 (qS "labelways.nears" 631) 343;have bNl:=FNl.fn.binds (ps:=LM) fun _ _ _ _ _ _ us hl=>by obtain⟨u0,u1,u2,rfl⟩:=Hu hl;rfl
 have mNl:=mk "near_label" 344 (by kernel_rfl);have FRc:=fk w "reached" D9 349 (qS "labelways.nears" 631) (vR 348);have bRc:=FRc.binds (ps:=KL) fun _ _ _ _ _ _ us hl=>by obtain⟨u0,u1,rfl⟩:=Ay hl;rfl
 have mRc:=mk "reached" 349 (by kernel_rfl);have jd:=fk w "near_told" NV 356 (qS "labelways.nears" 631) (vR 355);have bTox:=jd.binds (ps:=Bc) fun _ _ _ _ _ _ us hl=>by obtain⟨u0,u1,rfl⟩:=Ay hl;rfl
 have mTox:=mk "near_told" 356 (by kernel_rfl);have FLi:=fk w "lengths_in" D8 361 (qS "labelways.nears" 631) (vR 360);have bLi:=FLi.binds (ps:=La) fun _ _ _ _ _ _ us hl=>by obtain⟨u0,u1,rfl⟩:=Ay hl;rfl
 have mLi:=mk "lengths_in" 361 (by kernel_rfl);have FSu:=fk w "sums_by_home" Nr 366 (qS "labelways.nears" 631) (vR 365);have bSu:=FSu.binds (ps:=Bc) fun _ _ _ _ _ _ us hl=>by obtain⟨u0,u1,rfl⟩:=Ay hl;rfl
 have mSu:=mk "sums_by_home" 366 (by kernel_rfl);have FSux:=fk w "least_sum" Fd 334 (qS "labelways.labels" 615) (vR 333);have bSux:=FSux.binds (ps:=Bc) fun _ _ _ _ _ _ us hl=>by obtain⟨u0,u1,rfl⟩:=Ay hl;rfl
 have mSux:=mk "least_sum" 334 (by kernel_rfl);have FTd:=fk w "told" OJ 329 (qS "labelways.labels" 615) (vR 328);have bTd:=FTd.binds (ps:=Bc) fun _ _ _ _ _ _ us hl=>by obtain⟨u0,u1,rfl⟩:=Ay hl;rfl
 have mTd:=mk "told" 329 (by kernel_rfl);have FLg:=fk w "longest" Fe 243 (qS "labelways.orders" 452) (vR 242);have bLg:=FLg.binds (ps:=EE) fun _ _ _ _ _ _ us hl=>by obtain⟨u0,rfl⟩:=B4 hl;rfl
 have mLg:=mk "longest" 243 (by kernel_rfl);have jc:=fk w "_law_tree_right" SA 521 qL (vR 520);have bTrx:=jc.binds (ps:=R8) fun _ _ _ _ _ _ us hl=>by obtain⟨u0,rfl⟩:=B4 hl;rfl
 have mTrx:=mk "_law_tree_right" 521 (by kernel_rfl);have FPr:=fk w "_law_posts_right" SG 528 qL (vR 527);have bPr:=FPr.binds (ps:=SF) fun _ _ _ _ _ _ us hl=>by obtain⟨u0,u1,u2,rfl⟩:=Hu hl;rfl
 have mPr:=mk "_law_posts_right" 528 (by kernel_rfl);have FZ:=fk w "law" EI 533 qL (vR 532);have mb0:=mn "len" (by kernel_rfl);have mb1:=mn "range" (by kernel_rfl);have mb2:=mn "tuple" (by kernel_rfl);have mb3:=mn "sorted" (by kernel_rfl);have mb4:=mn "min" (by kernel_rfl);have mb5:=mn "max" (by kernel_rfl);have mb6:=mn "list" (by kernel_rfl);have mb7:=mn "isinstance" (by kernel_rfl);have mb8:=mn "int" (by kernel_rfl);have mb9:=mn "bool" (by kernel_rfl);have mb10:=mn "all" (by kernel_rfl);have mb11:=mn "set" (by kernel_rfl);have mb12:=mn "sum" (by kernel_rfl);have mb13:=mn "enumerate" (by kernel_rfl);have mb14:=mn "dict" (by kernel_rfl);have e:=hmg.symm.trans (mk "law" 533 (by kernel_rfl));cases e;have mMT:mg "MOST_PLACES_OF_LEASTS"=some (.int 8 504):=PySem.W.mg_of KX G (by kernel_rfl);have mMW:mg "MOST_WITHIN"=some (.int 24 674):=PySem.W.mg_of KX G (by kernel_rfl);exact⟨_,195,191,321,317,343,341,465,461,by kernel_rfl,by kernel_rfl,by kernel_rfl,by kernel_rfl,by kernel_rfl,fun s v=>.of_eq rfl,fun base hb _ g6=>LJ FZ (PySem.W.codeHd_of_K hb (show PySem.W.codeHdIn (Kf w.params) 195 191=true by kernel_rfl)) (PySem.W.codeHd_of_K hb (show PySem.W.codeHdIn (Kf w.params) 321 317=true by kernel_rfl)) (PySem.W.codeHd_of_K hb (show PySem.W.codeHdIn (Kf w.params) 343 341=true by kernel_rfl)) (PySem.W.codeHd_of_K hb (show PySem.W.codeHdIn (Kf w.params) 465 461=true by kernel_rfl)) g6 (by decide) (by decide) (by decide) (by decide) (by decide) (by decide) mMT mMW ⟨FTa,bTa,mTa⟩ ⟨FD,bD,mD⟩ ⟨FW,bW,mW⟩ ⟨FT,bT,mT⟩ FNe bNe mNe ⟨FF,bF,mF⟩ ⟨FLe,bLe,mLe⟩ ⟨FBw,bBw,mBw⟩ ⟨FNb,bNb,mNb⟩ ⟨FNu,bNu,mNu⟩ ⟨FWi,bWi,mWi⟩ ⟨FPl,bPl,mPl⟩ ⟨FTo,bTo,mTo⟩ ⟨FIo,bIo,mIo⟩ ⟨FBy,bBy,mBy⟩ ⟨FLb,bLb,mLb⟩ ⟨FIh,bIh,mIh⟩ ⟨FEb,bEb,mEb⟩ ⟨FTt,bTt,mTt⟩ ⟨FCf,bCf,mCf⟩ ⟨FSf,bSf,mSf⟩ ⟨FSn,bSn,mSn⟩ ⟨FLt,bLt,mLt⟩ ⟨FRt,bRt,mRt⟩ ⟨FOw,bOw,mOw⟩ ⟨FSx,bSx,mSx⟩ ⟨FAs,bAs,mAs⟩ ⟨FLp,bLp,mLp⟩ ⟨FBo,bBo,mBo⟩ ⟨FLo,bLo,mLo⟩ ⟨FLn,bLn,mLn⟩ FBn bBn mBn ⟨FOr,bOr,mOr⟩ ⟨FB,bB,mB⟩ ⟨FWh,bWh,mWh⟩ ⟨FJw,bJw,mJw⟩ ⟨FTp,bTp,mTp⟩ ⟨FIt,bIt,mIt⟩ ⟨iX,bPop,mPop⟩ FMi bMi mMi ⟨FGp,bGp,mGp⟩ ⟨jJ,bPwo,mPwo⟩ ⟨FRs,bRs,mRs⟩ ⟨FIp,bIp,mIp⟩ ⟨FPw,bPw,mPw⟩ ⟨FPp,bPp,mPp⟩ ⟨FCh,bCh,mCh⟩ ⟨FCo,bCo,mCo⟩ ⟨jn,bPo,mPo⟩ ⟨FDe,bDe,mDe⟩ ⟨je,bLtx,mLtx⟩ ⟨FRa,bRa,mRa⟩ ⟨FPf,bPf,mPf⟩ ⟨FLk,bLk,mLk⟩ ⟨FTf,bTf,mTf⟩ ⟨FTr,bTr,mTr⟩ ⟨FFi,bFi,mFi⟩ ⟨FAr,bAr,mAr⟩ ⟨FNs,bNs,mNs⟩ FNl bNl mNl ⟨FRc,bRc,mRc⟩ ⟨jd,bTox,mTox⟩ ⟨FLi,bLi,mLi⟩ ⟨FSu,bSu,mSu⟩ ⟨FSux,bSux,mSux⟩ ⟨FTd,bTd,mTd⟩ ⟨FLg,bLg,mLg⟩ ⟨jc,bTrx,mTrx⟩ ⟨FPr,bPr,mPr⟩ mb0 mb1 mb2 mb3 mb4 mb5 mb6 mb7 mb8 mb9 mb10 mb11 mb12 mb13 mb14⟩
end K91
open PySem PySem.W PyProof.Rows
set_option maxRecDepth 100000 in
set_option maxHeartbeats 0 in
theorem PySem.Challenge.cw_labelways_k91_whole_orders_plans_and_pos_holds : PySem.Challenge.rw_labelways_k91_whole_orders_plans_and_pos.Holds := by
 refine holds_law K91.wS fun said=>?_;refine holds_open (q:=K91.Vp) (loose:=[]) (Xt:=fun s=>xlAt K91.Vp [] s && recOk (RowW.records K91.RR) s) (XP:=XL K91.Vp []) (Yf:=Hook.obs K91.HK) (Ya:=Hook.val K91.HK) (YP:=Hook.says K91.HK) (d:=K91.dL) (kwd:=[]) (N:=7452) K91.left (Hook.of K91.HK) (Hook.keeps K91.HK) (fun s e=>xl_of s (Bool.and_eq_true_iff.mp e).1) XL.keeps (by kernel_rfl) (by kernel_rfl) (by kernel_rfl) (fun s e=>recFacts_of (Bool.and_eq_true_iff.mp e).2) (by kernel_rfl) said (by decide +kernel) ⟨rfl,rfl,rfl,rfl,rfl,by decide +kernel⟩ ?hw ?hc
 case hw=>w_witness2
 case hc=>
  exact K91.walk (l:=PySem.Challenge.rw_labelways_k91_whole_orders_plans_and_pos) (K:=K91.Kf) rfl rfl (fun t ht=>by
   simp only[zX,List.not_mem_nil,or_false] at ht;rcases ht with rfl | rfl | rfl | rfl
   . exact⟨((PyProof.Rows.recsOf K91.Vp).find? (fun e=>e.name==("nearest" : Str))).get (by decide +kernel),by simp⟩
   . exact⟨((PyProof.Rows.recsOf K91.Vp).find? (fun e=>e.name==("best_next" : Str))).get (by decide +kernel),by simp⟩
   . exact⟨((PyProof.Rows.recsOf K91.Vp).find? (fun e=>e.name==("near_label" : Str))).get (by decide +kernel),by simp⟩
   . exact⟨((PyProof.Rows.recsOf K91.Vp).find? (fun e=>e.name==("middle_place" : Str))).get (by decide +kernel),by simp⟩
   ) (fun w h Y=>PySem.W.kIn_of Y) K91.facts
