import PyProof.Rows.All
import Wide.All
import OpenK.AllK
import Wide.FinOn
import Lean
import PyProof.EqAt
import PyProof.EqKinds
import PyProof.TupleCall
import PyProof.ListRange
import PyProof.Rows.StrKeys3
import PyProof.ZipIter
import PyProof.ListMulRoad
import PyProof.FactsAll.tuple_2
import PyProof.FactsAll.set
import PySem.Challenge.RW_labelways_k31_what_is_no_labels
set_option Elab.async false
set_option linter.all false
set_option maxRecDepth 100000
noncomputable section
section
open PySem PySem.Spec PyProof.Rows
abbrev zA:=@wpAny_bind
abbrev zB:=@List.getElem?_eq_getElem
abbrev zC:=@wpAny_pure
abbrev zD:=@List.length_map
abbrev zF:=@List.getD_eq_getElem?_getD
abbrev zG:=@Heap.get?_push_of_some
abbrev zI:=@List.getElem?_eq_some_iff
abbrev zJ:=@Nat.le_refl
abbrev zL:=@List.size_toArray
abbrev zM:=@List.length_append
abbrev zN:=@Heap.get?_push_size
abbrev zO:=@List.getElem?_map
abbrev zP:=@decide_eq_true
abbrev zR:=@decide_eq_false
abbrev zS:=@List.mem_cons_self
abbrev zT:=@List.mem_cons
abbrev zU:=@Heap.lt_size
abbrev zV:=@List.mem_of_getElem?
abbrev zW:=@List.take_of_length_le
abbrev zX:=@List.getElem?_append_right
abbrev zY:=@Option.some.inj
abbrev zZ:=@List.mem_cons_of_mem
abbrev zb:=@List.getElem?_append_left
abbrev zc:=@Nat.ne_of_lt
abbrev zd:=@List.length_take
abbrev zf:=@List.map_append
abbrev zg:=@Nat.zero_le
abbrev zh:=@List.mem_singleton
abbrev zj:=@List.mem_append
abbrev zl:=@List.mem_append_right
abbrev zm:=@Nat.lt_of_lt_of_le
abbrev zn:=@Bool.false_ne_true
abbrev zo:=@List.length_cons
abbrev zp:=@Nat.le_trans
abbrev zq:=@Heap.get?_update_self
abbrev zr:=@List.take_add_one
abbrev zu:=@wpAny_holding
abbrev zv:=@Int.toNat_natCast
abbrev zw:=@List.getElem?_eq_none
abbrev zx:=@Bool.and_eq_true
abbrev zy:=@List.getElem_of_mem
abbrev BR:=@List.append_nil
abbrev Bi:=@wpAny_newObj_type
abbrev Bu:=@List.length_range
abbrev CG:=@Nat.lt_of_le_of_lt
abbrev DB:=@List.length_replicate
abbrev DD:=@List.getElem?_toArray
abbrev CF:=@wpAny_call_entry
abbrev C8:=@List.mem_append_left
abbrev D0:=@wpAny_callSpecial?_slot
abbrev BX:=@List.map_cons
abbrev A8:=@wpAny_mono
abbrev Bt:=@Bool.false_and
abbrev EH:=@List.length_filter_le
abbrev Be:=@List.mem_map
abbrev Cq:=@List.getElem_mem
abbrev CV:=@Heap.size_push
abbrev Ds:=@Heap.get?_update_ne
abbrev EC:=@Heap.SameBut.update
abbrev DO:=@wpAny_loadPart_at
abbrev C1:=@Nat.not_lt_zero
abbrev Bc:=@Nat.le_succ
abbrev Fg:=@Nat.le_of_ble_eq_true
abbrev CZ:=@Bool.true_and
abbrev DM:=@wpAny_isInstance
abbrev Dv:=@Nat.lt_succ_of_lt
abbrev C0:=@List.mem_range
abbrev CI:=@Int.zero_add
abbrev GY:=@Heap.get?_update_other
abbrev CT:=@wpAny_typeOf
abbrev Fy:=@Bool.false_eq_true
abbrev Dt:=@Option.map_some
abbrev Ir:=@Classical.byContradiction
abbrev Ec:=@List.lookup_cons
abbrev Gb:=@wpAny_Call_Name_kw
abbrev Gr:=@decide_eq_true_iff
abbrev F0:=@List.not_mem_nil
abbrev Fd:=@List.length_drop
abbrev Gh:=@wpAny_truthy_bool
abbrev HD:=@List.filterMap_cons
abbrev ES:=@wpAny_seqItems
abbrev D9:=@Nat.lt_irrefl
abbrev DG:=@Nat.le_of_lt
abbrev F6:=@List.nodup_cons
abbrev Cj:=@wpAny_call
abbrev Lv:=@Option.isSome_iff_exists
abbrev HH:=@List.pairwise_cons
abbrev HR:=@List.mem_filterMap
abbrev Ld:=@List.length_eq_zero_iff
abbrev Lh:=@List.getElem?_replicate
abbrev Fp:=@wpAny_setField
abbrev HC:=@wpAny_setState_of
abbrev Cs:=@wpAny_rule
abbrev G9:=@List.pairwise_map
abbrev F1:=@wpAny_attempt
abbrev Eg:=@Nat.sub_self
abbrev MJ:=@List.take_append_drop
abbrev Mh:=@List.pairwise_iff_getElem
abbrev Dx:=@Int.le_refl
abbrev MK:=@List.mem_of_mem_take
abbrev JF:=@Option.some.injEq
abbrev HV:=@List.find?_cons
abbrev Io:=@List.Pairwise.nil
abbrev HI:=@Bool.eq_iff_iff
abbrev GQ:=@wpAny_newList
abbrev Ej:=@wpAny_field
abbrev MD:=@List.getElem?_range
abbrev NN:=@List.filter_cons_of_pos
abbrev M8:=@List.filter_cons_of_neg
abbrev QM:=@wpAny_typeNameOfWhole_keyiter
abbrev HF:=@List.drop_zero
end
abbrev Co:List PySem.Str:=["_law_web_here","_law_thing"]
abbrev CO:List PySem.Str:=["_law_one","_law_other"]
abbrev MT:List PySem.Str:=["_law_web_here","_law_far_here","_law_place","_law_hub_here"]
abbrev EL:List PySem.Str:=["web","labels","place","entry"]
abbrev Cc:List PySem.Str:=["_law_n","_law_thing"]
abbrev Pf:List PySem.Str:=["_law_web_here","_law_far_here","_law_one","_law_other"]
abbrev OY:List PySem.Str:=["_law_far_here","_law_place","_law_one","_law_other"]
abbrev MP:List PySem.Str:=["_law_thing","_law_least","_law_most"]
abbrev IT:List PySem.Str:=["_law_tape_here","_law_many"]
abbrev Ba:List PySem.Str:=["n","thing"]
abbrev De:List PySem.Str:=["_law_entry_here"]
abbrev Hj:List PySem.Str:=["_law_tape_here","_law_n"]
abbrev C2:List PySem.Str:=["web","labels"]
abbrev GC:List PySem.Str:=["self","word","at"]
abbrev PP:List PySem.Str:=["_law_n","_law_pairs","_law_tells"]
abbrev Ex:List PySem.Str:=["_law_web_here"]
abbrev Ou:List PySem.Str:=["_law_tape_here","_law_thing"]
abbrev EN:List PySem.Str:=["one","other"]
abbrev Qm:List PySem.Str:=["_law_web_here","_law_order_here"]
abbrev MW:List PySem.Str:=["thing","least","most"]
abbrev MO:List PySem.Str:=["here","there","long"]
abbrev MQ:List PySem.Str:=["web","one","other"]
abbrev G6:List PySem.Str:=["_law_script"]
abbrev Ku:List PySem.Str:=["thing","count"]
abbrev Hs:List PySem.Str:=["web","thing"]
abbrev PK:List PySem.Str:=["_law_labels_here"]
abbrev Ih:List PySem.Str:=["word","at"]
abbrev MV:List PySem.Str:=["web","place"]
abbrev TC:List PySem.Str:=["hub","long","up","down"]
abbrev E8:List PySem.Str:=["labels"]
abbrev O9:List PySem.Str:=["label","hub"]
namespace L2
open PySem PySem.Spec PyProof.Rows
noncomputable def defArgs (s:Stmt):Arguments:=match s with
 | .FunctionDef _ a _ _ _ _ _ _ _ _=>a
 | _=>{ posonlyargs:=[],args:=[],vararg:=none,kwonlyargs:=[],kw_defaults:=[],kwarg:=none,defaults:=[] }
noncomputable def defBody (s:Stmt):List Stmt:=match s with
 | .FunctionDef _ _ b _ _ _ _ _ _ _=>b
 | _=>[]
noncomputable def defScope (s:Stmt):Scope:=match s with
 | .FunctionDef _ _ _ _ _ _ sc _ _ _=>sc
 | _=>{ kind:=.function,names:=[],isGenerator:=false,isCoroutine:=false }
end L2
namespace L2
section
open PySem PySem.W PyProof.Rows
def QY (p:Program)(w:World)(n₀:Nat)(ann:Option Value):Nat->SharedT->Thread->Option SharedT
 | 0,_,_=>none
 | n+1,s,t=>match through t with
  | true=>some s
  | false=>match Fast.tw6613529449190102663 n₀ ann t with
   | false=>none
   | true=>match Fast.tw10156331382660048174 (Fast.tw11892475500146522536 Fast.tw14364793385576792824) p w s t with
    | some (s',t')=>QY p w n₀ ann n s' t'
    | none=>none
theorem XZ :∀{n:Nat}{s s':SharedT}{t:Thread},QY p w n₀ ann n s t=some s'->topRun treeTable p w n₀ ann n s.abs t=some s'.abs
 | 0,_,_,_,h=>by cases h
 | n+1,s,s',t,h=>by
  unfold QY at h;rw[<-Fast.te6613529449190102663,<-Fast.te10156331382660048174,<-Fast.te11892475500146522536,<-Fast.te14364793385576792824] at h;unfold topRun;cases he:through t with
  | true=>rw[he] at h;cases h;rfl
  | false=>
   rw[he] at h;cases hk:stepOk n₀ ann t with
   | false=>rw[hk] at h;cases h
   | true=>
    rw[hk] at h;cases hs:stepT (denote treeTable) p w s t with
    | none=>rw[hs] at h;cases h
    | some r=>obtain⟨s₂,t₂⟩:=r;rw[hs] at h;rw[stepT_spec hs];exact XZ h
noncomputable def bt:List Obj->Nat->BT->BT
 | [],_,t=>t
 | o::l,i,t=>bt l (i+1) (t.ins i o)
def bT (P:Params):BT:=bt (boot_heap P).objs.toList 0 .nil
def bS (w:World)(os:OsState):SharedT:=⟨bT w.params,(boot_heap w.params).objs.size,(boot_heap w.params).life,Array.mk [],boot_drawn,boot_toks,os⟩
theorem bA (w)(os:OsState):(bS w os).abs=⟨boot_heap w.params,Array.mk [],boot_drawn,boot_toks,os⟩:=by kernel_rfl
abbrev Tj (p:Program)(N:Nat)(w:World)(os:OsState):Option SharedT:=QY p w (boot_heap w.params).objs.size ((boot_heap w.params).nsMap mainGlobals "__annotations__") N (bS w os) (topStub p)
noncomputable abbrev Oa (p:Program)(h h':Heap)(s:Shared):Bool:=staticsOk (importedModules p.main.body) h h' && namesBound p h' && gensDone s && laidKept h h'
theorem left_of (e:opening p=plainProg p.main.scope.names)(hN:Nat.ble 600 N=true)(f:∀s,fenceModules? p s=some s)
 (h:∀w os,(Tj p N w os).map (fun s=>(Oa p (boot_heap w.params) s.abs.heap s.abs,Fast.tw4187177175401517315 q loose (importedModules p.main.body) Xt true s.abs,Yf s.abs))=some (true,openGood q loose,Ya w)):LeftO p q loose Xt Yf Ya N:=by
 intro w;obtain⟨⟨h0,gs,d,k,os⟩,e1,e2⟩:=Option.map_eq_some_iff.mp (boot_open e hN f w);obtain⟨rfl,rfl,rfl,rfl⟩:h0=boot_heap w.params/\gs=Array.mk []/\d=boot_drawn/\k=boot_toks:=by simpa using e2
 obtain⟨s,r,a⟩:=Option.map_eq_some_iff.mp (h w os);obtain⟨b,a⟩:=Prod.mk.inj a;rw[<-Fast.te4187177175401517315] at a;have y:=XZ r;rw[bA] at y;unfold openEnds;rw[e1];show (topFrom treeTable p w N _).map _=_;unfold topFrom;have z:((boot_heap w.params).isNs mainGlobals && (Array.mk []:Array GenState).size==0)=true:=by kernel_rfl
 dsimp only;rw[z];dsimp only;rw[y];show Option.map _ (match Oa p (boot_heap w.params) s.abs.heap s.abs with | true=>some s.abs | false=>none)=_
 rw[b];exact congrArg some a
end
end L2
namespace K31
open PySem L2
noncomputable def top (i:Nat):Stmt:=PySem.Challenge.pw_labelways_k31_what_is_no_labels.main.body.getD i (.Pass ⟨0,0,0,0⟩)
noncomputable def mth (k i:Nat):Stmt:=match top k with
 | .ClassDef _ _ _ body ..=>body.getD i (.Pass ⟨0,0,0,0⟩)
 | _=>.Pass ⟨0,0,0,0⟩
noncomputable abbrev sT:String->Str:=Str.ofString
noncomputable abbrev kH:=PyData.keyHash
noncomputable abbrev dE:=DictEntry.mk
noncomputable abbrev vS:=Value.str
noncomputable abbrev vI:=Value.int
noncomputable abbrev vR:=Value.ref
noncomputable abbrev vB:=Value.bool
noncomputable abbrev vN:Value:=Value.none
noncomputable abbrev vT:=Value.type
noncomputable abbrev oM:=Obj.mk
noncomputable abbrev cQ (x:Array Value):Obj:=oM (vT "code") .none (.fields x) #[]
noncomputable abbrev fQ (x:FuncData):Obj:=oM (vT "function") .none (.func x) #[]
noncomputable abbrev fT (x:String)(i:Nat)(m:Value)(c:Nat):Obj:=fQ (.mk (sT x) (sT x) (L2.defArgs (top i)) (FuncBody.stmts (L2.defBody (top i))) (L2.defScope (top i)) 3 [] vN vN vN m .none (vR c) vN 0)
noncomputable abbrev qS (x:String)(n:Nat):Value:=vS (sT x) n
noncomputable abbrev qC (n:Nat):Value:=qS "/claim/cut.py" n
noncomputable abbrev cA (x:String)(a:Nat)(l q:Int)(p:Nat)(n:Int)(m:Nat):Obj:=cQ #[qS x a,qS x (a+1),qC (a+2),vI l 0,vI q 0,vI 0 0,vI 0 0,vI 3 0,vR p,vB true,vI 181 0,vR (p+1),vN,vR (p+2),vR (p+3),vR (p+4),vI n 0,vI l 0,qC m]
noncomputable abbrev cB (x:String)(a:Nat)(l q:Int)(p:Nat)(n:Int)(m:Nat):Obj:=cQ #[qS x a,qS x (a+1),qC (a+2),vI l 0,vI q 0,vI 0 0,vI 0 0,vI 3 0,vR p,vB true,vI 181 0,vR (p+1),vN,vN,vN,vR (p+2),vI n 0,vI l 0,qC m]
noncomputable abbrev qL:=qS "law_labelways_k31_what_is_no_labels" 650
noncomputable abbrev kE (P:Params)(x:String)(n:Nat):Value->DictEntry:=dE (kH P (sT x)) (qS x n)
noncomputable def Kf:Params->PySem.W.Frag:=fun P=>[
(2,oM vN .none (Data.dict #[]) #[]),
(3,oM (vT "dict") .none (Data.dict #[kE P "__name__" 165 qL,kE P "__doc__" 166 vN,kE P "__package__" 167 vN,kE P "__loader__" 168 (Value.builtin "__main__.__loader__#opaque"),kE P "__spec__" 169 vN,kE P "__annotations__" 170 (vR 6),kE P "__builtins__" 171 (vR 4),kE P "__file__" 173 (qC 172),kE P "__cached__" 174 vN,kE P "WayError" 206 (vR 24),kE P "NoLabels" 233 (vR 44),kE P "NoLeast" 260 (vR 63),kE P "NoPlan" 287 (vR 82),kE P "NoText" 314 (vR 101),kE P "NoOrder" 330 (vR 113),kE P "NoTree" 346 (vR 125),kE P "NoRing" 362 (vR 137),kE P "NoPosts" 378 (vR 149),kE P "NoTie" 394 (vR 161),kE P "NoPart" 410 (vR 173),kE P "NoRow" 426 (vR 185),kE P "TooMany" 442 (vR 197),kE P "is_number" 451 (vR 206),kE P "is_within" 460 (vR 213),kE P "is_tuple_of" 468 (vR 220),kE P "is_rising" 474 (vR 225),kE P "is_place" 482 (vR 232),kE P "is_label" 490 (vR 237),kE P "is_entry" 498 (vR 244),kE P "are_labels" 504 (vR 249),kE P "own_place" 510 (vR 254),kE P "told" 518 (vR 261),kE P "least_sum" 524 (vR 266),kE P "entry_of" 533 (vR 273),kE P "far_entries" 539 (vR 278),kE P "ties_at" 553 (vR 285),kE P "long_of" 564 (vR 292),kE P "lets_labels" 574 (vR 299),kE P "refuse_at" 582 (vR 306),kE P "own_fault" 591 (vR 313),kE P "up_fault" 601 (vR 320),kE P "is_up_right" 613 (vR 327),kE P "tie_fault" 619 (vR 332),kE P "grows_too_much" 628 (vR 339),kE P "down_fault" 638 (vR 346),kE P "is_down_right" 649 (vR 353),kE P "_law_tape" 658 (vR 360),kE P "_law_draw" 670 (vR 367),kE P "_law_web" 676 (vR 372),kE P "_law_added" 684 (vR 379),kE P "_law_lesser" 692 (vR 386),kE P "_law_far" 698 (vR 391),kE P "_law_on" 709 (vR 398),kE P "_law_joined" 720 (vR 405),kE P "_law_nexts" 726 (vR 410),kE P "_law_order" 737 (vR 417),kE P "_law_entry" 747 (vR 424),kE P "_law_labels" 753 (vR 429),kE P "_law_is_number" 762 (vR 436),kE P "_law_is_entry" 770 (vR 443),kE P "_law_is_label" 776 (vR 448),kE P "_law_are_labels" 782 (vR 453),kE P "_law_told" 788 (vR 458),kE P "_law_hung" 794 (vR 463),kE P "_law_tie_fault" 806 (vR 470),kE P "_law_fault" 812 (vR 475),kE P "_law_found" 823 (vR 482),kE P "_law_bent" 833 (vR 489),kE P "_law_hub" 840 (vR 496),kE P "_law_right" 850 (vR 503),kE P "law" 856 (vR 508)] 71) #[]),
(23,oM (vT "dict") .none (Data.dict #[kE P "__module__" 196 (qS "labelways.errors" 187),kE P "__firstlineno__" 200 (vI 2 199),kE P "__static_attributes__" 201 (vR 22),kE P "__weakref__" 203 (vR 25),kE P "__doc__" 204 vN] 3) #[]),
(24,oM (vT "type") .none (Data.cls (ClassData.mk (sT "WayError") [vT "ValueError"] [vR 24,vT "ValueError",vT "Exception",vT "BaseException",vT "object"] 23 (sT "WayError") true [] [vR 44,vR 63,vR 82,vR 101,vR 113,vR 125,vR 137,vR 149,vR 161,vR 173,vR 185,vR 197] false .none false)) #[.some (vR 15),.none,.some (qS "WayError" 189),.some (qS "WayError" 197),.some (Value.builtin "ValueError.__new__"),.some (vB true)]),
(25,oM (vT "getset_descriptor") .none (Data.fields #[qS "__weakref__" 202,vR 24,Value.builtin "ExceptionGroup.__weakref__",vN]) #[]),
(40,cQ #[qS "__init__" 219,qS "NoLabels.__init__" 220,qC 221,vI 6 0,vI 3 0,vI 0 0,vI 0 0,vI 3 0,vR 35,vB true,vI 181 0,vR 36,vN,vR 37,vR 38,vR 39,vI 225 0,vI 6 0,qC 226]),
(41,fQ (.mk (sT "__init__") (sT "NoLabels.__init__") (L2.defArgs (mth 2 0)) (FuncBody.stmts (L2.defBody (mth 2 0))) (L2.defScope (mth 2 0)) 3 [] vN vN vN (qS "labelways.errors" 187) .none (vR 40) vN 0)),
(43,oM (vT "dict") .none (Data.dict #[kE P "__module__" 214 (qS "labelways.errors" 187),kE P "__firstlineno__" 218 (vI 4 217),kE P "__init__" 227 (vR 41),kE P "__static_attributes__" 230 (vR 42),kE P "__doc__" 231 vN] 2) #[]),
(44,oM (vT "type") .none (Data.cls (ClassData.mk (sT "NoLabels") [vR 24] [vR 44,vR 24,vT "ValueError",vT "Exception",vT "BaseException",vT "object"] 43 (sT "NoLabels") true [] [] false .none false)) #[.some (vR 28),.none,.some (qS "NoLabels" 207),.some (qS "NoLabels" 215),.some (Value.builtin "ValueError.__new__"),.some (vB true)]),
(59,cQ #[qS "__init__" 246,qS "NoLeast.__init__" 247,qC 248,vI 11 0,vI 3 0,vI 0 0,vI 0 0,vI 3 0,vR 54,vB true,vI 181 0,vR 55,vN,vR 56,vR 57,vR 58,vI 252 0,vI 11 0,qC 253]),
(60,fQ (.mk (sT "__init__") (sT "NoLeast.__init__") (Arguments.mk [] [Arg.mk (sT "self") .none (Pos.mk 11 17 11 21),Arg.mk (sT "word") .none (Pos.mk 11 23 11 27),Arg.mk (sT "at") .none (Pos.mk 11 29 11 31)] .none [] [] .none []) (FuncBody.stmts [Stmt.Assign [Expr.Attribute (Expr.Name (sT "self") (Pos.mk 12 8 12 12)) (sT "word") (Pos.mk 12 8 12 17)] (Expr.Name (sT "word") (Pos.mk 12 20 12 24)) (Pos.mk 12 8 12 24),Stmt.Assign [Expr.Attribute (Expr.Name (sT "self") (Pos.mk 13 8 13 12)) (sT "at") (Pos.mk 13 8 13 15)] (Expr.Name (sT "at") (Pos.mk 13 18 13 20)) (Pos.mk 13 8 13 20)]) (Scope.mk ScopeKind.function [(sT "self",NameKind.local),(sT "word",NameKind.local),(sT "at",NameKind.local)] false false []) 3 [] vN vN vN (qS "labelways.errors" 187) .none (vR 59) vN 0)),
(62,oM (vT "dict") .none (Data.dict #[kE P "__module__" 241 (qS "labelways.errors" 187),kE P "__firstlineno__" 245 (vI 9 244),kE P "__init__" 254 (vR 60),kE P "__static_attributes__" 257 (vR 61),kE P "__doc__" 258 vN] 2) #[]),
(63,oM (vT "type") .none (Data.cls (ClassData.mk (sT "NoLeast") [vR 24] [vR 63,vR 24,vT "ValueError",vT "Exception",vT "BaseException",vT "object"] 62 (sT "NoLeast") true [] [] false .none false)) #[.some (vR 47),.none,.some (qS "NoLeast" 234),.some (qS "NoLeast" 242),.some (Value.builtin "ValueError.__new__"),.some (vB true)]),
(78,cQ #[qS "__init__" 273,qS "NoPlan.__init__" 274,qC 275,vI 16 0,vI 3 0,vI 0 0,vI 0 0,vI 3 0,vR 73,vB true,vI 181 0,vR 74,vN,vR 75,vR 76,vR 77,vI 279 0,vI 16 0,qC 280]),
(79,fQ (.mk (sT "__init__") (sT "NoPlan.__init__") (Arguments.mk [] [Arg.mk (sT "self") .none (Pos.mk 16 17 16 21),Arg.mk (sT "word") .none (Pos.mk 16 23 16 27),Arg.mk (sT "at") .none (Pos.mk 16 29 16 31)] .none [] [] .none []) (FuncBody.stmts [Stmt.Assign [Expr.Attribute (Expr.Name (sT "self") (Pos.mk 17 8 17 12)) (sT "word") (Pos.mk 17 8 17 17)] (Expr.Name (sT "word") (Pos.mk 17 20 17 24)) (Pos.mk 17 8 17 24),Stmt.Assign [Expr.Attribute (Expr.Name (sT "self") (Pos.mk 18 8 18 12)) (sT "at") (Pos.mk 18 8 18 15)] (Expr.Name (sT "at") (Pos.mk 18 18 18 20)) (Pos.mk 18 8 18 20)]) (Scope.mk ScopeKind.function [(sT "self",NameKind.local),(sT "word",NameKind.local),(sT "at",NameKind.local)] false false []) 3 [] vN vN vN (qS "labelways.errors" 187) .none (vR 78) vN 0)),
(81,oM (vT "dict") .none (Data.dict #[kE P "__module__" 268 (qS "labelways.errors" 187),kE P "__firstlineno__" 272 (vI 14 271),kE P "__init__" 281 (vR 79),kE P "__static_attributes__" 284 (vR 80),kE P "__doc__" 285 vN] 2) #[]),
(82,oM (vT "type") .none (Data.cls (ClassData.mk (sT "NoPlan") [vR 24] [vR 82,vR 24,vT "ValueError",vT "Exception",vT "BaseException",vT "object"] 81 (sT "NoPlan") true [] [] false .none false)) #[.some (vR 66),.none,.some (qS "NoPlan" 261),.some (qS "NoPlan" 269),.some (Value.builtin "ValueError.__new__"),.some (vB true)]),
(97,cQ #[qS "__init__" 300,qS "NoText.__init__" 301,qC 302,vI 21 0,vI 3 0,vI 0 0,vI 0 0,vI 3 0,vR 92,vB true,vI 181 0,vR 93,vN,vR 94,vR 95,vR 96,vI 306 0,vI 21 0,qC 307]),
(98,fQ (.mk (sT "__init__") (sT "NoText.__init__") (Arguments.mk [] [Arg.mk (sT "self") .none (Pos.mk 21 17 21 21),Arg.mk (sT "line") .none (Pos.mk 21 23 21 27),Arg.mk (sT "word") .none (Pos.mk 21 29 21 33)] .none [] [] .none []) (FuncBody.stmts [Stmt.Assign [Expr.Attribute (Expr.Name (sT "self") (Pos.mk 22 8 22 12)) (sT "line") (Pos.mk 22 8 22 17)] (Expr.Name (sT "line") (Pos.mk 22 20 22 24)) (Pos.mk 22 8 22 24),Stmt.Assign [Expr.Attribute (Expr.Name (sT "self") (Pos.mk 23 8 23 12)) (sT "word") (Pos.mk 23 8 23 17)] (Expr.Name (sT "word") (Pos.mk 23 20 23 24)) (Pos.mk 23 8 23 24)]) (Scope.mk ScopeKind.function [(sT "self",NameKind.local),(sT "line",NameKind.local),(sT "word",NameKind.local)] false false []) 3 [] vN vN vN (qS "labelways.errors" 187) .none (vR 97) vN 0)),
(100,oM (vT "dict") .none (Data.dict #[kE P "__module__" 295 (qS "labelways.errors" 187),kE P "__firstlineno__" 299 (vI 19 298),kE P "__init__" 308 (vR 98),kE P "__static_attributes__" 311 (vR 99),kE P "__doc__" 312 vN] 2) #[]),
(101,oM (vT "type") .none (Data.cls (ClassData.mk (sT "NoText") [vR 24] [vR 101,vR 24,vT "ValueError",vT "Exception",vT "BaseException",vT "object"] 100 (sT "NoText") true [] [] false .none false)) #[.some (vR 85),.none,.some (qS "NoText" 288),.some (qS "NoText" 296),.some (Value.builtin "ValueError.__new__"),.some (vB true)]),
(112,oM (vT "dict") .none (Data.dict #[kE P "__module__" 322 (qS "labelways.errors" 187),kE P "__firstlineno__" 326 (vI 24 325),kE P "__static_attributes__" 327 (vR 111),kE P "__doc__" 328 vN] 2) #[]),
(113,oM (vT "type") .none (Data.cls (ClassData.mk (sT "NoOrder") [vR 24] [vR 113,vR 24,vT "ValueError",vT "Exception",vT "BaseException",vT "object"] 112 (sT "NoOrder") true [] [] false .none false)) #[.some (vR 104),.none,.some (qS "NoOrder" 315),.some (qS "NoOrder" 323),.some (Value.builtin "ValueError.__new__"),.some (vB true)]),
(124,oM (vT "dict") .none (Data.dict #[kE P "__module__" 338 (qS "labelways.errors" 187),kE P "__firstlineno__" 342 (vI 26 341),kE P "__static_attributes__" 343 (vR 123),kE P "__doc__" 344 vN] 2) #[]),
(125,oM (vT "type") .none (Data.cls (ClassData.mk (sT "NoTree") [vR 24] [vR 125,vR 24,vT "ValueError",vT "Exception",vT "BaseException",vT "object"] 124 (sT "NoTree") true [] [] false .none false)) #[.some (vR 116),.none,.some (qS "NoTree" 331),.some (qS "NoTree" 339),.some (Value.builtin "ValueError.__new__"),.some (vB true)]),
(136,oM (vT "dict") .none (Data.dict #[kE P "__module__" 354 (qS "labelways.errors" 187),kE P "__firstlineno__" 358 (vI 28 357),kE P "__static_attributes__" 359 (vR 135),kE P "__doc__" 360 vN] 2) #[]),
(137,oM (vT "type") .none (Data.cls (ClassData.mk (sT "NoRing") [vR 24] [vR 137,vR 24,vT "ValueError",vT "Exception",vT "BaseException",vT "object"] 136 (sT "NoRing") true [] [] false .none false)) #[.some (vR 128),.none,.some (qS "NoRing" 347),.some (qS "NoRing" 355),.some (Value.builtin "ValueError.__new__"),.some (vB true)]),
(148,oM (vT "dict") .none (Data.dict #[kE P "__module__" 370 (qS "labelways.errors" 187),kE P "__firstlineno__" 374 (vI 30 373),kE P "__static_attributes__" 375 (vR 147),kE P "__doc__" 376 vN] 2) #[]),
(149,oM (vT "type") .none (Data.cls (ClassData.mk (sT "NoPosts") [vR 24] [vR 149,vR 24,vT "ValueError",vT "Exception",vT "BaseException",vT "object"] 148 (sT "NoPosts") true [] [] false .none false)) #[.some (vR 140),.none,.some (qS "NoPosts" 363),.some (qS "NoPosts" 371),.some (Value.builtin "ValueError.__new__"),.some (vB true)]),
(160,oM (vT "dict") .none (Data.dict #[kE P "__module__" 386 (qS "labelways.errors" 187),kE P "__firstlineno__" 390 (vI 32 389),kE P "__static_attributes__" 391 (vR 159),kE P "__doc__" 392 vN] 2) #[]),
(161,oM (vT "type") .none (Data.cls (ClassData.mk (sT "NoTie") [vR 24] [vR 161,vR 24,vT "ValueError",vT "Exception",vT "BaseException",vT "object"] 160 (sT "NoTie") true [] [] false .none false)) #[.some (vR 152),.none,.some (qS "NoTie" 379),.some (qS "NoTie" 387),.some (Value.builtin "ValueError.__new__"),.some (vB true)]),
(172,oM (vT "dict") .none (Data.dict #[kE P "__module__" 402 (qS "labelways.errors" 187),kE P "__firstlineno__" 406 (vI 34 405),kE P "__static_attributes__" 407 (vR 171),kE P "__doc__" 408 vN] 2) #[]),
(173,oM (vT "type") .none (Data.cls (ClassData.mk (sT "NoPart") [vR 24] [vR 173,vR 24,vT "ValueError",vT "Exception",vT "BaseException",vT "object"] 172 (sT "NoPart") true [] [] false .none false)) #[.some (vR 164),.none,.some (qS "NoPart" 395),.some (qS "NoPart" 403),.some (Value.builtin "ValueError.__new__"),.some (vB true)]),
(184,oM (vT "dict") .none (Data.dict #[kE P "__module__" 418 (qS "labelways.errors" 187),kE P "__firstlineno__" 422 (vI 36 421),kE P "__static_attributes__" 423 (vR 183),kE P "__doc__" 424 vN] 2) #[]),
(185,oM (vT "type") .none (Data.cls (ClassData.mk (sT "NoRow") [vR 24] [vR 185,vR 24,vT "ValueError",vT "Exception",vT "BaseException",vT "object"] 184 (sT "NoRow") true [] [] false .none false)) #[.some (vR 176),.none,.some (qS "NoRow" 411),.some (qS "NoRow" 419),.some (Value.builtin "ValueError.__new__"),.some (vB true)]),
(196,oM (vT "dict") .none (Data.dict #[kE P "__module__" 434 (qS "labelways.errors" 187),kE P "__firstlineno__" 438 (vI 38 437),kE P "__static_attributes__" 439 (vR 195),kE P "__doc__" 440 vN] 2) #[]),
(197,oM (vT "type") .none (Data.cls (ClassData.mk (sT "TooMany") [vR 24] [vR 197,vR 24,vT "ValueError",vT "Exception",vT "BaseException",vT "object"] 196 (sT "TooMany") true [] [] false .none false)) #[.some (vR 188),.none,.some (qS "TooMany" 427),.some (qS "TooMany" 435),.some (Value.builtin "ValueError.__new__"),.some (vB true)]),
(205,cA "is_number" 445 41 1 200 449 450),
(206,fT "is_number" 15 (qS "labelways.kinds" 443) 205),
(212,cA "is_within" 452 43 3 207 458 459),
(213,fT "is_within" 16 (qS "labelways.kinds" 443) 212),
(219,cA "is_tuple_of" 461 45 2 214 466 467),
(220,fT "is_tuple_of" 17 (qS "labelways.kinds" 443) 219),
(224,cB "is_rising" 469 47 1 221 472 473),
(225,fT "is_rising" 18 (qS "labelways.kinds" 443) 224),
(231,cA "is_place" 475 49 2 226 480 481),
(232,fT "is_place" 19 (qS "labelways.kinds" 443) 231),
(236,cB "is_label" 485 52 2 233 488 489),
(237,fT "is_label" 21 (qS "labelways.labels" 483) 236),
(243,cA "is_entry" 491 59 2 238 496 497),
(244,fT "is_entry" 22 (qS "labelways.labels" 483) 243),
(248,cB "are_labels" 499 67 2 245 502 503),
(249,fT "are_labels" 23 (qS "labelways.labels" 483) 248),
(253,cB "own_place" 505 69 1 250 508 509),
(254,fT "own_place" 24 (qS "labelways.labels" 483) 253),
(260,cA "told" 511 71 2 255 516 517),
(261,fT "told" 25 (qS "labelways.labels" 483) 260),
(265,cB "least_sum" 519 73 2 262 522 523),
(266,fT "least_sum" 26 (qS "labelways.labels" 483) 265),
(272,cA "entry_of" 525 77 2 267 531 532),
(273,fT "entry_of" 27 (qS "labelways.labels" 483) 272),
(277,cB "far_entries" 534 82 1 274 537 538),
(278,fT "far_entries" 28 (qS "labelways.labels" 483) 277),
(284,cA "ties_at" 542 88 2 279 551 552),
(285,fT "ties_at" 30 (qS "labelways.webs" 540) 284),
(291,cA "long_of" 554 96 3 286 562 563),
(292,fT "long_of" 31 (qS "labelways.webs" 540) 291),
(298,cA "lets_labels" 567 102 2 293 572 573),
(299,fT "lets_labels" 33 (qS "labelways.checker" 565) 298),
(305,cA "refuse_at" 575 110 2 300 580 581),
(306,fT "refuse_at" 34 (qS "labelways.checker" 565) 305),
(312,cA "own_fault" 583 113 1 307 589 590),
(313,fT "own_fault" 35 (qS "labelways.checker" 565) 312),
(319,cA "up_fault" 592 118 2 314 599 600),
(320,fT "up_fault" 36 (qS "labelways.checker" 565) 319),
(326,cA "is_up_right" 602 123 4 321 611 612),
(327,fT "is_up_right" 37 (qS "labelways.checker" 565) 326),
(331,cB "tie_fault" 614 127 2 328 617 618),
(332,fT "tie_fault" 38 (qS "labelways.checker" 565) 331),
(338,cA "grows_too_much" 620 135 3 333 626 627),
(339,fT "grows_too_much" 39 (qS "labelways.checker" 565) 338),
(345,cA "down_fault" 629 139 2 340 636 637),
(346,fT "down_fault" 40 (qS "labelways.checker" 565) 345),
(352,cA "is_down_right" 639 144 4 347 647 648),
(353,fT "is_down_right" 41 (qS "labelways.checker" 565) 352),
(359,cA "_law_tape" 652 148 1 354 656 657),
(360,fT "_law_tape" 43 qL 359),
(366,cA "_law_draw" 659 150 2 361 668 669),
(367,fT "_law_draw" 44 qL 366),
(371,cB "_law_web" 671 163 2 368 674 675),
(372,fT "_law_web" 45 qL 371),
(378,cA "_law_added" 677 175 2 373 682 683),
(379,fT "_law_added" 46 qL 378),
(385,cA "_law_lesser" 685 177 2 380 690 691),
(386,fT "_law_lesser" 47 qL 385),
(390,cB "_law_far" 693 181 1 387 696 697),
(391,fT "_law_far" 48 qL 390),
(397,cA "_law_on" 699 193 4 392 707 708),
(398,fT "_law_on" 49 qL 397),
(404,cA "_law_joined" 710 196 1 399 718 719),
(405,fT "_law_joined" 50 qL 404),
(409,cB "_law_nexts" 721 202 4 406 724 725),
(410,fT "_law_nexts" 51 qL 409),
(416,cA "_law_order" 727 209 2 411 735 736),
(417,fT "_law_order" 52 qL 416),
(423,cA "_law_entry" 738 215 4 418 745 746),
(424,fT "_law_entry" 53 qL 423),
(428,cB "_law_labels" 748 219 2 425 751 752),
(429,fT "_law_labels" 54 qL 428),
(435,cA "_law_is_number" 754 230 3 430 760 761),
(436,fT "_law_is_number" 55 qL 435),
(442,cA "_law_is_entry" 763 232 2 437 768 769),
(443,fT "_law_is_entry" 56 qL 442),
(447,cB "_law_is_label" 771 240 2 444 774 775),
(448,fT "_law_is_label" 57 qL 447),
(452,cB "_law_are_labels" 777 245 2 449 780 781),
(453,fT "_law_are_labels" 58 qL 452),
(457,cB "_law_told" 783 247 2 454 786 787),
(458,fT "_law_told" 59 qL 457),
(462,cB "_law_hung" 789 251 1 459 792 793),
(463,fT "_law_hung" 60 qL 462),
(469,cA "_law_tie_fault" 795 256 3 464 804 805),
(470,fT "_law_tie_fault" 61 qL 469),
(474,cB "_law_fault" 807 264 2 471 810 811),
(475,fT "_law_fault" 62 qL 474),
(481,cA "_law_found" 813 284 2 476 821 822),
(482,fT "_law_found" 63 qL 481),
(488,cA "_law_bent" 824 295 2 483 831 832),
(489,fT "_law_bent" 64 qL 488),
(495,cA "_law_hub" 834 307 1 490 838 839),
(496,fT "_law_hub" 65 qL 495),
(502,cA "_law_right" 841 309 2 497 848 849),
(503,fT "_law_right" 66 qL 502),
(507,cB "law" 851 313 1 504 854 855),
(508,fT "law" 67 qL 507)]
noncomputable def Ka:List Addr:=[2,3,23,24,25,40,41,43,44,59,60,62,63,78,79,81,82,97,98,100,101,112,113,124,125,136,137,148,149,160,161,172,173,184,185,196,197,205,206,212,213,219,220,224,225,231,232,236,237,243,244,248,249,253,254,260,261,265,266,272,273,277,278,284,285,291,292,298,299,305,306,312,313,319,320,326,327,331,332,338,339,345,346,352,353,359,360,366,367,371,372,378,379,385,386,390,391,397,398,404,405,409,410,416,417,423,424,428,429,435,436,442,443,447,448,452,453,457,458,462,463,469,470,474,475,481,482,488,489,495,496,502,503,507,508]
noncomputable abbrev pw:Program:=PySem.Challenge.pw_labelways_k31_what_is_no_labels
noncomputable def Vp:Program:={ pw with main:={ pw.main with body:=[top 1,top 2,top 3,top 4,top 5,top 6,top 7,top 8,top 9,top 10,top 11,top 12,top 13,top 15,top 16,top 17,top 18,top 19,top 21,top 22,top 23,top 24,top 25,top 26,top 27,top 28,top 30,top 31,top 33,top 34,top 35,top 36,top 37,top 38,top 39,top 40,top 41,top 43,top 44,top 45,top 46,top 47,top 48,top 49,top 50,top 51,top 52,top 53,top 54,top 55,top 56,top 57,top 58,top 59,top 60,top 61,top 62,top 63,top 64,top 65,top 66,top 67] } }
noncomputable abbrev RR:PySem.W.RowW:=PySem.W.OpenRow.toRowW (PySem.Challenge.rw_labelways_k31_what_is_no_labels).row
theorem Ke:∀P,Ka=(Kf P).map (·.1):=fun P=>by kernel_rfl
abbrev HK:PySem.W.Hook:=PySem.W.kHook Kf Ka Ke
theorem left:PySem.W.LeftO pw Vp [] (fun s=>PySem.W.xlAt Vp [] s && PySem.W.recOk (PySem.W.RowW.records RR) s) (PySem.W.Hook.obs HK) (PySem.W.Hook.val HK) 8886:=L2.left_of (by kernel_rfl) (by decide) (fun _=>rfl) fun w os=>by kernel_rfl
theorem wS:PySem.Challenge.rw_labelways_k31_what_is_no_labels.wellSaid=true:=by decide +kernel
end K31
abbrev Bw:=PySem.Value->PySem.Shared->Prop
abbrev Bm:=List (PySem.Addr×PySem.Obj)
abbrev DE:=List (List (Option Int))
abbrev Bx:=PySem.Str->Option PySem.Value
abbrev AJ:=PySem.W.Frag
namespace L2
open PySem PySem.Spec PyProof.Rows
abbrev AR:=Sum Int Str
noncomputable def Ls:AR->Value->Bool
 | .inl k,v=>Value.isInt k v
 | .inr x,v=>Value.isStrOf x v
noncomputable def Ss (w:World):AR->Int
 | .inl k=>hashInt k
 | .inr x=>hashStr w x
theorem Gk:∀{k:AR}{v:Value},Ls k v=true->(∃i t,k=Sum.inl i/\v=Value.int i t)\/(∃x t,k=Sum.inr x/\v=Value.str x t)
 | .inl i,v,h=>by obtain⟨t,e⟩:=Value.isInt_shape (k:=i) (v:=v) h;exact .inl ⟨i,t,rfl,e⟩
 | .inr x,v,h=>by obtain⟨t,e⟩:=Value.isStrOf_shape (x:=x) (v:=v) h;exact .inr ⟨x,t,rfl,e⟩
theorem Yp (i)(t:Tok):Ls (.inl i) (.int i t)=true:=by simp[Ls,Value.isInt]
theorem Yr (x)(t:Tok):Ls (.inr x) (.str x t)=true:=by simp[Ls,Value.isStrOf]
theorem J5 (a b):decide ((Sum.inl a:AR)=Sum.inl b)=(a==b):=by
 by_cases e:a=b
 . subst e;simp
 . have h:¬ (Sum.inl a:AR)=Sum.inl b:=fun q=>e (Sum.inl.inj q);rw[zR h];exact (beq_eq_false_iff_ne.mpr e).symm
theorem Jo (a b):decide ((Sum.inr a:AR)=Sum.inr b)=decide (a=b):=by
 by_cases e:a=b
 . subst e;simp
 . have h:¬ (Sum.inr a:AR)=Sum.inr b:=fun q=>e (Sum.inr.inj q);rw[zR h,zR e]
theorem LI (a)(b):decide ((Sum.inl a:AR)=Sum.inr b)=false:=zR (fun q=>nomatch q)
theorem KM (a)(b):decide ((Sum.inr a:AR)=Sum.inl b)=false:=zR (fun q=>nomatch q)
noncomputable def BE (prog:Program)(w:World):PySem.KeyKind prog w AR where
 is:=Ls
 hash:=Ss w
 inj:=fun v a b ha hb=>by
  rcases Gk ha with ⟨i,t,rfl,rfl⟩ | ⟨x,t,rfl,rfl⟩
  . rcases Gk hb with ⟨j,u,rfl,e⟩ | ⟨y,u,rfl,e⟩
    . injection e with e1 _;rw[e1]
    . exact nomatch e
  . rcases Gk hb with ⟨j,u,rfl,e⟩ | ⟨y,u,rfl,e⟩
    . exact nomatch e
    . injection e with e1 _;rw[e1]
 byValue:=fun k v h=>by rcases Gk h with ⟨i,t,rfl,rfl⟩ | ⟨x,t,rfl,rfl⟩ <;> rfl
 pyHash:=fun hv h=>by
  rcases Gk hv with ⟨i,t,rfl,rfl⟩ | ⟨x,t,rfl,rfl⟩
  . exact wpAny_pyHash_int h
  . exact wpAny_pyHash_str h
 eqBool:=fun hu hv h=>by
  rcases Gk hu with ⟨i,t,rfl,rfl⟩ | ⟨x,t,rfl,rfl⟩
  . rcases Gk hv with ⟨j,u,rfl,rfl⟩ | ⟨y,u,rfl,rfl⟩
    . rw[J5] at h;exact wpAny_eqBool_int h
    . rw[LI] at h;exact SeqAt.EqAt.int_str i t y u _ _ _ _ h
  . rcases Gk hv with ⟨j,u,rfl,rfl⟩ | ⟨y,u,rfl,rfl⟩
    . rw[KM] at h;exact SeqAt.EqAt.str_int x t j u _ _ _ _ h
    . rw[Jo] at h;exact wpAny_eqBool_str h
 «strs» := fun k x t v h=>by
  rcases Gk h with ⟨i,u,rfl,e⟩ | ⟨y,u,rfl,e⟩
  . exact nomatch e
  . injection e with e1 _;subst e1;cases v <;> rfl
theorem Z7 (prog)(w)(i)(t:Tok):(BE prog w).is (.inl i) (.int i t)=true:=Yp i t
theorem Zl (prog)(w)(x)(t:Tok):(BE prog w).is (.inr x) (.str x t)=true:=Yr x t
inductive V where
 | non | bl (b:Bool) | int (i:Int) | str (x:Str) | byt (b:Array UInt8) | flt (b:UInt64) | ref (a:Addr) | ty (n:String)
 deriving DecidableEq
def AQ:V->Value->Prop
 | .non,u=>u=Value.none
 | .bl b,u=>u=Value.bool b
 | .int i,u=>∃t,u=Value.int i t
 | .str x,u=>∃t,u=Value.str x t
 | .byt b,u=>∃t,u=Value.bytes b t
 | .flt b,u=>∃t,u=Value.float b t
 | .ref a,u=>u=Value.ref a
 | .ty n,u=>u=Value.type n
abbrev AK:List V->List Value->Prop:=Paired AQ
theorem AK.length (r:AK xs us):xs.length=us.length:=Paired.length r
theorem AK.get:∀{xs:List V}{us:List Value}{i:Nat}{x:V},AK xs us->xs[i]?=some x->∃u,us[i]?=some u/\AQ x u
 | _,_,_,_,.nil,e=>by simp at e
 | _,_,0,_,.cons r _,e=>by simp at e;subst e;exact⟨_,rfl,r⟩
 | _,_,i+1,x,.cons _ t,e=>by obtain⟨u,h1,h2⟩:=AK.get (i:=i) (x:=x) t (by simpa using e);exact⟨u,by simpa using h1,h2⟩
theorem AK.set (r:AQ x u):∀{xs:List V}{us:List Value}(i:Nat),AK xs us->AK (xs.set i x) (us.set i u)
 | _,_,_,.nil=>.nil
 | _,_,0,.cons _ t=>.cons r t
 | _,_,i+1,.cons q t=>.cons q (AK.set r i t)
theorem AK.append:∀{xs ys:List V}{us ws:List Value},AK xs us->AK ys ws->AK (xs++ys) (us++ws)
 | _,_,_,_,.nil,s=>s
 | _,_,_,_,.cons r t,s=>.cons r (AK.append t s)
theorem AK.take:∀{xs:List V}{us:List Value}(n:Nat),AK xs us->AK (xs.take n) (us.take n)
 | _,_,0,_=>.nil
 | _,_,_+1,.nil=>.nil
 | _,_,n+1,.cons r t=>.cons r (AK.take n t)
theorem AK.drop:∀{xs:List V}{us:List Value}(n:Nat),AK xs us->AK (xs.drop n) (us.drop n)
 | _,_,0,r=>r
 | _,_,_+1,.nil=>.nil
 | _,_,n+1,.cons _ t=>AK.drop n t
def CL:Option V->Option Value->Prop
 | some v,some u=>AQ v u
 | none,none=>True
 | _,_=>False
def KV {κ:Type}:List (κ×V)->List (κ×Value)->Prop:=Paired fun (p:κ×V)(q:κ×Value)=>p.1=q.1/\AQ p.2 q.2
noncomputable def kV:AR->V
 | .inl i=>.int i
 | .inr x=>.str x
inductive HO where
 | lst (xs:List V)
 | tup (xs:List V)
 | dK (dQ:List (AR×V)) | dT (dQ:List (List AR×V))
 | set (S:Int->Bool)(n:Nat)
 | ins (C dx:Addr)(fs:List (Str×V))
 | own (x:Addr)
 | xd (fs:List (Str×V))
 | met (f x:Addr)
 | rng (lo hi:Int)
 | frz (o:Obj)(u:HO)
 | tbl (ps:Array Value)
 | ext (φ:Heap->Prop)
abbrev Hp:=Addr->Option HO
noncomputable def upd (H:Hp)(a:Addr)(o:HO):Hp:=fun b=>if b=a then some o else H b
theorem zK :upd H a o a=some o:=by unfold upd;rw[if_pos rfl]
theorem zk (h:b≠a):upd H a o b=H b:=by unfold upd;rw[if_neg h]
theorem Gj :upd (upd H a o) a u=upd H a u:=by funext b;unfold upd;split <;> rfl
theorem Bn {H:Hp}(h:H a=some o)(h':H b=some u)(d:o≠u):a≠b:=by intro e;subst e;rw[h] at h';exact d (zY h')
theorem zt {H:Hp}(h:H a=some o)(h':H b=none):a≠b:=by intro e;subst e;rw[h] at h';cases h'
section
variable (P:Program)(w:World)
def Av (H:Hp)(h:Heap)(a:Addr):HO->Prop
 | .lst xs=>xs.length<=sizeLine/\∃(its:List Value)(n:Nat),AK xs its/\h.get? a=some { cls:=.type "list",data:=.seq its.toArray n }
 | .tup xs=>(xs.length<=sizeLine/\∃o,h.get? a=some o/\o.dict=none)/\∃its:List Value,AK xs its/\IsTup h a its.toArray
 | .dK dQ=>dQ.length<=sizeLine/\(a==sysModules)=false/\∃vs,KV dQ vs/\h.DictOf (BE P w) a vs
 | .dT dQ=>dQ.length<=sizeLine/\(a==sysModules)=false/\∃xs:List (List AR×Addr×Value),
  Paired (fun (p:List AR×V)(q:List AR×Addr×Value)=>p.1=q.1/\H q.2.1=some (.tup (p.1.map kV))/\AQ p.2 q.2.2) dQ xs /\
  ∃o es ep,h.get? a=some o/\o.ExactDict/\o.data=.dict es ep/\es.toList=xs.map (entryOfKey (tupleKind (BE P w)))/\(xs.map (·.1)).Nodup
 | .set S n=>h.SetOf (intKind P w) a S n
 | .ins C dx fs=>H dx=some (.own a)/\fs.length<=1000/\dx≠a/\h.get? a=some (PySem.W.instObj C dx) /\
  ∃mA,h.Ns1 dx mA/\(∀f,CL (fs.lookup f) (mA f))/\PySem.Within mA (fs.map (·.1))
 | .own _=>∃o,h.get? a=some o
 | .xd fs=>∃mA,h.Ns1 a mA/\∀f,CL (fs.lookup f) (mA f)
 | .rng lo hi=>∃t u v,h.get? a=some { cls:=.type "range",data:=.fields #[.int lo t,.int hi u,.int 1 v] }
 | .frz o u=>h.get? a=some o/\Av H h a u
 | .tbl ps=>h.get? a=some { cls:=.none,data:=.fields ps }
 | .met f x=>h.get? a=some (PySem.W.methodObj (.ref f) (.ref x))
 | .ext φ=>φ h/\(∃o,h.get? a=some o)/\∀h1 h2:Heap,φ h1->(∀o,h1.get? a=some o->h2.get? a=some o)->φ h2
def Ap (H:Hp)(h:Heap):Prop:=∀a o,H a=some o->Av P w H h a o
end
theorem Av.lt (x:Av P w H h a o):a<h.objs.size:=by
 cases o with
 | lst xs=>obtain⟨_,_,_,_,e⟩:=x;exact zU e
 | tup xs=>obtain⟨_,_,_,p⟩:=x;exact p.lt
 | dK dQ=>obtain⟨_,_,_,_,o,_,_,e,_⟩:=x;exact zU e
 | dT dQ=>obtain⟨_,_,_,_,o,_,_,e,_⟩:=x;exact zU e
 | set S n=>obtain⟨o,_,_,_,e,_⟩:=x;exact zU e
 | ins C dx fs=>obtain⟨_,_,_,e,_⟩:=x;exact zU e
 | own y=>obtain⟨_,e⟩:=x;exact zU e
 | xd fs=>obtain⟨_,⟨_,_,_,e,_⟩,_⟩:=x;exact zU e
 | rng lo hi=>obtain⟨_,_,_,e⟩:=x;exact zU e
 | frz ob u=>obtain⟨e,_⟩:=x;exact zU e
 | tbl ps=>exact zU (show h.get? a=some _ from x)
 | met f y=>exact zU (show h.get? a=some _ from x)
 | ext φ=>obtain⟨_,⟨_,e⟩,_⟩:=x;exact zU e
theorem Paired.mapP :∀{l₁:List α}{l₂:List β},Paired F l₁ l₂->(∀a b,F a b->G a b)->Paired G l₁ l₂
 | _,_,.nil,_=>.nil
 | _,_,.cons r t,f=>.cons (f _ _ r) (Paired.mapP t f)
theorem Av.stay (x:Av P w H h a o)(k:∀b u,(b=a\/H b=some (.own a))->h.get? b=some u->h'.get? b=some u)
 (ho:∀b,H b=some (.own a)->H' b=some (.own a))(ht:∀b xs,H b=some (.tup xs)->H' b=some (.tup xs)):Av P w H' h' a o:=by
 induction o with
 | lst xs=>obtain⟨z,its,n,r,e⟩:=x;exact⟨z,its,n,r,k _ _ (.inl rfl) e⟩
 | tup xs=>obtain⟨⟨z,o2,e2,d2⟩,its,r,ob,e,c⟩:=x;exact⟨⟨z,o2,k _ _ (.inl rfl) e2,d2⟩,its,r,ob,k _ _ (.inl rfl) e,c⟩
 | dK dQ=>obtain⟨z,y,vs,r,ob,es,ep,e,c⟩:=x;exact⟨z,y,vs,r,ob,es,ep,k _ _ (.inl rfl) e,c⟩
 | dT dQ=>obtain⟨z,y,xs,r,ob,es,ep,e,c⟩:=x;exact⟨z,y,xs,Paired.mapP r fun p q z=>⟨z.1,ht _ _ z.2.1,z.2.2⟩,ob,es,ep,k _ _ (.inl rfl) e,c⟩
 | set S n=>obtain⟨ob,es,ep,t,e,c⟩:=x;exact⟨ob,es,ep,t,k _ _ (.inl rfl) e,c⟩
 | ins C dx fs=>obtain⟨d,z,ne,e,mA,⟨od,es,ep,e2,c⟩,r⟩:=x;exact⟨ho _ d,z,ne,k _ _ (.inl rfl) e,mA,⟨od,es,ep,k _ _ (.inr d) e2,c⟩,r⟩
 | own y=>obtain⟨ob,e⟩:=x;exact⟨ob,k _ _ (.inl rfl) e⟩
 | xd fs=>obtain⟨mA,⟨od,es,ep,e,c⟩,r⟩:=x;exact⟨mA,⟨od,es,ep,k _ _ (.inl rfl) e,c⟩,r⟩
 | rng lo hi=>obtain⟨t,u,v,e⟩:=x;exact⟨t,u,v,k _ _ (.inl rfl) e⟩
 | frz ob u ih=>obtain⟨e,q⟩:=x;exact⟨k _ _ (.inl rfl) e,ih q⟩
 | tbl ps=>have e:h.get? a=some { cls:=.none,data:=.fields ps }:=x;show h'.get? a=some { cls:=.none,data:=.fields ps };exact k a _ (.inl rfl) e
 | met f y=>have e:h.get? a=some (PySem.W.methodObj (.ref f) (.ref y)):=x;show h'.get? a=some (PySem.W.methodObj (.ref f) (.ref y));exact k a _ (.inl rfl) e
 | ext φ=>obtain⟨p,⟨o,e⟩,st⟩:=x;exact⟨st _ _ p fun o q=>k _ _ (.inl rfl) q,⟨o,k _ _ (.inl rfl) e⟩,st⟩
theorem Ap.lt (x:Ap P w H h)(e:H a=some o):a<h.objs.size:=(x a o e).lt
theorem Ap.fresh (x:Ap P w H h)(e:h.objs.size<=a):H a=none:=by
 cases q:H a with
 | none=>rfl
 | some u=>exact absurd (zm (x.lt q) e) (D9 _)
theorem Ap.kept (x:Ap P w H h)(k:∀b u,h.get? b=some u->h'.get? b=some u):Ap P w H h':=fun a o e=>
 (x a o e).stay (fun b u _ q=>k b u q) (fun _ q=>q) fun _ _ q=>q
theorem Ap.laid (x:Ap P w H h)(k:∀b u,h.get? b=some u->h'.get? b=some u)(hp:h.objs.size<=a)(new:Av P w (upd H a o) h' a o):Ap P w (upd H a o) h':=fun b u e=>by
 have hn:=x.fresh hp;by_cases hb:b=a
 . subst hb;rw[zK] at e;cases e;exact new
 . rw[zk hb] at e;exact (x b u e).stay (fun c v _ q=>k c v q) (fun c q=>by rw[zk (zt q hn)];exact q) fun c xs q=>by rw[zk (zt q hn)];exact q
def Rd (H:Hp)(a:Addr)(u:HO):Prop:=H a=some u\/∃o,H a=some (.frz o u)
theorem Rd.ok (r:Rd H a u)(x:Ap P w H h):Av P w H h a u:=by
 rcases r with r | ⟨o,r⟩
 . exact x a u r
 . obtain⟨_,q⟩:=x a _ r;exact q
def IC:Option HO->Prop
 | some (.lst _)=>True
 | some (.dK _)=>True
 | some (.dT _)=>True
 | some (.set _ _)=>True
 | some (.ins _ _ _)=>True
 | some (.ext _)=>True
 | _=>False
theorem Ap.write (ok:Ap P w H h)(mu:IC (H x))(he:e=x\/H e=some (.own x))(k:∀b u,b≠e->h.get? b=some u->h'.get? b=some u)(heo:∃u,h'.get? e=some u)
 (new:Av P w (upd H x o') h' x o'):Ap P w (upd H x o') h':=fun b u q=>by
 have nown:∀c y,H c=some (.own y)->c≠x:=fun c y r z=>by subst z;rw[r] at mu;exact mu
 have ntup:∀c xs,H c=some (.tup xs)->c≠x:=fun c xs r z=>by subst z;rw[r] at mu;exact mu
 by_cases hb:b=x
 . subst hb;rw[zK] at q;cases q;exact new
 . rw[zk hb] at q;by_cases hbe:b=e
   . have q':H b=some (.own x):=by
      rcases he with z | z
      . exact absurd (hbe.trans z) hb
      . rw[hbe];exact z
     rw[q] at q';cases q';obtain⟨v,hv⟩:=heo;exact⟨v,by rw[hbe];exact hv⟩
   . refine (ok b u q).stay (fun c v hc r=>k c v ?_ r) (fun c r=>by rw[zk (nown c b r)];exact r) fun c xs r=>by rw[zk (ntup c xs r)];exact r
     rcases hc with rfl | hc
     . exact hbe
     . rintro rfl;rcases he with z | z
       . exact nown c b hc z
       . rw[hc] at z;cases z;exact hb rfl
structure Un (fs ex:List Addr)(H H':Hp)(h h':Heap):Prop where
 keep:∀b o,h.get? b=some o->H b=none->b∉fs->b∉ex->h'.get? b=some o
 slot:∀b o,h.get? b=some o->H b=none->b∈fs->b∉ex->∃sl,h'.get? b=some { o with slots:=sl }
 free:∀b o,h.get? b=some o->H b=none->b∉ex->H' b=none
 there:∀b o,h.get? b=some o->b∉ex->∃o',h'.get? b=some o'
 tups:∀b xs,H b=some (.tup xs)->H' b=some (.tup xs)
 frzs:∀b o u,H b=some (.frz o u)->H' b=some (.frz o u)
 tbls:∀b ps,H b=some (.tbl ps)->∃more,H' b=some (.tbl (ps++more))
theorem Un.any (u:Un fs ex H H1 h h1)(q:h.get? b=some ob)(n:H b=none)(hx:b∉ex):∃sl,h1.get? b=some { ob with slots:=sl }:=by
 by_cases hb:b∈fs
 . exact u.slot b ob q n hb hx
 . exact⟨ob.slots,u.keep b ob q n hb hx⟩
theorem Un.trans (a:Un fs ex H H1 h h1)(b:Un fs ex H1 H2 h1 h2):Un fs ex H H2 h h2 where
 keep:=fun c ob q n hc hx=>b.keep c ob (a.keep c ob q n hc hx) (a.free c ob q n hx) hc hx
 slot:=fun c ob q n hc hx=>by obtain⟨sl,e1⟩:=a.slot c ob q n hc hx;obtain⟨sl',e2⟩:=b.slot c _ e1 (a.free c ob q n hx) hc hx;exact⟨sl',e2⟩
 free:=fun c ob q n hx=>by obtain⟨o',e1⟩:=a.there c ob q hx;exact b.free c o' e1 (a.free c ob q n hx) hx
 there:=fun c ob q hx=>by obtain⟨o',e1⟩:=a.there c ob q hx;exact b.there c o' e1 hx
 tups:=fun c xs q=>b.tups c xs (a.tups c xs q)
 frzs:=fun c ob xs q=>b.frzs c ob xs (a.frzs c ob xs q)
 tbls:=fun c ps q=>by obtain⟨m1,e1⟩:=a.tbls c ps q;obtain⟨m2,e2⟩:=b.tbls c _ e1;exact⟨m1++m2,by rw[e2,Array.append_assoc]⟩
theorem Un.kept (k:∀b u,h.get? b=some u->h'.get? b=some u):Un fs ex H H h h':=
 ⟨fun b ob q _ _ _=>k b ob q,fun b ob q _ _ _=>⟨ob.slots,k b ob q⟩,fun _ _ _ n _=>n,fun b ob q _=>⟨ob,k b ob q⟩,fun _ _ q=>q,fun _ _ _ q=>q,fun _ ps q=>⟨#[],by rw[q];simp⟩⟩
theorem Un.refl:Un fs ex H H h h:=Un.kept fun _ _ q=>q
theorem Un.laid (k:∀b u,h.get? b=some u->h'.get? b=some u)(hp:h.objs.size<=a)(hn:H a=none):Un fs ex H (upd H a o) h h' where
 keep:=fun b u q _ _ _=>k b u q
 slot:=fun b u q _ _ _=>⟨u.slots,k b u q⟩
 free:=fun b u q n _=>by rw[zk (zc (zm (zU q) hp))];exact n
 there:=fun b u q _=>⟨u,k b u q⟩
 tups:=fun b xs q=>by rw[zk (zt q hn)];exact q
 frzs:=fun b u xs q=>by rw[zk (zt q hn)];exact q
 tbls:=fun b ps q=>⟨#[],by rw[zk (zt q hn),q];simp⟩
theorem Un.write (mu:IC (H x))(he:e=x\/H e=some (.own x))(k:∀b u,b≠e->h.get? b=some u->h'.get? b=some u)(heo:∃u,h'.get? e=some u):Un fs ex H (upd H x o) h h':=by
 have hx:∀b,H b=none->b≠x:=fun b n z=>by subst z;rw[n] at mu;exact mu
 have hb:∀b,H b=none->b≠e:=fun b n z=>by
  subst z;rcases he with r | r
  . exact hx b n r
  . rw[n] at r;cases r
 have hm:∀b u,H b=some u->¬ IC (some u)->b≠x:=fun b u q nm z=>by subst z;rw[q] at mu;exact nm mu
 refine⟨fun b u q n _ _=>k b u (hb b n) q,fun b u q n _ _=>⟨u.slots,k b u (hb b n) q⟩,fun b u q n _=>by rw[zk (hx b n)];exact n,fun b u q _=>?_,
  fun b xs q=>by rw[zk (hm b _ q fun z=>z)];exact q,fun b u xs q=>by rw[zk (hm b _ q fun z=>z)];exact q,fun b ps q=>⟨#[],by rw[zk (hm b _ q fun z=>z),q];simp⟩⟩
 by_cases hbe:b=e
 . subst hbe;exact heo
 . exact⟨u,k b u hbe q⟩
noncomputable def Qn (h:Heap)(H:Hp):List Addr:=(List.range h.objs.size).filter fun a=>(H a).isSome
noncomputable def Gp (h:Heap)(H:Hp):Heap:=PySem.W.hideAll h (Qn h H)
theorem YQ (h)(H):(Gp h H).objs.size=h.objs.size:=PySem.W.hideAll_size _ _
theorem aZ (e:h.get? b=some o)(n:H b=none):(Gp h H).get? b=some o:=
 PySem.W.hideAll_get _ e fun hm=>by have q:(H b).isSome=true:=(List.mem_filter.mp hm).2;rw[n] at q;simp at q
theorem bq (e:(Gp h H).get? b=some o):h.get? b=some o/\H b=none:=by
 have e':h.get? b=some o:=PySem.W.of_hideAll (Qn h H) e;refine⟨e',?_⟩;cases q:H b with
 | none=>rfl
 | some x=>have hm:b∈Qn h H:=List.mem_filter.mpr ⟨C0.mpr (zU e'),by simp[q]⟩;have z:(Gp h H).get? b=none:=PySem.W.hideAll_none (Qn h H) hm;rw[z] at e;cases e
structure Mod (K:AJ)(mg:Bx)(base:Heap):Prop where
 kin:K.In base
 glob:base.Ns mainGlobals mg
 blt:∃mb,base.Ns builtinsNs mb/\∀x:Str,x ≠ "__name__"->mb x=bootBuiltins x
 nolimit:base.NoLimit
structure Cx where
 prog:Program
 w:World
 K:AJ
 mg:Str->Option Value
 base:Heap
 A:Around
 N:List Str
 s₀:Shared
 H₀:Hp
 env:Env
 outer:List Env
 stack:List Env
 ex:List Addr
 fn:Str->Bool
 calm:Bool
 pn:List (Addr×Obj)
 xe:Value->Shared->Prop
noncomputable def Az (l:List Env):List Addr:=l.filterMap (·.frame)
noncomputable abbrev Cx.fs (X:Cx):List Addr:=Az X.outer
def TJ (sc:Scope)(x:Str):Prop:=sc.names.lookup x=some .local\/sc.names.lookup x=some .cell\/sc.names.lookup x=some .free
def Loc (sc:Scope)(x:Str):Prop:=sc.names.lookup x=some .local\/sc.names.lookup x=some .cell
def Sk (env:Env)(h:Heap)(m:Bx)(x:Str)(u:Value):Prop:=
 (env.kindOf x=some .local/\m x=some u)\/((env.kindOf x=some .cell\/env.kindOf x=some .free)/\∃c,env.cells.lookup x=some c/\h.IsCell c (some u))
structure Cx.Ok (X:Cx):Prop where
 mod:Mod X.K X.mg X.base
 kind:X.env.scope.kind=.function
 glob:X.env.globals=mainGlobals
 blt:X.env.builtins=builtinsNs
 above:X.s₀.heap.objs.size<=X.env.locals
 inj:∀x y c,X.env.cells.lookup x=some c->X.env.cells.lookup y=some c->x=y
 has:∀x,(X.env.kindOf x=some .cell\/X.env.kindOf x=some .free)->∃c,X.env.cells.lookup x=some c
 cab:∀x c,X.fn x=true->X.env.cells.lookup x=some c->X.s₀.heap.objs.size<=c
 hd:X.calm=true->X.A.handled=none
 frames:X.A.frames=some X.stack
 stk:X.stack=X.outer\/(X.stack=X.env::X.outer/\X.env.frame=some X.env.locals)
 exf:∀b∈X.ex,b≠X.env.locals/\∀x c,X.env.cells.lookup x=some c->c≠b
 bs:∀b o,X.base.get? b=some o->X.s₀.heap.get? b=some o/\X.H₀ b=none
 bsz:X.base.objs.size<=X.s₀.heap.objs.size
 noex:∀b o,X.base.get? b=some o->b∉X.ex
 exfs:∀b∈X.ex,b∉X.fs
 funs:X.s₀.heap.FunFrames X.base X.outer
 frf:∀b∈X.fs,X.H₀ b=none
structure AB (X:Cx)(pins:Bm)(σ:List (Option V))(H:Hp)(s:Shared):Prop where
 ok:X.Ok
 os:s.os=X.s₀.os
 bare:AllBare s.gens
 base:Un X.fs X.ex X.H₀ H X.s₀.heap s.heap
 loc:∃m,s.heap.Ns X.env.locals m/\∀(i:Nat)(x:Str)(v:V),X.N[i]?=some x->σ[i]?=some (some v)->TJ X.env.scope x->∃u,AQ v u/\Sk X.env s.heap m x u
 cell:∀x c,X.env.cells.lookup x=some c->∃v,s.heap.IsCell c v
 free:H X.env.locals=none
 freeC:∀x c,X.env.cells.lookup x=some c->H c=none
 pin:∀p∈X.pn++pins,s.heap.get? p.1=some p.2/\H p.1=none/\p.1≠X.env.locals/\p.1∉X.fs/\∀v,p.2.data ≠ .cell v
 hok:Ap X.prog X.w H s.heap
 len:σ.length=X.N.length
section
variable {X:Cx}{pins:Bm}{σ:List (Option V)}{H H':Hp}{s:Shared}{h':Heap}
theorem Cx.Ok.nofr (ok:X.Ok)(e:X.base.get? b=some o):b∉X.fs:=fun hb=>by have:=(ok.funs.mem hb).1;rw[e] at this;cases this
theorem AB.bs (I:AB X pins σ H s):∀b o,X.base.get? b=some o->s.heap.get? b=some o/\H b=none:=fun b o e=>
 ⟨I.base.keep b o (I.ok.bs b o e).1 (I.ok.bs b o e).2 (I.ok.nofr e) (I.ok.noex b o e),I.base.free b o (I.ok.bs b o e).1 (I.ok.bs b o e).2 (I.ok.noex b o e)⟩
theorem AB.bk (I:AB X pins σ H s):∀b o,X.base.get? b=some o->s.heap.get? b=some o:=fun b o e=>(I.bs b o e).1
theorem AB.mod (I:AB X pins σ H s):Mod X.K X.mg X.base:=I.ok.mod
theorem AB.kIn (I:AB X pins σ H s):X.K.In s.heap:=I.ok.mod.kin.keeps I.bk
theorem AB.lt (I:AB X pins σ H s):X.env.locals<s.heap.objs.size:=let ⟨_,hn,_⟩:=I.loc;hn.lt
theorem AB.sz (I:AB X pins σ H s):X.s₀.heap.objs.size<=s.heap.objs.size:=zp I.ok.above (DG I.lt)
theorem AB.nofs (I:AB X pins σ H s)(h:s.heap.objs.size<=a):a∉X.fs:=fun hb=>by obtain⟨_,o,ho,_⟩:=I.ok.funs.mem hb;exact absurd (zm (zU ho) (zp I.sz h)) (D9 _)
theorem AB.cne (I:AB X pins σ H s):∀x c,X.env.cells.lookup x=some c->c≠X.env.locals:=fun x c e z=>by obtain⟨v,o,ho,hd⟩:=I.cell x c e;obtain⟨m,⟨o',es,ep,iU,i6,_⟩,_⟩:=I.loc;rw[z,iU] at ho;cases ho;rw[i6] at hd;cases hd
theorem AB.funs (I:AB X pins σ H s):s.heap.FunFrames X.base X.outer:=by
 have all:∀(l:List Env),(∀b∈Az l,b∈X.fs)->X.s₀.heap.FunFrames X.base l->s.heap.FunFrames X.base l:=by
  intro l
  induction l with
  | nil=>intro _ _;trivial
  | cons env r ih=>intro hs hl;obtain⟨hk,⟨L,o,hf,hn,ho,hd⟩,hr⟩:=hl;have hL:L∈X.fs:=hs L (by unfold Az;rw[HD,hf];exact zS);obtain⟨sl,e⟩:=I.base.slot L o ho (I.ok.frf L hL) hL fun z=>I.ok.exfs L z hL;exact⟨hk,⟨L,_,hf,hn,e,hd⟩,ih (fun b hb=>hs b (by unfold Az;rw[HD,hf];exact zZ _ hb)) hr⟩
 exact all X.outer (fun _ hb=>hb) I.ok.funs
theorem AB.stack (I:AB X pins σ H s):s.heap.FunFrames X.base X.stack:=by
 rcases I.ok.stk with e | ⟨e,hf⟩
 . rw[e];exact I.funs
 . rw[e];obtain⟨m,hn,_⟩:=I.loc;refine .cons (by rw[I.ok.kind];decide) hf hn ?_ I.funs;exact Heap.get?_none_of_le (zp I.ok.bsz I.ok.above)
theorem AB.stkSub (I:AB X pins σ H s):∀b∈Az X.stack,b∈X.env.locals::X.fs:=fun b hb=>by
 rcases I.ok.stk with e | ⟨e,hf⟩
 . rw[e] at hb;exact zZ _ hb
 . rw[e] at hb;unfold Az at hb;rw[HD,hf] at hb;exact hb
theorem AB.stkFree (I:AB X pins σ H s):∀b∈Az X.stack,H b=none:=fun b hb=>by
 rcases zT.mp (I.stkSub b hb) with e | hb
 . rw[e];exact I.free
 . obtain⟨_,o,ho,_⟩:=I.ok.funs.mem hb;exact I.base.free b o ho (I.ok.frf b hb) fun z=>I.ok.exfs b z hb
theorem AB.step {ch:List Addr}(I:AB X pins σ H s)
 (hch:∀b∈ch,(b∈X.ex\/X.s₀.heap.objs.size<=b)/\b≠X.env.locals/\(∀x c,X.env.cells.lookup x=some c->c≠b)/\∀p∈X.pn++pins,p.1≠b)
 (keep:∀b o,b≠X.env.locals->b∉X.fs->b∉ch->s.heap.get? b=some o->H b=none->h'.get? b=some o)
 (slot:∀b o,b≠X.env.locals->b∈X.fs->b∉ch->s.heap.get? b=some o->H b=none->∃sl,h'.get? b=some { o with slots:=sl })(free:∀b o,b∉ch->s.heap.get? b=some o->H b=none->H' b=none)
 (there:∀b o,b∉ch->s.heap.get? b=some o->∃o',h'.get? b=some o')
 (tups:∀b xs,H b=some (.tup xs)->H' b=some (.tup xs))(frzs:∀b o u,H b=some (.frz o u)->H' b=some (.frz o u))(tbls:∀b ps,H b=some (.tbl ps)->∃more,H' b=some (.tbl (ps++more)))
 (ns:∀m,s.heap.Ns X.env.locals m->h'.Ns X.env.locals m)(hok:Ap X.prog X.w H' h')(hg:AllBare g'):
 AB X pins σ H' { s with heap:=h',gens:=g',drawn:=d',toks:=t' }:=by
 have neL:∀b o,X.s₀.heap.get? b=some o->b≠X.env.locals:=fun b o e=>zc (zm (zU e) I.ok.above);have neC:∀b o,X.s₀.heap.get? b=some o->b∉X.ex->b∉ch:=fun b o e hx hb=>by
  rcases (hch b hb).1 with z | z
  . exact hx z
  . exact absurd (zm (zU e) z) (D9 _)
 have cellK:∀x c,X.env.cells.lookup x=some c->∀v,s.heap.IsCell c v->h'.IsCell c v:=fun x c e v ⟨o,ho,hd⟩=>by
  have nch:c∉ch:=fun z=>(hch c z).2.2.1 x c e rfl;by_cases hc:c∈X.fs
  . obtain⟨sl,q⟩:=slot c o (I.cne x c e) hc nch ho (I.freeC x c e);exact⟨_,q,hd⟩
  . exact⟨o,keep c o (I.cne x c e) hc nch ho (I.freeC x c e),hd⟩
 refine⟨I.ok,I.os,hg,⟨fun b o e n hb hx=>?_,fun b o e n hb hx=>?_,fun b o e n hx=>?_,fun b o e hx=>?_,fun b xs e=>tups b xs (I.base.tups b xs e),fun b o xs e=>frzs b o xs (I.base.frzs b o xs e),fun b ps e=>?_⟩,?_,fun x c e=>?_,?_,fun x c e=>?_,fun p hp=>?_,hok,I.len⟩
 . exact keep b o (neL b o e) hb (neC b o e hx) (I.base.keep b o e n hb hx) (I.base.free b o e n hx)
 . obtain⟨sl,e1⟩:=I.base.slot b o e n hb hx;obtain⟨sl',e2⟩:=slot b _ (neL b o e) hb (neC b o e hx) e1 (I.base.free b o e n hx);exact⟨sl',e2⟩
 . obtain⟨o',e1⟩:=I.base.there b o e hx;exact free b o' (neC b o e hx) e1 (I.base.free b o e n hx)
 . obtain⟨o',e1⟩:=I.base.there b o e hx;exact there b o' (neC b o e hx) e1
 . obtain⟨m1,e1⟩:=I.base.tbls b ps e;obtain⟨m2,e2⟩:=tbls b _ e1;exact⟨m1++m2,by rw[e2,Array.append_assoc]⟩
 . obtain⟨m,hn,hl⟩:=I.loc;refine⟨m,ns m hn,fun i x v e1 e2 e3=>?_⟩;obtain⟨u,r,l⟩:=hl i x v e1 e2 e3;refine⟨u,r,?_⟩;rcases l with l | ⟨k,c,e,z⟩
   . exact .inl l
   . exact .inr ⟨k,c,e,cellK x c e _ z⟩
 . obtain⟨v,z⟩:=I.cell x c e;exact⟨v,cellK x c e v z⟩
 . obtain⟨m,⟨o,_,_,ho,_⟩,_⟩:=I.loc;exact free _ o (fun z=>(hch _ z).2.1 rfl) ho I.free
 . obtain⟨v,o,ho,hd⟩:=I.cell x c e;exact free c o (fun z=>(hch c z).2.2.1 x c e rfl) ho (I.freeC x c e)
 . obtain⟨e,n,ne,nf,d⟩:=I.pin p hp;have nch:p.1∉ch:=fun z=>(hch p.1 z).2.2.2 p hp rfl;exact⟨keep p.1 p.2 ne nf nch e n,free p.1 p.2 nch e n,ne,nf,d⟩
theorem AB.un (I:AB X pins σ H s)(u:Un X.fs [] H H' s.heap h')(hok:Ap X.prog X.w H' h'):AB X pins σ H' { s with heap:=h',toks:=t' }:=by
 obtain⟨m,⟨o,es,ep,ho,r⟩,_⟩:=id I.loc;obtain⟨sl,hL⟩:=u.any ho I.free (by simp);exact I.step (g':=s.gens) (d':=s.drawn) (ch:=[]) (fun _ z=>nomatch z) (fun b o _ hb _ e n=>u.keep b o e n hb (by simp)) (fun b o _ hb _ e n=>u.slot b o e n hb (by simp)) (fun b o _ e n=>u.free b o e n (by simp)) (fun b o _ e=>u.there b o e (by simp)) u.tups u.frzs u.tbls (fun m' hm=>by obtain⟨o',gD,ep',iU,r'⟩:=hm;rw[ho] at iU;cases iU;exact⟨_,gD,ep',hL,r'⟩) hok I.bare
theorem AB.call (I:AB X pins σ H s)(u:Un (Az X.stack) ch H H' s.heap h')(hok:Ap X.prog X.w H' h')(hg:AllBare g')
 (hch:∀b∈ch,(b∈X.ex\/X.s₀.heap.objs.size<=b)/\b≠X.env.locals/\(∀x c,X.env.cells.lookup x=some c->c≠b)/\∀p∈X.pn++pins,p.1≠b):
 AB X pins σ H' { s with heap:=h',gens:=g',drawn:=d',toks:=t' }:=by
 obtain⟨m,⟨o,es,ep,ho,r⟩,_⟩:=id I.loc;obtain⟨sl,hL⟩:=u.any ho I.free fun z=>(hch _ z).2.1 rfl;exact I.step (ch:=ch) hch (fun b o hL hb hc e n=>u.keep b o e n (fun z=>(zT.mp (I.stkSub b z)).elim hL hb) hc) (fun b o _ _ hc e n=>u.any e n hc) (fun b o hc e n=>u.free b o e n hc) (fun b o hc e=>u.there b o e hc) u.tups u.frzs u.tbls (fun m' hm=>by obtain⟨o',gD,ep',iU,r'⟩:=hm;rw[ho] at iU;cases iU;exact⟨_,gD,ep',hL,r'⟩) hok hg
theorem AB.turned {t':Nat}{it:Addr}(I:AB X pins σ H s)(k:∀b o,b≠it->s.heap.get? b=some o->h'.get? b=some o)(hn:H it=none)(hL:it≠X.env.locals)
 (h1:it∈X.ex\/X.s₀.heap.objs.size<=it)(h2:∀x c,X.env.cells.lookup x=some c->c≠it)(h3:∀p∈X.pn++pins,p.1≠it):AB X pins σ H { s with heap:=h',toks:=t' }:=by
 have nit:∀b u,H b=some u->b≠it:=fun b u e z=>by rw[z,hn] at e;cases e
 refine I.step (g':=s.gens) (d':=s.drawn) (ch:=[it]) (fun b hb=>?_) (fun b o _ _ hc e _=>k b o (fun z=>hc (by simp[z])) e) (fun b o _ _ hc e _=>⟨o.slots,k b o (fun z=>hc (by simp[z])) e⟩) (fun _ _ _ _ n=>n)
  (fun b o hc e=>⟨o,k b o (fun z=>hc (by simp[z])) e⟩) (fun _ _ e=>e) (fun _ _ _ e=>e) (fun b ps e=>⟨#[],by rw[e];simp⟩) (fun m hm=>?_) (fun b u e=>?_) I.bare
 . have e:b=it:=by simpa using hb
   subst e;exact⟨h1,hL,h2,h3⟩
 . obtain⟨o,es,ep,ho,r⟩:=hm;exact⟨o,es,ep,k _ o (Ne.symm hL) ho,r⟩
 . refine (I.hok b u e).stay (fun c v hc q=>k c v ?_ q) (fun _ q=>q) fun _ _ q=>q;rcases hc with z | z
   . rw[z];exact nit b u e
   . exact nit c _ z
theorem AB.tok (I:AB X pins σ H s)(t):AB X pins σ H { s with toks:=t }:=I.un (h':=s.heap) (t':=t) Un.refl I.hok
theorem AB.kept (I:AB X pins σ H s)(k:∀b u,s.heap.get? b=some u->h'.get? b=some u):AB X pins σ H { s with heap:=h',toks:=t' }:=I.un (Un.kept k) (I.hok.kept k)
theorem AB.laid (I:AB X pins σ H s)(k:∀b u,s.heap.get? b=some u->h'.get? b=some u)(hp:s.heap.objs.size<=a)(new:Av X.prog X.w (upd H a o) h' a o):
 AB X pins σ (upd H a o) { s with heap:=h',toks:=t' }:=I.un (Un.laid k hp (I.hok.fresh hp)) (I.hok.laid k hp new)
theorem AB.write (I:AB X pins σ H s)(mu:IC (H x))(he:e=x\/H e=some (.own x))(k:∀b u,b≠e->s.heap.get? b=some u->h'.get? b=some u)(heo:∃u,h'.get? e=some u)
 (new:Av X.prog X.w (upd H x o) h' x o):AB X pins σ (upd H x o) { s with heap:=h',toks:=t' }:=I.un (Un.write mu he k heo) (I.hok.write mu he k heo new)
theorem AB.weak (I:AB X pins σ H s)(hl:σ'.length=σ.length)(w:∀(i:Nat) v,σ'[i]?=some (some v)->σ[i]?=some (some v)):AB X pins σ' H s:=
 ⟨I.ok,I.os,I.bare,I.base,let ⟨m,hn,eO⟩:=I.loc;⟨m,hn,fun i x v e1 e2 e3=>eO i x v e1 (w i v e2) e3⟩,I.cell,I.free,I.freeC,I.pin,I.hok,hl.trans I.len⟩
theorem AB.pins_of (I:AB X pins σ H s)(h:∀p∈pins',s.heap.get? p.1=some p.2/\H p.1=none/\p.1≠X.env.locals/\p.1∉X.fs/\∀v,p.2.data ≠ .cell v):AB X pins' σ H s:=
 ⟨I.ok,I.os,I.bare,I.base,I.loc,I.cell,I.free,I.freeC,fun p hp=>(zj.mp hp).elim (fun z=>I.pin p (C8 _ z)) (h p),I.hok,I.len⟩
theorem Q6 {N:List Str}(hN:N.Nodup){i:Nat}(a:N[i]?=some x)(b:N[j]?=some x):i=j:=by obtain⟨h1,e1⟩:=zI.mp a;obtain⟨h2,e2⟩:=zI.mp b;exact (List.getElem_inj hN).mp (e1.trans e2.symm)
theorem cC (I:AB X pins σ H s)(hN:X.N.Nodup)(hi:X.N[i]?=some x)(hx:Loc X.env.scope x)(r:AQ v u)
 (h:∀s',AB X pins (σ.set i (some v)) H s'->(∃a,Heap.SameBut a s.heap s'.heap/\(a=X.env.locals\/X.env.cells.lookup x=some a))->Q () s')(hf:X.fn x=true\/X.env.scope.names.lookup x=some .local:=by first | exact .inl rfl | exact .inr rfl | assumption):wpAny M A (storeName X.env x u) Q E s:=by
 obtain⟨m,hn,hl⟩:=id I.loc;have i7:(X.env.scope.kind == .class || (X.env.scope.kind == .module && X.env.locals != X.env.globals))=false:=by rw[I.ok.kind];rfl
 have hiσ:i<σ.length:=by rw[I.len];exact (zI.mp hi).1
 have cne:=I.cne;have tracked:∀{a:Addr}{h':Heap},(∃o,s.heap.get? a=some o/\H a=none)->Heap.SameBut a s.heap h'->Ap X.prog X.w H h':=fun {a h'} ha hs b ob e=>by
  obtain⟨_,_,hfree⟩:=ha;refine (I.hok b ob e).stay (fun c w' hc q=>(hs.2 c ?_).trans q) (fun _ q=>q) fun _ _ q=>q;rintro rfl;rcases hc with rfl | hc
  . rw[hfree] at e;cases e
  . rw[hfree] at hc;cases hc
 rcases hx with hk | hk
 . refine wpAny_storeName_local hk hn (fun h' iK hs=>?_) i7;obtain⟨oL,_,_,gT,_⟩:=id hn;refine h _ ⟨I.ok,I.os,I.bare,⟨fun b o e n hb hx=>?_,fun b o e n hb hx=>?_,I.base.free,fun b o e hx=>?_,I.base.tups,I.base.frzs,I.base.tbls⟩,⟨_,iK,fun j y v' e1 e2 e3=>?_⟩,fun y c e=>?_,I.free,I.freeC,fun p hp=>?_,tracked ⟨oL,gT,I.free⟩ hs,by simpa using I.len⟩ ⟨_,hs,.inl rfl⟩
   . exact (hs.2 b (zc (zm (zU e) I.ok.above))).trans (I.base.keep b o e n hb hx)
   . obtain⟨sl,e1⟩:=I.base.slot b o e n hb hx;exact⟨sl,(hs.2 b (zc (zm (zU e) I.ok.above))).trans e1⟩
   . obtain⟨o',e1⟩:=I.base.there b o e hx;exact⟨o',(hs.2 b (zc (zm (zU e) I.ok.above))).trans e1⟩
   . by_cases hj:j=i
     . subst hj;rw[hi] at e1;cases e1;rw[List.getElem?_set_self hiσ] at e2;cases e2;exact⟨u,r,.inl ⟨hk,by simp⟩⟩
     . rw[List.getElem?_set_ne (Ne.symm hj)] at e2;obtain⟨u',r',q⟩:=hl j y v' e1 e2 e3;refine⟨u',r',?_⟩;rcases q with ⟨k,e⟩ | ⟨k,c,e,z⟩
       . refine .inl ⟨k,?_⟩;have:y≠x:=fun e=>hj (Q6 hN e1 (e ▸ hi));simp[this,e]
       . exact .inr ⟨k,c,e,z.sameBut hs (cne y c e)⟩
   . obtain⟨w',z⟩:=I.cell y c e;exact⟨w',z.sameBut hs (cne y c e)⟩
   . obtain⟨e,n,ne,nf,d⟩:=I.pin p hp;exact⟨(hs.2 p.1 ne).trans e,n,ne,nf,d⟩
 . have hfn:X.fn x=true:=by
    rcases hf with z | z
    . exact z
    . rw[z] at hk;cases hk
   obtain⟨c,hc⟩:=I.ok.has x (.inl hk);obtain⟨w',z⟩:=I.cell x c hc;refine wpAny_storeName_cell I.ok.kind hk hc z (fun h' gF hs=>?_);obtain⟨oc,hoc,hocd⟩:=id z;refine h { s with heap:=h' } ⟨I.ok,I.os,I.bare,⟨fun b o e n hb hx=>?_,fun b o e n hb hx=>?_,I.base.free,fun b o e hx=>?_,I.base.tups,I.base.frzs,I.base.tbls⟩,⟨m,hn.sameBut hs (Ne.symm (cne x c hc)),fun j y v' e1 e2 e3=>?_⟩,fun y c' e=>?_,I.free,I.freeC,fun p hp=>?_,tracked ⟨oc,hoc,I.freeC x c hc⟩ hs,by simpa using I.len⟩ ⟨c,hs,.inr hc⟩
   . exact (hs.2 b (zc (zm (zU e) (I.ok.cab x c hfn hc)))).trans (I.base.keep b o e n hb hx)
   . obtain⟨sl,e1⟩:=I.base.slot b o e n hb hx;exact⟨sl,(hs.2 b (zc (zm (zU e) (I.ok.cab x c hfn hc)))).trans e1⟩
   . obtain⟨o',e1⟩:=I.base.there b o e hx;exact⟨o',(hs.2 b (zc (zm (zU e) (I.ok.cab x c hfn hc)))).trans e1⟩
   . by_cases hj:j=i
     . subst hj;rw[hi] at e1;cases e1;rw[List.getElem?_set_self hiσ] at e2;cases e2;exact⟨u,r,.inr ⟨.inl hk,c,hc,gF⟩⟩
     . rw[List.getElem?_set_ne (Ne.symm hj)] at e2;obtain⟨u',r',q⟩:=hl j y v' e1 e2 e3;refine⟨u',r',?_⟩;rcases q with q | ⟨k,c',e,z'⟩
       . exact .inl q
       . refine .inr ⟨k,c',e,z'.sameBut hs ?_⟩;rintro rfl;exact hj (Q6 hN e1 (I.ok.inj _ _ _ e hc ▸ hi))
   . by_cases hcc:c'=c
     . subst hcc;exact⟨_,gF⟩
     . obtain⟨w2,z2⟩:=I.cell y c' e;exact⟨w2,z2.sameBut hs hcc⟩
   . obtain⟨e,n,ne,nf,d⟩:=I.pin p hp;refine⟨(hs.2 p.1 ?_).trans e,n,ne,nf,d⟩;intro q;rw[q,hoc] at e;have q':oc=p.2:=zY e;exact d w' (by rw[<-q'];exact hocd)
theorem JX (I:AB X pins σ H s)(hN:X.N.Nodup)(hi:X.N[i]?=some x)(hx:Loc X.env.scope x)(r:AQ v u)
 (h:∀s',AB X pins (σ.set i (some v)) H s'->Q () s')(hf:X.fn x=true\/X.env.scope.names.lookup x=some .local:=by first | exact .inl rfl | exact .inr rfl | assumption):wpAny M A (storeName X.env x u) Q E s:=
 cC I hN hi hx r (fun s' I' _=>h s' I') hf
theorem AB.call' (I:AB X pins σ H s)(ho:s'.os=s.os)(u:Un (Az X.stack) ch H H' s.heap s'.heap)(hok:Ap X.prog X.w H' s'.heap)(hg:AllBare s'.gens)
 (hch:∀b∈ch,(b∈X.ex\/X.s₀.heap.objs.size<=b)/\b≠X.env.locals/\(∀x c,X.env.cells.lookup x=some c->c≠b)/\∀p∈X.pn++pins,p.1≠b):AB X pins σ H' s':=by
 obtain⟨h',g',d',t',o'⟩:=s';have e:o'=s.os:=ho;subst e;exact I.call (g':=g') (t':=t') (d':=d') u hok hg hch
end
abbrev XK:=Value->Option Addr->Hp->Prop
abbrev St:=List (Option V)
abbrev VK:=V->Hp->Prop
abbrev TE:=St->Hp->VK->Prop
abbrev TT:=St->Hp->(Bool->Hp->Prop)->Prop
abbrev TA:=St->Hp->(List V->Hp->Prop)->Prop
structure Gc where
 nx:St->Hp->Prop
 rt:VK
 bk:St->Hp->Prop:=fun _ _=>False
 ct:St->Hp->Prop:=fun _ _=>False
abbrev TS:=Gc->St->Hp->Prop
def EP (X:Cx)(pins:Bm)(σ:St)(Q:VK)(u:Value)(s':Shared):Prop:=∃v H',AB X pins σ H' s'/\AQ v u/\Q v H'
def TP (X:Cx)(pins:Bm)(σ:St)(Q:Bool->Hp->Prop)(b:Bool)(s':Shared):Prop:=∃H',AB X pins σ H' s'/\Q b H'
def AP (X:Cx)(pins:Bm)(σ:St)(Q:List V->Hp->Prop)(us:List Value)(s':Shared):Prop:=∃vs H',AB X pins σ H' s'/\AK vs us/\Q vs H'
def SP (X:Cx)(pins:Bm)(D:Gc)(f:Flow)(s':Shared):Prop:=
 match f with
 | .next=>∃ σ' H',AB X pins σ' H' s'/\D.nx σ' H'
 | .brk=>∃ σ' H',AB X pins σ' H' s'/\D.bk σ' H'
 | .cont=>∃ σ' H',AB X pins σ' H' s'/\D.ct σ' H'
 | .ret u=>∃v σ' H',AB X pins σ' H' s'/\AQ v u/\D.rt v H'
def PE (X:Cx)(e:Expr)(t:TE):Prop:=
 ∀pins s σ H Q,AB X pins σ H s->t σ H Q->wpAny (model X.prog X.w) X.A (eval e X.env) (EP X pins σ Q) X.xe s
def PT (X:Cx)(e:Expr)(t:TT):Prop:=
 ∀pins s σ H Q,AB X pins σ H s->t σ H Q->wpAny (model X.prog X.w) X.A (isTrue e X.env (eval e X.env)) (TP X pins σ Q) X.xe s
def PW (X:Cx)(e:Expr)(t:TT):Prop:=
 ∀whole pins s σ H Q,AB X pins σ H s->t σ H Q->wpAny (model X.prog X.w) X.A (isTrue e X.env whole) (TP X pins σ Q) X.xe s
theorem PW.pt (h:PW X e t):PT X e t:=h _
def PA (X:Cx)(es:List Expr)(t:TA):Prop:=
 ∀pos pins s σ H Q,AB X pins σ H s->t σ H Q->wpAny (model X.prog X.w) X.A (spliced (backTo pos (starEach es X.env))) (AP X pins σ Q) X.xe s
def PS (X:Cx)(st:Stmt)(t:TS):Prop:=
 ∀pins s σ H D,AB X pins σ H s->t D σ H->wpAny (model X.prog X.w) X.A (exec st X.env) (SP X pins D) X.xe s
def BU (X:Cx)(st:List Stmt)(t:TS):Prop:=
 ∀pins s σ H D,AB X pins σ H s->t D σ H->wpAny (model X.prog X.w) X.A (execs st X.env) (SP X pins D) X.xe s
theorem AI (h:wpAny M A t Q E s)(hQ:∀a s,Q a s->Q' a s):wpAny M A t Q' E s:=A8 h hQ fun _ _ x=>x
theorem dH (ha:PE X a ta)(hb:PE X b tb){R:V->V->Hp->Prop}(I:AB X pins σ H s)(h:ta σ H fun x H1=>tb σ H1 fun y H2=>R x y H2)
 {Q:α->Shared->Prop}{f:Value->Value->Sem α}
 (hf:∀v u s2 x y H2,AB X pins σ H2 s2->AQ x v->AQ y u->R x y H2->wpAny (model X.prog X.w) X.A (f v u) Q X.xe s2):
 wpAny (model X.prog X.w) X.A (eval a X.env) (fun v s₁=>wpAny (model X.prog X.w) X.A (eval b X.env) (fun u s₂=>wpAny (model X.prog X.w) X.A (f v u) Q X.xe s₂) X.xe s₁) X.xe s:=by
 refine AI (ha pins s σ H _ I h) fun v s1 ⟨x,H1,I1,r1,q1⟩=>?_;refine AI (hb pins s1 σ H1 _ I1 q1) fun u s2 ⟨y,H2,I2,r2,q2⟩=>?_;exact hf v u s2 x y H2 I2 r1 r2 q2
def OE (i:Nat):TE:=fun σ H Q=>∃v,σ[i]?=some (some v)/\Q v H
def tC (v:V):TE:=fun _ H Q=>Q v H
theorem Kd (hN:X.N[i]?=some x)(hv:TJ X.env.scope x)(hd:(x==("__debug__" : Str))=false:=by decide) (gp:(x==("__classdict__" : Str))=false:=by decide):PE X (.Name x pos) (OE i):=by
 intro pins s σ H Q I h;obtain⟨v,e,h⟩:=h;obtain⟨m,hn,hl⟩:=I.loc;obtain⟨u,r,l⟩:=hl i x v hN e hv;have fin:EP X pins σ Q u s:=⟨v,H,I,r,h⟩;rcases l with ⟨hk,hm⟩ | ⟨hk,c,hc,hcell⟩
 . exact wpAny_Name (wpAny_loadName_local I.ok.kind hk hn hm fin) hd
 . rcases hk with hk | hk
   . exact wpAny_Name (wpAny_loadName_cell I.ok.kind hk hc hcell fin) hd
   . exact wpAny_Name (wpAny_loadName_free I.ok.kind hk hc hcell fin gp) hd
theorem zi {i j pos}:PE X (.Constant (.int i) j pos) (tC (.int i)):=fun _ _ _ H _ I h=>wpAny_Constant_int ⟨.int i,H,I.tok _,⟨_,rfl⟩,h⟩
theorem Dw {b j pos}:PE X (.Constant (.bool b) j pos) (tC (.bl b)):=fun _ _ _ H _ I h=>Constant_bool ⟨.bl b,H,I,rfl,h⟩
theorem An {j pos}:PE X (.Constant .none j pos) (tC .non):=fun _ _ _ H _ I h=>Constant_none ⟨.non,H,I,rfl,h⟩
theorem DQ {x j pos}:PE X (.Constant (.str x) j pos) (tC (.str x)):=fun _ _ _ H _ I h=>Calls.Constant_str ⟨.str x,H,I.tok _,⟨_,rfl⟩,h⟩
def Gl (X:Cx)(x:Str):Prop:=X.env.kindOf x=some .globalImplicit
theorem L4 (I:AB X pins σ H s)(hg:Gl X x)(hm:X.mg x=some u)(h:Q u s)
 (hd:(x==("__debug__" : Str))=false:=by decide):wpAny (model X.prog X.w) X.A (eval (.Name x pos) X.env) Q E s:=
 Calls.Name_function_global I.ok.kind hg (Calls.loadGlobal_global (by rw[I.ok.glob];exact I.mod.glob.keeps I.bk) hm h) hd
theorem EJ (I:AB X pins σ H s)(hg:Gl X x)(hm:X.mg x=none)(hv:bootBuiltins x=some u)(h:Q u s)
 (hn:x ≠ "__name__" := by decide) (hd:(x==("__debug__" : Str))=false:=by decide):wpAny (model X.prog X.w) X.A (eval (.Name x pos) X.env) Q E s:=by
 obtain⟨mb,h1,h2⟩:=I.mod.blt;exact Calls.Name_function_global I.ok.kind hg (Calls.loadGlobal_builtin (by rw[I.ok.glob];exact I.mod.glob.keeps I.bk) hm (by rw[I.ok.blt];exact h1.keeps I.bk) ((h2 x hn).trans hv) h) hd
theorem EF (hg:Gl X x)(hm:X.mg x=some u)(r:AQ v u)(hd:(x==("__debug__" : Str))=false:=by decide):PE X (.Name x pos) (tC v):=
 fun _ _ _ H _ I h=>L4 I hg hm ⟨v,H,I,r,h⟩ hd
def dC (ta tb:TE)(k:Int->Int->Hp->Prop):St->Hp->Prop:=fun σ H=>ta σ H fun x H1=>tb σ H1 fun y H2=>∃i j,x=.int i/\y=.int j/\k i j H2
def PC (X:Cx)(op:CmpOp)(a b:Expr)(t:TE):Prop:=
 ∀pins s σ H Q,AB X pins σ H s->t σ H Q ->
  wpAny (model X.prog X.w) X.A (eval a X.env) (fun v s₁=>wpAny (model X.prog X.w) X.A (eval b X.env) (fun u s₂=>wpAny (model X.prog X.w) X.A (compareOp op v u) (EP X pins σ Q) X.xe s₂) X.xe s₁) X.xe s
theorem Yc (b)(h:op ≠ .In)(h2:op ≠ .NotIn):behindInMarks op b=false:=by
 have e1:(op==CmpOp.In)=false:=by cases op <;> first | rfl | exact absurd rfl h
 have e2:(op==CmpOp.NotIn)=false:=by cases op <;> first | rfl | exact absurd rfl h2
 cases b <;> simp[behindInMarks,e1,e2]
def PQ (p:Int->Int->Bool)(ta tb:TE):TE:=fun σ H Q=>dC ta tb (fun i j H2=>Q (.bl (p i j)) H2) σ H
abbrev Sq:TE->TE->TE:=PQ fun i j=>!decide (i=j)
theorem LX (ha:PE X a ta)(hb:PE X b tb)
 (rule:∀i j t u Q s,Q (.bool (p i j)) s->wpAny (model X.prog X.w) X.A (compareOp op (.int i t) (.int j u)) Q X.xe s):PC X op a b (PQ p ta tb):=by
 intro pins s σ H Q I h;refine dH ha hb I h fun v u s2 x y H2 I2 rx ry q=>?_;obtain⟨i,j,rfl,rfl,q⟩:=q;obtain⟨t,rfl⟩:=rx;obtain⟨t',rfl⟩:=ry;exact rule i j t t' _ s2 ⟨.bl _,H2,I2,rfl,q⟩
theorem KA (ha:PE X a ta)(hb:PE X b tb):PC X .NotEq a b (Sq ta tb):=LX ha hb fun _ _ _ _ _ _ h=>ne_int (by rw[bne,Bool.beq_eq_decide_eq];exact h)
def tB (t:TE):TT:=fun σ H Q=>t σ H fun x H1=>∃c,x=.bl c/\Q c H1
theorem JT (h:PC X op a b t)(h1:behindInMarks op b=false:=by first | exact Yc _ (by decide) (by decide) | rfl):PT X (.Compare a [op] [b] pos) (tB t):=by intro pins s σ H Q I hw;refine wpAny_isTrue_Compare1 (AI (h pins s σ H _ I hw) fun v s1 h1=>AI h1 fun u s2 h2=>AI h2 fun c s3 ⟨x,H1,I1,r1,q1⟩=>?_) h1;obtain⟨d,rfl,q⟩:=q1;cases r1;exact Gh ⟨H1,I1,q⟩
theorem BL (h:PE X e t)(he:∀whole,isTrue e X.env whole=(do let v <-whole;standAt e.pos;holding [v] (truthy v)):=by intro _;rfl):PT X e (tB t):=by intro pins s σ H Q I hw;refine isTrue_plain (AI (h pins s σ H _ I hw) fun v s1 ⟨x,H1,I1,r1,q1⟩=>?_) (he _);obtain⟨d,rfl,q⟩:=q1;cases r1;exact Gh ⟨H1,I1,q⟩
def UE (t u:TT):TT:=fun σ H Q=>t σ H fun c H1=>if c=true then u σ H1 Q else Q false H1
def cq (t u:TT):TT:=fun σ H Q=>t σ H fun c H1=>if c=true then Q true H1 else u σ H1 Q
def UC (t:TT):TT:=fun σ H Q=>t σ H fun c H1=>Q (!c) H1
theorem Lx (ha:PT X a tA):PW X (.BoolOp .And [a] pos) tA:=by
 intro wh pins s σ H Q I h;refine isTrue_and (AI (ha pins s σ H Q I h) fun c s1 e=>?_);cases c with
 | true=>exact isTrue_and_nil e
 | false=>exact e
theorem D4 (ha:PT X a tA):PW X (.BoolOp .Or [a] pos) tA:=by
 intro wh pins s σ H Q I h;refine isTrue_or (AI (ha pins s σ H Q I h) fun c s1 e=>?_);cases c with
 | false=>exact isTrue_or_nil e
 | true=>exact e
theorem HG (ha:PT X a tA)(hb:PW X (.BoolOp .And (b::rest) pos) tB'):PW X (.BoolOp .And (a::b::rest) pos) (UE tA tB'):=by
 intro wh pins s σ H Q I h;refine isTrue_and (AI (ha pins s σ H _ I h) fun c s1 ⟨H1,I1,q1⟩=>?_);cases c with
 | true=>exact hb wh pins s1 σ H1 Q I1 q1
 | false=>exact⟨H1,I1,q1⟩
theorem Dy (ha:PT X a tA)(hb:PW X (.BoolOp .Or (b::rest) pos) tB'):PW X (.BoolOp .Or (a::b::rest) pos) (cq tA tB'):=by
 intro wh pins s σ H Q I h;refine isTrue_or (AI (ha pins s σ H _ I h) fun c s1 ⟨H1,I1,q1⟩=>?_);cases c with
 | true=>exact⟨H1,I1,q1⟩
 | false=>exact hb wh pins s1 σ H1 Q I1 q1
theorem B7 (ha:PT X a tA):PT X (.UnaryOp .Not a pos) (UC tA):=by intro pins s σ H Q I h;exact isTrue_not (ha pins s σ H (fun c H1=>Q (!c) H1) I h)
def Od (ta tb:TE):TE:=fun σ H Q=>ta σ H fun x H1=>∃c,x=.bl c/\if c=true then tb σ H1 Q else Q (.bl false) H1
def TL (ta tb:TE):TE:=fun σ H Q=>ta σ H fun x H1=>∃c,x=.bl c/\if c=true then Q (.bl true) H1 else tb σ H1 Q
def On (ta:TE):TE:=fun σ H Q=>ta σ H fun x H1=>∃c,x=.bl c/\Q (.bl (!c)) H1
theorem CM {op} (h:PE X a t):PE X (.BoolOp op [a] pos) t:=fun pins s σ H Q I hw=>BoolOp_one (h pins s σ H Q I hw)
theorem Bs (ha:PE X a ta)(hb:PE X (.BoolOp .And (b::rest) pos) tb):PE X (.BoolOp .And (a::b::rest) pos) (Od ta tb):=by
 intro pins s σ H Q I h;refine BoolOp_and (AI (ha pins s σ H _ I h) fun v s1 ⟨x,H1,I1,r1,q1⟩=>?_);obtain⟨c,rfl,q1⟩:=q1;cases r1;refine Gh ?_;cases c with
 | true=>exact hb pins s1 σ H1 Q I1 q1
 | false=>exact⟨.bl false,H1,I1,rfl,q1⟩
theorem IS (ha:PE X a ta)(hb:PE X (.BoolOp .Or (b::rest) pos) tb):PE X (.BoolOp .Or (a::b::rest) pos) (TL ta tb):=by
 intro pins s σ H Q I h;refine BoolOp_or (AI (ha pins s σ H _ I h) fun v s1 ⟨x,H1,I1,r1,q1⟩=>?_);obtain⟨c,rfl,q1⟩:=q1;cases r1;refine Gh ?_;cases c with
 | false=>exact hb pins s1 σ H1 Q I1 q1
 | true=>exact⟨.bl true,H1,I1,rfl,q1⟩
theorem Vt (ha:PE X a ta):PE X (.UnaryOp .Not a pos) (On ta):=by intro pins s σ H Q I h;refine UnaryOp_ (AI (ha pins s σ H _ I h) fun v s1 ⟨x,H1,I1,r1,q1⟩=>?_);obtain⟨c,rfl,q1⟩:=q1;cases r1;exact not_of (Gh ⟨.bl (!c),H1,I1,rfl,q1⟩)
def cz (t:TT)(ta tb:TE):TE:=fun σ H Q=>t σ H fun c H1=>if c=true then ta σ H1 Q else tb σ H1 Q
theorem Lq (hc:PT X c tA)(ha:PE X a ta)(hb:PE X b tb):PE X (.IfExp c a b pos) (cz tA ta tb):=by
 intro pins s σ H Q I h;refine wpAny_IfExp (AI (hc pins s σ H _ I h) fun d s1 ⟨H1,I1,q1⟩=>?_);cases d with
 | true=>exact ha pins s1 σ H1 Q I1 q1
 | false=>exact hb pins s1 σ H1 Q I1 q1
def AE (K:AJ)(H:Hp)(a:Addr)(xs:List V):Prop:=
 Rd H a (.lst xs) \/
  ∃o its n,K.lookup a=some o/\o.cls=.type "list"/\o.dict=none/\o.data=.seq its n/\its.size<=sizeLine/\AK xs its.toList
def AC (K:AJ)(H:Hp)(a:Addr)(xs:List V):Prop:=
 Rd H a (.tup xs) \/
  ∃o its n,K.lookup a=some o/\o.cls=.type "tuple"/\o.data=.seq its n/\its.size<=sizeLine/\AK xs its.toList
noncomputable def Tg:Value->Option V
 | .none=>some .non
 | .bool b=>some (.bl b)
 | .int i _=>some (.int i)
 | .str x _=>some (.str x)
 | .bytes b _=>some (.byt b)
 | .float b _=>some (.flt b)
 | .ref a=>some (.ref a)
 | .type n=>some (.ty n)
 | _=>none
theorem AQ.abs (r:AQ x u):Tg u=some x:=by
 cases x with
 | non=>cases r;rfl
 | bl _=>cases r;rfl
 | int _=>obtain⟨t,rfl⟩:=r;rfl
 | str _=>obtain⟨t,rfl⟩:=r;rfl
 | byt _=>obtain⟨t,rfl⟩:=r;rfl
 | flt _=>obtain⟨t,rfl⟩:=r;rfl
 | ref _=>cases r;rfl
 | ty _=>cases r;rfl
theorem AQ.inj (r:AQ x u)(q:AQ y u):x=y:=zY (r.abs.symm.trans q.abs)
theorem AK.inj:∀{xs ys:List V}{us:List Value},AK xs us->AK ys us->xs=ys
 | _,_,_,.nil,.nil=>rfl
 | _,_,_,.cons r t,.cons r' t'=>by rw[r.inj r',AK.inj t t']
theorem AE.of {K:AJ}(h:H a=some (.lst xs)):AE K H a xs:=.inl (.inl h)
theorem AC.of {K:AJ}(h:H a=some (.tup xs)):AC K H a xs:=.inl (.inl h)
theorem AB.list (I:AB X pins σ H s)(h:AE X.K H a xs):∃its:List Value,AK xs its/\PlainL s.heap a its.toArray/\xs.length<=sizeLine:=by
 rcases h with h | ⟨o,its,n,hk,hc,hd,hs,hz,r⟩
 . obtain⟨z,its,n,r,e⟩:=h.ok I.hok;exact⟨its,r,⟨_,n,e,rfl,rfl,rfl⟩,z⟩
 . refine⟨its.toList,r,⟨o,n,I.kIn a o hk,hc,hd,by simpa using hs⟩,?_⟩;have e:=r.length;simp only[Array.length_toList] at e
   lia
theorem AB.tuple (I:AB X pins σ H s)(h:AC X.K H a xs):∃its:List Value,AK xs its/\IsTup s.heap a its.toArray/\xs.length<=sizeLine:=by
 rcases h with h | ⟨o,its,n,hk,hc,hs,hz,r⟩
 . obtain⟨⟨z,_⟩,its,r,p⟩:=h.ok I.hok;exact⟨its,r,p,z⟩
 . refine⟨its.toList,r,⟨o,I.kIn a o hk,hc,n,by simpa using hs⟩,?_⟩;have e:=r.length;simp only[Array.length_toList] at e
   lia
theorem AB.list_inj (I:AB X pins σ H s)(h:AE X.K H a xs)(h':AE X.K H a ys):xs=ys:=by
 obtain⟨its,r,⟨o,n,e,_,_,d⟩,_⟩:=I.list h;obtain⟨its',r',⟨o',n',e',_,_,d'⟩,_⟩:=I.list h';rw[e] at e';cases e';rw[d] at d';injection d' with d1 _;have:its=its':=by simpa using congrArg Array.toList d1
 subst this;exact r.inj r'
theorem AB.tuple_inj (I:AB X pins σ H s)(h:AC X.K H a xs)(h':AC X.K H a ys):xs=ys:=by
 obtain⟨its,r,⟨o,e,_,n,d⟩,_⟩:=I.tuple h;obtain⟨its',r',⟨o',e',_,n',d'⟩,_⟩:=I.tuple h';rw[e] at e';cases e';rw[d] at d';injection d' with d1 _;have:its=its':=by simpa using congrArg Array.toList d1
 subst this;exact r.inj r'
noncomputable abbrev Cx.wish (X:Cx)(E:Bw):Cx:={ X with xe:=E }
noncomputable abbrev Cx.nox (X:Cx):Cx:=X.wish fun _ _=>False
theorem Cx.Ok.wish {X:Cx}(ok:X.Ok)(E):(X.wish E).Ok:=
 ⟨ok.mod,ok.kind,ok.glob,ok.blt,ok.above,ok.inj,ok.has,ok.cab,ok.hd,ok.frames,ok.stk,ok.exf,ok.bs,ok.bsz,ok.noex,ok.exfs,ok.funs,ok.frf⟩
theorem Cx.Ok.unwish {X:Cx}(ok:(X.wish E).Ok):X.Ok:=
 ⟨ok.mod,ok.kind,ok.glob,ok.blt,ok.above,ok.inj,ok.has,ok.cab,ok.hd,ok.frames,ok.stk,ok.exf,ok.bs,ok.bsz,ok.noex,ok.exfs,ok.funs,ok.frf⟩
theorem AB.wish (I:AB X pins σ H s)(E):AB (X.wish E) pins σ H s:=⟨I.ok.wish E,I.os,I.bare,I.base,I.loc,I.cell,I.free,I.freeC,I.pin,I.hok,I.len⟩
theorem AB.unwish (I:AB (X.wish E) pins σ H s):AB X pins σ H s:=⟨I.ok.unwish,I.os,I.bare,I.base,I.loc,I.cell,I.free,I.freeC,I.pin,I.hok,I.len⟩
theorem SP.unwish (h:SP (X.wish E) pins D f s'):SP X pins D f s':=by
 cases f with
 | next=>obtain⟨σ',H',I,q⟩:=h;exact⟨σ',H',I.unwish,q⟩
 | brk=>obtain⟨σ',H',I,q⟩:=h;exact⟨σ',H',I.unwish,q⟩
 | cont=>obtain⟨σ',H',I,q⟩:=h;exact⟨σ',H',I.unwish,q⟩
 | ret u=>obtain⟨v,σ',H',I,r,q⟩:=h;exact⟨v,σ',H',I.unwish,r,q⟩
theorem BU.nox {st:List Stmt}(h:BU X.nox st t):BU X st t:=fun pins s σ H D I hw=>
 A8 (h pins s σ H D (I.wish _) hw) (fun _ _ q=>q.unwish) fun _ _ z=>False.elim z
section
variable {X:Cx}{st:Stmt}{rest:List Stmt}{t u:TS}{e:Expr}{te:TE}{pos:Pos}
def OT:TS:=fun D σ H=>D.nx σ H
def NT (t u:TS):TS:=fun D σ H=>t { D with nx:=u D } σ H
theorem Ao:BU X [] OT:=fun _ _ σ H _ I h=>wpAny_execs_nil ⟨σ,H,I,h⟩
theorem za (h1:PS X st t)(h2:BU X rest u):BU X (st::rest) (NT t u):=by
 intro pins s σ H D I h;refine wpAny_execs_cons (AI (h1 pins s σ H { D with nx:=u D } I h) fun f s1 q=>?_);cases f with
 | next=>obtain⟨σ',H',I',q⟩:=q;exact h2 pins s1 σ' H' D I' q
 | ret v=>exact q
 | brk=>exact q
 | cont=>exact q
theorem ze (h1:PS X st t):BU X [st] t:=by
 intro pins s σ H D I h;refine wpAny_execs_cons (AI (h1 pins s σ H D I h) fun f s1 q=>?_);cases f with
 | next=>exact wpAny_execs_nil q
 | ret v=>exact q
 | brk=>exact q
 | cont=>exact q
theorem AB.quiet (I:AB X pins σ H s):interactive X.env=false:=by simp[interactive,I.ok.kind]
def O7 (te:TE):TS:=fun D σ H=>te σ H fun _ H1=>D.nx σ H1
theorem D7 (he:PE X e te)(hs:swapsWith e none pos.line X.env=pure false:=by rfl):PS X (.Expr e pos) (O7 te):=by intro pins s σ H D I h;exact wpAny_Expr_any (AI (he pins s σ H _ I h) fun v s1 ⟨x,H1,I1,r1,q1⟩=>⟨σ,H1,I1,q1⟩) I.quiet hs
def Nr (te:TE):TS:=fun D σ H=>te σ H D.rt
theorem AN (he:PE X e te):PS X (.Return (some e) pos) (Nr te):=by intro pins s σ H D I h;exact wpAny_Return_some (AI (he pins s σ H _ I h) fun v s1 ⟨x,H1,I1,r1,q1⟩=>⟨x,σ,H1,I1,r1,q1⟩)
def Ov (c:TT)(t u:TS):TS:=fun D σ H=>c σ H fun b H1=>if b=true then t D σ H1 else u D σ H1
theorem Aq (hc:PT X c tc)(ha:BU X a t)(hb:BU X b u):PS X (.If c a b pos) (Ov tc t u):=by
 intro pins s σ H D I h;refine wpAny_If (AI (hc pins s σ H _ I h) fun d s1 ⟨H1,I1,q1⟩=>?_);cases d with
 | true=>exact ha pins s1 σ H1 D I1 q1
 | false=>exact hb pins s1 σ H1 D I1 q1
end
abbrev TG:=V->St->Hp->(St->Hp->Prop)->Prop
abbrev Os:=List V->St->Hp->(St->Hp->Prop)->Prop
def PG (X:Cx)(target:Expr)(t:TG):Prop:=
 ∀pins s σ H v u Q,AB X pins σ H s->AQ v u->t v σ H Q ->
  wpAny (model X.prog X.w) X.A (assign target X.env u) (fun _ s'=>∃ σ' H',AB X pins σ' H' s'/\Q σ' H') X.xe s
def Ng (X:Cx)(ts:List Expr)(t:Os):Prop:=
 ∀pins s σ H vs us Q,AB X pins σ H s->AK vs us->t vs σ H Q ->
  wpAny (model X.prog X.w) X.A (assignInOrder ((assignEach ts X.env).map (·.2)) us) (fun _ s'=>∃ σ' H',AB X pins σ' H' s'/\Q σ' H') X.xe s
abbrev OK:=V->V->V->Hp->(Hp->Prop)->Prop
def NX (X:Cx)(t:OK):Prop:=
 ∀pins s σ H o i v ov iv u Q,AB X pins σ H s->AQ o ov->AQ i iv->AQ v u->t o i v H Q ->
  wpAny (model X.prog X.w) X.A (setItem ov iv u) (fun _ s'=>∃H',AB X pins σ H' s'/\Q H') X.xe s
def HE (i:Nat):TG:=fun v σ H Q=>Q (σ.set i (some v)) H
theorem B5 (hN:X.N.Nodup)(hi:X.N[i]?=some x)(hx:Loc X.env.scope x)(hf:X.fn x=true\/X.env.scope.names.lookup x=some .local:=by first | exact .inl rfl | exact .inr rfl | assumption):PG X (.Name x pos) (HE i):=by intro pins s σ H v u Q I r h;exact wpAny_assign_Name (JX I hN hi hx r (fun s' I'=>⟨_,H,I',h⟩) hf)
def Sn:Os:=fun vs σ H Q=>vs=[]/\Q σ H
def Nz (t:TG)(u:Os):Os:=fun vs σ H Q=>∃v r,vs=v::r/\t v σ H fun σ' H'=>u r σ' H' Q
theorem Ci:Ng X [] Sn:=by intro pins s σ H vs us Q I r h;obtain⟨e,h⟩:=h;subst e;cases r;exact assignInOrder_nil ⟨σ,H,I,h⟩
theorem Ai (h1:PG X e t)(h2:Ng X es u)
 (hs:(assignEach (e::es) X.env).map (·.2)=assign e X.env::(assignEach es X.env).map (·.2):=by rfl):Ng X (e::es) (Nz t u):=by
 intro pins s σ H vs us Q I r h;obtain⟨v,vr,e1,h⟩:=h;subst e1;cases r with
 | cons r rr=>rw[hs];refine assignInOrder_cons (AI (h1 pins s σ H _ _ _ I r h) fun _ s1 ⟨σ1,H1,I1,q1⟩=>?_);exact h2 pins s1 σ1 H1 _ _ Q I1 rr q1
def OX (K:AJ)(n:Nat)(t:Os):TG:=fun v σ H Q=>∃a xs,v=.ref a/\AC K H a xs/\xs.length=n/\t xs σ H Q
theorem C6 (hc:X.calm=true)(h:Ng X es t)
 (hn:(assignEach es X.env).length=n:=by rfl)(gY:(assignEach es X.env).findIdx? (·.1)=none:=by rfl):PG X (.Tuple es k pos) (OX X.K n t):=by
 intro pins s σ H v u Q I r hw;obtain⟨a,xs,e1,hq,hl,hw⟩:=hw;subst e1;cases r;obtain⟨its,rv,ht,hz⟩:=I.tuple hq;refine assign_Tuple_tuple (I.ok.hd hc) ht (by simp[hn,<-hl,rv.length]) gY fun h' hx=>?_;have I1:AB X pins σ H { s with heap:=h' }:=I.kept (t':=s.toks) fun b o e=>hx b o (zc (zU e)) e;exact h pins _ σ H xs _ Q I1 (by simpa using rv) hw
def Tb (to ti:TE)(t:OK):TG:=fun v σ H Q=>to σ H fun o H1=>ti σ H1 fun i H2=>t o i v H2 fun H3=>Q σ H3
theorem L5 (ho:PE X o to)(hi:PE X i ti)(hs:NX X t)
 (ha:∀v,assign (.Subscript o i pos) X.env v=(do
  let ov <-holding [v] (eval o X.env);let iv <-holding [v,ov] (eval i X.env)
  standAt pos
  holding [v,ov,iv] (setItem ov iv v)
  release [v,ov,iv] []):=by intro _;rfl):PG X (.Subscript o i pos) (Tb to ti t):=by
 intro pins s σ H v u Q I r h;rw[ha];refine zA (zu (AI (ho pins s σ H _ I h) fun ov s1 ⟨x,H1,I1,r1,q1⟩=>?_));refine zA (zu (AI (hi pins s1 σ H1 _ I1 q1) fun iv s2 ⟨y,H2,I2,r2,q2⟩=>?_));refine zA (wpAny_standAt (zA (zu (AI (hs pins s2 σ H2 x y v ov iv u _ I2 r1 r2 r q2) fun _ s3 ⟨H3,I3,q3⟩=>?_))));exact wpAny_release ⟨σ,H3,I3,q3⟩
def Di (te:TE)(g:TG):TS:=fun D σ H=>te σ H fun x H1=>g x σ H1 D.nx
theorem JU (he:PE X e te)(hg:PG X tg g)(hs:swapsWithSole [tg] e pos.line X.env=pure false:=by rfl)(hw:swappedStores [tg] e X.env=pure none:=by rfl)
 (h1:(assignEach [tg] X.env).map (·.2)=[assign tg X.env]:=by rfl):PS X (.Assign [tg] e pos) (Di te g):=by
 intro pins s σ H D I h;refine wpAny_Assign_stores (AI (he pins s σ H _ I h) fun v s1 ⟨x,H1,I1,r1,q1⟩=>?_) hs hw;rw[h1];exact AI (hg pins s1 σ H1 x v _ I1 r1 q1) fun _ s2 q=>q
theorem HN (hN:X.N.Nodup)(hi:X.N[i]?=some x)(hx:Loc X.env.scope x)(he:PE X e te)(hs:swapsWith e (some (.Name x pos')) pos.line X.env=pure false:=by rfl)(hf:X.fn x=true\/X.env.scope.names.lookup x=some .local:=by first | exact .inl rfl | exact .inr rfl | assumption):
 PS X (.Assign [.Name x pos'] e pos) (Di te (HE i)):=by
 intro pins s σ H D I h;refine wpAny_Assign_Name (AI (he pins s σ H _ I h) fun v s1 ⟨y,H1,I1,r1,q1⟩=>?_) hs;exact JX I1 hN hi hx r1 (fun s2 I2=>⟨_,H1,I2,q1⟩) hf
structure It where
 go:Nat->Hp->Prop
 yld:Nat->Hp->V->Hp->Prop
 stop:Nat->Hp->Prop
def BB (X:Cx)(pins:Bm)(H:Hp)(b:Addr):Prop:=
 H b=none/\b≠X.env.locals/\b∉X.fs/\(b∈X.ex\/X.s₀.heap.objs.size<=b)/\(∀x c,X.env.cells.lookup x=some c->c≠b)/\∀p∈X.pn++pins,p.1≠b
theorem AB.fpOk (I:AB X pins σ H s)(hb:s.heap.objs.size<=b)(hn:H' b=none):BB X pins H' b:=by
 refine⟨hn,Nat.ne_of_gt (zm I.lt hb),I.nofs hb,.inr (zp I.sz hb),fun x c e z=>?_,fun p hp z=>?_⟩
 . obtain⟨v,q⟩:=I.cell x c e;exact absurd (zm q.lt (by rw[z];exact hb)) (D9 _)
 . exact absurd (zm (zU (I.pin p hp).1) (by rw[z];exact hb)) (D9 _)
structure Ep (P:Program)(w:World)(K:AJ)(tg:Expr)(J:It)(fp:List Addr)(it:Addr)(tn:Nat->Heap->Prop):Prop where
 mem:it∈fp
 obj:∀i h,tn i h->∀b∈fp,∃o,h.get? b=some o/\∀v,o.data ≠ .cell v
 keep:∀i h h',tn i h->(∀b∈fp,∀o,h.get? b=some o->h'.get? b=some o)->tn i h'
 item:∀(X:Cx),X.prog=P->X.w=w->X.K=K->X.calm=true->∀(i:Nat)(pins:Bm)(s:Shared)(σ:St)(H:Hp)(E:Bw),AB X pins σ H s->(∀b∈fp,BB X pins H b)->tn i s.heap->J.go i H ->
  wpAny (model P w) X.A (pyNext (.ref it)) (fun r s1=>∃u,r=some u /\
   wpAny (model P w) X.A (letOwnedTupleGo tg (.ref it) u) (fun _ s2=>∃x H',AB X pins σ H' s2/\AQ x u/\J.yld i H x H'/\tn (i+1) s2.heap/\∀b∈fp,H' b=none) E s1) E s
 done:∀(X:Cx),X.prog=P->X.w=w->X.K=K->X.calm=true->∀(i:Nat)(pins:Bm)(s:Shared)(σ:St)(H:Hp)(E:Bw),AB X pins σ H s->(∀b∈fp,BB X pins H b)->tn i s.heap->J.stop i H ->
  wpAny (model P w) X.A (pyNext (.ref it)) (fun r s1=>r=none/\AB X pins σ H s1) E s
 self:∀(A:Around)(i:Nat)(s:Shared)(Q:Bw)(E:Bw),tn i s.heap->Q (.ref it) s->wpAny (model P w) A (pyIter (.ref it)) Q E s
abbrev TI:=St->Hp->(It->Hp->Prop)->Prop
def Xu (X:Cx)(pins:Bm)(σ:St)(tg:Expr)(R:It->Hp->Prop)(itv:Value)(s2:Shared):Prop:=
 ∃it fp tn J H',itv=.ref it/\AB X pins σ H' s2/\Ep X.prog X.w X.K tg J fp it tn/\tn 0 s2.heap/\(∀b∈fp,BB X pins H' b)/\R J H'
def PI (X:Cx)(tg iter:Expr)(wi:TI):Prop:=
 ∀pins s σ H R,AB X pins σ H s->wi σ H R ->
  wpAny (model X.prog X.w) X.A (eval iter X.env) (fun v s1=>wpAny (model X.prog X.w) X.A (pyIter v) (Xu X pins σ tg R) X.xe s1) X.xe s
theorem RD (ho:s.heap.get? it=some o)(hc:o.cls=.type n)(hd:o.data=.fields vs)
 (hn:["enumerate", "zip", "dict_itemiterator", "dict_reverseitemiterator", "odict_iterator", "itertools.zip_longest", "itertools.pairwise"].contains n=false) (hQ:Q () s):wpAny M A (letOwnedTupleGo tg (.ref it) u) Q E s:=by
 unfold letOwnedTupleGo;cases tg <;> first
  | exact zC hQ
  | (cases u <;> first
   | exact zC hQ
   | (refine zA (wpAny_load ho ?_)
      rw[hc,hd];show wpAny M A (if (["enumerate", "zip", "dict_itemiterator", "dict_reverseitemiterator", "odict_iterator", "itertools.zip_longest", "itertools.pairwise"].contains n && vs[0]? == some (rawInt _))=true then _ else _) Q E s
      rw[if_neg (by intro h;rw[hn,Bt] at h;cases h)];exact zC hQ))
noncomputable def Ma (K:AJ)(a:Addr):It:=
 ⟨fun i H=>∃xs x,AE K H a xs/\xs[i]?=some x,fun i H x H'=>H'=H/\∀xs,AE K H a xs->xs[i]?=some x,fun i H=>∃xs,AE K H a xs/\xs.length<=i⟩
noncomputable def MS (K:AJ)(a:Addr):It:=
 ⟨fun i H=>∃xs x,AC K H a xs/\xs[i]?=some x,fun i H x H'=>H'=H/\∀xs,AC K H a xs->xs[i]?=some x,fun i H=>∃xs,AC K H a xs/\xs.length<=i⟩
noncomputable def II (lo:Int)(n:Nat):It:=⟨fun i _=>i<n,fun i H x H'=>H'=H/\x=.int (lo+i),fun i _=>n<=i⟩
theorem Xx {P:Program}{w:World}{K:AJ}{tg:Expr}(a it:Addr):Ep P w K tg (Ma K a) [it] it (fun i h=>h.IsListIter it a i) where
 mem:=by simp
 obj:=fun i h st b hb=>by
  have e:b=it:=by simpa using hb
  subst e;obtain⟨o,e,c,d⟩:=st;exact⟨o,e,fun v z=>by rw[d] at z;cases z⟩
 keep:=fun i h h' st k=>st.at fun o e=>k it (by simp) o e
 item:=by intro X hP hw hK hc i pins s σ H E I hf st hg;subst hP hw hK;obtain⟨xs,x,hq,hx⟩:=hg;obtain⟨its,rv,p,hz⟩:=I.list hq;obtain⟨u,hu,ru⟩:=rv.get hx;obtain⟨f0,f1,f2,f3,f4,f5⟩:=hf it (by simp);refine wpAny_pyNext_list_item st p.isList (x:=u) (by simpa using hu) fun h' fM sb=>?_;have I1:AB X pins σ H { s with heap:=h' }:=I.turned (t':=s.toks) (fun b o hb e=>(sb.2 b hb).trans e) f0 f1 f3 f4 f5;obtain⟨o,e,c,d⟩:=id fM;exact⟨u,rfl,RD (s:={ s with heap:=h' }) e c d (by decide) ⟨x,H,I1,ru,⟨rfl,fun ys hy=>by rw[I.list_inj hy hq];exact hx⟩,fM,fun b hb=>(hf b hb).1⟩⟩
 done:=by intro X hP hw hK hc i pins s σ H E I hf st hg;subst hP hw hK;obtain⟨xs,hq,hx⟩:=hg;obtain⟨its,rv,p,hz⟩:=I.list hq;obtain⟨f0,f1,f2,f3,f4,f5⟩:=hf it (by simp);have hl:=rv.length;exact wpAny_pyNext_list_end (I.ok.hd hc) st p.isList (by simp;lia) fun h' eb=>⟨rfl,I.turned (t':=s.toks) (fun b o hb e=>eb b o hb e) f0 f1 f3 f4 f5⟩
 self:=fun _ _ _ _ _ st h=>wpAny_pyIter_listiter st h
theorem aN {P:Program}{w:World}{K:AJ}{tg:Expr}(a it:Addr):Ep P w K tg (MS K a) [it] it (fun i h=>h.IsTupleIter it a i) where
 mem:=by simp
 obj:=fun i h st b hb=>by
  have e:b=it:=by simpa using hb
  subst e;obtain⟨o,e,c,d⟩:=st;exact⟨o,e,fun v z=>by rw[d] at z;cases z⟩
 keep:=fun i h h' st k=>st.at fun o e=>k it (by simp) o e
 item:=by intro X hP hw hK hc i pins s σ H E I hf st hg;subst hP hw hK;obtain⟨xs,x,hq,hx⟩:=hg;obtain⟨its,rv,p,hz⟩:=I.tuple hq;obtain⟨u,hu,ru⟩:=rv.get hx;obtain⟨f0,f1,f2,f3,f4,f5⟩:=hf it (by simp);refine wpAny_pyNext_tuple_item st (show s.heap.IsTuple a its.toArray from p) (x:=u) (by simpa using hu) fun h' fM sb=>?_;have I1:AB X pins σ H { s with heap:=h' }:=I.turned (t':=s.toks) (fun b o hb e=>(sb.2 b hb).trans e) f0 f1 f3 f4 f5;obtain⟨o,e,c,d⟩:=id fM;exact⟨u,rfl,RD (s:={ s with heap:=h' }) e c d (by decide) ⟨x,H,I1,ru,⟨rfl,fun ys hy=>by rw[I.tuple_inj hy hq];exact hx⟩,fM,fun b hb=>(hf b hb).1⟩⟩
 done:=by intro X hP hw hK hc i pins s σ H E I hf st hg;subst hP hw hK;obtain⟨xs,hq,hx⟩:=hg;obtain⟨its,rv,p,hz⟩:=I.tuple hq;obtain⟨f0,f1,f2,f3,f4,f5⟩:=hf it (by simp);have hl:=rv.length;exact wpAny_pyNext_tuple_end (I.ok.hd hc) st (show s.heap.IsTuple a its.toArray from p) (by simp;lia) fun h' eb=>⟨rfl,I.turned (t':=s.toks) (fun b o hb e=>eb b o hb e) f0 f1 f3 f4 f5⟩
 self:=fun _ _ _ _ _ st h=>wpAny_pyIter_tupleiter st h
theorem cb {P:Program}{w:World}{K:AJ}{tg:Expr}(it:Addr)(lo:Int)(n:Nat):Ep P w K tg (II lo n) [it] it (fun i h=>IsRangeIter h it (lo+(i:Nat)*1) ((n:Int)-(i:Nat)) 1) where
 mem:=by simp
 obj:=fun i h st b hb=>by
  have e:b=it:=by simpa using hb
  subst e;exact⟨_,st,fun v z=>by have z':Data.fields _=Data.cell v:=z;cases z'⟩
 keep:=fun i h h' st k=>k it (by simp) _ st
 item:=by intro X hP hw hK hc i pins s σ H E I hf st hg;subst hP hw hK;obtain⟨f0,f1,f2,f3,f4,f5⟩:=hf it (by simp);have W:=Walks.range (prog:=X.prog) (w:=X.w) (I.ok.hd hc) it lo 1 n;refine W.item i s _ _ hg st fun v h' tk hv fM kk=>?_;obtain⟨t,rfl⟩:=hv;have I1:AB X pins σ H { s with heap:=h',toks:=tk }:=I.turned (fun b o hb e=>kk b o (by simpa using hb) e) f0 f1 f3 f4 f5;refine⟨_,rfl,RD (s:={ s with heap:=h',toks:=tk }) (n := "range_iterator") fM rfl rfl (by decide) ⟨.int (lo+i),H,I1,⟨t,?_⟩,⟨rfl,rfl⟩,fM,fun b hb=>(hf b hb).1⟩⟩;rw[Int.mul_one]
 done:=by intro X hP hw hK hc i pins s σ H E I hf st hg;subst hP hw hK;obtain⟨f0,f1,f2,f3,f4,f5⟩:=hf it (by simp);exact wpAny_pyNext_range_end (I.ok.hd hc) st (by have:n<=i:=hg;lia) fun h' eb=>⟨rfl,I.turned (t':=s.toks) (fun b o hb e=>eb b o hb e) f0 f1 f3 f4 f5⟩
 self:=fun _ _ _ _ _ st h=>wpAny_pyIter_rangeiter st h
inductive U3 (K:AJ)(R:It->Hp->Prop)(x:V)(H1:Hp):Prop
 | mk:∀a,(x=.ref a)->((∃xs,AE K H1 a xs))->(R (Ma K a) H1)->U3 K R x H1
def OF (K:AJ)(tl:TE):TI:=fun σ H R=>tl σ H fun x H1=>U3 K R x H1
inductive VX (K:AJ)(R:It->Hp->Prop)(x:V)(H1:Hp):Prop
 | mk:∀a,(x=.ref a)->((∃xs,AC K H1 a xs))->(R (MS K a) H1)->VX K R x H1
def Kt (K:AJ)(tl:TE):TI:=fun σ H R=>tl σ H fun x H1=>VX K R x H1
theorem F3 (hl:PE X l tl):PI X tg l (OF X.K tl):=by
 intro pins s σ H R I h;refine AI (hl pins s σ H _ I h) fun v s1 ⟨x,H1,I1,r1,q1⟩=>?_;obtain⟨a,e,⟨xs,hq⟩,q⟩:=q1;subst e;cases r1;obtain⟨its,rv,p,hz⟩:=I1.list hq;refine wpAny_pyIter_list p.isList ?_;refine⟨s1.heap.objs.size,[s1.heap.objs.size],_,_,H1,rfl,I1.kept (t':=s1.toks) fun b o e=>zG _ e,Xx a _,⟨_,zN _ rfl,rfl,rfl⟩,fun b hb=>?_,q⟩;have e:b=s1.heap.objs.size:=by simpa using hb
 subst e;exact I1.fpOk (zJ _) (I1.hok.fresh (zJ _))
theorem BH (hl:PE X l tl):PI X tg l (Kt X.K tl):=by
 intro pins s σ H R I h;refine AI (hl pins s σ H _ I h) fun v s1 ⟨x,H1,I1,r1,q1⟩=>?_;obtain⟨a,e,⟨xs,hq⟩,q⟩:=q1;subst e;cases r1;obtain⟨its,rv,p,hz⟩:=I1.tuple hq;refine wpAny_pyIter_tuple (show s1.heap.IsTuple a its.toArray from p) ?_;refine⟨s1.heap.objs.size,[s1.heap.objs.size],_,_,H1,rfl,I1.kept (t':=s1.toks) fun b o e=>zG _ e,aN a _,⟨_,zN _ rfl,rfl,rfl⟩,fun b hb=>?_,q⟩;have e:b=s1.heap.objs.size:=by simpa using hb
 subst e;exact I1.fpOk (zJ _) (I1.hok.fresh (zJ _))
theorem U9 {lo:Int}(I:AB X pins σ H s)(h1 : -(2 ^ 62)<=lo)(h2:lo<2 ^ 62)(h3 : -(2 ^ 62)<=hi)(h4:hi<2 ^ 62)
 (q:R (II lo (hi-lo).toNat) H):wpAny (model X.prog X.w) X.A (pyIter (.ref s.heap.objs.size)) (Xu X pins σ tg R) E { s with heap:=s.heap.push { cls:=.type "range",data:=.fields #[.int lo t,.int hi u,.int 1 v] },toks:=tk }:=by
 refine wpAny_pyIter_range (IsRange.new ..) (small_one h1 h2 h3 h4) ?_;have I1:AB X pins σ H { s with heap:=s.heap.push { cls:=.type "range",data:=.fields #[.int lo t,.int hi u,.int 1 v] },toks:=tk }:=I.kept fun b o e=>zG _ e;refine⟨(s.heap.push { cls:=.type "range",data:=.fields #[.int lo t,.int hi u,.int 1 v] }).objs.size,[(s.heap.push { cls:=.type "range",data:=.fields #[.int lo t,.int hi u,.int 1 v] }).objs.size],_,_,H,rfl,
  I1.kept (t':=tk) fun b o e=>zG _ e,cb _ lo (hi-lo).toNat,?_,fun b hb=>?_,q⟩
 . have e1:lo+((0:Nat):Int)*1=lo:=by simp
   have e2:(((hi-lo).toNat:Nat):Int)-((0:Nat):Int)=Builtin.Range.rangeSize lo hi 1:=by rw[rangeSize_one];split <;> lia
   show IsRangeIter _ _ (lo+((0:Nat):Int)*1) ((((hi-lo).toNat:Nat):Int)-((0:Nat):Int)) 1;rw[e1,e2];exact zN _ rfl
 . have e:b=(s.heap.push { cls:=.type "range",data:=.fields #[.int lo t,.int hi u,.int 1 v] }).objs.size:=by simpa using hb
   subst e;exact I1.fpOk (zJ _) (I1.hok.fresh (zJ _))
inductive Uy (R:It->Hp->Prop)(vs:List V)(H1:Hp):Prop
 | mk:∀j:Int,(vs=[.int j])->(-(2 ^ 62)<=j)->(j<2 ^ 62)->(R (II 0 j.toNat) H1)->Uy R vs H1
def N3 (ta:TA):TI:=fun σ H R=>ta σ H fun vs H1=>Uy R vs H1
def OL (ta:TA):TI:=fun σ H R=>ta σ H fun vs H1=>∃i j:Int,vs=[.int i,.int j]/\(-(2 ^ 62)<=i/\i<2 ^ 62/\-(2 ^ 62)<=j/\j<2 ^ 62)/\R (II i (j-i).toNat) H1
theorem B8 (hg:Gl X "range") (hm:X.mg "range"=none) (ha:PA X [a] ta)(hs:starEach [a] X.env=[(false,eval a X.env)]:=by rfl):PI X tg (.Call (.Name "range" p) [a] [] pos) (N3 ta):=by
 intro pins s σ H R I h;refine Call_ (EJ I hg hm boot_range (PyProof.Rows.callWith_type1 (AI (ha pos pins s σ H _ I h) fun us s1 ⟨vs,H1,I1,r1,q1⟩=>?_) hs rfl));obtain⟨j,e,q1,q2,q⟩:=q1;subst e;cases r1 with
 | cons r rr=>cases rr;obtain⟨t,rfl⟩:=r;exact call_range_1 (U9 I1 (by lia) (by lia) q1 q2 (by simpa using q))
theorem Wd (hg:Gl X "range") (hm:X.mg "range"=none) (ha:PA X [a,b] ta)(hs:starEach [a,b] X.env=[(false,eval a X.env),(false,eval b X.env)]:=by rfl)(iH:starEach [b] X.env=[(false,eval b X.env)]:=by rfl):
 PI X tg (.Call (.Name "range" p) [a,b] [] pos) (OL ta):=by
 intro pins s σ H R I h;refine Call_ (EJ I hg hm boot_range (PyProof.Rows.callWith_type1 (AI (ha pos pins s σ H _ I h) fun us s1 ⟨vs,H1,I1,r1,q1⟩=>?_) (by rw[hs,iH]) (by rw[iH];rfl)));obtain⟨i,j,e,⟨q1,q2,q3,q4⟩,q⟩:=q1;subst e;cases r1 with
 | cons r rr=>
  cases rr with
  | cons r' rr=>cases rr;obtain⟨t,rfl⟩:=r;obtain⟨t',rfl⟩:=r';exact call_range_2 (U9 I1 q1 q2 q3 q4 q)
def LZ (wi:TI)(g:TG)(tb:TS):TS:=fun D σ H=>wi σ H fun J H1=>∃W:Nat->Nat->St->Hp->Prop,(∃m,W 0 m σ H1)/\∀i m σ H,W i m σ H ->
 (J.stop i H/\D.nx σ H)\/(J.go i H/\∃N:St->Hp->Prop,(∀ σ' H',N σ' H'->∃m',m'<m/\W (i+1) m' σ' H')/\∀x H',J.yld i H x H'->g x σ H' fun σ2 H2=>tb { D with nx:=N,ct:=N,bk:=D.nx } σ2 H2)
noncomputable def Le (fp:List Addr)(h:Heap):List (Addr×Obj):=fp.filterMap fun b=>(h.get? b).map fun o=>(b,o)
theorem Lo (hb:b∈fp)(e:h.get? b=some o):(b,o)∈Le fp h:=HR.mpr ⟨b,hb,by rw[e];rfl⟩
theorem cg (hp:p∈Le fp h):p.1∈fp/\h.get? p.1=some p.2:=by
 obtain⟨b,hb,e⟩:=HR.mp hp;cases q:h.get? b with
 | none=>rw[q] at e;cases e
 | some o=>rw[q] at e;have e':(b,o)=p:=zY e;subst e';exact⟨hb,q⟩
theorem AB.pinned (I:AB X pins σ H s)(hf:∀b∈fp,BB X pins H b)(ho:∀b∈fp,∃o,s.heap.get? b=some o/\∀v,o.data ≠ .cell v):AB X (pins++Le fp s.heap) σ H s:=
 I.pins_of fun p hp=>(zj.mp hp).elim (fun z=>I.pin p (zl _ z)) fun z=>by obtain⟨hb,e⟩:=cg z;obtain⟨f0,f1,f2,_⟩:=hf p.1 hb;obtain⟨o,e',d⟩:=ho p.1 hb;rw[e] at e';cases e';exact⟨e,f0,f1,f2,d⟩
theorem AB.unpinned (I:AB X (pins++pl) σ H s):AB X pins σ H s:=I.pins_of fun p hp=>I.pin p (zl _ (C8 _ hp))
theorem US (hp:PassesOwn (model X.prog X.w) X.A X.env X.xe)(hc:X.calm=true)(hi:PI X tg iter wi)(hg:PG X tg g)(hb:BU X body tb)
 (hs:∀x,foldedSetIterable iter X.env x=pure x:=by intro _;rfl):PS X (.For tg iter body [] pos) (LZ wi g tb):=by
 intro pins s σ H D I h;refine wpAny_For (AI (hi pins s σ H _ I h) fun v s1 h1=>AI h1 fun itv s2 h2=>?_) hs;obtain⟨it,fp,tn,J,H2,e,I2,T,st2,f2,W,⟨m0,w0⟩,turn⟩:=h2;subst e;have eZ:∀{H':Hp},(∀b∈fp,H' b=none)->∀b∈fp,BB X pins H' b:=fun hn b hb=>⟨hn b hb,(f2 b hb).2⟩;refine codeAny_forLoop_any (fun n s'=>∃i σ' H',AB X pins σ' H' s'/\tn i s'.heap/\(∀b∈fp,H' b=none)/\W i n σ' H') ?_ m0 ⟨0,σ,H2,I2,st2,fun b hb=>(f2 b hb).1,w0⟩;rintro n s3 ⟨i,σ3,H3,I3,st3,fr3,w3⟩;rcases turn i n σ3 H3 w3 with ⟨stop,qn⟩ | ⟨go,N,hN,step⟩
 . refine wpAny_passesOwn hp (AI (T.done X rfl rfl rfl hc i pins s3 σ3 H3 X.xe I3 (eZ fr3) st3 stop) fun r s4 ⟨hr,I4⟩=>?_);subst hr;exact wpAny_execs_nil ⟨σ3,H3,I4,qn⟩
 . refine wpAny_passesOwn hp (AI (T.item X rfl rfl rfl hc i pins s3 σ3 H3 X.xe I3 (eZ fr3) st3 go) fun r s4 ⟨u,hr,h4⟩=>?_);subst hr;refine wpAny_passesOwn hp (AI h4 fun _ s5 ⟨x,H5,I5,r5,y5,iQ,fr5⟩=>?_);have I5':=I5.pinned (eZ fr5) (T.obj _ _ iQ);refine wpAny_passesOwn hp (AI (hg _ s5 σ3 H5 x u _ I5' r5 (step x H5 y5)) fun _ s6 ⟨σ6,H6,I6,q6⟩=>?_);refine wpAny_passesOwn hp (AI (hb _ s6 σ6 H6 _ I6 q6) fun f s7 q7=>?_);have again:∀{σ7:St}{H7:Hp},AB X (pins++Le fp s5.heap) σ7 H7 s7->N σ7 H7->∃m,m<n/\∃i σ' H',AB X pins σ' H' s7/\tn i s7.heap/\(∀b∈fp,H' b=none)/\W i m σ' H':=fun {σ7 H7} I7 n7=>by obtain⟨m',hm,w7⟩:=hN σ7 H7 n7;refine⟨m',hm,i+1,σ7,H7,I7.unpinned,T.keep _ _ _ iQ fun b hb o e=>(I7.pin (b,o) (zl _ (zl _ (Lo hb e)))).1,fun b hb=>?_,w7⟩;obtain⟨o,e,d⟩:=T.obj _ _ iQ b hb;exact (I7.pin (b,o) (zl _ (zl _ (Lo hb e)))).2.1
   cases f with
   | next=>obtain⟨σ7,H7,I7,n7⟩:=q7;exact again I7 n7
   | cont=>obtain⟨σ7,H7,I7,n7⟩:=q7;exact again I7 n7
   | brk=>obtain⟨σ7,H7,I7,q7⟩:=q7;exact⟨σ7,H7,I7.unpinned,q7⟩
   | ret v=>obtain⟨x7,σ7,H7,I7,r7,q7⟩:=q7;exact⟨x7,σ7,H7,I7.unpinned,r7,q7⟩
theorem HM {K:AJ}{g:TG}{tb:TS}{D:Gc}(Pv:Nat->St->Hp->Prop)(h0:Pv 0 σ H)(hl:∀i σ H,i<=xs.length->Pv i σ H->AE K H a xs)
 (hs:∀i x σ H,xs[i]?=some x->Pv i σ H->g x σ H fun σ2 H2=>tb { D with nx:=Pv (i+1),ct:=Pv (i+1),bk:=D.nx } σ2 H2)(hd:∀ σ H,Pv xs.length σ H->D.nx σ H):
 ∃W:Nat->Nat->St->Hp->Prop,(∃m,W 0 m σ H)/\∀i m σ H,W i m σ H ->
  ((Ma K a).stop i H/\D.nx σ H)\/((Ma K a).go i H/\∃N:St->Hp->Prop,(∀ σ' H',N σ' H'->∃m',m'<m/\W (i+1) m' σ' H')/\∀x H',(Ma K a).yld i H x H'->g x σ H' fun σ2 H2=>tb { D with nx:=N,ct:=N,bk:=D.nx } σ2 H2):=by
 refine⟨fun i m σ H=>m=xs.length-i/\i<=xs.length/\Pv i σ H,⟨xs.length,by simp,zg _,h0⟩,?_⟩;rintro i m σ H ⟨rfl,hi,p⟩;have q:=hl i σ H hi p;by_cases dW:i<xs.length
 . refine .inr ⟨⟨xs,xs[i],q,by simp[dW]⟩,Pv (i+1),fun σ' H' p'=>⟨xs.length-(i+1),by lia,rfl,dW,p'⟩,fun x H' y=>?_⟩;obtain⟨e,y⟩:=y;subst e;exact hs i x σ _ (y xs q) p
 . have e:i=xs.length:=by lia
   subst e;exact .inl ⟨⟨xs,q,zJ _⟩,hd σ H p⟩
theorem Pn {K:AJ}{g:TG}{tb:TS}{D:Gc}(Pv:Nat->St->Hp->Prop)(h0:Pv 0 σ H)(hl:∀i σ H,i<=xs.length->Pv i σ H->AC K H a xs)
 (hs:∀i x σ H,xs[i]?=some x->Pv i σ H->g x σ H fun σ2 H2=>tb { D with nx:=Pv (i+1),ct:=Pv (i+1),bk:=D.nx } σ2 H2)(hd:∀ σ H,Pv xs.length σ H->D.nx σ H):
 ∃W:Nat->Nat->St->Hp->Prop,(∃m,W 0 m σ H)/\∀i m σ H,W i m σ H ->
  ((MS K a).stop i H/\D.nx σ H)\/((MS K a).go i H/\∃N:St->Hp->Prop,(∀ σ' H',N σ' H'->∃m',m'<m/\W (i+1) m' σ' H')/\∀x H',(MS K a).yld i H x H'->g x σ H' fun σ2 H2=>tb { D with nx:=N,ct:=N,bk:=D.nx } σ2 H2):=by
 refine⟨fun i m σ H=>m=xs.length-i/\i<=xs.length/\Pv i σ H,⟨xs.length,by simp,zg _,h0⟩,?_⟩;rintro i m σ H ⟨rfl,hi,p⟩;have q:=hl i σ H hi p;by_cases dW:i<xs.length
 . refine .inr ⟨⟨xs,xs[i],q,by simp[dW]⟩,Pv (i+1),fun σ' H' p'=>⟨xs.length-(i+1),by lia,rfl,dW,p'⟩,fun x H' y=>?_⟩;obtain⟨e,y⟩:=y;subst e;exact hs i x σ _ (y xs q) p
 . have e:i=xs.length:=by lia
   subst e;exact .inl ⟨⟨xs,q,zJ _⟩,hd σ H p⟩
theorem CS {lo:Int}{g:TG}{tb:TS}{D:Gc}(Pv:Nat->St->Hp->Prop)(h0:Pv 0 σ H)
 (hs:∀i σ H,i<n->Pv i σ H->g (.int (lo+i)) σ H fun σ2 H2=>tb { D with nx:=Pv (i+1),ct:=Pv (i+1),bk:=D.nx } σ2 H2)(hd:∀ σ H,Pv n σ H->D.nx σ H):
 ∃W:Nat->Nat->St->Hp->Prop,(∃m,W 0 m σ H)/\∀i m σ H,W i m σ H ->
  ((II lo n).stop i H/\D.nx σ H)\/((II lo n).go i H/\∃N:St->Hp->Prop,(∀ σ' H',N σ' H'->∃m',m'<m/\W (i+1) m' σ' H')/\∀x H',(II lo n).yld i H x H'->g x σ H' fun σ2 H2=>tb { D with nx:=N,ct:=N,bk:=D.nx } σ2 H2):=by
 refine⟨fun i m σ H=>m=n-i/\i<=n/\Pv i σ H,⟨n,by simp,zg _,h0⟩,?_⟩;rintro i m σ H ⟨rfl,hi,p⟩;by_cases dW:i<n
 . refine .inr ⟨dW,Pv (i+1),fun σ' H' p'=>⟨n-(i+1),by lia,rfl,dW,p'⟩,fun x H' y=>?_⟩;obtain⟨e,y⟩:=y;subst e y;exact hs i σ _ dW p
 . have e:i=n:=by lia
   subst e;exact .inl ⟨zJ _,hd σ H p⟩
abbrev R2:=V->V->Hp->VK->Prop
def Ay (X:Cx)(f:Value->Value->Sem Value)(r:R2):Prop:=
 ∀pins s σ H x y v u Q,AB X pins σ H s->AQ x v->AQ y u->r x y H Q ->
  wpAny (model X.prog X.w) X.A (f v u) (EP X pins σ Q) X.xe s
def TM (X:Cx)(f:Value->Sem Value)(r:V->Hp->VK->Prop):Prop:=
 ∀pins s σ H x v Q,AB X pins σ H s->AQ x v->r x H Q ->
  wpAny (model X.prog X.w) X.A (f v) (EP X pins σ Q) X.xe s
def B3 (X:Cx)(f:Value)(r:List V->Hp->VK->Prop):Prop:=
 ∀pins s σ H xs us Q,AB X pins σ H s->AK xs us->r xs H Q ->
  wpAny (model X.prog X.w) X.A (call f us) (EP X pins σ Q) X.xe s
def LM (r:R2)(ta tb:TE):TE:=fun σ H Q=>ta σ H fun x H1=>tb σ H1 fun y H2=>r x y H2 Q
def dG (r:V->Hp->VK->Prop)(ta:TE):TE:=fun σ H Q=>ta σ H fun x H1=>r x H1 Q
inductive Na (C:Int->Int->Prop)(g:Int->Int->V)(x:V)(y:V)(H:Hp)(Q:VK):Prop
 | mk:∀i j,(x=.int i)->(y=.int j)->(C i j)->(Q (g i j) H)->Na C g x y H Q
def rI (C:Int->Int->Prop)(g:Int->Int->V):R2:=fun x y H Q=>Na C g x y H Q
inductive IQ (g:Int->Int->V)(x:V)(y:V)(H:Hp)(Q:VK):Prop
 | mk:∀i j,(x=.int i)->(y=.int j)->(Q (g i j) H)->IQ g x y H Q
def Hn (g:Int->Int->V):R2:=fun x y H Q=>IQ g x y H Q
inductive Nf (g:Int->V)(x:V)(H:Hp)(Q:VK):Prop
 | mk:∀i,(x=.int i)->(Q (g i) H)->Nf g x H Q
def rU (g:Int->V):V->Hp->VK->Prop:=fun x H Q=>Nf g x H Q
theorem LG (ha:PE X a ta)(hb:PE X b tb){R:V->V->Hp->Prop}(I:AB X pins σ H s)
 (h:ta σ H fun x H1=>tb σ H1 fun y H2=>R x y H2){f:Value->Value->Sem Value}
 (hf:∀v u s2 x y H2,AB X pins σ H2 s2->AQ x v->AQ y u->R x y H2->wpAny (model X.prog X.w) X.A (f v u) Q X.xe s2):
 wpAny (model X.prog X.w) X.A (eval a X.env) (fun v s₁=>wpAny (model X.prog X.w) X.A (eval b X.env) (fun u s₂=>wpAny (model X.prog X.w) X.A (f v u) Q X.xe s₂) X.xe s₁) X.xe s:=by
 refine AI (ha pins s σ H _ I h) fun v s1 ⟨x,H1,I1,r1,q1⟩=>?_;refine AI (hb pins s1 σ H1 _ I1 q1) fun u s2 ⟨y,H2,I2,r2,q2⟩=>?_;exact hf v u s2 x y H2 I2 r1 r2 q2
theorem AV (ho:Ay X (binaryOp op) r)(ha:PE X a ta)(hb:PE X b tb):PE X (.BinOp a op b pos) (LM r ta tb):=by intro pins s σ H Q I h;exact wpAny_BinOp (LG ha hb I h fun v u s2 x y H2 I2 rx ry q=>ho pins s2 σ H2 x y v u Q I2 rx ry q)
theorem Rc (ho:TM X (unaryOp op) r)(ha:PE X a ta):PE X (.UnaryOp op a pos) (dG r ta):=by intro pins s σ H Q I h;exact UnaryOp_ (AI (ha pins s σ H _ I h) fun v s1 ⟨x,H1,I1,r1,q1⟩=>ho pins s1 σ H1 x v Q I1 r1 q1)
theorem Qk {g:Int->Int->Int}
 (rule:∀i j t u s Q E,C i j->Q (.int (g i j) s.toks) { s with toks:=s.toks+1 }->wpAny (model X.prog X.w) X.A (f (.int i t) (.int j u)) Q E s):
 Ay X f (rI C fun i j=>.int (g i j)):=by
 intro pins s σ H x y v u Q I rx ry h;obtain⟨i,j,rfl,rfl,hc,q⟩:=h;obtain⟨t,rfl⟩:=rx;obtain⟨t',rfl⟩:=ry;exact rule i j t t' s _ _ hc ⟨.int (g i j),H,I.tok _,⟨_,rfl⟩,q⟩
theorem OI {g:Int->Int->Int}
 (rule:∀i j t u s Q E,Q (.int (g i j) s.toks) { s with toks:=s.toks+1 }->wpAny (model X.prog X.w) X.A (f (.int i t) (.int j u)) Q E s):
 Ay X f (Hn fun i j=>.int (g i j)):=by
 intro pins s σ H x y v u Q I rx ry h;obtain⟨i,j,rfl,rfl,q⟩:=h;obtain⟨t,rfl⟩:=rx;obtain⟨t',rfl⟩:=ry;exact rule i j t t' s _ _ ⟨.int (g i j),H,I.tok _,⟨_,rfl⟩,q⟩
theorem G7 {g:Int->Int->Bool}
 (rule:∀i j t u s Q E,Q (.bool (g i j)) s->wpAny (model X.prog X.w) X.A (f (.int i t) (.int j u)) Q E s):
 Ay X f (Hn fun i j=>.bl (g i j)):=by
 intro pins s σ H x y v u Q I rx ry h;obtain⟨i,j,rfl,rfl,q⟩:=h;obtain⟨t,rfl⟩:=rx;obtain⟨t',rfl⟩:=ry;exact rule i j t t' s _ _ ⟨.bl (g i j),H,I,rfl,q⟩
def Pe (i j:Int):Prop:=0<j/\j<1073741824
def Sz (i j:Int):Prop:=0<=j/\j<=1000000/\i.natAbs<2 ^ 64
def Kj (i j:Int):Prop:=(-(2 ^ 64)<i/\i<2 ^ 64)\/(-(2 ^ 64)<j/\j<2 ^ 64)
theorem Kj.ok (h:Kj i j):IntMulOk i j:=by
 rcases h with ⟨h1,h2⟩ | ⟨h1,h2⟩
 . exact .of_left (intBits_le_64 h1 h2)
 . exact .of_right (intBits_le_64 h1 h2)
theorem CK:Ay X (binaryOp .Add) (Hn fun i j=>.int (i+j)):=OI fun _ _ _ _ _ _ _ q=>add_int q
theorem Fe:Ay X (binaryOp .Sub) (Hn fun i j=>.int (i-j)):=OI fun _ _ _ _ _ _ _ q=>sub_int q
theorem M7:Ay X (binaryOp .Mult) (rI Kj fun i j=>.int (i*j)):=Qk fun _ _ _ _ _ _ _ hc q=>mul_int q hc.ok
theorem Pu:Ay X (binaryOp .FloorDiv) (rI Pe fun i j=>.int (i/j)):=Qk fun i j _ _ _ _ _ hc q=>by have h1:(0:Int)<j:=hc.1;have h2:j<1073741824:=hc.2;exact floordiv_int (by lia) (by rw[Int.fdiv_eq_ediv_of_nonneg i (by lia)];exact q) (.inl (PyProof.noPylong_small (by lia)))
theorem JH:Ay X (binaryOp .Mod) (rI (fun _ j=>0<j) fun i j=>.int (i%j)):=Qk fun i j _ _ _ _ _ hc q=>by have h1:(0:Int)<j:=hc;exact mod_int' (by lia) (by rw[Int.fmod_eq_emod_of_nonneg i (by lia)];exact q)
theorem Xa:Ay X (binaryOp .Pow) (rI Sz fun i j=>.int (i ^ j.toNat)):=Qk fun _ _ _ _ _ _ _ hc q=>pow_int_small hc.1 hc.2.1 hc.2.2 q
theorem cw {g:Int->Int}
 (rule:∀i t s Q E,Q (.int (g i) s.toks) { s with toks:=s.toks+1 }->wpAny (model X.prog X.w) X.A (f (.int i t)) Q E s):
 TM X f (rU fun i=>.int (g i)):=by
 intro pins s σ H x v Q I rx h;obtain⟨i,rfl,q⟩:=h;obtain⟨t,rfl⟩:=rx;exact rule i t s _ _ ⟨.int (g i),H,I.tok _,⟨_,rfl⟩,q⟩
theorem Qv:TM X (unaryOp .USub) (rU fun i=>.int (-i)):=cw fun _ _ _ _ _ q=>neg_int q
noncomputable def Kk:V->V->Bool
 | .non,.non=>true | .non,.int _=>true | .int _,.non=>true | .non,.bl _=>true | .bl _,.non=>true | .non,.str _=>true | .str _,.non=>true
 | .int _,.int _=>true | .bl _,.bl _=>true | .str _,.str _=>true | .byt _,.byt _=>true
 | .int _,.str _=>true | .str _,.int _=>true | .bl _,.str _=>true | .str _,.bl _=>true
 | _,_=>false
inductive Hg (x:V)(y:V)(H:Hp)(Q:VK):Prop
 | mk:(Kk x y=true)->(Q (.bl (decide (x=y))) H)->Hg x y H Q
def dI:R2:=fun x y H Q=>Hg x y H Q
inductive Hz (x:V)(y:V)(H:Hp)(Q:VK):Prop
 | mk:(Kk x y=true)->(Q (.bl (!decide (x=y))) H)->Hz x y H Q
def cm:R2:=fun x y H Q=>Hz x y H Q
theorem XI :decide (V.int i=V.int j)=(i==j):=by rw[HI];simp
theorem Wx :decide (V.bl i=V.bl j)=(i==j):=by rw[HI];simp
theorem Vg :decide (V.str i=V.str j)=(i==j):=by rw[HI];simp
theorem UL :decide (V.byt i=V.byt j)=(i.toList==j.toList):=by rw[HI];cases i;cases j;simp
theorem A5 (I:AB X pins σ H s)(q:Q (.bl k) H)(e:k=k'):EP X pins σ Q (.bool k') s:=by subst e;exact⟨.bl k,H,I,rfl,q⟩
theorem Bh:Ay X (compareOp .Eq) dI:=by
 intro pins s σ H x y v u Q I rx ry h;obtain⟨hs,q⟩:=h;cases x with
 | non=>
  cases rx;cases y with
  | non=>cases ry;exact PySem.EqNone.eq_none_none (A5 I q (by simp))
  | bl j=>cases ry;exact PySem.EqNone.eq_none_bool (A5 I q (by simp))
  | int j=>obtain⟨t',rfl⟩:=ry;exact PySem.EqNone.eq_none_int (A5 I q (by simp))
  | str j=>obtain⟨t',rfl⟩:=ry;exact PySem.EqNone.eq_none_str (A5 I q (by simp))
  | _=>exact absurd (show false=true from hs) zn
 | bl i=>
  cases rx;cases y with
  | non=>cases ry;exact PySem.EqNone.eq_bool_none (A5 I q (by simp))
  | bl j=>cases ry;exact eq_bool (A5 I q Wx)
  | str j=>obtain⟨t',rfl⟩:=ry;exact PySem.EqMixed.eq_bool_str (A5 I q (by simp))
  | _=>exact absurd (show false=true from hs) zn
 | int i=>
  obtain⟨t,rfl⟩:=rx;cases y with
  | non=>cases ry;exact PySem.EqNone.eq_int_none (A5 I q (by simp))
  | int j=>obtain⟨t',rfl⟩:=ry;exact eq_int (A5 I q XI)
  | str j=>obtain⟨t',rfl⟩:=ry;exact PySem.EqMixed.eq_int_str (A5 I q (by simp))
  | _=>exact absurd (show false=true from hs) zn
 | str i=>
  obtain⟨t,rfl⟩:=rx;cases y with
  | non=>cases ry;exact PySem.EqNone.eq_str_none (A5 I q (by simp))
  | bl j=>cases ry;exact PySem.EqMixed.eq_str_bool (A5 I q (by simp))
  | int j=>obtain⟨t',rfl⟩:=ry;exact PySem.EqMixed.eq_str_int (A5 I q (by simp))
  | str j=>obtain⟨t',rfl⟩:=ry;exact eq_str (A5 I q Vg)
  | _=>exact absurd (show false=true from hs) zn
 | byt i=>
  obtain⟨t,rfl⟩:=rx;cases y with
  | byt j=>obtain⟨t',rfl⟩:=ry;exact PySem.W.eq_bytes (A5 I q UL)
  | _=>exact absurd (show false=true from hs) zn
 | _=>cases y <;> exact absurd (show false=true from hs) zn
theorem NJ:Ay X (compareOp .NotEq) cm:=by
 intro pins s σ H x y v u Q I rx ry h;obtain⟨hs,q⟩:=h;cases x with
 | non=>
  cases rx;cases y with
  | non=>cases ry;exact PySem.EqNone.ne_none_none (A5 I q (by simp))
  | bl j=>cases ry;exact PySem.EqNone.ne_none_bool (A5 I q (by simp))
  | int j=>obtain⟨t',rfl⟩:=ry;exact PySem.EqNone.ne_none_int (A5 I q (by simp))
  | str j=>obtain⟨t',rfl⟩:=ry;exact PySem.EqNone.ne_none_str (A5 I q (by simp))
  | _=>exact absurd (show false=true from hs) zn
 | bl i=>
  cases rx;cases y with
  | non=>cases ry;exact PySem.EqNone.ne_bool_none (A5 I q (by simp))
  | bl j=>cases ry;exact ne_bool (A5 I q (congrArg not Wx))
  | str j=>obtain⟨t',rfl⟩:=ry;exact PySem.EqMixed.ne_bool_str (A5 I q (by simp))
  | _=>exact absurd (show false=true from hs) zn
 | int i=>
  obtain⟨t,rfl⟩:=rx;cases y with
  | non=>cases ry;exact PySem.EqNone.ne_int_none (A5 I q (by simp))
  | int j=>obtain⟨t',rfl⟩:=ry;exact ne_int (A5 I q (congrArg not XI))
  | str j=>obtain⟨t',rfl⟩:=ry;exact PySem.EqMixed.ne_int_str (A5 I q (by simp))
  | _=>exact absurd (show false=true from hs) zn
 | str i=>
  obtain⟨t,rfl⟩:=rx;cases y with
  | non=>cases ry;exact PySem.EqNone.ne_str_none (A5 I q (by simp))
  | bl j=>cases ry;exact PySem.EqMixed.ne_str_bool (A5 I q (by simp))
  | int j=>obtain⟨t',rfl⟩:=ry;exact PySem.EqMixed.ne_str_int (A5 I q (by simp))
  | str j=>obtain⟨t',rfl⟩:=ry;exact ne_str (A5 I q (congrArg not Vg))
  | _=>exact absurd (show false=true from hs) zn
 | byt i=>
  obtain⟨t,rfl⟩:=rx;cases y with
  | byt j=>obtain⟨t',rfl⟩:=ry;exact PySem.W.ne_bytes (A5 I q (congrArg not UL))
  | _=>exact absurd (show false=true from hs) zn
 | _=>cases y <;> exact absurd (show false=true from hs) zn
theorem Pw:Ay X (compareOp .Lt) (Hn fun i j=>.bl (decide (i<j))):=G7 fun _ _ _ _ _ _ _ q=>lt_int q
theorem Pk:Ay X (compareOp .LtE) (Hn fun i j=>.bl (decide (i<=j))):=G7 fun _ _ _ _ _ _ _ q=>le_int q
theorem JI:Ay X (compareOp .Gt) (Hn fun i j=>.bl (decide (j<i))):=G7 fun _ _ _ _ _ _ _ q=>gt_int q
theorem OD:Ay X (compareOp .GtE) (Hn fun i j=>.bl (decide (j<=i))):=G7 fun _ _ _ _ _ _ _ q=>ge_int q
theorem DP:Ay X (compareOp .Is) (fun x y H Q=>y=.non/\Q (.bl (decide (x=.non))) H):=by
 intro pins s σ H x y v u Q I rx ry h;obtain⟨rfl,q⟩:=h;cases ry;refine is_none_gen (A5 I q ?_);cases x <;> first
  | (cases rx;rfl)
  | (obtain⟨t,rfl⟩:=rx;rfl)
theorem HQ:Ay X (compareOp .IsNot) (fun x y H Q=>y=.non/\Q (.bl (!decide (x=.non))) H):=by
 intro pins s σ H x y v u Q I rx ry h;obtain⟨rfl,q⟩:=h;cases ry;refine isnot_none_gen (A5 I q ?_);cases x <;> first
  | (cases rx;rfl)
  | (obtain⟨t,rfl⟩:=rx;rfl)
theorem AS (b)(h:op ≠ .In:=by decide)(h2:op ≠ .NotIn:=by decide):behindInMarks op b=false:=by
 have e1:(op==CmpOp.In)=false:=by cases op <;> first | rfl | exact absurd rfl h
 have e2:(op==CmpOp.NotIn)=false:=by cases op <;> first | rfl | exact absurd rfl h2
 cases b <;> simp[behindInMarks,e1,e2]
theorem BN (ho:Ay X (compareOp op) r)(ha:PE X a ta)(hb:PE X b tb)(hm:behindInMarks op b=false):PE X (.Compare a [op] [b] pos) (LM r ta tb):=by intro pins s σ H Q I h;exact wpAny_Compare1 (LG ha hb I h fun v u s2 x y H2 I2 rx ry q=>ho pins s2 σ H2 x y v u Q I2 rx ry q) hm
inductive XH (Q:Bool->Hp->Prop)(x:V)(H':Hp):Prop
 | mk:∀k,(x=.bl k)->(Q k H')->XH Q x H'
def Oi (t:TE):TT:=fun σ H Q=>t σ H fun x H'=>XH Q x H'
theorem Ak (ho:Ay X (compareOp op) r)(ha:PE X a ta)(hb:PE X b tb)(hm:behindInMarks op b=false):PT X (.Compare a [op] [b] pos) (Oi (LM r ta tb)):=by
 intro pins s σ H Q I h;refine wpAny_isTrue_Compare1 (AI (ha pins s σ H _ I h) fun v s1 ⟨x,H1,I1,r1,q1⟩=>AI (hb pins s1 σ H1 _ I1 q1) fun u s2 ⟨y,H2,I2,r2,q2⟩=>
  AI (ho pins s2 σ H2 x y v u _ I2 r1 r2 q2) fun c s3 ⟨z,H3,I3,r3,k,e,q3⟩=>?_) hm
 subst e;cases r3;exact Gh ⟨H3,I3,q3⟩
inductive VJ (r':R2)(tc:TE)(σ:St)(Q:VK)(y:V)(z:V)(H3:Hp):Prop
 | mk:∀k,(z=.bl k)->((if k=true then tc σ H3 fun w' H4=>r' y w' H4 Q else Q (.bl false) H3))->VJ r' tc σ Q y z H3
def LH (r r':R2)(ta tb tc:TE):TE:=fun σ H Q=>ta σ H fun x H1=>tb σ H1 fun y H2=>r x y H2 fun z H3=>VJ r' tc σ Q y z H3
theorem Ys (ho:Ay X (compareOp op) r)(iU:Ay X (compareOp op') r')(ha:PE X a ta)(hb:PE X b tb)(hc:PE X c tc)
 (hm:lastMarks [op,op'] [b,c]=false:=by with_unfolding_all rfl):PE X (.Compare a [op,op'] [b,c] pos) (LH r r' ta tb tc):=by
 intro pins s σ H Q I h;refine Compare_chain (AI (ha pins s σ H _ I h) fun v s1 ⟨x,H1,I1,r1,q1⟩=>chain_link (AI (hb pins s1 σ H1 _ I1 q1) fun u s2 ⟨y,H2,I2,r2,q2⟩=>
  AI (ho pins s2 σ H2 x y v u _ I2 r1 r2 q2) fun d s3 ⟨z,H3,I3,r3,k,e,q3⟩=>?_)) hm
 subst e;cases r3;refine Gh ?_;cases k with
 | false=>exact ite_ff ⟨.bl false,H3,I3,rfl,q3⟩
 | true=>exact ite_tt (chain_last (AI (hc pins s3 σ H3 _ I3 q3) fun w' s4 ⟨z',H4,I4,r4,q4⟩=>iU pins s4 σ H4 y z' u w' Q I4 r2 r4 q4))
theorem QU:(sizeLine:Nat)<2 ^ 63:=by rw[sizeLine_eq];decide
theorem Cb (r:AK [x] us):∃u,us=[u]/\AQ x u:=by
 cases r with
 | cons r1 r2=>cases r2;exact⟨_,rfl,r1⟩
theorem Ln (r:AK [x,y] us):∃u w',us=[u,w']/\AQ x u/\AQ y w':=by
 cases r with
 | cons r1 r2=>
  cases r2 with
  | cons r3 r4=>cases r4;exact⟨_,_,rfl,r1,r3⟩
inductive Oe (xs:List V)(H:Hp)(Q:VK):Prop
 | mk:∀i j,(xs=[.int i,.int j])->(Q (.int (if j<i then j else i)) H)->Oe xs H Q
theorem X8 (hc:X.calm=true):B3 X (.builtin "min") Oe:=by
 intro pins s σ H xs us Q I r h;obtain⟨i,j,rfl,q⟩:=h;obtain⟨u,w',rfl,⟨t,rfl⟩,⟨t',rfl⟩⟩:=Ln r;refine min_two_ints (I.ok.hd hc) fun h' tk k=>⟨_,H,I.kept k,?_,q⟩;by_cases hj:j<i
 . rw[if_pos hj,if_pos hj];exact⟨_,rfl⟩
 . rw[if_neg hj,if_neg hj];exact⟨_,rfl⟩
structure KG (h:Heap)(x dx C:Addr)(mA:Bx):Prop where
 obj:h.get? x=some (PySem.W.instObj C dx)
 ns:h.Ns1 dx mA
 ne:dx≠x
theorem bQ {h:Heap}(n:h.Ns1 dx mA):∃od,h.get? dx=some od/\∀name,PySem.W.lookIn name od=some (mA name):=by
 obtain⟨o,es,ep,ho,hd,hk,_,hm⟩:=n;refine⟨o,ho,fun name=>?_⟩;have e:=hm name;unfold nsFind findBy at e;rw[<-Array.find?_toList] at e;unfold PySem.W.lookIn;rw[hd];dsimp only;split
 . rename_i y q
   rw[q] at e;exact congrArg some e
 . rename_i q
   rw[q] at e;have a:es.toList.any (·.refKey)=false:=by rw[List.any_eq_false];intro y hy;obtain⟨z,t,hkey⟩:=hk y (Array.mem_toList_iff.mp hy);simp[DictEntry.refKey,hkey]
   have a':¬ es.toList.any (·.refKey)=true:=by rw[a];exact zn
   rw[if_neg a'];exact congrArg some e
theorem KG.look (I:KG h x dx C mA):∃od,PySem.W.InstAt h x (PySem.W.instObj C dx) C (some od)/\∀name,PySem.W.lookIn name od=some (mA name):=
 let ⟨od,ho,hl⟩:=bQ I.ns
 ⟨od,⟨I.obj,rfl,rfl,ho⟩,hl⟩
noncomputable def Du (f:Str)(v:V):List (Str×V)->List (Str×V)
 | []=>[(f,v)]
 | (g,x)::r=>if g=f then (g,v)::r else (g,x)::Du f v r
theorem Wy (f g)(v):∀fs:List (Str×V),(Du f v fs).lookup g=if g=f then some v else fs.lookup g
 | []=>by
  show List.lookup g [(f,v)]=_;by_cases h:g=f
  . have hb:(g==f)=true:=beq_iff_eq.mpr h;simp only[List.lookup,hb,if_pos h]
  . have hb:(g==f)=false:=beq_eq_false_iff_ne.mpr h;simp only[List.lookup,hb,if_neg h]
 | (k,x)::r=>by
  have ih:=Wy f g v r;rw[show Du f v ((k,x)::r)=(if k=f then (k,v)::r else (k,x)::Du f v r) from rfl]
  by_cases hk:k=f
  . rw[if_pos hk];by_cases h:g=k
    . have hb:(g==k)=true:=beq_iff_eq.mpr h;simp only[List.lookup,hb,if_pos (h.trans hk)]
    . have hb:(g==k)=false:=beq_eq_false_iff_ne.mpr h;simp only[List.lookup,hb,if_neg (fun e:g=f=>h (e.trans hk.symm))]
  . rw[if_neg hk];by_cases h:g=k
    . have hb:(g==k)=true:=beq_iff_eq.mpr h;simp only[List.lookup,hb,if_neg (fun e:g=f=>hk (h.symm.trans e))]
    . have hb:(g==k)=false:=beq_eq_false_iff_ne.mpr h;simp only[List.lookup,hb];exact ih
theorem Qy (f)(v):∀fs:List (Str×V),f∈(Du f v fs).map (·.1)/\∀g,g∈fs.map (·.1)->g∈(Du f v fs).map (·.1)
 | []=>⟨by simp[Du],fun g h=>by simp at h⟩
 | (k,x)::r=>by
  obtain⟨i1,i2⟩:=Qy f v r;rw[show Du f v ((k,x)::r)=(if k=f then (k,v)::r else (k,x)::Du f v r) from rfl]
  by_cases hk:k=f
  . rw[if_pos hk];subst hk;exact⟨by simp,fun g h=>by simpa using h⟩
  . rw[if_neg hk];refine⟨?_,fun g h=>?_⟩
    . rw[BX];exact zZ _ i1
    . rw[BX] at h ⊢;rcases zT.mp h with e | e
      . exact zT.mpr (.inl e)
      . exact zZ _ (i2 g e)
theorem CL.some_of (r:CL (some v) o):∃u,o=some u/\AQ v u:=by
 cases o with
 | none=>exact (show False from r).elim
 | some u=>exact⟨u,rfl,r⟩
theorem aB (r:AQ v u):PySem.W.handedIn u=true:=by
 cases v with
 | non=>cases (show u=Value.none from r);rfl
 | bl b=>cases (show u=Value.bool b from r);rfl
 | int i=>obtain⟨t,e⟩:=(show ∃t,u=Value.int i t from r);cases e;rfl
 | str x=>obtain⟨t,e⟩:=(show ∃t,u=Value.str x t from r);cases e;rfl
 | byt b=>obtain⟨t,e⟩:=(show ∃t,u=Value.bytes b t from r);cases e;rfl
 | flt b=>obtain⟨t,e⟩:=(show ∃t,u=Value.float b t from r);cases e;rfl
 | ref a=>cases (show u=Value.ref a from r);rfl
 | ty n=>cases (show u=Value.type n from r);rfl
theorem Za (hok:Ap P w H h)(e:H a=some (.ins C dx fs)):∃mA,KG h a dx C mA/\(∀f,CL (fs.lookup f) (mA f))/\PySem.Within mA (fs.map (·.1))/\fs.length<=1000/\H dx=some (.own a):=by obtain⟨d,z,ne,ob,mA,n,r,q⟩:=(show Av P w H h a (.ins C dx fs) from hok a _ e);exact⟨mA,⟨ob,n,ne⟩,r,q,z,d⟩
structure Tr (K:AJ)(C:Addr):Prop where
 pg:PySem.W.plainGet K C Str.empty=true
 hd:PySem.W.hasDictIn K C=true
 po:PySem.W.plainOver K C=true
 sa:PySem.W.findIn K (.ref C) "__setattr__"=some (some (.builtin "object.__setattr__"))
theorem Tr.get {K:AJ}(c:Tr K C)(f):PySem.W.plainGet K C f=true:=c.pg
theorem Y3 (hb:attributeBase e f env (eval e env)=eval e env)
 (h:wpAny (model prog w) A (eval e env) (fun o s₁=>wpAny (model prog w) A (getAttr o f true) Q E s₁) E s):wpAny (model prog w) A (eval (.Attribute e f pos) env) Q E s:=
 Attribute_any_ h (by rw[arm_eval_Attribute,hb])
inductive DC (K:AJ)(H:Hp):V->Value->Prop where
 | non:DC K H .non (.type "NoneType")
 | bl (x:Bool):DC K H (.bl x) (.type "bool")
 | int (i:Int):DC K H (.int i) (.type "int")
 | str (x:Str):DC K H (.str x) (.type "str")
 | flt (x:UInt64):DC K H (.flt x) (.type "float")
 | lst {a:Addr}{xs:List V}(e:H a=some (.lst xs)):DC K H (.ref a) (.type "list")
 | frz {a:Addr}{o:Obj}{xs:List V}(e:H a=some (.frz o (.lst xs))):DC K H (.ref a) (.type "list")
 | tup {a:Addr}{xs:List V}(e:H a=some (.tup xs)):DC K H (.ref a) (.type "tuple")
 | dK {a:Addr}{dQ:List (AR×V)}(e:H a=some (.dK dQ)):DC K H (.ref a) (.type "dict")
 | dT {a:Addr}{dQ:List (List AR×V)}(e:H a=some (.dT dQ)):DC K H (.ref a) (.type "dict")
 | ins {a C dx:Addr}{fs:List (Str×V)}(e:H a=some (.ins C dx fs))(cl:Tr K C)(ha:PySem.W.findIn K (.ref C) "__class__"=some (some (.builtin "object.__class__")))
  (hn:PySem.W.specialIn K (.builtin "object.__class__") "__get__"=some (some (.builtin "getset_descriptor.__get__"))) (htk:PySem.W.takesIn K (.builtin "object.__class__")=some true)
  (hm:PySem.W.mroIn K C (.type "object")=some true):DC K H (.ref a) (.ref C)
theorem ZC (I:AB X pins σ H s)(rx:AQ x u)(ty:DC X.K H x t)(e:PySem.W.kitOne X.K t c=some b)(h:∀tk,Q (.bool b) { s with toks:=tk }):
 wpAny (model X.prog X.w) A (call (.builtin "isinstance") [u,c]) Q E s:=by
 cases ty with
 | non=>cases (show u=Value.none from rx);exact PySem.W.kia_one PySem.W.kitx_none I.kIn True.intro e (fun z=>nomatch z) h
 | bl y=>cases (show u=Value.bool y from rx);exact PySem.W.kia_one PySem.W.kitx_bool I.kIn True.intro e (fun z=>nomatch z) h
 | int i=>obtain⟨t,q⟩:=(show ∃t,u=Value.int i t from rx);cases q;exact PySem.W.kia_one PySem.W.kitx_int I.kIn True.intro e (fun z=>nomatch z) h
 | str y=>obtain⟨t,q⟩:=(show ∃t,u=Value.str y t from rx);cases q;exact PySem.W.kia_one PySem.W.kitx_str I.kIn True.intro e (fun z=>nomatch z) h
 | flt y=>obtain⟨t,q⟩:=(show ∃t,u=Value.float y t from rx);cases q;exact PySem.W.kia_one PySem.W.kitx_float I.kIn True.intro e (fun z=>nomatch z) h
 | @lst a xs ea=>cases (show u=Value.ref a from rx);obtain⟨_,_,n,_,h1⟩:=(show Av X.prog X.w H s.heap a (.lst xs) from I.hok a _ ea);exact PySem.W.kia_one PySem.W.kitx_list I.kIn ⟨_,h1,rfl⟩ e (fun z=>nomatch z) h
 | @frz a ob xs ea=>cases (show u=Value.ref a from rx);obtain⟨_,_,_,n,_,h1⟩:=(show Av X.prog X.w H s.heap a (.frz ob (.lst xs)) from I.hok a _ ea);exact PySem.W.kia_one PySem.W.kitx_list I.kIn ⟨_,h1,rfl⟩ e (fun z=>nomatch z) h
 | @tup a xs ea=>cases (show u=Value.ref a from rx);obtain⟨_,_,_,p⟩:=(show Av X.prog X.w H s.heap a (.tup xs) from I.hok a _ ea);obtain⟨o,h1,h2,_⟩:=p;exact PySem.W.kia_one PySem.W.kitx_tuple I.kIn ⟨o,h1,h2⟩ e (fun z=>nomatch z) h
 | @dK a dQ ea=>cases (show u=Value.ref a from rx);obtain⟨_,_,vs,_,p⟩:=(show Av X.prog X.w H s.heap a (.dK dQ) from I.hok a _ ea);obtain⟨o,es,ep,h1,h2,_⟩:=p;exact PySem.W.kia_one PySem.W.kitx_dict I.kIn ⟨o,h1,h2.1⟩ e (fun z=>nomatch z) h
 | @dT a dQ ea=>cases (show u=Value.ref a from rx);obtain⟨_,_,xs,_,o,es,ep,h1,h2,_⟩:=(show Av X.prog X.w H s.heap a (.dT dQ) from I.hok a _ ea);exact PySem.W.kia_one PySem.W.kitx_dict I.kIn ⟨o,h1,h2.1⟩ e (fun z=>nomatch z) h
 | @ins a C dx fs ea cl ha hn htk hm=>cases (show u=Value.ref a from rx);obtain⟨mA,O,_⟩:=Za I.hok ea;obtain⟨od,J,_⟩:=O.look;exact PySem.W.kia_one (PySem.W.kitx_own (cl.get _) cl.hd ha hn htk hm) I.kIn J e (fun z=>nomatch z) h
structure A0 (k:Nat)(A:Around):Prop where
 hd:A.handled=none
 dp:A.depth+3*k+5<recursionLimit
 un:A.units+16*k+200<cLine
 gd:A.guards=some []
theorem A0.mono (r:A0 k A)(h:j<=k):A0 j A:=⟨r.hd,by have:=r.dp;lia,by have:=r.un;lia,r.gd⟩
theorem A0.deeper (r:A0 (k+1) A)(env:Env):A0 k (A.deeper env):=
 ⟨r.hd,by have:=r.dp;show A.depth+1+3*k+5<_;lia,by have:=r.un;show A.units+3+16*k+200<_;lia,r.gd⟩
theorem A0.in1 (r:A0 (k+1) A):A0 k A.in1:=
 ⟨r.hd,by have:=r.dp;show A.depth+3*k+5<_;lia,by have:=r.un;show A.units+1+16*k+200<_;lia,r.gd⟩
theorem Z5 {A:Around}:(A.under (.builtin "type.__call__" ⟨.ref C::us,kw⟩)).depth=A.depth+1:=by
 first | rfl | simp[Around.under,Code.weight,Code.isCreation,Code.isGuard,Code.isCaller,Code.frames,Code.isFrame,guardIds]
theorem ZV {A:Around}:(A.under (.builtin "type.__call__" ⟨.ref C::us,kw⟩)).units=A.units+1:=by
 first | rfl | simp[Around.under,Code.cUnits,Code.frames,Code.isFrame]
theorem A0.make (r:A0 (k+1) A)(C)(us)(kw):A0 k (A.under (.builtin "type.__call__" ⟨.ref C::us,kw⟩)):=
 ⟨r.hd,by have:=r.dp;rw[Z5];lia,by have:=r.un;rw[ZV];lia,by first | exact r.gd | (simp[Around.under,Code.guards,Code.isGuard,guardIds,pushGuards];exact r.gd)⟩
theorem A0.depth (r:A0 k A):A.depth<recursionLimit:=by have:=r.dp;lia
theorem A0.units (r:A0 k A):A.units+64<cLine:=by have:=r.un;lia
theorem A0.units0 (r:A0 k A):A.units<cLine:=by have:=r.un;lia
def OA:TA:=fun _ H Q=>Q [] H
def RO (ta:TE)(tr:TA):TA:=fun σ H Q=>ta σ H fun x H1=>tr σ H1 fun xs H2=>Q (x::xs) H2
theorem zQ:PA X [] OA:=fun _ _ _ _ H Q I h=>Calls.spliced_nil ⟨[],H,I,.nil,h⟩
theorem zE (ha:PE X e te)(hr:PA X es t)(hs:starEach (e::es) X.env=(false,eval e X.env)::starEach es X.env:=by rfl):PA X (e::es) (RO te t):=by intro pos pins s σ H Q I h;rw[hs];show wpAny _ _ (spliced ((false,eval e X.env)::backTo pos (starEach es X.env))) _ _ s;refine Calls.spliced_cons (AI (ha pins s σ H _ I h) fun u s1 ⟨x,H1,I1,r1,q1⟩=>?_);exact AI (hr pos pins s1 σ H1 _ I1 q1) fun us s2 ⟨xs,H2,I2,r2,q2⟩=>⟨x::xs,H2,I2,.cons r1 r2,q2⟩
inductive XY (Q:VK)(xs:List V)(H1:Hp):Prop
 | mk:(xs.length<=sizeLine)->(∀p,H1 p=none->Q (.ref p) (upd H1 p (.tup xs)))->XY Q xs H1
def TU (t:TA):TE:=fun σ H Q=>t σ H fun xs H1=>XY Q xs H1
inductive XF (Q:VK)(xs:List V)(H1:Hp):Prop
 | mk:(xs.length<=sizeLine)->(∀p,H1 p=none->Q (.ref p) (upd H1 p (.lst xs)))->XF Q xs H1
def OS (t:TA):TE:=fun σ H Q=>t σ H fun xs H1=>XF Q xs H1
theorem AZ {x1} (h:PA X es t):PE X (.Tuple es x1 pos) (TU t):=by intro pins s σ H Q I hq;refine wpAny_Tuple_spliced (AI (h pos pins s σ H _ I hq) fun us s1 ⟨xs,H1,I1,r,z,q⟩=>⟨by rw[<-r.length];exact z,?_⟩);have hf:H1 s1.heap.objs.size=none:=I1.hok.fresh (zJ _);refine⟨.ref s1.heap.objs.size,upd H1 s1.heap.objs.size (.tup xs),I1.laid (t':=s1.toks) (fun b u e=>zG _ e) (zJ _) ?_,rfl,q _ hf⟩;exact⟨⟨z,_,zN _ rfl,rfl⟩,us,r,⟨_,zN _ rfl,rfl,_,rfl⟩⟩
theorem CJ (h:PA X es t):PE X (.List es pos) (OS t):=by intro pins s σ H Q I hq;refine wpAny_List_spliced (AI (h pos pins s σ H _ I hq) fun us s1 ⟨xs,H1,I1,r,z,q⟩=>⟨by rw[<-r.length];exact z,?_⟩);have hf:H1 s1.heap.objs.size=none:=I1.hok.fresh (zJ _);refine⟨.ref s1.heap.objs.size,upd H1 s1.heap.objs.size (.lst xs),I1.laid (t':=s1.toks) (fun b u e=>zG _ e) (zJ _) ?_,rfl,q _ hf⟩;exact⟨z,us,0,r,zN _ rfl⟩
abbrev Sp:=List V->Hp->VK->XK->Prop
abbrev IP:=List Env->Hp->Shared->XK->Value->Shared->Prop
structure JA (P:Program)(w:World)(K:AJ)(mg:Bx)(base:Heap)(A:Around)(outer:List Env)(s:Shared)(H:Hp):Prop where
 frames:A.frames=some outer
 mod:Mod K mg base
 bs:∀b o,base.get? b=some o->s.heap.get? b=some o/\H b=none
 bsz:base.objs.size<=s.heap.objs.size
 funs:s.heap.FunFrames base outer
 frf:∀b∈Az outer,H b=none
 hok:Ap P w H s.heap
 bare:AllBare s.gens
def CE (outer:List Env)(P:Program)(w:World)(H:Hp)(s:Shared)(Q:VK)(u:Value)(s':Shared):Prop:=
 ∃v H',s'.os=s.os/\AllBare s'.gens/\Un (Az outer) [] H H' s.heap s'.heap/\Ap P w H' s'.heap/\AQ v u/\Q v H'
def CR (CX:IP)(outer:List Env)(P:Program)(w:World)(H:Hp)(s:Shared)(Q:VK)(E:XK)(r:Result)(s':Shared):Prop:=
 match r with
 | .ok (.ret u)=>CE outer P w H s Q u s'
 | .ok _=>False
 | .error e=>CX outer H s E e s'
structure AL (P:Program)(w:World)(K:AJ)(mg:Bx)(base:Heap)(CX:IP)(k:Nat)(f:Addr)(fd:FuncData)(ps:List Str)(sp:Sp):Prop where
 len:∀vs H Q E,sp vs H Q E->vs.length=ps.length
 run:∀(A:Around)(outer:List Env)(s:Shared)(H:Hp)(args:Args)(us:List Value)(vs:List V)(Q:VK)(E:XK),A0 k A->JA P w K mg base A outer s H->BindsTo s fd args (ps.zip us)->AK vs us->sp vs H Q E ->
  codeAny (model P w) A (.call (.ref f) args) (CR CX outer P w H s Q E) s
theorem AL.mono {K:AJ}(F:AL P w K mg base CX j f fd ps sp)(h:j<=k:=by decide):
 AL P w K mg base CX k f fd ps sp:=⟨F.len,fun A outer s H args us vs Q E hr=>F.run A outer s H args us vs Q E (hr.mono h)⟩
theorem AL.imp {K:AJ}(F:AL P w K mg base CX k f fd ps sp)
 (h:∀vs H Q E,sp' vs H Q E->sp vs H Q E):AL P w K mg base CX k f fd ps sp':=
 ⟨fun vs H Q E q=>F.len vs H Q E (h _ _ _ _ q),fun A outer s H args us vs Q E hr he hb hv hs=>F.run A outer s H args us vs Q E hr he hb hv (h _ _ _ _ hs)⟩
theorem JA.make {K:AJ}(e:JA P w K mg base A outer s H)(C)(us)(kw):
 JA P w K mg base (A.under (.builtin "type.__call__" ⟨.ref C::us,kw⟩)) outer s H:=⟨by first | exact e.frames | (simpa [Around.under,Code.envs,Code.isFrame,pushEnvs] using e.frames),e.mod,e.bs,e.bsz,e.funs,e.frf,e.hok,e.bare⟩
theorem AB.env0 (I:AB X pins σ H s):JA X.prog X.w X.K X.mg X.base X.A X.stack s H:=
 ⟨I.ok.frames,I.ok.mod,I.bs,zp I.ok.bsz I.sz,I.stack,I.stkFree,I.hok,I.bare⟩
theorem AB.after (I:AB X pins σ H s)(h:CE X.stack X.prog X.w H s Q u s'):EP X pins σ Q u s':=by obtain⟨v,H',os,bare,un,hok,r,q⟩:=h;obtain⟨hh,g,d,t,os'⟩:=s';obtain rfl:os'=s.os:=os;exact⟨v,H',I.call (h':=hh) (g':=g) (d':=d) (t':=t) (ch:=[]) un hok bare (fun b z=>absurd z (by simp)),r,q⟩
def IH (sp:Sp)(dvs:List V)(E:XK)(t:TA):TE:=fun σ H Q=>t σ H fun vs H1=>sp (vs++dvs) H1 Q E
def DA (K:AJ)(fd:FuncData)(ps:List Str)(ds:List Value):Prop:=
 ∀s us,K.In s.heap->(us++ds).length=ps.length->BindsTo s fd ⟨us,[]⟩ (ps.zip (us++ds))
theorem DA.all {K:AJ}(h:∀us:List Value,us.length=ps.length->bindArgs fd ⟨us,[]⟩=pure (ps.zip us)):DA K fd ps []:=fun s us _ hl=>by rw[BR] at hl ⊢;exact .of_eq (h us hl)
def QF (CX:IP)(X:Cx)(E:XK):Prop:=∀pins σ H s e s',AB X pins σ H s->CX X.stack H s E e s'->X.xe e s'
theorem Kn (F:AL X.prog X.w X.K X.mg X.base CX k f fd ps sp)(hr:A0 k X.A)(hb:DA X.K fd ps ds)(hd:AK dvs ds)(hx:QF CX X E)
 (I:AB X pins σ H s)(r:AK vs us)(h:sp (vs++dvs) H Q E):wpAny (model X.prog X.w) X.A (call (.ref f) us) (EP X pins σ Q) X.xe s:=by
 have r2:AK (vs++dvs) (us++ds):=r.append hd;have hl:(us++ds).length=ps.length:=by rw[<-r2.length];exact F.len _ _ _ _ h
 refine Cj (codeAny_mono (F.run X.A X.stack s H ⟨us,[]⟩ (us++ds) (vs++dvs) Q E hr I.env0 (hb s us I.kIn hl) r2 h) fun r s' hq=>?_);cases r with
 | error e=>exact hx pins σ H s e s' I hq
 | ok fl=>
  cases fl with
  | ret u=>exact I.after hq
  | next=>exact False.elim hq
  | brk=>exact False.elim hq
  | cont=>exact False.elim hq
theorem Ly (F:AL X.prog X.w X.K X.mg X.base CX k f fd ps sp)(hr:A0 k X.A)(hg:Gl X x)(hm:X.mg x=some (.ref f))(hk:PySem.W.keepIn X.K (.ref f)=true)(hb:DA X.K fd ps ds)(hd:AK dvs ds)(hx:QF CX X E)
 (ha:PA X (e::es) t)(gk:(x==("__debug__" : Str))=false:=by decide) (he:starEach (e::es) X.env=(false,eval e X.env)::starEach es X.env:=by rfl)(gg:(backTo pos (starEach es X.env)).any (·.1)=false:=by rfl):
 PE X (.Call (.Name x p) (e::es) [] pos) (IH sp dvs E t):=by
 intro pins s σ H Q I h;refine Gb (L4 I hg hm ?_ gk);refine PySem.W.callWith_K (h₀:=X.base) I.ok.mod.kin hk (AI (ha pos pins s σ H _ I h) fun us s1 ⟨vs,H1,I1,r,q⟩=>⟨I1.kIn,?_⟩) he gg;exact Kn F hr hb hd hx I1 r q
structure AX (N P:List Str)(sc:Scope):Prop where
 kind:sc.kind=.function
 co:sc.isCoroutine=false
 gen:sc.isGenerator=false
 nd:N.Nodup
 pre:N.take P.length=P
 par:∀x∈P,sc.names.lookup x=some .local\/sc.names.lookup x=some .cell
 nofree:∀y∈sc.names,y.2 ≠ .free
theorem Ad (a:sc.kind=.function:=by rfl)(b:sc.isCoroutine=false:=by rfl)(c:sc.isGenerator=false:=by rfl)(d:N.Nodup:=by decide +kernel)(e:N.take P.length=P:=by rfl)(f:∀x∈P,sc.names.lookup x=some .local\/sc.names.lookup x=some .cell:=by decide +kernel)(g:∀y∈sc.names,y.2 ≠ .free:=by decide +kernel):AX N P sc:=⟨a,b,c,d,e,f,g⟩
theorem WW {kindOf:Str->Option NameKind}:∀{binds:List (Str×Value)}{m:Bx},(∀v,(x,v)∉binds)->bindL kindOf binds m x=m x
 | [],_,_=>rfl
 | (n,v)::r,m,h=>by
  unfold bindL;rw[WW fun w hw=>h w (zZ _ hw)];split
  . have:x≠n:=by rintro rfl;exact h v zS
    simp[this]
  . rfl
theorem XR {kindOf:Str->Option NameKind}:∀{binds:List (Str×Value)}{m:Bx},(∀v,(x,v)∉binds)->bindC kindOf binds m x=m x
 | [],_,_=>rfl
 | (n,v)::r,m,h=>by
  unfold bindC;rw[XR fun w hw=>h w (zZ _ hw)];split
  . rfl
  . have:x≠n:=by rintro rfl;exact h v zS
    simp[this]
theorem U1 {kindOf:Str->Option NameKind}:∀{P:List Str}{vs:List Value}{i:Nat}{m:Bx},P.Nodup->P[i]?=some x->vs[i]?=some v->kindOf x=some .local ->
 bindL kindOf (P.zip vs) m x=some v
 | [],_,_,_,_,h,_,_=>by simp at h
 | _::_,[],_,_,_,_,h,_=>by simp at h
 | p::P,w::vs,0,m,nd,h1,h2,hk=>by simp at h1 h2;subst h1;subst h2;show bindL kindOf ((p,w)::P.zip vs) m p=_;unfold bindL;rw[WW fun v hv=>(F6.mp nd).1 (List.of_mem_zip hv).1,if_pos hk];simp
 | p::P,w::vs,i+1,m,nd,h1,h2,hk=>by show bindL kindOf ((p,w)::P.zip vs) m x=_;unfold bindL;exact U1 (i:=i) (F6.mp nd).2 (by simpa using h1) (by simpa using h2) hk
theorem V0 {kindOf:Str->Option NameKind}:∀{P:List Str}{vs:List Value}{i:Nat}{m:Bx},P.Nodup->P[i]?=some x->vs[i]?=some v->kindOf x≠some .local ->
 bindC kindOf (P.zip vs) m x=some v
 | [],_,_,_,_,h,_,_=>by simp at h
 | _::_,[],_,_,_,_,h,_=>by simp at h
 | p::P,w::vs,0,m,nd,h1,h2,hk=>by simp at h1 h2;subst h1;subst h2;show bindC kindOf ((p,w)::P.zip vs) m p=_;unfold bindC;rw[XR fun v hv=>(F6.mp nd).1 (List.of_mem_zip hv).1,if_neg hk];simp
 | p::P,w::vs,i+1,m,nd,h1,h2,hk=>by show bindC kindOf ((p,w)::P.zip vs) m x=_;unfold bindC;exact V0 (i:=i) (F6.mp nd).2 (by simpa using h1) (by simpa using h2) hk
noncomputable def start (N:List Str)(vs:List V):St:=vs.map some++List.replicate (N.length-vs.length) none
noncomputable def Cv (CX:IP)(P:Program)(w:World)(K:AJ)(mg:Bx)(base:Heap)(N:List Str)(qual:Str)(scope:Scope)(f:Addr)(cd:Value)(A:Around)(outer:List Env)(s:Shared)(H:Hp)(E:XK):Cx where
 prog:=P
 w:=w
 K:=K
 mg:=mg
 base:=base
 A:=A.deeper (envOfC qual scope s.heap.objs.size f cd)
 N:=N
 s₀:=s
 H₀:=H
 env:=envOfC qual scope s.heap.objs.size f cd
 outer:=outer
 stack:=envOfC qual scope s.heap.objs.size f cd::outer
 ex:=[]
 calm:=true
 fn:=fun _=>true
 pn:=[]
 xe:=fun e s'=>wpAny (model P w) (A.deeper (envOfC qual scope s.heap.objs.size f cd)) (leaving (envOfC qual scope s.heap.objs.size f cd) e) (fun _ s''=>CX outer H s E e s'') (fun e' s''=>CX outer H s E e' s'') s'
theorem VG {sc:Scope}(h:sc.names.lookup x=some .cell):∃c,(cellsFrom n sc.names []).lookup x=some c:=by have q:=PySem.W.cellsFrom_some sc.names n [] (.inl h);exact Lv.mp q
theorem Ye {K:AJ}
 (S:AX N ps scope)(hd:A.handled=none)(e0:JA P w K mg base A outer s H)(hl:vs.length=ps.length)(r:AK vs us)
 (x:InCallC s s.heap.objs.size (bindL (envOfC qual scope s.heap.objs.size f cd).kindOf (ps.zip us) fun _=>none) (cellsFrom (s.heap.objs.size+1) scope.names []) (bindC (envOfC qual scope s.heap.objs.size f cd).kindOf (ps.zip us) fun _=>none) s1):
 AB (Cv CX P w K mg base N qual scope f cd A outer s H E) [] (start N vs) H s1:=by
 have gg:ps.length<=N.length:=by have:=congrArg List.length S.pre;rw[zd] at this;lia
 obtain⟨h1,tk,rfl,hk⟩:=x.done;have noA:∀b:Addr,b∉(Cv CX P w K mg base N qual scope f cd A outer s H E).ex:=fun b z=>absurd (show b∈([]:List Addr) from z) (by simp);refine⟨⟨e0.mod,S.kind,rfl,rfl,zJ _,fun y z c h1 h2=>?_,fun y hy=>?_,fun y c _ h=>?_,fun _=>hd,Around.frames_deeper e0.frames,.inr ⟨rfl,rfl⟩,fun b z=>absurd z (noA b),e0.bs,e0.bsz,fun b _ _=>noA b,fun b z=>absurd z (noA b),e0.funs,e0.frf⟩,
  rfl,e0.bare,Un.kept hk,⟨_,x.toInCall.ns,fun i y v h1 h2 h3=>?_⟩,fun y c h=>⟨_,x.cell y c h⟩,e0.hok.fresh (zJ _),fun y c h=>?_,fun p hp=>absurd (show p∈([]:Bm) from hp) (by simp),e0.hok.kept hk,?_⟩
 . exact name_of_addr x.apart (PySem.mem_of_lookup h1) (PySem.mem_of_lookup h2)
 . have hy:scope.names.lookup y=some .cell\/scope.names.lookup y=some .free:=hy;rcases hy with hy | hy
   . exact VG hy
   . exact absurd rfl (S.nofree _ (PySem.mem_of_lookup hy))
 . exact DG (x.above y c (PySem.mem_of_lookup h))
 . have hi:i<vs.length:=by
    unfold start at h2;by_cases hi:i<vs.length
    . exact hi
    . rw[zX (by simpa using hi)] at h2;rw[Lh] at h2;split at h2 <;> cases h2
   have ha:vs[i]?=some v:=by
    unfold start at h2;rw[zb (by simpa using hi),zO] at h2;cases e:vs[i]? with
    | none=>rw[e] at h2;cases h2
    | some a=>rw[e] at h2;cases h2;rfl
   obtain⟨u,hu,rv⟩:=r.get ha;have hp:ps[i]?=some y:=by rw[<-S.pre,List.getElem?_take_of_lt (by lia)];exact h1
   have ndP:ps.Nodup:=by rw[<-S.pre];exact S.nd.sublist (List.take_sublist _ _)
   refine⟨u,rv,?_⟩;rcases S.par y (zV hp) with k | k
   . exact .inl ⟨k,U1 ndP hp hu k⟩
   . obtain⟨c,e⟩:=VG (n:=s.heap.objs.size+1) k;refine .inr ⟨.inl k,c,e,?_⟩;have q:=x.cell y c e;rw[V0 ndP hp hu (by show scope.names.lookup y≠_;rw[k];decide)] at q;exact q
 . exact e0.hok.fresh (DG (x.above y c (PySem.mem_of_lookup h)))
 . unfold start;show _=N.length;rw[zM,zD,DB]
   lia
theorem Hh {CX:IP}{P:Program}{w:World}{K:AJ}{mg:Bx}{base:Heap}{k:Nat}{f:Addr}{name qual:Str}{params:Arguments}{body:List Stmt}{scope:Scope}{dV kV doc pm dy ct oc:Value}{an od:Option Addr}
 {osl:Array (Option Value)}{N ps:List Str}{sp:Sp}(lk:K.lookup f=some ⟨oc,od,.func (PySem.W.fnOf name qual params body scope dV kV doc pm an dy ct),osl⟩)(gp:PySem.W.codeIn K dy qual=true)(S:AX N ps scope)
 (len:∀vs H Q E,sp vs H Q E->vs.length=ps.length)
 (eL:∀A outer s H vs Q E,A0 k (A.deeper (envOfC qual scope s.heap.objs.size f dy))->sp vs H Q E ->
  ∃t,BU (Cv CX P w K mg base N qual scope f dy A outer s H E) body t/\t { nx:=fun _ H'=>Q .non H',rt:=Q } (start N vs) H):
 AL P w K mg base CX (k+1) f (PySem.W.fnOf name qual params body scope dV kV doc pm an dy ct) ps sp:=by
 refine⟨len,fun A outer s H args us vs Q E hr e0 hb r fv=>?_⟩;have hl:=len _ _ _ _ fv;have KX:K.In s.heap:=e0.mod.kin.keeps fun b o e=>(e0.bs b o e).1;have lim:s.heap.NoLimit:=e0.mod.nolimit.keeps fun b o e=>(e0.bs b o e).1;have hkind:∀y∈ps.zip us,scope.names.lookup y.1=some .local\/(scope.names.lookup y.1=some .cell/\((cellsFrom (s.heap.objs.size+1) scope.names []).lookup y.1).isSome=true):=fun ⟨n,v⟩ hy=>by
  rcases S.par n (List.of_mem_zip hy).1 with q | q
  . exact .inl q
  . exact .inr ⟨q,PySem.W.cellsFrom_some _ _ _ (.inl q)⟩
 refine codeAny_call_function hr.depth (KX _ _ lk) rfl S.co S.gen rfl (PySem.W.codeRec_of KX gp) (hb _ _ _ _ ?_);refine wpAny_newFunctionEnv_cells S.kind hkind fun env he s1 x=>?_;subst he;refine⟨lim.keeps x.toInCall.keep,codeAny_func ?_⟩;obtain⟨t,ht,hq⟩:=eL A outer s H vs Q E (hr.deeper _) fv;have I:AB (Cv CX P w K mg base N qual scope f dy A outer s H E) [] (start N vs) H s1:=Ye S hr.hd e0 hl r x;refine A8 (ht [] s1 (start N vs) H _ I hq) (fun fl s' hs=>?_) fun e s' hs=>hs;have fin:∀{σ':St}{H':Hp}{v:V}{u:Value},AB (Cv CX P w K mg base N qual scope f dy A outer s H E) [] σ' H' s'->AQ v u->Q v H'->CE outer P w H s Q u s':=
  fun {σ' H' v u} J rv q=>⟨v,H',J.os,J.bare,J.base,J.hok,rv,q⟩
 cases fl with
 | ret u=>obtain⟨v,σ',H',J,rv,q⟩:=hs;exact fin J rv q
 | next=>obtain⟨σ',H',J,q⟩:=hs;exact fin (v:=V.non) (u:=Value.none) J rfl q
 | brk=>obtain⟨_,_,_,q⟩:=hs;exact False.elim q
 | cont=>obtain⟨_,_,_,q⟩:=hs;exact False.elim q
section
variable {X:Cx}{x:Str}{p pos:Pos}{e:Expr}{es:List Expr}{t:TA}{id T:String}{r:List V->Hp->VK->Prop}
def Xr (r:List V->Hp->VK->Prop)(t:TA):TE:=fun σ H Q=>t σ H fun vs H1=>r vs H1 Q
theorem Ar (hc:B3 X (.builtin id) r)(hm:X.mg x=none)(ha:PA X (e::es) t)(hg:Gl X x:=by rfl)(hv:bootBuiltins x=some (.builtin id):=by decide +kernel)(hn:x ≠ "__name__" := by decide) (gk:(x==("__debug__" : Str))=false:=by decide)
 (he:starEach (e::es) X.env=(false,eval e X.env)::starEach es X.env:=by rfl)(gg:(backTo pos (starEach es X.env)).any (·.1)=false:=by rfl):PE X (.Call (.Name x p) (e::es) [] pos) (Xr r t):=by
 intro pins s σ H Q I h;refine Gb (EJ I hg hm hv ?_ hn gk);exact PyProof.Rows.callWith_builtin1 (AI (ha pos pins s σ H _ I h) fun us s1 ⟨vs,H1,I1,r1,q1⟩=>hc pins s1 σ H1 vs us Q I1 r1 q1) he gg
theorem DH (hc:B3 X (.type T) r)(hm:X.mg x=none)(ha:PA X (e::es) t)(hg:Gl X x:=by rfl)(hv:bootBuiltins x=some (.type T):=by decide +kernel)(hn:x ≠ "__name__" := by decide) (gk:(x==("__debug__" : Str))=false:=by decide)
 (he:starEach (e::es) X.env=(false,eval e X.env)::starEach es X.env:=by rfl)(gg:(backTo pos (starEach es X.env)).any (·.1)=false:=by rfl):PE X (.Call (.Name x p) (e::es) [] pos) (Xr r t):=by
 intro pins s σ H Q I h;refine Gb (EJ I hg hm hv ?_ hn gk);exact PyProof.Rows.callWith_type1 (AI (ha pos pins s σ H _ I h) fun us s1 ⟨vs,H1,I1,r1,q1⟩=>hc pins s1 σ H1 vs us Q I1 r1 q1) he gg
end
section
variable {κ:Type} [DecidableEq κ]
noncomputable def Af (dQ:List (κ×V))(k:κ):Option V:=(dQ.find? fun kv=>decide (kv.1=k)).map (·.2)
noncomputable def BC (dQ:List (κ×V))(k:κ)(v:V):List (κ×V):=
 if (dQ.any fun kv=>decide (kv.1=k))=true then dQ.map (fun kv=>if kv.1=k then (kv.1,v) else kv) else dQ++[(k,v)]
theorem Vl :Af ([]:List (κ×V)) k=none:=rfl
theorem Ek {k:κ}(e:p.1=k):Af (p::r) k=some p.2:=by simp[Af,HV,e]
theorem Ea {k:κ}(e:¬ p.1=k):Af (p::r) k=Af r k:=by simp[Af,HV,e]
theorem HA (k:κ):∀dQ:List (κ×V),(dQ.any fun kv=>decide (kv.1=k))=(Af dQ k).isSome
 | []=>rfl
 | p::r=>by
  rw[List.any_cons];by_cases e:p.1=k
  . simp only[Ek e,zP e,Bool.true_or,Option.isSome_some]
  . rw[Ea e,zR e,Bool.false_or];exact HA k r
theorem Va (k j:κ)(y):∀dQ:List (κ×V),Af (dQ.map fun kv=>if kv.1=k then (kv.1,y) else kv) j=(Af dQ j).map fun x=>if j=k then y else x
 | []=>rfl
 | p::r=>by
  have ih:=Va k j y r;rw[BX];by_cases h:p.1=k
  . rw[if_pos h];by_cases e:p.1=j
    . rw[Ek (p:=(p.1,y)) e,Ek e,Dt,if_pos (e.symm.trans h)]
    . rw[Ea (p:=(p.1,y)) e,Ea e,ih]
  . rw[if_neg h];by_cases e:p.1=j
    . rw[Ek (p:=p) e,Ek e,Dt,if_neg (fun z=>h (e.trans z))]
    . rw[Ea (p:=p) e,Ea e,ih]
theorem XQ (k j:κ)(y):∀dQ:List (κ×V),Af dQ k=none->Af (dQ++[(k,y)]) j=if j=k then some y else Af dQ j
 | [],_=>by
  by_cases e:k=j
  . rw[if_pos e.symm];exact Ek (p:=(k,y)) e
  . rw[if_neg (fun z=>e z.symm)];exact Ea (p:=(k,y)) e
 | p::r,hn=>by
  rw[List.cons_append];have hk:¬ p.1=k:=fun z=>by rw[Ek z] at hn;cases hn
  rw[Ea hk] at hn;have ih:=XQ k j y r hn;by_cases e:p.1=j
  . rw[Ek e,Ek e,if_neg (fun z=>hk (e.trans z))]
  . rw[Ea e,Ea e,ih]
theorem UF (dQ)(k j:κ)(y):Af (BC dQ k y) j=if j=k then some y else Af dQ j:=by
 unfold BC;by_cases a:(dQ.any fun kv=>decide (kv.1=k))=true
 . rw[if_pos a,Va];rw[HA] at a;by_cases e:j=k
   . obtain⟨x,hx⟩:=Lv.mp a;rw[if_pos e,e,hx,Dt,if_pos rfl]
   . rw[if_neg e];cases Af dQ j with
     | none=>rfl
     | some x=>rw[Dt,if_neg e]
 . rw[if_neg a];refine XQ k j y dQ ?_;rw[HA] at a;cases q:Af dQ k with
   | none=>rfl
   | some x=>rw[q] at a;exact (a rfl).elim
theorem JQ (dQ)(k:κ)(v):(BC dQ k v).length<=dQ.length+1:=by
 unfold BC;split
 . rw[zD];lia
 . rw[zM,zo,List.length_nil];lia
theorem UJ {k:κ}(v)(h:Af dQ k=none):BC dQ k v=dQ++[(k,v)]:=by unfold BC;rw[HA,h];exact if_neg (by decide)
theorem CL.isSome_eq (r:CL o u):o.isSome=u.isSome:=by
 cases o with
 | none=>cases u with
  | none=>rfl
  | some _=>exact (show False from r).elim
 | some _=>cases u with
  | none=>exact (show False from r).elim
  | some _=>rfl
theorem CL.getD (r:CL o u)(rd:AQ d d'):AQ (o.getD d) (u.getD d'):=by
 cases o with
 | none=>cases u with
  | none=>exact rd
  | some _=>exact (show False from r).elim
 | some _=>cases u with
  | none=>exact (show False from r).elim
  | some _=>exact r
theorem KV.val (r:KV dQ vs)(k:κ):CL (Af dQ k) (valueAt vs k):=by
 unfold KV at r
 induction r with
 | nil=>exact True.intro
 | @cons p q ps qs h t ih=>
  obtain⟨h1,h2⟩:=h;by_cases e:p.1=k
  . have e':q.1=k:=h1.symm.trans e;have b:valueAt (q::qs) k=some q.2:=by simp[valueAt,HV,e']
    rw[Ek e,b];exact h2
  . have e':¬ q.1=k:=fun z=>e (h1.trans z);have b:valueAt (q::qs) k=valueAt qs k:=by simp[valueAt,HV,e']
    rw[Ea e,b];exact ih
theorem KV.any (r:KV dQ vs)(k:κ):(dQ.any fun kv=>decide (kv.1=k))=vs.any fun kv=>decide (kv.1=k):=by
 unfold KV at r
 induction r with
 | nil=>rfl
 | cons h t ih=>rw[List.any_cons,List.any_cons,ih,h.1]
theorem KV.repl (r:KV dQ vs)(k:κ)(ry:AQ y u):
 KV (dQ.map fun kv=>if kv.1=k then (kv.1,y) else kv) (vs.map fun kv=>if kv.1=k then (kv.1,u) else kv):=by
 unfold KV at r ⊢
 induction r with
 | nil=>exact .nil
 | @cons p q ps qs h t ih=>
  rw[BX,BX];refine .cons ?_ ih;obtain⟨h1,h2⟩:=h;by_cases e:p.1=k
  . rw[if_pos e,if_pos (h1.symm.trans e)];exact⟨h1,ry⟩
  . rw[if_neg e,if_neg (fun z=>e (h1.trans z))];exact⟨h1,h2⟩
theorem KV.put (r:KV dQ vs)(k:κ)(ry:AQ y u):KV (BC dQ k y) (stored vs k u):=by
 unfold BC stored;rw[r.any k];by_cases e:(vs.any fun kv=>decide (kv.1=k))=true
 . rw[if_pos e,if_pos e];exact r.repl k ry
 . rw[if_neg e,if_neg e];exact Paired.snoc r ⟨rfl,ry⟩
theorem KV.length {vs:List (κ×Value)}(r:KV dQ vs):dQ.length=vs.length:=Paired.length r
end
theorem JL (r:AQ (kV k) u):(BE P w).is k u=true:=by
 cases k with
 | inl i=>obtain⟨t,e⟩:=(show ∃t,u=Value.int i t from r);subst e;exact Z7 P w i t
 | inr x=>obtain⟨t,e⟩:=(show ∃t,u=Value.str x t from r);subst e;exact Zl P w x t
theorem Vh :∀{ks:List AR}{us:List Value},AK (ks.map kV) us->ItemsAre (BE P w) ks us
 | [],_,r=>by rw[List.map_nil] at r;cases r;exact .nil
 | k::ks,_,r=>by
  rw[BX] at r;cases r with
  | cons h t=>exact .cons (JL h) (Vh t)
abbrev KT (H:Hp):List (List AR×V)->List (List AR×Addr×Value)->Prop:=Paired fun p q=>p.1=q.1/\H q.2.1=some (.tup (p.1.map kV))/\AQ p.2 q.2.2
theorem KT.val (r:KT H dQ xs)(k):CL (Af dQ k) ((atKey xs k).map (·.2)):=by
 induction r with
 | nil=>exact True.intro
 | @cons p q ps qs h t ih=>
  obtain⟨h1,_,h2⟩:=h;by_cases e:p.1=k
  . have e':q.1=k:=h1.symm.trans e;have b:atKey (q::qs) k=some q.2:=by simp[atKey,HV,e']
    rw[Ek e,b];exact h2
  . have e':¬ q.1=k:=fun z=>e (h1.trans z);have b:atKey (q::qs) k=atKey qs k:=by simp[atKey,HV,e']
    rw[Ea e,b];exact ih
theorem KT.repl (r:KT H dQ xs)(k)(ry:AQ y u):
 KT H (dQ.map fun kv=>if kv.1=k then (kv.1,y) else kv) (xs.map (putAt k u)):=by
 induction r with
 | nil=>exact .nil
 | @cons p q ps qs h t ih=>
  rw[BX,BX];refine .cons ?_ ih;obtain⟨h1,h2,h3⟩:=h;unfold putAt;by_cases e:p.1=k
  . rw[if_pos e,if_pos (h1.symm.trans e)];exact⟨h1,h2,ry⟩
  . rw[if_neg e,if_neg (fun z=>e (h1.trans z))];exact⟨h1,h2,h3⟩
theorem KT.put (r:KT H dQ xs)(k)(hb:H b=some (.tup (k.map kV)))(ry:AQ y u):
 KT H (BC dQ k y) (storedH xs k b u):=by
 have e:(dQ.any fun kv=>decide (kv.1=k))=(atKey xs k).isSome:=by rw[HA,(r.val k).isSome_eq,Option.isSome_map]
 unfold BC storedH;rw[e];by_cases q:(atKey xs k).isSome=true
 . rw[if_pos q,if_pos q];exact r.repl k ry
 . rw[if_neg q,if_neg q];exact Paired.snoc r ⟨rfl,hb,ry⟩
theorem KT.keeps (r:KT H dQ xs)(ht:∀b ys,H b=some (.tup ys)->H' b=some (.tup ys)):KT H' dQ xs:=
 Paired.mapP r fun _ _ z=>⟨z.1,ht _ _ z.2.1,z.2.2⟩
theorem IE (ok:Ap P w H h)(e:Rd H a u):Av P w H h a u:=e.ok ok
theorem JO (ok:Ap P w H h)(e:Rd H a (.dK dQ)):dQ.length<=sizeLine/\(a==sysModules)=false/\∃vs,KV dQ vs/\h.DictOf (BE P w) a vs:=
 show Av P w H h a (.dK dQ) from IE ok e
theorem Nx (ok:Ap P w H h)(e:H a=some (.dK dQ)):dQ.length<=sizeLine/\(a==sysModules)=false/\∃vs,KV dQ vs/\h.DictOf (BE P w) a vs:=JO ok (.inl e)
theorem Lk (ok:Ap P w H h)(e:H a=some (.tup (ks.map kV))):(tupleKind (BE P w)).is h ks a:=by obtain⟨_,its,r,o,h1,h2,n,h3⟩:=(show Av P w H h a (.tup (ks.map kV)) from ok a _ e);exact⟨o,its.toArray,n,h1,h2,h3,by simpa using Vh r⟩
theorem JS (ok:Ap P w H h)(e:Rd H a (.dT dQ)):dQ.length<=sizeLine/\(a==sysModules)=false /\
 ∃xs,KT H dQ xs/\h.DictOfH (tupleKind (BE P w)) a xs:=by
 obtain⟨z,y,xs,r,o,es,ep,h1,h2,h3,h4,h5⟩:=(show Av P w H h a (.dT dQ) from IE ok e);refine⟨z,y,xs,r,o,es,ep,h1,h2,h3,h4,fun x hx=>?_,h5⟩;have all:∀{l:List (List AR×V)}{m:List (List AR×Addr×Value)},KT H l m->∀x∈m,(tupleKind (BE P w)).is h x.1 x.2.1:=by
  intro l m q
  induction q with
  | nil=>intro x hx;exact nomatch hx
  | @cons p q ps qs hq t ih=>
   intro x hx;rcases zT.mp hx with e | hx
   . subst e;exact Lk ok (by rw[<-hq.1];exact hq.2.1)
   . exact ih x hx
 exact all r x hx
theorem N8 (ok:Ap P w H h)(e:H a=some (.dT dQ)):dQ.length<=sizeLine/\(a==sysModules)=false /\
 ∃xs,KT H dQ xs/\h.DictOfH (tupleKind (BE P w)) a xs:=JS ok (.inl e)
def BG (H:Hp)(a:Addr)(y:V)(r:Option V):Prop:=
 (∃dQ k,Rd H a (.dK dQ)/\y=kV k/\r=Af dQ k)\/∃dQ k b,Rd H a (.dT dQ)/\y=.ref b/\H b=some (.tup (k.map kV))/\r=Af dQ k
def HJ (H:Hp)(a:Addr)(y v:V)(H':Hp):Prop:=
 (∃dQ k,H a=some (.dK dQ)/\y=kV k/\dQ.length<sizeLine/\H'=upd H a (.dK (BC dQ k v))) \/
 ∃dQ k b,H a=some (.dT dQ)/\y=.ref b/\H b=some (.tup (k.map kV))/\dQ.length<sizeLine/\H'=upd H a (.dT (BC dQ k v))
theorem BG.k {k:AR}(e:H a=some (.dK dQ)):BG H a (kV k) (Af dQ k):=.inl ⟨dQ,k,.inl e,rfl,rfl⟩
theorem BG.t {k:List AR}(e:H a=some (.dT dQ))(eb:H b=some (.tup (k.map kV))):BG H a (.ref b) (Af dQ k):=.inr ⟨dQ,k,b,.inl e,rfl,eb,rfl⟩
theorem HJ.t (e:H a=some (.dT dQ))(eb:H b=some (.tup (k.map kV)))(hl:dQ.length<sizeLine):
 HJ H a (.ref b) v (upd H a (.dT (BC dQ k v))):=.inr ⟨dQ,k,b,e,rfl,eb,hl,rfl⟩
theorem AB.big (I:AB X pins σ H s):sysModules<s.heap.objs.size:=by have h:mainGlobals<s.heap.objs.size:=(I.mod.glob.keeps I.bk).lt;exact Nat.lt_trans (by decide) h
theorem cD (hu:A.units+1<cLine)(I:AB X pins σ H s)(g:BG H a y (some v))(ry:AQ y u)(h:∀w' s',AB X pins σ H s'->AQ v w'->Q w' s'):
 wpAny (model X.prog X.w) A (getItem (.ref a) u) Q E s:=by
 rcases g with ⟨dQ,k,e,ey,l⟩ | ⟨dQ,k,b,e,ey,eb,l⟩
 . subst ey;obtain⟨z,hd,vs,rel,dd⟩:=JO I.hok e;obtain⟨w',hw,gW⟩:=CL.some_of (v:=v) (o:=valueAt vs k) (by rw[l];exact rel.val k);exact wpAny_getItem_of (JL ry) dd.mapOf hw (h w' _ (I.tok _) gW)
 . subst ey;cases (show u=Value.ref b from ry);obtain⟨z,hd,xs,rel,dd⟩:=JS I.hok e;obtain⟨w',hw,gW⟩:=CL.some_of (v:=v) (o:=(atKey xs k).map (·.2)) (by rw[l];exact rel.val k);obtain⟨p,hp,eT⟩:=Option.map_eq_some_iff.mp hw;refine wpAny_getItem_heap (tupleKind_room_in1 hu) (Lk I.hok eb) dd hp ?_;rw[eT];exact h w' _ (I.tok _) gW
theorem Sj (hu:A.units+1<cLine)(I:AB X pins σ H s)(g:BG H a y o)(ry:AQ y u)(h:∀s',AB X pins σ H s'->Q (.bool o.isSome) s'):
 wpAny (model X.prog X.w) A (compareOp .In u (.ref a)) Q E s:=by
 rcases g with ⟨dQ,k,e,ey,l⟩ | ⟨dQ,k,b,e,ey,eb,l⟩
 . subst ey;obtain⟨z,hd,vs,rel,dd⟩:=JO I.hok e;refine wpAny_in_of (JL ry) hd dd.mapOf ?_;rw[<-(rel.val k).isSome_eq,<-l];exact h _ (I.tok _)
 . subst ey;cases (show u=Value.ref b from ry);obtain⟨z,hd,xs,rel,dd⟩:=JS I.hok e;refine wpAny_in_heap (tupleKind_room_in1 hu) (Lk I.hok eb) hd dd ?_;have q:=(rel.val k).isSome_eq;rw[Option.isSome_map] at q;rw[<-q,<-l];exact h _ (I.tok _)
theorem b7 (hu:A.units+1<cLine)(I:AB X pins σ H s)(g:BG H a y o)(ry:AQ y u)(h:∀s',AB X pins σ H s'->Q (.bool (!o.isSome)) s'):
 wpAny (model X.prog X.w) A (compareOp .NotIn u (.ref a)) Q E s:=by
 rcases g with ⟨dQ,k,e,ey,l⟩ | ⟨dQ,k,b,e,ey,eb,l⟩
 . subst ey;obtain⟨z,hd,vs,rel,dd⟩:=JO I.hok e;refine wpAny_notIn_of (JL ry) hd dd.mapOf ?_;rw[<-(rel.val k).isSome_eq,<-l];exact h _ (I.tok _)
 . subst ey;cases (show u=Value.ref b from ry);obtain⟨z,hd,xs,rel,dd⟩:=JS I.hok e;refine wpAny_notIn_heap (tupleKind_room_in1 hu) (Lk I.hok eb) hd dd ?_;have q:=(rel.val k).isSome_eq;rw[Option.isSome_map] at q;rw[<-q,<-l];exact h _ (I.tok _)
theorem Ue (I:AB X pins σ H s)(mu:IC (H a))(hs:Heap.SameBut a s.heap h')(he:∃q,h'.get? a=some q)(new:Av X.prog X.w (upd H a ob) h' a ob):
 AB X pins σ (upd H a ob) { s with heap:=h',toks:=t' }:=
 I.write (x:=a) (e:=a) mu (.inl rfl) (fun b q hb z=>(hs.2 b hb).trans z) he new
theorem Wc (z:dQ.length<=sizeLine)(hd:(a==sysModules)=false)(rel:KV dQ vs)(dd:h'.DictOf (BE P w) a vs):
 Av P w H' h' a (.dK dQ):=⟨z,hd,vs,rel,dd⟩
theorem Y6 (hu:A.units+1<cLine)(I:AB X pins σ H s)(g:HJ H a y v H')(ry:AQ y u)(rv:AQ v r)(h:∀s',AB X pins σ H' s'->Q () s'):
 wpAny (model X.prog X.w) A (setItem (.ref a) u r) Q E s:=by
 rcases g with ⟨dQ,k,e,ey,l,eH⟩ | ⟨dQ,k,b,e,ey,eb,l,eH⟩
 . subst ey eH;obtain⟨z,hd,vs,rel,dd⟩:=Nx I.hok e;have hz:vs.length<=sizeLine:=by rw[<-rel.length];exact z
   have hl:(BC dQ k v).length<=sizeLine:=by have:=JQ dQ k v;lia
   refine wpAny_setItem_pairs (hsz:=hz) (JL ry) dd fun h' dd' hs=>h _ ?_;have he:∃q,h'.get? a=some q:=let ⟨q,_,_,hq,_⟩:=dd';⟨q,hq⟩;exact Ue I (by rw[e];exact True.intro) hs he (Wc hl hd (rel.put k rv) dd')
 . subst ey eH;cases (show u=Value.ref b from ry);obtain⟨z,hd,xs,rel,dd⟩:=N8 I.hok e;have hz:xs.length<=sizeLine:=by rw[<-Paired.length rel];exact z
   have hl:(BC dQ k v).length<=sizeLine:=by have:=JQ dQ k v;lia
   refine wpAny_setItem_heap (hsz:=hz) (tupleKind_room_in1 hu) (Lk I.hok eb) dd fun h' dd' hs=>h _ ?_;obtain⟨q,es,ep,hq,h2,h3,h4,_,h5⟩:=dd';refine Ue I (by rw[e];exact True.intro) hs ⟨q,hq⟩ ⟨hl,hd,_,(rel.put k eb rv).keeps fun c ys ec=>?_,q,es,ep,hq,h2,h3,h4,h5⟩;rw[zk (Bn ec e (fun z=>nomatch z))];exact ec
def N0 (i:Expr):Prop:=∀ov iv,subscripted i false ov iv=operate [ov,iv] (getItem ov iv)
theorem Yz {id:String}
 (hl:typeLookup (.type T) "__getitem__"=pure (some (.builtin id))) (hs:N0 slice)
 (h:wpAny (model prog w) A (eval value env) (fun o s₁=>wpAny (model prog w) A (eval slice env) (fun i s₂=>s₂.TypeIs o T/\wpAny (model prog w) A (getItem o i) Q E s₂) E s₁) E s):
 wpAny (model prog w) A (eval (.Subscript value slice pos) env) Q E s:=by
 refine Subscript_ (A8 h (fun o s₁ h₁=>A8 h₁ (fun i s₂ h₂=>?_) fun _ _ x=>x) fun _ _ x=>x);obtain⟨hT,h₂⟩:=h₂;unfold subscriptTail;refine zA ?_;rw[getitemInPython_of_ne hT.not_modules];refine zA (wpAny_specialOf hT hl ?_);have fin:wpAny (model prog w) A (subscripted slice false o i) (fun r s₃=>wpAny (model prog w) A (letTemporaryGo value o r >>= fun _=>pure r) Q E s₃) E s₂:=by rw[hs o i];exact wpAny_operating (A8 h₂ (fun r s₃ h₃=>zA (wpAny_letTemporaryGo (zC h₃))) fun _ _ x=>x)
 first
  | exact zC (zA fin)
  | exact zA (zC (zA fin))
  | exact zA fin
theorem Zv (I:AB X pins σ H s)(g:BG H a y o):s.TypeIs (.ref a) "dict" := by
 rcases g with ⟨dQ,k,e,_,_⟩ | ⟨dQ,k,b,e,_,_,_⟩
 . obtain⟨_,_,vs,_,dd⟩:=JO I.hok e;exact dd.typeIs
 . obtain⟨_,_,xs,_,dd⟩:=JS I.hok e;exact dd.typeIs
def PF (td ty:TE):TE:=fun σ H Q=>td σ H fun x H1=>ty σ H1 fun y H2=>∃a v,x=.ref a/\BG H2 a y (some v)/\Q v H2
def Th (ty td:TE):TE:=fun σ H Q=>ty σ H fun y H1=>td σ H1 fun x H2=>∃a o,x=.ref a/\BG H2 a y o/\Q (.bl o.isSome) H2
def bC (ty td:TE):TE:=fun σ H Q=>ty σ H fun y H1=>td σ H1 fun x H2=>∃a o,x=.ref a/\BG H2 a y o/\Q (.bl (!o.isSome)) H2
def Og (td ty tv:TE):TS:=fun D σ H=>tv σ H fun v H1=>td σ H1 fun x H2=>ty σ H2 fun y H3=>∃a H4,x=.ref a/\HJ H3 a y v H4/\D.nx σ H4
theorem JE (hu:X.A.units+1<cLine)(ho:PE X o td)(hi:PE X i ty)(hs:N0 i):PE X (.Subscript o i pos) (PF td ty):=by intro pins s σ H Q I h;refine Yz PySem.F.slot_dict_getitem.lookup hs (AI (ho pins s σ H _ I h) fun u s1 ⟨x,H1,I1,rx,q1⟩=>AI (hi pins s1 σ H1 _ I1 q1) fun iv s2 ⟨y,H2,I2,ry,a,v,ex,g,q2⟩=>?_);subst ex;obtain rfl:u=Value.ref a:=rx;exact⟨Zv I2 g,cD hu I2 g ry fun w' s3 I3 gW=>⟨v,H2,I3,gW,q2⟩⟩
theorem Pj (hu:X.A.units+1<cLine)(hi:PE X i ty)(ho:PE X o td):PC X .In i o (Th ty td):=by intro pins s σ H Q I h;refine AI (hi pins s σ H _ I h) fun iv s1 ⟨y,H1,I1,ry,q1⟩=>AI (ho pins s1 σ H1 _ I1 q1) fun u s2 ⟨x,H2,I2,rx,a,ov,ex,g,q2⟩=>?_;subst ex;obtain rfl:u=Value.ref a:=rx;exact Sj hu I2 g ry fun s3 I3=>⟨.bl ov.isSome,H2,I3,rfl,q2⟩
theorem Wp (hu:X.A.units+1<cLine)(hi:PE X i ty)(ho:PE X o td):PC X .NotIn i o (bC ty td):=by intro pins s σ H Q I h;refine AI (hi pins s σ H _ I h) fun iv s1 ⟨y,H1,I1,ry,q1⟩=>AI (ho pins s1 σ H1 _ I1 q1) fun u s2 ⟨x,H2,I2,rx,a,ov,ex,g,q2⟩=>?_;subst ex;obtain rfl:u=Value.ref a:=rx;exact b7 hu I2 g ry fun s3 I3=>⟨.bl (!ov.isSome),H2,I3,rfl,q2⟩
theorem QL (hu:X.A.units+1<cLine)(ho:PE X o td)(hi:PE X i ty)(hv:PE X value tv)(hs:swapsWith value (some (.Subscript o i pos')) pos.line X.env=pure false):
 PS X (.Assign [.Subscript o i pos'] value pos) (Og td ty tv):=by
 intro pins s σ H D I h;refine wpAny_Assign_Subscript (AI (hv pins s σ H _ I h) fun r s1 ⟨v,H1,I1,rv,q1⟩=>AI (ho pins s1 σ H1 _ I1 q1) fun u s2 ⟨x,H2,I2,rx,q2⟩=>AI (hi pins s2 σ H2 _ I2 q2) fun iv s3 ⟨y,H3,I3,ry,a,H4,ex,g,q3⟩=>?_) hs;subst ex;obtain rfl:u=Value.ref a:=rx;exact Y6 hu I3 g ry rv fun s4 I4=>⟨σ,H4,I4,q3⟩
theorem cO (h:Heap)(hb:sysModules<h.objs.size):Av P w H (h.push { cls:=.type "dict",data:=.dict #[] }) h.objs.size (.dT []):=
 ⟨zg _,beq_eq_false_iff_ne.mpr (Ne.symm (zc hb)),[],.nil,_,#[],0,zN _ rfl,⟨rfl,rfl,rfl⟩,rfl,rfl,List.nodup_nil⟩
def K4:TE:=fun _ H Q=>∀p,H p=none->Q (.ref p) (upd H p (.dT []))
theorem WY:PE X (.Dict [] [] pos) K4:=fun pins s σ H Q I h=>
 wpAny_Dict_empty ⟨.ref s.heap.objs.size,_,I.laid (a:=s.heap.objs.size) (o:=.dT []) (t':=s.toks) (fun _ _ q=>zG _ q) (zJ _) (cO s.heap I.big),rfl,h _ (I.hok.fresh (zJ _))⟩
structure M1 (X:Cx)(o:Expr)(m:Str)(apos:Pos)(e:Expr)(df:Pos):Prop where
 base:attributeBase o m X.env (eval o X.env)=eval o X.env
 few:((backTo df (starEach [e] X.env)).all (fun x=>!x.1) && (backToKw df (keywordEach [] X.env)).all (fun x=>x.1.isSome)
  && decide (([e]:List Expr).length+([]:List Keyword).length+(if ([]:List Keyword).isEmpty then 0 else 1)<30))=true
 line:(apos.endLine==df.line)=true
 trees:backTo df (starEach [e] X.env)=[(false,eval e X.env)]
def IsD (H:Hp)(a:Addr):Prop:=(∃dQ,Rd H a (.dK dQ))\/∃dQ,Rd H a (.dT dQ)
theorem LS (I:AB X pins σ H s)(d:IsD H a):
 s.TypeIs (.ref a) "dict"/\(∀b,Value.ref a=.ref b->∃ob,s.heap.get? b=some ob/\ob.dict=none)/\(a==sysModules)=false:=by
 rcases d with ⟨dQ,e⟩ | ⟨dQ,e⟩
 . obtain⟨_,hd,vs,_,dd⟩:=JO I.hok e;refine⟨dd.typeIs,fun b q=>?_,hd⟩;cases q;obtain⟨ob,_,_,h1,h2,_⟩:=dd;exact⟨ob,h1,h2.2.1⟩
 . obtain⟨_,hd,xs,_,dd⟩:=JS I.hok e;refine⟨dd.typeIs,fun b q=>?_,hd⟩;cases q;obtain⟨ob,_,_,h1,h2,_⟩:=dd;exact⟨ob,h1,h2.2.1⟩
theorem Jb (hu:A.units+1<cLine)(I:AB X pins σ H s)(g:BG H a y o)(ry:AQ y u)(h:∀w' s',AB X pins σ H s'->AQ (o.getD .non) w'->Q w' s'):
 wpAny (model X.prog X.w) A (call (.builtin "dict.get") [.ref a,u]) Q E s:=by
 rcases g with ⟨dQ,k,e,ey,l⟩ | ⟨dQ,k,b,e,ey,eb,l⟩
 . subst ey;obtain⟨z,hd,vs,rel,dd⟩:=JO I.hok e;refine call_meetsIn PySem.F.slot_dict_get dd.typeIs PySem.F.entry_dict_get (PySem.F.args_dict_get_2 _ _) (meets_dict_get (BE X.prog X.w) a (JL ry) hd) ⟨_,dd.mapOf,h _ _ (I.tok _) ?_⟩;rw[l];exact (rel.val k).getD rfl
 . subst ey;cases (show u=Value.ref b from ry);obtain⟨z,hd,xs,rel,dd⟩:=JS I.hok e;refine call_meetsIn PySem.F.slot_dict_get dd.typeIs PySem.F.entry_dict_get (PySem.F.args_dict_get_2 _ _) (meetsH_dict_get (tupleKind (BE X.prog X.w)) a b hd) ⟨tupleKind_room_in1 hu,k,xs,Lk I.hok eb,dd,h _ _ (I.tok _) ?_⟩;rw[l];exact (rel.val k).getD rfl
def LF (td ty:TE):TE:=fun σ H Q=>td σ H fun x H1=>∃a,x=.ref a/\IsD H1 a/\ty σ H1 fun y H2=>∃o,BG H2 a y o/\Q (o.getD .non) H2
theorem Z4 (hu:X.A.units+1<cLine)(ho:PE X o td)(he:PE X e ty)(m:M1 X o "get" apos e df):PE X (.Call (.Attribute o "get" apos) [e] [] df) (LF td ty):=by intro pins s σ H Q I h;refine wpAny_Call_method m.base m.few m.line PySem.F.plainAttrs_dict PySem.F.slot_dict_get PySem.F.type_dict_get (AI (ho pins s σ H _ I h) fun u s1 ⟨x,H1,I1,rx,a,ex,d,q1⟩=>?_);subst ex;obtain rfl:u=Value.ref a:=rx;obtain⟨t1,t2,_⟩:=LS I1 d;refine⟨t1,t2,?_⟩;rw[m.trees];refine Calls.callWith_builtin rfl (Calls.evalArgs_plain (Calls.spliced_cons (AI (he pins s1 σ H1 _ I1 q1) fun iv s2 ⟨y,H2,I2,ry,ov,g,q2⟩=>Calls.spliced_nil ?_)));exact Jb hu I2 g ry fun w' s3 I3 gW=>⟨_,H2,I3,gW,q2⟩
end L2
namespace HT
open PySem PyProof.Rows
noncomputable def lexLt:List Int->List Int->Bool
 | [],[]=>false
 | [],_::_=>true
 | _::_,[]=>false
 | x::xs,y::ys=>if x=y then lexLt xs ys else decide (x<y)
theorem lexLt_cons (x y)(xs ys):lexLt (x::xs) (y::ys)=if x=y then lexLt xs ys else decide (x<y):=rfl
theorem bo:lexLt [] []=false:=rfl
theorem cK (y)(ys):lexLt [] (y::ys)=true:=rfl
theorem aF (x)(xs):lexLt (x::xs) []=false:=rfl
theorem Zi (A)(s)(a)(t:Tok)(c)(u:Tok):∃e,SeqAt.EqAt A s (.int a t) (.int c u) e/\(e=true↔a=c):=
 ⟨(a==c),SeqAt.EqAt.int_int a t c u,by simp⟩
theorem YT (A)(s)(a)(t:Tok)(c)(u:Tok)(prog)(w)(E)(Q)(h:Q (.bool (decide (a<c))) s):
 wpAny (model prog w) A (richCompare .Lt (.int a t) (.int c u)) Q E s:=
 (PyProof.Rows.lt_int h:wpAny (model prog w) A (compareOp .Lt (.int a t) (.int c u)) Q E s)
section
open PySem.SeqAt
open PySem.AutoSeq1 (wpAny_loadPart')
open PySem.MeetsSeq PySem.MeetsSeq2 PySem.MeetsSeq3
theorem YI (l b)(items items2)(n n2)(dd dd2)(sl iB)(ns ms)(hi:IntsAre items.toList ns)(hj:IntsAre items2.toList ms):
 Meets (Builtin.«tuple.__lt__» ⟨[.ref l,.ref b],[]⟩)
  (fun _ R s=>s.heap.get? l=some { cls:=.type "tuple",dict:=dd,data:=.seq items n,slots:=sl }/\s.heap.get? b=some { cls:=.type "tuple",dict:=dd2,data:=.seq items2 n2,slots:=iB } /\
   R (.ok (.ret (.bool (lexLt ns ms)))) s):=
 .of_wp fun prog w A R s h=>by
  obtain⟨hp,g,d,tk,os⟩:=s;obtain⟨hl,hb,h⟩:=h;have f2:=AutoSeq1.sub_tuple_tuple;have z1:items.size=ns.length:=by rw[<-hi.length];simp
  have z2:items2.size=ms.length:=by rw[<-hj.length];simp
  wp_walk using wpAny_loadPart' hl,wpAny_loadPart' hb,wpAny_forIn_list _ (fun rest b s'=>b.1=none/\s'=⟨hp,g,d,tk,os⟩/\∃(vs ws:List Value)(ns' ms':List Int),rest=vs.zip ws /\
   IntsAre vs ns'/\IntsAre ws ms'/\ns'.length+items2.size=ms'.length+items.size/\R (.ok (.ret (.bool (lexLt ns' ms')))) ⟨hp,g,d,tk,os⟩) _
  case turn=>
   rintro ⟨y,x⟩ rest b s' ⟨eQ,rfl,vs,ws,ns',ms',hz,hvi,hwi,hlen,hR⟩;cases hvi with
   | nil=>rw[List.zip_nil_left] at hz;cases hz
   | cons a t hvi'=>
    cases hwi with
    | nil=>rw[List.zip_nil_right] at hz;cases hz
    | cons c u hwi'=>
     rw[List.zip_cons_cons] at hz;injection hz with hyx fq;injection hyx with hy hx;subst hy hx;rw[lexLt_cons] at hR;simp only[zo] at hlen;obtain⟨e,he,hiff⟩:=Zi A.in1 ⟨hp,g,d,tk,os⟩ a t c u;refine zA (he prog w _ _ ?_);cases e with
     | true=>
      rw[if_pos (hiff.mp rfl)] at hR
      wp_walk
      exact⟨rfl,rfl,_,_,_,_,fq,hvi',hwi',by lia,hR⟩
     | false=>
      rw[if_neg (fun q=>absurd (hiff.mpr q) zn)] at hR;have hri:=YT A.in1 ⟨hp,g,d,tk,os⟩ a t c u prog w
      wp_walk using hri
      exact⟨_,rfl,by simpa using hR⟩
  case fin=>
   rintro ⟨b1,b2⟩ s' ⟨eQ,rfl,vs,ws,ns',ms',hz,hvi,hwi,hlen,hR⟩;simp only at eQ;subst eQ;have hv:lexLt ns' ms'=decide (items.size<items2.size):=by
    cases hvi with
    | nil=>
     cases hwi with
     | nil=>simp only[List.length_nil] at hlen;rw[bo];exact (zR (by lia)).symm
     | cons c u hw=>simp only[List.length_nil,zo] at hlen;rw[cK];exact (zP (by lia)).symm
    | cons a t hv=>
     cases hwi with
     | nil=>simp only[List.length_nil,zo] at hlen;rw[aF];exact (zR (by lia)).symm
     | cons c u hw=>rw[List.zip_cons_cons] at hz;cases hz
   rw[hv] at hR
   wp_walk
   exact⟨_,rfl,by simpa [Builtin.Tuple.tupleCompareSizes] using hR⟩
  case h=>
   exact⟨rfl,rfl,items.toList,items2.toList,ns,ms,rfl,hi,hj,by lia,h⟩
end
theorem lt_tupInts (hl:IsTup s.heap l items)(hb:IsTup s.heap b items2)(hi:IntsAre items.toList ns)(hj:IntsAre items2.toList ms)
 (hu:A.units<cLine)(h:Q (.bool (lexLt ns ms)) s):wpAny (model prog w) A (compareOp .Lt (.ref l) (.ref b)) Q E s:=by
 obtain⟨⟨cls,dd,data,sl⟩,ho,hc,n,hd⟩:=id hl;obtain⟨⟨cls2,dd2,data2,iB⟩,gU,i9,n2,hd2⟩:=id hb;simp only at hc hd i9 hd2;subst hc hd i9 hd2;exact richCompare_meets_room (op:=.Lt) ⟨_,ho,rfl⟩ ⟨_,gU,rfl⟩ PySem.F.slot_tuple_lt PySem.F.entry_tuple_lt (PySem.F.args_tuple_lt_2 _ _) (YI l b items items2 n n2 dd dd2 sl iB ns ms hi hj)
  ⟨ho,gU,show Value.bool (lexLt ns ms)≠Value.notImplemented/\Q (.bool (lexLt ns ms)) s from ⟨(fun x=>nomatch x),h⟩⟩ hu
theorem cat_tup (ht:IsTup s.heap t vs.toArray)(hb:IsTup s.heap b ws.toArray)(hv:vs≠[])
 (h1:ws=[]->Q (.ref t) s)(h2:ws≠[]->Q (.ref s.heap.objs.size) { s with heap:=s.heap.push { cls:=.type "tuple",data:=.seq (vs++ws).toArray } })
 (hsz:vs.length+ws.length<=sizeLine):wpAny (model prog w) A (binaryOp .Add (.ref t) (.ref b)) Q E s:=by
 obtain⟨⟨cls,dd,data,sl⟩,ho,hc,n,hd⟩:=id ht;obtain⟨⟨cls2,dd2,data2,iB⟩,gU,i9,n2,hd2⟩:=id hb;simp only at hc hd i9 hd2;subst hc hd i9 hd2;have e:vs.toArray++ws.toArray=(vs++ws).toArray:=by simp
 by_cases hw:ws=[]
 . exact concat_meets ⟨_,ho,rfl⟩ ⟨_,gU,rfl⟩ noFill_tuple_add seq_tuple_add PySem.F.slot_tuple_add PySem.F.entry_tuple_add (PySem.F.args_tuple_add_2 _ _)
    (tuple_addW1 t b vs.toArray ws.toArray n n2 dd dd2 sl iB (by simpa using hv) (by simp[hw])) ⟨ho,gU,h1 hw⟩
 . refine concat_meets ⟨_,ho,rfl⟩ ⟨_,gU,rfl⟩ noFill_tuple_add seq_tuple_add PySem.F.slot_tuple_add PySem.F.entry_tuple_add (PySem.F.args_tuple_add_2 _ _)
    (tuple_addW2 t b vs.toArray ws.toArray n n2 dd dd2 sl iB (by simpa using hv) (by simpa using hw) (by rw[zL,zL];exact hsz)) ⟨ho,gU,?_⟩
   rw[e];exact h2 hw
noncomputable def sIx (n d:Nat):Option Int->Nat
 | none=>d
 | some v=>if v<0 then (v+(n:Int)).toNat else min v.toNat n
theorem sIx_none (n d):sIx n d none=d:=rfl
theorem sIx_nat (n d k:Nat):sIx n d (some (k:Int))=min k n:=by
 show (if (k:Int)<0 then ((k:Int)+(n:Int)).toNat else min (k:Int).toNat n)=min k n
 rw[if_neg (by lia),zv]
theorem Je (n d)(hd:d<=n)(o):sIx n d o<=n:=by
 cases o with
 | none=>exact hd
 | some v=>
  show (if v<0 then (v+(n:Int)).toNat else min v.toNat n)<=n
  by_cases hv:v<0
  . rw[if_pos hv];lia
  . rw[if_neg hv];exact Nat.min_le_right _ _
theorem WE (v)(n d:Nat):(if v<0 then max (v+(n:Int)) 0 else min v (n:Int))=((sIx n d (some v):Nat):Int):=by
 show (if v<0 then max (v+(n:Int)) 0 else min v (n:Int))=(((if v<0 then (v+(n:Int)).toNat else min v.toNat n):Nat):Int)
 by_cases hv:v<0
 . simp only[if_pos hv];lia
 . simp only[if_neg hv];lia
theorem Zp (lo hi) (n:Nat):Builtin.Slice.sliceAdjust lo hi 1 (n:Int)=(((sIx n 0 lo:Nat):Int),((sIx n n hi:Nat):Int)):=by
 have h1:¬ ((1:Int)<0):=by lia
 unfold Builtin.Slice.sliceAdjust;simp only[h1,if_false];refine Prod.ext ?_ ?_
 . cases lo with
   | none=>rfl
   | some v=>exact WE v n 0
 . cases hi with
   | none=>rfl
   | some v=>exact WE v n n
theorem ao (i j:Nat):Builtin.Slice.slicePlaces (i:Int) (j:Int) 1=j-i:=by
 unfold Builtin.Slice.slicePlaces;have h1:(1:Int) > 0:=by lia
 simp only[h1,if_true,Int.ediv_one];split <;> lia
theorem RI (p:IsPart v o) (h:Q o s):wpAny (model prog w) A (Builtin.Slice.slicePartIndex v) Q E s:=by
 cases p with
 | none=>exact slicePart_none h
 | int i t=>exact slicePart_int h
theorem Wj {lo:Option Int}{Q:Int×Int×Nat->Shared->Prop}(hs:s.heap.IsSliceOf sl vl vu .none)(pl:IsPart vl lo)(pu:IsPart vu hi)
 (h:Q (((sIx n 0 lo:Nat):Int),1,sIx n n hi-sIx n 0 lo) s):wpAny (model prog w) A (Builtin.Slice.sliceApplied (.ref sl) (pure (n:Int))) Q E s:=by
 obtain⟨os,gE,hcs,gK⟩:=id hs;unfold Builtin.Slice.sliceApplied Builtin.Slice.sliceFields;refine zA (zA (Ej gE gK (x:=vl) rfl (zA (Ej gE gK (x:=vu) rfl (zA (Ej gE gK (x:=.none) rfl (zC ?_)))))));refine zA (slicePart_none ?_);show wpAny _ _ (if ((1:Int)==0)=true then _ else _) _ _ s
 rw[if_neg (by decide)];refine zA (RI pl (zA (RI pu (zA (zC ?_)))));show wpAny _ _ (match Builtin.Slice.sliceAdjust lo hi 1 (n:Int) with | (lo,hi)=>pure (lo,(1:Int),Builtin.Slice.slicePlaces lo hi 1)) _ _ s
 rw[Zp lo hi n];show wpAny _ _ (pure (((sIx n 0 lo:Nat):Int),(1:Int),Builtin.Slice.slicePlaces ((sIx n 0 lo:Nat):Int) ((sIx n n hi:Nat):Int) 1)) _ _ s;rw[ao];exact zC h
theorem Yi (xs:Array Value)(i k:Nat):((List.range k).filterMap fun (m:Nat)=>xs[((i:Int)+(m:Int)*1).toNat]?).toArray=((xs.toList.drop i).take k).toArray:=by
 have e:(fun (m:Nat)=>xs[((i:Int)+(m:Int)*1).toNat]?)=fun m=>xs[i+m]?:=by
  funext m;have:((i:Int)+(m:Int)*1).toNat=i+m:=by lia
  rw[this]
 rw[e];have:=pick_run xs i k;rw[List.filterMap_map] at this;have e2:((fun x=>xs[x]?)∘fun x=>i+x)=fun m=>xs[i+m]?:=rfl;rw[e2] at this;rw[this]
theorem getItem_tuple_cut {lo:Option Int}(ht:IsTup s.heap t items)(hs:s.heap.IsSliceOf sl vl vu .none)(pl:IsPart vl lo)(pu:IsPart vu hi)
 (hw:¬ (sIx items.size 0 lo=0/\sIx items.size items.size hi=items.size))
 (h:Q (.ref s.heap.objs.size) { s with heap:=s.heap.push { cls:=.type "tuple",data:=.seq ((items.toList.drop (sIx items.size 0 lo)).take (sIx items.size items.size hi-sIx items.size 0 lo)).toArray } })
 (hsz:items.size<=sizeLine):wpAny (model prog w) A (getItem (.ref t) (.ref sl)) Q E s:=by
 have eI:sizeOk (.seq ((items.toList.drop (sIx items.size 0 lo)).take (sIx items.size items.size hi-sIx items.size 0 lo)).toArray):=by
  show ((items.toList.drop (sIx items.size 0 lo)).take (sIx items.size items.size hi-sIx items.size 0 lo)).toArray.size<=sizeLine;rw[zL,zd,Fd,Array.length_toList]
  lia
 have hj:sIx items.size items.size hi<=items.size:=Je _ _ (zJ _) hi;obtain⟨os,gE,hcs,gK⟩:=id hs;have hTs:s.TypeIs (.ref sl) "slice" := ⟨os,gE,hcs⟩;unfold getItem
 try with_reducible refine zu ?_
 first | refine zA (zC ?_) | skip
 refine zA (wpAny_sequenceKey ht.typeIs (by decide) ?_);refine zA (D0 (name:=Str.ofString "__getitem__") ht.typeIs PyProof.Rows.slot_tuple_getitem
  (CF PyProof.Rows.slot_tuple_getitem ht.typeIs entry_tuple_getitem ?_ (args_tuple_getitem _ _)))
 show wpAny _ _ (Builtin.Tuple.tupleItemsOf (.ref t) >>= _) _ _ s;refine zA (tupleItemsOf_ ht ?_);refine zA (CT hTs ?_);rw[if_pos (by decide)];refine zA (Wj hs pl pu ?_);have ft:¬ ((((sIx items.size 0 lo:Nat):Int)==0 && (1:Int)==1 && (sIx items.size items.size hi-sIx items.size 0 lo)==items.size)=true):=by intro q;rw[zx,zx] at q;have q1:((sIx items.size 0 lo:Nat):Int)=0:=eq_of_beq q.1.1;have q2:sIx items.size items.size hi-sIx items.size 0 lo=items.size:=eq_of_beq q.2;exact hw ⟨by lia,by lia⟩
 show wpAny _ _ (if (((sIx items.size 0 lo:Nat):Int)==0 && (1:Int)==1 && (sIx items.size items.size hi-sIx items.size 0 lo)==items.size)=true then _ else _) _ _ s
 rw[if_neg ft,Yi]
 first
  | exact zA (m:=Builtin.Tuple.tupleExact _) (Bi (zC ⟨_,rfl,zC h⟩) eI)
  | exact zA (m:=Builtin.Tuple.tupleExact _) (Bi (zA (zC (zC ⟨_,rfl,zC h⟩))) eI)
  | exact zA (zA (m:=Builtin.Tuple.tupleExact _) (Bi (zC (zC ⟨_,rfl,zC h⟩)) eI))
  | exact zA (zA (m:=Builtin.Tuple.tupleExact _) (Bi (zC ⟨_,rfl,zC h⟩) eI))
end HT
namespace L2
open PySem PySem.Spec PyProof.Rows
abbrev TO:=St->Hp->(Option Int->Hp->Prop)->Prop
def PO (X:Cx)(e:Option Expr)(t:TO):Prop:=
 ∀pins s σ H Q,AB X pins σ H s->t σ H Q ->
  wpAny (model X.prog X.w) X.A (evalPart e X.env) (fun u s'=>∃o H',AB X pins σ H' s'/\IsPart u o/\Q o H') X.xe s
def cR:TO:=fun _ H Q=>Q none H
def NY (t:TE):TO:=fun σ H Q=>t σ H fun x H1=>∃i,x=.int i/\Q (some i) H1
theorem Dz :∀{us:List Value},AK (ns.map V.int) us->IntsAre us ns:=by
 induction ns with
 | nil=>intro us r;rw[List.map_nil] at r;cases r;exact .nil
 | cons n ns ih=>
  intro us r;rw[BX] at r;cases r with
  | cons r1 r2=>obtain⟨t,e⟩:=r1;subst e;exact .cons n t (ih r2)
section
variable {X:Cx}{e:Expr}{te:TE}{lo hi:Option Expr}{tl th:TO}{pos p2:Pos}
theorem Eo:PO X none cR:=by intro pins s σ H Q I h;rw[evalPart_none];exact zC ⟨none,H,I,.none,h⟩
theorem EZ (h:PE X e te):PO X (some e) (NY te):=by intro pins s σ H Q I hw;rw[evalPart_some];refine AI (h pins s σ H _ I hw) fun u s1 ⟨x,H1,I1,r1,q1⟩=>?_;obtain⟨i,rfl,q⟩:=q1;obtain⟨t,rfl⟩:=r1;exact⟨some i,H1,I1,.int i t,q⟩
def MN (X:Cx)(r:V->Option Int->Option Int->Hp->VK->Prop):Prop:=
 ∀pins s σ H x v vl vu lo hi sl Q,AB X pins σ H s->AQ x v->s.heap.IsSliceOf sl vl vu .none->IsPart vl lo->IsPart vu hi->r x lo hi H Q ->
  ∃T id,typeLookup (.type T) "__getitem__"=pure (some (.builtin id))/\s.TypeIs v T/\wpAny (model X.prog X.w) X.A (getItem v (.ref sl)) (EP X pins σ Q) X.xe s
def dD (r:V->Option Int->Option Int->Hp->VK->Prop)(te:TE)(tl th:TO):TE:=fun σ H Q=>te σ H fun x H1=>tl σ H1 fun l H2=>th σ H2 fun u H3=>r x l u H3 Q
theorem Ef (hr:MN X r)(he:PE X e te)(hl:PO X lo tl)(hu:PO X hi th):PE X (.Subscript e (.Slice lo hi none p2) pos) (dD r te tl th):=by intro pins s σ H Q I h;refine Subscript_ (AI (he pins s σ H _ I h) fun v s1 ⟨x,H1,I1,r1,q1⟩=>?_);refine wpAny_Slice (AI (hl pins s1 σ H1 _ I1 q1) fun vl s2 ⟨l,H2,I2,pl,q2⟩=>AI (hu pins s2 σ H2 _ I2 q2) fun vu s3 ⟨u,H3,I3,pu,q3⟩=>?_);rw[evalPart_none];refine zC ?_;have I4:AB X pins σ H3 { s3 with heap:=s3.heap.push { cls:=.type "slice",data:=.fields #[vl,vu,.none] } }:=I3.kept (t':=s3.toks) fun b ob q=>zG _ q;obtain⟨T,id,hT,ht,hg⟩:=hr pins { s3 with heap:=s3.heap.push { cls:=.type "slice",data:=.fields #[vl,vu,.none] } } σ H3 x v vl vu l u s3.heap.objs.size Q I4 r1 (Heap.IsSliceOf.new ..) pl pu q3;show wpAny (model X.prog X.w) X.A (subscriptTail e (.Slice lo hi none p2) v (.ref s3.heap.objs.size)) (EP X pins σ Q) X.xe { s3 with heap:=s3.heap.push { cls:=.type "slice",data:=.fields #[vl,vu,.none] } };exact tail_any (ops:=[.ref s3.heap.objs.size,v]) ht hT hg (by with_unfolding_all rfl)
noncomputable def Bq (xs:List V)(lo hi:Option Int):List V:=(xs.drop (HT.sIx xs.length 0 lo)).take (HT.sIx xs.length xs.length hi-HT.sIx xs.length 0 lo)
theorem WD (xs)(lo hi):(Bq xs lo hi).length<=xs.length:=by
 unfold Bq;rw[zd,Fd]
 lia
def Tf (K:AJ):V->Option Int->Option Int->Hp->VK->Prop:=fun x lo hi H Q=>∃a xs,x=.ref a/\AC K H a xs /\
 ¬ (HT.sIx xs.length 0 lo=0/\HT.sIx xs.length xs.length hi=xs.length)/\∀p,H p=none->Q (.ref p) (upd H p (.tup (Bq xs lo hi)))
theorem LP:MN X (Tf X.K):=by
 intro pins s σ H x v vl vu lo hi sl Q I rx hs pl pu h;obtain⟨a,xs,rfl,hx,hw,q⟩:=h;cases rx;obtain⟨its,r,ht,hz⟩:=I.tuple hx;have hlen:its.toArray.size=xs.length:=by rw[zL];exact r.length.symm
 refine⟨"tuple",_,PyProof.Rows.slot_tuple_getitem.lookup,ht.typeIs,?_⟩;refine HT.getItem_tuple_cut ht hs pl pu (by rw[hlen];exact hw) ?_ (by rw[hlen];exact hz);rw[hlen];refine⟨.ref s.heap.objs.size,_,I.laid (t':=s.toks) (o:=.tup (Bq xs lo hi)) (fun b ob q=>zG _ q) (zJ _) ?_,rfl,q _ (I.hok.fresh (zJ _))⟩;exact⟨⟨zp (WD xs lo hi) hz,_,zN _ rfl,rfl⟩,_,(r.drop (HT.sIx xs.length 0 lo)).take (HT.sIx xs.length xs.length hi-HT.sIx xs.length 0 lo),IsTup.new _ _⟩
def NV (K:AJ):R2:=fun x y H Q=>∃a b xs ys,x=.ref a/\y=.ref b/\AC K H a xs/\AC K H b ys/\xs≠[]/\xs.length+ys.length<=sizeLine /\
 (ys=[]->Q (.ref a) H)/\(ys≠[]->∀p,H p=none->Q (.ref p) (upd H p (.tup (xs++ys))))
theorem AK.nil_iff (r:AK xs us):us=[]↔xs=[]:=by
 cases r with
 | nil=>simp
 | cons _ _=>simp
theorem aq:Ay X (binaryOp .Add) (NV X.K):=by intro pins s σ H x y v u Q I rx ry h;obtain⟨a,b,xs,ys,rfl,rfl,ha,hb,hx,hz,q1,q2⟩:=h;cases rx;cases ry;obtain⟨its,r1,p1,_⟩:=I.tuple ha;obtain⟨d7,r2,p2,_⟩:=I.tuple hb;refine HT.cat_tup p1 p2 (fun z=>hx (r1.nil_iff.mp z)) (fun z=>⟨.ref a,H,I,rfl,q1 (r2.nil_iff.mp z)⟩) (fun z=>?_) (by rw[<-r1.length,<-r2.length];exact hz);refine⟨.ref s.heap.objs.size,_,I.laid (t':=s.toks) (o:=.tup (xs++ys)) (fun b ob q=>zG _ q) (zJ _) ?_,rfl,q2 (fun w=>z (r2.nil_iff.mpr w)) _ (I.hok.fresh (zJ _))⟩;exact⟨⟨by rw[zM];exact hz,_,zN _ rfl,rfl⟩,_,r1.append r2,IsTup.new _ _⟩
end
noncomputable def Gv (n:Nat)(i:Int):Option Nat:=if 0<=i then (if i<n then some i.toNat else none) else if -(n:Int)<=i then some (i+n).toNat else none
noncomputable def B9 {α:Type}(xs:List α)(i:Int):Option α:=(Gv xs.length i).bind fun j=>xs[j]?
theorem V6 (h:Gv n i=some j):seqIndex? i n=some j/\j<n/\-(n:Int)<=i/\i<n:=by
 unfold Gv at h;by_cases h0:0<=i
 . rw[if_pos h0] at h;by_cases h1:i<n
   . rw[if_pos h1] at h;have e:i.toNat=j:=zY h;exact⟨by rw[seqIndex_of h0 h1,e],by lia,by lia,h1⟩
   . rw[if_neg h1] at h;cases h
 . rw[if_neg h0] at h;by_cases h1 : -(n:Int)<=i
   . rw[if_pos h1] at h;have e:(i+n).toNat=j:=zY h;exact⟨by rw[seqIndex_neg (by lia) h1,e],by lia,h1,by lia⟩
   . rw[if_neg h1] at h;cases h
theorem VZ (h:B9 xs i=some v):∃j,seqIndex? i xs.length=some j/\xs[j]?=some v/\j<xs.length/\-(xs.length:Int)<=i/\i<xs.length:=by
 unfold B9 at h;cases e:Gv xs.length i with
 | none=>rw[e] at h;cases h
 | some j=>rw[e] at h;obtain⟨h1,h2,h3,h4⟩:=V6 e;exact⟨j,h1,h,h2,h3,h4⟩
theorem DS {j:Nat}(h:xs[j]?=some v):B9 xs (j:Int)=some v:=by
 have hj:j<xs.length:=(zI.mp h).1;have e:Gv xs.length (j:Int)=some j:=by unfold Gv;rw[if_pos (by lia),if_pos (by lia)];simp
 unfold B9;rw[e];exact h
def RP (b:Expr):Prop:=∀o i,subscripted b false o i=operate [o,i] (getItem o i)
def Hc (X:Cx)(r:R2):Prop:=
 ∀value slice pins s σ H x y v u Q,AB X pins σ H s->AQ x v->AQ y u->r x y H Q ->
  subscripted slice false v u=operate [v,u] (getItem v u)->wpAny (model X.prog X.w) X.A (subscriptTail value slice v u) (EP X pins σ Q) X.xe s
def Qj (X:Cx)(id:String)(r:V->List V->Hp->VK->Prop):Prop:=
 ∀pins s σ H x xs v us Q,AB X pins σ H s->AQ x v->AK xs us->r x xs H Q ->
  wpAny (model X.prog X.w) X.A (call (.builtin id) (v::us)) (EP X pins σ Q) X.xe s
section
variable {X:Cx}{a b:Expr}{ta tb:TE}{pos:Pos}
theorem Hd (hr:Hc X r)(ha:PE X a ta)(hb:PE X b tb)(hs:RP b):PE X (.Subscript a b pos) (LM r ta tb):=by intro pins s σ H Q I h;exact Subscript_ (LG ha hb I h fun v u s2 x y H2 I2 rx ry q=>hr a b pins s2 σ H2 x y v u Q I2 rx ry q (hs _ _))
inductive Ua (K:AJ)(x:V)(y:V)(H:Hp)(Q:VK):Prop
 | mk:∀p xs i v,(x=.ref p)->(y=.int i)->(AE K H p xs)->(B9 xs i=some v)->(Q v H)->Ua K x y H Q
def Jd (K:AJ):R2:=fun x y H Q=>Ua K x y H Q
inductive Wm (K:AJ)(x:V)(y:V)(H:Hp)(Q:VK):Prop
 | mk:∀p xs i v,(x=.ref p)->(y=.int i)->(AC K H p xs)->(B9 xs i=some v)->(Q v H)->Wm K x y H Q
def LB (K:AJ):R2:=fun x y H Q=>Wm K x y H Q
theorem Ab:Hc X (Jd X.K):=by
 intro value slice pins s σ H x y v u Q I rx ry h hs;obtain⟨p,xs,i,z,rfl,rfl,hq,he,q⟩:=h;cases rx;obtain⟨t,rfl⟩:=ry;obtain⟨its,r,pl,hz⟩:=I.list hq;obtain⟨j,h1,h2,h3,h4,h5⟩:=VZ he;obtain⟨w,ew,gW⟩:=r.get h2;have hl:=r.length;have hn:=QU;have fin:EP X pins σ Q w s:=⟨z,H,I,gW,q⟩;by_cases h0:0<=i
 . have hj:i.toNat=j:=by rw[seqIndex_of h0 h5] at h1;exact zY h1
   exact item_listR pl.isList h0 (by lia) (by rw[hj];simpa using ew) fin hs
 . have hj:(i+(its.toArray.size:Int)).toNat=j:=by rw[seqIndex_neg (by lia) h4] at h1;rw[zL,<-hl];exact zY h1
   exact subscriptTail_builtinR (x:=w) pl.isList.typeIs slot_list_getitem.lookup
    (wpAny_getItem_list_neg (Q:=fun r s'=>r=w/\EP X pins σ Q r s') pl.isList (by lia) (by rw[zL] <;> lia) (by lia) (by rw[hj];simpa using ew) ⟨rfl,fin⟩) hs
theorem Ac:Hc X (LB X.K):=by
 intro value slice pins s σ H x y v u Q I rx ry h hs;obtain⟨p,xs,i,z,rfl,rfl,hq,he,q⟩:=h;cases rx;obtain⟨t,rfl⟩:=ry;obtain⟨its,r,pl,hz⟩:=I.tuple hq;obtain⟨j,h1,h2,h3,h4,h5⟩:=VZ he;obtain⟨w,ew,gW⟩:=r.get h2;have hl:=r.length;have hn:=QU;have fin:EP X pins σ Q w s:=⟨z,H,I,gW,q⟩;exact subscriptTail_builtinR (x:=w) pl.typeIs slot_tuple_getitem.lookup
  (getItem_tuple (j:=j) (Q:=fun r s'=>r=w/\EP X pins σ Q r s') pl (by lia) (by lia) (by rw[zL,<-hl];exact h1) (by simpa using ew) ⟨rfl,fin⟩) hs
theorem X6 (its:List Value)(n j)(u):Obj.mapSeq (·.setIfInBounds j u) { cls:=.type "list",data:=.seq its.toArray n }={ cls:=.type "list",data:=.seq (its.set j u).toArray n }:=by simp[Obj.mapSeq]
theorem AB.lst {pins:Bm}{σ:St}{H:Hp}{s:Shared}{p:Addr}{xs:List V}(I:AB X pins σ H s)(h:H p=some (.lst xs)):
 ∃its n,AK xs its/\s.heap.get? p=some { cls:=.type "list",data:=.seq its.toArray n }/\xs.length<=sizeLine:=by
 obtain⟨z,its,n,r,e⟩:=I.hok p _ h;exact⟨its,n,r,e,z⟩
theorem AB.lstUpd {its:List Value}(I:AB X pins σ H s)(h:H p=some (.lst xs))
 (ho:s.heap.get? p=some { cls:=.type "list",data:=.seq its.toArray n }) (hf:f { cls:=.type "list",data:=.seq its.toArray n }={ cls:=.type "list",data:=.seq its'.toArray n' }) (r:AK ys its')(hz:ys.length<=sizeLine)(t):
 AB X pins σ (upd H p (.lst ys)) { s with heap:=s.heap.update p f,toks:=t }:=by
 have e:(s.heap.update p f).get? p=some { cls:=.type "list",data:=.seq its'.toArray n' }:=by rw[zq f ho (by rw[hf] <;> rfl),hf]
 refine I.write (x:=p) (e:=p) (by rw[h];trivial) (.inl rfl) (fun b u hb q=>(GY _ _ (Ne.symm hb)).trans q) ⟨_,e⟩ ?_;exact⟨hz,its',n',r,e⟩
def Om:V->V->V->Hp->(Hp->Prop)->Prop:=fun o i v H Q=>∃p xs k j,o=.ref p/\i=.int k/\H p=some (.lst xs)/\Gv xs.length k=some j/\Q (upd H p (.lst (xs.set j v)))
theorem Lp:NX X Om:=by
 intro pins s σ H o i v ov iv u Q I ro ri rv h;obtain⟨p,xs,k,j,rfl,rfl,hp,hj,q⟩:=h;cases ro;obtain⟨t,rfl⟩:=ri;obtain⟨its,n,r,ho,hz⟩:=I.lst hp;obtain⟨h1,h2,h3,h4⟩:=V6 hj;have hl:=r.length;have hn:=QU;have I':AB X pins σ (upd H p (.lst (xs.set j v))) { s with heap:=s.heap.update p (Obj.mapSeq (·.setIfInBounds j u)) }:=
  I.lstUpd hp ho (X6 its n j u) (r.set rv j) (by rw[List.length_set];exact hz) s.toks
 by_cases h0:0<=k
 . have hk:k.toNat=j:=by rw[seqIndex_of h0 h4] at h1;exact zY h1
   exact PySem.W.ki_setAt ho h0 (by lia) (by rw[zL,<-hl];exact h4) (by rw[hk];exact⟨_,I',q⟩)
 . have hk:(k+(its.toArray.size:Int)).toNat=j:=by rw[seqIndex_neg (by lia) h3] at h1;rw[zL,<-hl];exact zY h1
   exact PySem.W.ki_setBack ho (by lia) (by rw[zL,<-hl];exact h3) (by lia) (by rw[hk];exact⟨_,I',q⟩)
theorem Zj (lo hi)(n):(sliceBounds lo hi none n).1=((HT.sIx n 0 lo:Nat):Int)/\(sliceBounds lo hi none n).2.1=((HT.sIx n n hi:Nat):Int)/\(sliceBounds lo hi none n).2.2=1:=by
 refine⟨?_,?_,rfl⟩
 . cases lo with
   | none=>simp[sliceBounds,HT.sIx]
   | some i=>
    simp only[sliceBounds,HT.sIx,Option.getD_none,show (1:Int) > 0 by decide,if_true];by_cases h:i<0
    . simp only[h,if_true] <;> lia
    . simp only[h,if_false] <;> lia
 . cases hi with
   | none=>simp[sliceBounds,HT.sIx]
   | some i=>
    simp only[sliceBounds,HT.sIx,Option.getD_none,show (1:Int) > 0 by decide,if_true];by_cases h:i<0
    . simp only[h,if_true] <;> lia
    . simp only[h,if_false] <;> lia
theorem cG (its:List Value)(lo hi):slicePick its.toArray lo hi none=((its.drop (HT.sIx its.length 0 lo)).take (HT.sIx its.length its.length hi-HT.sIx its.length 0 lo)).toArray:=by obtain⟨h1,h2,h3⟩:=Zj lo hi its.toArray.size;unfold slicePick;rw[h1,h2,h3];simp only[sliceRange_one,pick_run,zL] <;> rfl
def Ts (K:AJ):V->Option Int->Option Int->Hp->VK->Prop:=fun x lo hi H Q=>∃a xs,x=.ref a/\AE K H a xs/\∀p,H p=none->Q (.ref p) (upd H p (.lst (Bq xs lo hi)))
theorem Zm:MN X (Ts X.K):=by intro pins s σ H x v vl vu lo hi sl Q I rx hs pl pu h;obtain⟨a,xs,rfl,hx,q⟩:=h;cases rx;obtain⟨its,r,ht,hz⟩:=I.list hx;have hlen:=r.length;refine⟨"list",_,slot_list_getitem.lookup,ht.isList.typeIs,?_⟩;refine wpAny_getItem_list_slice ht.isList hs pl pu .none (by simp) ?_ (by rw[zL] <;> lia);rw[cG,<-hlen];refine⟨.ref s.heap.objs.size,_,I.laid (t':=s.toks) (o:=.lst (Bq xs lo hi)) (fun b ob q=>zG _ q) (zJ _) ?_,rfl,q _ (I.hok.fresh (zJ _))⟩;exact⟨zp (WD xs lo hi) hz,_,0,(r.drop (HT.sIx xs.length 0 lo)).take (HT.sIx xs.length xs.length hi-HT.sIx xs.length 0 lo),zN _ rfl⟩
noncomputable def RT:V->Bool
 | .non=>true
 | .bl _=>true
 | .int _=>true
 | .str _=>true
 | _=>false
noncomputable def Xn:V->V->Bool
 | .non,.non=>true
 | .bl a,.bl b=>a==b
 | .bl a,.int b=>(if a then 1 else 0)==b
 | .int a,.bl b=>a==(if b then 1 else 0)
 | .int a,.int b=>a==b
 | .str a,.str b=>a==b
 | _,_=>false
theorem KE (ry:AQ y u)(rx:AQ x v)(fy:RT y=true)(fx:RT x=true):SeqAt.EqAt A s u v (Xn y x):=by
 cases y with
 | non=>
  cases ry;cases x with
  | non=>cases rx;exact SeqAt.EqAt.same _
  | bl b=>cases rx;exact SeqAt.EqAt.none_bool b
  | int b=>obtain⟨t,rfl⟩:=rx;exact SeqAt.EqAt.none_int b t
  | str b=>obtain⟨t,rfl⟩:=rx;exact SeqAt.EqAt.none_str b t
  | _=>exact absurd (show false=true from fx) zn
 | bl a=>
  cases ry;cases x with
  | non=>cases rx;exact SeqAt.EqAt.bool_none a
  | bl b=>cases rx;exact SeqAt.EqAt.bool_bool a b
  | int b=>obtain⟨t,rfl⟩:=rx;exact SeqAt.EqAt.bool_int a b t
  | str b=>obtain⟨t,rfl⟩:=rx;exact SeqAt.EqAt.bool_str a b t
  | _=>exact absurd (show false=true from fx) zn
 | int a=>
  obtain⟨t',rfl⟩:=ry;cases x with
  | non=>cases rx;exact SeqAt.EqAt.int_none a t'
  | bl b=>cases rx;exact SeqAt.EqAt.int_bool a t' b
  | int b=>obtain⟨t,rfl⟩:=rx;exact SeqAt.EqAt.int_int a t' b t
  | str b=>obtain⟨t,rfl⟩:=rx;exact SeqAt.EqAt.int_str a t' b t
  | _=>exact absurd (show false=true from fx) zn
 | str a=>
  obtain⟨t',rfl⟩:=ry;cases x with
  | non=>cases rx;exact SeqAt.EqAt.str_none a t'
  | bl b=>cases rx;exact SeqAt.EqAt.str_bool a t' b
  | int b=>obtain⟨t,rfl⟩:=rx;exact SeqAt.EqAt.str_int a t' b t
  | str b=>obtain⟨t,rfl⟩:=rx;exact SeqAt.EqAt.str_str a t' b t
  | _=>exact absurd (show false=true from fx) zn
 | _=>exact absurd (show false=true from fy) zn
inductive Pb (K:AJ)(xs:List V)(H:Hp)(Q:VK):Prop
 | mk:∀p ys,(xs=[.ref p])->((AE K H p ys\/AC K H p ys))->(Q (.int ys.length) H)->Pb K xs H Q
theorem D6:B3 X (.builtin "len") (Pb X.K):=by
 intro pins s σ H xs us Q I r h;obtain⟨p,ys,rfl,hq,q⟩:=h;obtain⟨u,rfl,rx⟩:=Cb r;cases rx;have hn:=QU;rcases hq with hq | hq
 . obtain⟨its,r',pl,hz⟩:=I.list hq;have hlen:=r'.length;exact Calls.call_len_list pl.isList (by simp only[zL] <;> lia) ⟨.int ys.length,H,I.tok _,⟨s.toks+1,by rw[zL,hlen]⟩,q⟩
 . obtain⟨its,r',pl,hz⟩:=I.tuple hq;have hlen:=r'.length;exact len_tuple pl (by simp only[zL] <;> lia) ⟨.int ys.length,H,I.tok _,⟨s.toks+1,by rw[zL,hlen]⟩,q⟩
inductive Kg (K:AJ)(xs:List V)(H:Hp)(Q:VK):Prop
 | mk:∀p ys,(xs=[.ref p])->((AE K H p ys\/AC K H p ys))->(∀l,H l=none->Q (.ref l) (upd H l (.lst ys)))->Kg K xs H Q
theorem Rb:B3 X (.type "list") (Kg X.K):=by
 intro pins s σ H xs us Q I r h;obtain⟨p,ys,rfl,hq,q⟩:=h;obtain⟨u,rfl,rx⟩:=Cb r;cases rx;have fin:∀(its:List Value),AK ys its->ys.length<=sizeLine->∀(h':Heap)(c':Nat),(∀b o',s.heap.get? b=some o'->h'.get? b=some o') ->
  h'.get? s.heap.objs.size=some { cls:=.type "list",dict:=none,data:=.seq its.toArray c',slots:=#[] }->EP X pins σ Q (.ref s.heap.objs.size) { s with heap:=h' }:=fun its r' hz h' c' kp e=>
  ⟨.ref s.heap.objs.size,_,I.laid (t':=s.toks) kp (zJ _) (show Av X.prog X.w _ h' _ (.lst ys) from ⟨hz,its,c',r',e⟩),rfl,q _ (I.hok.fresh (zJ _))⟩
 rcases hq with hq | hq
 . obtain⟨its,r',pl,hz⟩:=I.list hq;have hlen:=r'.length;obtain⟨o,ho,hc,n,hd⟩:=pl.isList;exact call_list_seq p (.inl rfl) ho hc hd (fun h' c' kp e=>fin its r' hz h' c' kp e) (by simp only[zL] <;> lia)
 . obtain⟨its,r',pl,hz⟩:=I.tuple hq;have hlen:=r'.length;obtain⟨o,ho,hc,n,hd⟩:=pl;exact call_list_seq p (.inr rfl) ho hc hd (fun h' c' kp e=>fin its r' hz h' c' kp e) (by simp only[zL] <;> lia)
inductive Nt (K:AJ)(xs:List V)(H:Hp)(Q:VK):Prop
 | mk:∀p ys,(xs=[.ref p])->(((AE K H p ys/\∀l,H l=none->Q (.ref l) (upd H l (.tup ys)))\/(AC K H p ys/\Q (.ref p) H)))->Nt K xs H Q
theorem Lm:B3 X (.type "tuple") (Nt X.K):=by
 intro pins s σ H xs us Q I r h;obtain⟨p,ys,rfl,h⟩:=h;obtain⟨u,rfl,rx⟩:=Cb r;cases rx;rcases h with ⟨hq,q⟩ | ⟨hq,q⟩
 . obtain⟨its,r',pl,hz⟩:=I.list hq;have hlen:=r'.length;refine call_tuple_list pl.isList (fun h' kp=>?_) (by simp only[zL] <;> lia);have I1:AB X pins σ H { s with heap:=h' }:=I.kept (t':=s.toks) kp;have I2:AB X pins σ (upd H h'.objs.size (.tup ys)) { s with heap:=h'.push { cls:=.type "tuple",data:=.seq its.toArray } }:=
    I1.laid (t':=s.toks) (fun b o e=>zG _ e) (zJ _) (show Av X.prog X.w _ _ _ (.tup ys) from ⟨⟨hz,_,zN _ rfl,rfl⟩,its,r',IsTup.new _ _⟩)
   exact⟨.ref h'.objs.size,_,I2,rfl,q _ (I1.hok.fresh (zJ _))⟩
 . obtain⟨its,r',pl,hz⟩:=I.tuple hq;exact call_tuple_same pl ⟨.ref p,H,I,rfl,q⟩
def Xl (K:AJ)(T:String)(x:V)(H:Hp):Prop:=match x with
 | .str _=>T="str"
 | .int _=>T="int"
 | .ref p=>(T="list"/\∃xs,AE K H p xs)\/(T="tuple"/\∃o,K.lookup p=some o/\o.cls=.type "tuple"/\o.dict=none) \/
  (T="dict"/\((∃dQ,H p=some (.dK dQ))\/∃dQ,H p=some (.dT dQ)))\/(T="set"/\∃S n,H p=some (.set S n))
 | _=>False
theorem LK (I:AB X pins σ H s)(r:AQ x v)(ty:Xl X.K T x H):
 s.TypeIs v T/\∀a,v=.ref a->∃ob,s.heap.get? a=some ob/\ob.dict=none:=by
 cases x with
 | str z=>obtain⟨t,rfl⟩:=r;cases (show T="str" from ty);exact⟨typeIs_str s z t,fun _ e=>nomatch e⟩
 | int i=>obtain⟨t,rfl⟩:=r;cases (show T="int" from ty);exact⟨typeIs_int s i t,fun _ e=>nomatch e⟩
 | ref p=>
  cases r;rcases ty with ⟨rfl,xs,hq⟩ | ⟨rfl,o,hk,hc,hd⟩ | ⟨rfl,hk⟩ | ⟨rfl,S,n,hk⟩
  . obtain⟨its,_,pl,_⟩:=I.list hq;refine⟨pl.isList.typeIs,fun a e=>?_⟩;cases e;obtain⟨o,n,e,c,hd,_⟩:=pl;exact⟨o,e,hd⟩
  . refine⟨⟨o,I.kIn p o hk,hc⟩,fun a e=>?_⟩;cases e;exact⟨o,I.kIn _ o hk,hd⟩
  . have z:∃o,s.heap.get? p=some o/\o.ExactDict:=by
     rcases hk with ⟨dQ,hk⟩ | ⟨dQ,hk⟩
     . obtain⟨_,_,_,_,o,_,_,e,ex,_⟩:=I.hok p _ hk;exact⟨o,e,ex⟩
     . obtain⟨_,_,_,_,o,_,_,e,ex,_⟩:=I.hok p _ hk;exact⟨o,e,ex⟩
    obtain⟨o,e,ex⟩:=z;refine⟨⟨o,e,ex.1⟩,fun a e2=>?_⟩;cases e2;exact⟨o,e,ex.2.1⟩
  . obtain⟨o,_,_,_,e,ex,_⟩:=I.hok p _ hk;refine⟨⟨o,e,ex.1⟩,fun a e2=>?_⟩;cases e2;exact⟨o,e,ex.2.1⟩
 | _=>exact False.elim ty
inductive IW (K:AJ)(T:String)(r:V->List V->Hp->VK->Prop)(t:TA)(σ:St)(Q:VK)(x:V)(H1:Hp):Prop
 | mk:(Xl K T x H1)->(t σ H1 fun xs H2=>r x xs H2 Q)->IW K T r t σ Q x H1
def dN (K:AJ)(T:String)(r:V->List V->Hp->VK->Prop)(to:TE)(t:TA):TE:=fun σ H Q=>to σ H fun x H1=>IW K T r t σ Q x H1
variable {o e:Expr}{es:List Expr}{to:TE}{t:TA}{name:Str}{apos df:Pos}{T id:String}{r:V->List V->Hp->VK->Prop}
theorem Em (pa:PlainAttrs T)(slot:Slot T name id)(hty:typeOf (.builtin id)=pure (.type "method_descriptor")) (hm:Qj X id r)(ho:PE X o to)(ha:PA X (e::es) t)
 (jA:attributeBase o name X.env (eval o X.env)=eval o X.env:=by rfl)
 (hfew:((backTo df (starEach (e::es) X.env)).all (fun x=>!x.1) && (backToKw df (keywordEach [] X.env)).all (fun x=>x.1.isSome)
  && decide ((e::es).length+([]:List Keyword).length+(if ([]:List Keyword).isEmpty then 0 else 1)<30))=true:=by rfl)
 (iz:(apos.endLine==df.line)=true:=by rfl)(hs:starEach (e::es) X.env=(false,eval e X.env)::starEach es X.env:=by rfl)(gc:(backTo df (starEach es X.env)).any (·.1)=false:=by rfl):
 PE X (.Call (.Attribute o name apos) (e::es) [] df) (dN X.K T r to t):=by
 intro pins s σ H Q I h;refine wpAny_Call_method_late jA hfew iz rfl (AI (ho pins s σ H _ I h) fun v s1 ⟨x,H1,I1,r1,ty,q1⟩=>?_);obtain⟨h1,h2⟩:=LK I1 r1 ty;refine⟨T,id,pa,slot,hty,h1,h2,?_⟩;have hA:=ha df pins s1 σ H1 _ I1 q1;rw[hs] at hA ⊢;refine Calls.callWith_builtin (by show (false || (backTo df (starEach es X.env)).any (·.1))=false;rw[gc] <;> rfl) (Calls.evalArgs_plain ?_);exact AI hA fun us s2 ⟨vs,H2,I2,r2,q2⟩=>hm pins s2 σ H2 x vs v us Q I2 r1 r2 q2
end
def Si (X:Cx)(id:String)(r:V->List V->Hp->VK->Prop):Prop:=
 ∀pins s σ H x xs v us Q,AB X pins σ H s->AQ x v->AK xs us->r x xs H Q ->
  wpAny (model X.prog X.w) X.A (call (.builtin id) (v::us)) (EP X pins σ Q) X.xe s
theorem AK.one:∀{x:V}{us:List Value},AK [x] us->∃u,us=[u]/\AQ x u
 | _,_,.cons r .nil=>⟨_,rfl,r⟩
theorem AK.eraseIdx:∀{xs:List V}{us:List Value}(i:Nat),AK xs us->AK (xs.eraseIdx i) (us.eraseIdx i)
 | _,_,_,.nil=>.nil
 | _,_,0,.cons _ t=>t
 | _,_,i+1,.cons r t=>.cons r (AK.eraseIdx i t)
theorem VM {α:Type}:∀(l:List α)(i:Nat),(l.eraseIdx i).length<=l.length
 | [],_=>zJ _
 | _::_,0=>Bc _
 | _::r,i+1=>Nat.succ_le_succ (VM r i)
theorem AB.lset {its:List Value}(I:AB X pins σ H s)(hH:H l=some (.lst xs))
 (e:s.heap.get? l=some { cls:=.type "list",data:=.seq its.toArray n }) (hf:f its.toArray=its'.toArray)(hv:AK ys its')(hz:ys.length<=sizeLine):
 AB X pins σ (upd H l (.lst ys)) { s with heap:=s.heap.update l (Obj.mapSeq f),toks:=t' }:=by
 have q:=PySem.IsL.update e f;rw[hf] at q;refine I.write (x:=l) (e:=l) (by rw[hH];exact trivial) (.inl rfl) (fun b' u hb hu=>(GY s.heap (Obj.mapSeq f) (Ne.symm hb)).trans hu) ⟨_,q⟩ ?_;exact⟨hz,its',_,hv,q⟩
theorem AB.lnew (I:AB X pins σ H s)(hv:AK ys its)(hz:ys.length<=sizeLine):
 AB X pins σ (upd H s.heap.objs.size (.lst ys)) { s with heap:=s.heap.push { cls:=.type "list",data:=.seq its.toArray },toks:=t' }:=
 I.laid (fun _ _ q=>zG _ q) (zJ _) ⟨hz,its,0,hv,zN _ rfl⟩
theorem AB.fresh (I:AB X pins σ H s):H s.heap.objs.size=none:=I.hok.fresh (zJ _)
theorem AB.lstM (I:AB X pins σ H s)(hH:H l=some (.lst xs)):xs.length<=sizeLine/\∃its n,AK xs its/\xs.length=its.length/\s.heap.get? l=some { cls:=.type "list",data:=.seq its.toArray n }:=by obtain⟨z,its,n,r,e⟩:=I.hok l _ hH;exact⟨z,its,n,r,r.length,e⟩
theorem Zt (h:n<=sizeLine):Builtin.List.listTooLong n=false:=by unfold Builtin.List.listTooLong;exact zR (by lia)
inductive Wn (x:V)(vs:List V)(H:Hp)(Q:VK):Prop
 | mk:∀l xs y,(x=.ref l)->(vs=[y])->(H l=some (.lst xs))->(xs.length<sizeLine)->(Q .non (upd H l (.lst (xs++[y]))))->Wn x vs H Q
def bN:V->List V->Hp->VK->Prop:=fun x vs H Q=>Wn x vs H Q
theorem HW:Si X "list.append" bN:=by
 intro pins s σ H x vs v us Q I rx rv h;obtain⟨l,xs,y,rfl,rfl,hH,hz,q⟩:=h;cases rx;obtain⟨u,rfl,ru⟩:=rv.one;obtain⟨z,its,n,r,hl,e⟩:=I.lstM hH;refine call_meets F.slot_list_append ⟨_,e,rfl⟩ F.entry_list_append (F.args_list_append_2 _ _) (PySem.list_append l its.toArray n u (by rw[zL];lia)) ⟨e,?_⟩;refine⟨.non,_,I.lset (its':=its++[u]) hH e (by simp) (r.append (.cons ru .nil)) ?_,rfl,q⟩;rw[zM,List.length_singleton]
 lia
def Zq:V->List V->Hp->VK->Prop:=fun x vs H Q=>∃l b xs zs,x=.ref l/\vs=[.ref b]/\H l=some (.lst xs)/\H b=some (.lst zs)/\xs.length+zs.length<=sizeLine/\Q .non (upd H l (.lst (xs++zs)))
theorem Vs:Si X "list.extend" Zq:=by
 intro pins s σ H x vs v us Q I rx rv h;obtain⟨l,b,xs,zs,rfl,rfl,hH,hB,hz,q⟩:=h;cases rx;obtain⟨u,rfl,ru⟩:=rv.one;cases ru;obtain⟨z,its,n,r,hl,e⟩:=I.lstM hH;obtain⟨z2,d7,n2,r2,fZ,e2⟩:=I.lstM hB;have hsz:its.toArray.size+d7.toArray.size<=sizeLine:=by rw[zL,zL];lia
 have hlong:¬ (!its.toArray.isEmpty && Builtin.List.listTooLong (its.toArray.size+d7.toArray.size))=true:=by rw[Zt hsz,Bool.and_false];exact zn
 refine call_meets F.slot_list_extend ⟨_,e,rfl⟩ F.entry_list_extend (F.args_list_extend_2 _ _)
  (AutoSeq1.list_extend_list_list_0 l its.toArray n b d7.toArray n2 hlong (by rw[zL];lia) (by lia)) ⟨e,e2,?_⟩
 refine⟨.non,_,I.lset (its':=its++d7) hH e (by simp) (r.append r2) ?_,rfl,q⟩;rw[zM]
 lia
def Jx:V->List V->Hp->VK->Prop:=fun x vs H Q=>∃l xs i k y,x=.ref l/\vs=[.int i]/\H l=some (.lst xs)/\-(2 ^ 63)<=i/\i<2 ^ 63/\seqIndex? i xs.length=some k/\xs[k]?=some y/\Q y (upd H l (.lst (xs.eraseIdx k)))
theorem X3:Si X "list.pop" Jx:=by
 intro pins s σ H x vs v us Q I rx rv h;obtain⟨l,xs,i,k,y,rfl,rfl,hH,h1,h2,hk,hy,q⟩:=h;cases rx;obtain⟨u,rfl,ru⟩:=rv.one;obtain⟨t,rfl⟩:=ru;obtain⟨z,its,n,r,hl,e⟩:=I.lstM hH;obtain⟨w,hw,gW⟩:=r.get hy;refine call_meets F.slot_list_pop ⟨_,e,rfl⟩ F.entry_list_pop (F.args_list_pop_2 _ _)
  (MeetsSeq.list_pop_at l its.toArray n i t k w (fitsIndex_both h1 h2) (by rw[zL,<-hl];exact hk) (by rw[<-Array.getElem?_toList];exact hw) (by rw[zL];lia)) ⟨e,?_⟩
 refine⟨y,_,I.lset (its':=its.eraseIdx k) hH e ?_ (r.eraseIdx k) ?_,gW,q⟩
 . show its.toArray.eraseIdxIfInBounds k=(its.eraseIdx k).toArray;rw[List.eraseIdxIfInBounds_toArray]
 . have:=VM xs k
   lia
def UB:R2:=fun x y H Q=>∃l b xs zs,x=.ref l/\y=.ref b/\H l=some (.lst xs)/\H b=some (.lst zs)/\xs.length+zs.length<=sizeLine/\∀p,H p=none->Q (.ref p) (upd H p (.lst (xs++zs)))
theorem Jl:Ay X (binaryOp .Add) UB:=by
 intro pins s σ H x y v u Q I rx ry h;obtain⟨l,b,xs,zs,rfl,rfl,hH,hB,hz,q⟩:=h;cases rx;cases ry;obtain⟨z,its,n,r,hl,e⟩:=I.lstM hH;obtain⟨z2,d7,n2,r2,fZ,e2⟩:=I.lstM hB;refine PySem.P.add_list e e2 ?_ (by rw[zL,zL];lia);have ea:its.toArray++d7.toArray=(its++d7).toArray:=by simp
 rw[ea];exact⟨.ref _,_,I.lnew (t':=s.toks) (r.append r2) (by rw[zM];lia),rfl,q _ I.fresh⟩
end L2
namespace Att
open PySem PySem.W PySem.Calls PyProof.Rows
theorem ah :∀ns vs,WellAll P h vs (ns.map WData.int)->IntsAre vs ns:=by
 intro ns
 induction ns with
 | nil=>intro vs w;rw[List.map_nil] at w;cases w;exact .nil
 | cons n ns ih=>
  intro vs w;rw[BX] at w;cases w with
  | cons a b=>cases a;exact .cons _ _ (ih _ b)
theorem ak {l:OpenLaw}(hn:l.most=some n)
 (hpre:l.row.toRowW.claim.pre args=true)(hwl:WellAll P h vals args):
 ∃a vs ns,vals=[Value.ref a]/\args=[WData.list (ns.map WData.int)]/\h.get? a=some { cls:=.type "list",data:=.seq vs.toArray }/\IntsAre vs ns/\ns.length<=n:=by
 have hsh:WShape.hasAll [] args [.list .int]=true:=(pre_splitW hpre).1;have hc:l.pre.holds [] { args:=args }=true:=(pre_splitW hpre).2;obtain⟨d,r,rfl,h1,h2⟩:=hasAllW_cons hsh;obtain rfl:=hasAllW_nil h2;obtain⟨xs,rfl,h3⟩:=hasW_list h1;obtain⟨ns,rfl⟩:=items_int h3;have hlen:ns.length<=n:=by
  unfold OpenLaw.pre at hc;have h4:(WTm.not (.lt (.lit (.int (n:Int))) (.len (.arg 0)))).holds [] { args:=[.list (ns.map .int)] }=true:=by have h4:=(holds_andW hc).1;rw[hn] at h4;exact h4
  have h5:=condW_of h4 (w_not (w_lt w_lit (w_len_list (w_arg rfl))));rw[zD] at h5;refine Nat.le_of_not_lt fun q=>?_;have q':(n:Int)<((ns.length:Nat):Int):=by lia
  first
   | (rw[zP q'] at h5;exact absurd h5 (by decide))
   | (simp at h5;lia)
 cases hwl with
 | cons w1 w2=>
  cases w2;cases w1 with
  | list ho du=>exact⟨_,_,ns,rfl,rfl,ho,ah ns _ du,hlen⟩
theorem bP (l:OpenLaw)(args):l.row.toRowW.claim.post args (.bool true) args=true:=
 postW_of (r:=l.row.toRowW) (X:=(true==true))
  (show WShape.has [] (.bool true) .bool=true by first | rfl | decide | simp[WShape.has,WShape.arms,WShape.armsAll])
  (show (WTm.eq .res (.lit (.bool true))).value [] { args:=args,res:=some (.bool true),after:=args }=some (.bool (true==true)) from w_eq_bool (w_res rfl) w_lit) rfl
theorem attach_call {l:OpenLaw}
 (hn:l.most=some n)(hdf:d.params.defaults=[])
 (call:∀w s₀ s₁ mg mb fa o pm cd doc a vs ns,
  Ground q loose [] XP w s₀ mg mb s₁.heap->YP w s₁.heap ->
  s₁.heap.get? fa=some o->o.data=.func (docDef d.name d.params d.body d.scope pm cd doc)->s₁.heap.CodeRec cd d.name->mg d.name=some (.ref fa) ->
  s₁.heap.get? a=some { cls:=.type "list",data:=.seq vs.toArray }->IntsAre vs ns->ns.length<=n->s₁.gens=#[] ->
  codeAny (model l.prog w) callerA (.call (.ref fa) ⟨[.ref a],[]⟩) (fun r s'=>r=.ok (.ret (.bool true))/\OldK s₁.heap s'.heap/\s'.os=s₁.os/\AllBare s'.gens) s₁):
 WalkO q loose XP YP l.row.toRowW d [] (fun f vs=>PySem.call f vs):=by
 intro w s₀ s₁ mg mb G Y fa o pm cd doc dV kV ho hd gp hD hmg hg args vals as hpre hlay hrd hwl hU;obtain rfl:dV=.none:=Dflts.none hD hdf;obtain rfl:kV=.none:=Dflts.noKw hD;obtain⟨a,vs,ns,rfl,rfl,hobj,hints,hlen⟩:=ak hn hpre hwl;refine enter_call (codeAny_mono (call w s₀ s₁ mg mb fa o pm cd doc a vs ns G Y ho (fd_plain hd) gp hmg hobj hints hlen hg) fun r s' hq=>?_);obtain⟨rfl,h2,h3,h4⟩:=hq;exact⟨.inl ⟨.bool true,.bool true,[],rfl,fun _=>rfl,.bool true,bP l _,fun _=>⟨Io,fun _ hm=>(nomatch hm)⟩⟩,h2,h3,h4⟩
end Att
namespace L2
open PySem PySem.Spec PyProof.Rows
theorem Wv:∀{vs:List Value}{ns:List Int},IntsAre vs ns->AK (ns.map V.int) vs
 | _,_,.nil=>.nil
 | _,_,.cons n t h=>.cons ⟨t,rfl⟩ (Wv h)
def KU (H:Hp):Prop:=∀b,H b=none\/∃o xs,H b=some (.frz o (.lst xs))
theorem ZZ {K:AJ}
 (KX:K.In s₁.heap)(e7:s₁.heap.Ns mainGlobals mg)(hb:s₁.heap.Ns builtinsNs mb)(hbb:∀x:Str,x ≠ "__name__"->mb x=bootBuiltins x) (hlim:s₁.heap.NoLimit)(hg:s₁.gens=#[])
 (ha:s₁.heap.get? a=some { cls:=.type "list",data:=.seq vs.toArray }) (hi:IntsAre vs ns)(hl:ns.length<=sizeLine)(hr:A0 k callerA)
 (F:∀base:Heap,K.In base->base.Ns mainGlobals mg->AL P w K mg base CX k fa fd [x] sp)(hbind:∀s u,BindsTo s fd ⟨[u],[]⟩ [(x,u)])
 (fv:∀H:Hp,KU H->AE K H a (ns.map V.int)->sp [.ref a] H (fun v _=>v=.bl true) fun _ _ _=>False)
 (hCX:∀H e s',CX [] H s₁ (fun _ _ _=>False) e s'->False):
 codeAny (model P w) callerA (.call (.ref fa) ⟨[.ref a],[]⟩) (fun r s'=>r=.ok (.ret (.bool true))/\OldK s₁.heap s'.heap/\s'.os=s₁.os/\AllBare s'.gens) s₁:=by
 have rv:=Wv hi;have lenV:=hi.length;have core:∀H:Hp,KU H->AE K H a (ns.map V.int)->Ap P w H s₁.heap->(∀b,H b≠none->b=a)->(H a≠none->K.lookup a=none) ->
  codeAny (model P w) callerA (.call (.ref fa) ⟨[.ref a],[]⟩) (fun r s'=>r=.ok (.ret (.bool true))/\OldK s₁.heap s'.heap/\s'.os=s₁.os/\AllBare s'.gens) s₁:=by
  intro H hO hS hok hA hK;have base_of:∀{b:Addr}{o:Obj},s₁.heap.get? b=some o->H b=none->(Gp s₁.heap H).get? b=some o:=fun e n=>aZ e n;have noA:∀{b:Addr}{o:Obj}{es:Array DictEntry}{ep:Nat},s₁.heap.get? b=some o->o.data=.dict es ep->H b=none:=fun {b o es ep} e d=>by
   cases q:H b with
   | none=>rfl
   | some u=>have e':b=a:=hA b (by rw[q];simp);subst e';rw[ha] at e;cases e;have d':Data.seq vs.toArray _=Data.dict es ep:=d;cases d'
  have nsK:∀{b:Addr}{m:Bx},s₁.heap.Ns b m->(Gp s₁.heap H).Ns b m:=fun {b m} ⟨o,es,ep,e,d,r⟩=>⟨o,es,ep,base_of e (noA e d),d,r⟩;have hKb:K.In (Gp s₁.heap H):=fun b o e=>base_of (KX b o e) (by
   cases q:H b with
   | none=>rfl
   | some u=>have e':b=a:=hA b (by rw[q];simp);subst e';rw[hK (by rw[q];simp)] at e;cases e)
  have hM:Mod K mg (Gp s₁.heap H):=⟨hKb,nsK e7,⟨mb,nsK hb,hbb⟩,let ⟨mc,h1,h2⟩:=hlim;⟨mc,nsK h1,h2⟩⟩;have e0:JA P w K mg (Gp s₁.heap H) callerA [] s₁ H:=⟨rfl,hM,fun b o e=>bq e,Nat.le_of_eq (YQ _ _),trivial,fun b hb=>absurd (show b∈([]:List Addr) from hb) (by simp),hok,.of_eq hg⟩;refine codeAny_mono ((F _ hKb (nsK e7)).run callerA [] s₁ H ⟨[.ref a],[]⟩ [.ref a] [.ref a] _ _ hr e0 (hbind s₁ (.ref a)) (.cons rfl .nil) (fv H hO hS)) fun r s' h=>?_;cases r with
  | error e=>exact (hCX H e s' h).elim
  | ok fl=>
   cases fl with
   | next=>exact False.elim h
   | brk=>exact False.elim h
   | cont=>exact False.elim h
   | ret u=>
    obtain⟨v,H',os,bare,un,hok',r',q⟩:=h;have q':v=.bl true:=q;subst q';obtain rfl:u=Value.bool true:=r';refine⟨rfl,OldK.of_keep fun b o e=>?_,os,bare⟩;cases q:H b with
    | none=>exact un.keep b o e q (by intro z;exact absurd (show b∈([]:List Addr) from z) (by simp)) (by simp)
    | some u=>
     rcases hO b with z | ⟨ob,xs,z⟩
     . rw[q] at z;cases z
     . have z2:=un.frzs b ob _ z;obtain⟨e1,_⟩:=hok b _ z;obtain⟨e2,_⟩:=hok' b _ z2;rw[e] at e1;cases e1;exact e2
 cases hk:K.lookup a with
 | some o=>have e:=KX a o hk;rw[ha] at e;cases e;refine core (fun _=>none) (fun _=>.inl rfl) (.inr ⟨_,vs.toArray,_,hk,rfl,rfl,rfl,by rw[zL,lenV];exact hl,by simpa using rv⟩) (fun b u z=>by have z':(none:Option HO)=some u:=z;cases z') (fun b z=>absurd rfl z) fun z=>absurd rfl z
 | none=>
  refine core (fun b=>if b=a then some (.frz { cls:=.type "list",data:=.seq vs.toArray } (.lst (ns.map V.int))) else none) (fun b=>?_) (.inl (.inr ⟨{ cls:=.type "list",data:=.seq vs.toArray },if_pos rfl⟩)) (fun b u z=>?_) (fun b z=>?_) fun _=>hk
  . by_cases hb:b=a
    . exact .inr ⟨_,_,if_pos hb⟩
    . exact .inl (if_neg hb)
  . by_cases hb:b=a
    . have z':=(if_pos hb).symm.trans z;cases z';subst hb;exact⟨ha,by rw[zD];exact hl,vs,_,rv,ha⟩
    . have z':=(if_neg hb).symm.trans z;cases z'
  . by_cases hb:b=a
    . exact hb
    . exact absurd (if_neg hb) z
theorem walk_of {l:PySem.W.OpenLaw}{K:Params->AJ}{CX:World->IP}{sp:World->Sp}
 (hn:l.most=some n)(hn2:n<=sizeLine)(hdf:d.params.defaults=[])(hr:A0 k callerA)
 (hY:∀w h,YP w h->(K w.params).In h)
 (F:∀w mg fa h,(K w.params).In h->h.Ns mainGlobals mg->mg d.name=some (.ref fa) ->
  ∃fd:FuncData,(∀s u,BindsTo s fd ⟨[u],[]⟩ [(x,u)]) /\
   ∀base:Heap,(K w.params).In base->base.Ns mainGlobals mg->AL l.prog w (K w.params) mg base (CX w) k fa fd [x] (sp w))
 (fv:∀w H a(ns:List Int),ns.length<=n->KU H->AE (K w.params) H a (ns.map V.int)->sp w [.ref a] H (fun v _=>v=.bl true) fun _ _ _=>False)
 (hCX:∀w H s e s',CX w [] H s (fun _ _ _=>False) e s'->False):
 PySem.W.WalkO q loose XP YP l.row.toRowW d [] (fun f vs=>PySem.call f vs):=by
 refine Att.attach_call hn hdf fun w s₀ s₁ mg mb fa o pm cd doc a vs ns G Y ho hd gp hmg hobj hints hlen hg=>?_;have KX:=hY w _ Y;obtain⟨fd,hb,hF⟩:=F w mg fa _ KX G.T.g hmg;exact ZZ KX G.T.g G.T.b G.T.builtins G.T.nolimit hg hobj hints (zp hlen hn2) hr hF hb (fun H hO hS=>fv w H a ns hlen hO hS) fun H e s'=>hCX w H s₁ e s'
abbrev AU:IP:=fun _ _ _ _ _ _=>False
abbrev E0:XK:=fun _ _ _=>False
theorem IY :QF AU X E0:=fun _ _ _ _ _ _ _ h=>h.elim
structure Cm (K:AJ)(x qual:Str)(st:Stmt)(f:Addr)(fd:FuncData):Prop where
 ex:∃(oc:Value)(od:Option Addr)(kV doc pm:Value)(an:Option Addr)(dy ct:Value)(osl:Array (Option Value)),
  fd=PySem.W.fnOf x qual (defArgs st) (defBody st) (defScope st) .none kV doc pm an dy ct/\K.lookup f=some ⟨oc,od,.func fd,osl⟩/\PySem.W.codeIn K dy qual=true
 kp:PySem.W.keepIn K (.ref f)=true
section
variable {P:Program}{w:World}{K:AJ}{mg:Bx}{base:Heap}
theorem Cm.ok {st:Stmt}(F:Cm K x qual st f fd)(S:AX N ps (defScope st))(len:∀vs H Q E,sp vs H Q E->vs.length=ps.length)
 (eL:∀dy A outer s H vs Q E,A0 k (A.deeper (envOfC qual (defScope st) s.heap.objs.size f dy))->sp vs H Q E ->
  ∃t,BU (Cv AU P w K mg base N qual (defScope st) f dy A outer s H E).nox (defBody st) t/\t { nx:=fun _ H'=>Q .non H',rt:=Q } (start N vs) H):AL P w K mg base AU (k+1) f fd ps sp:=by
 obtain⟨oc,od,kV,doc,pm,an,dy,ct,osl,rfl,lk,gp⟩:=F.ex;refine Hh lk gp S len fun A outer s H vs Q E hr fv=>?_;obtain⟨t,h,q⟩:=eL dy A outer s H vs Q E hr fv;exact⟨t,h.nox,q⟩
theorem Cm.binds {st:Stmt}(F:Cm K x qual st f fd)
 (h:∀kV doc pm an dy ct us,us.length=ps.length->bindArgs (PySem.W.fnOf x qual (defArgs st) (defBody st) (defScope st) .none kV doc pm an dy ct) ⟨us,[]⟩=pure (ps.zip us)):DA K fd ps []:=by
 obtain⟨oc,od,kV,doc,pm,an,dy,ct,osl,rfl,lk,gp⟩:=F.ex;exact .all (h kV doc pm an dy ct)
theorem VS {st:Stmt}{kV:Value}(l:K.lookup f=some ⟨oc,od,.func (PySem.W.fnOf x qual (defArgs st) (defBody st) (defScope st) .none kV doc pm an dy ct),osl⟩)
 (c:PySem.W.codeIn K dy qual=true)(k:PySem.W.keepIn K (.ref f)=true):Cm K x qual st f (PySem.W.fnOf x qual (defArgs st) (defBody st) (defScope st) .none kV doc pm an dy ct):=⟨⟨oc,od,kV,doc,pm,an,dy,ct,osl,rfl,l,c⟩,k⟩
end
theorem Ge (hr:A0 k A):A.units+1<cLine:=CG (Nat.add_le_add_left (by decide:1<=64) _) hr.units
theorem pv (i)(hN:X.N[i]?=some x:=by rfl)(hv:TJ X.env.scope x:=by first | exact Or.inl rfl | exact Or.inr (Or.inl rfl) | exact Or.inr (Or.inr rfl))(hd:(x==("__debug__" : Str))=false:=by decide)
 (gp:(x==("__classdict__" : Str))=false:=by decide):PE X (.Name x pos) (OE i):=Kd hN hv hd gp
theorem Aj {A:Prop}(h:B):if false=true then A else B:=by rw[if_neg zn];exact h
theorem Aa {A:Prop}(h:A):if true=true then A else B:=by rw[if_pos rfl];exact h
theorem Cg {A:Prop} [Decidable c] (h1:c->A)(h2:¬ c->B):if c then A else B:=by
 by_cases h:c
 . rw[if_pos h];exact h1 h
 . rw[if_neg h];exact h2 h
def AD (H H':Hp):Prop:=∀b o,H b=some o->H' b=some o
theorem AD.refl (H):AD H H:=fun _ _ h=>h
theorem AD.trans (a:AD H H1)(b:AD H1 H2):AD H H2:=fun c o h=>b c o (a c o h)
section
variable {κ:Type} [DecidableEq κ]
theorem ZE {k:κ}(h:Af dQ k=none):¬ k∈dQ.map (·.1):=by intro m;obtain⟨p,hp,e⟩:=Be.mp m;have q:(dQ.any fun kv=>decide (kv.1=k))=true:=List.any_eq_true.mpr ⟨p,hp,zP e⟩;rw[HA,h] at q;exact absurd q (by simp)
theorem VN:∀{l:List κ}{k:κ},l.Nodup->¬ k∈l->(l++[k]).Nodup
 | [],k,_,_=>by simp
 | a::r,k,h,hk=>by
  obtain⟨h1,h2⟩:=F6.mp h;show (a::(r++[k])).Nodup;refine F6.mpr ⟨fun m=>?_,VN h2 fun m=>hk (zT.mpr (Or.inr m))⟩;rcases zj.mp m with q | q
  . exact h1 q
  . exact hk (zT.mpr (Or.inl (zh.mp q).symm))
theorem Y7 {k:κ}(v)(hn:(dQ.map (·.1)).Nodup)(h:Af dQ k=none):((BC dQ k v).map (·.1)).Nodup:=by rw[UJ v h,zf];exact VN hn (ZE h)
end
end L2
set_option Elab.async false
set_option linter.all false
set_option maxRecDepth 100000
set_option maxHeartbeats 4000000
namespace L2
open PySem PySem.Spec PyProof.Rows
theorem VY (I:Nat->Shared->Prop)
 (turn:∀n s,I n s->wpAny (model prog w) A (pyNext it) (fun r s₁=>match r with
  | none=>R (.ok .next) s₁
  | some v=>wpAny (model prog w) A (letOwnedTupleGo target it v) (fun _ s₁'=>wpAny (model prog w) A (assign target env v) (fun _ s₂=>
   wpAny (model prog w) A (forIn ifs true fun c r=>if r=true then do let ok <-isTrue c env (eval c env);pure (ForInStep.yield ok) else pure (ForInStep.yield r)) (fun ok s₃=>
    if ok=true then wpAny (model prog w) A (eval elt env) (fun x s₄=>
     wpAny (model prog w) A (call (.builtin "list.append") [acc,x]) (fun _ s₅=>∃m,m<n/\I m s₅) (fun _ _=>False) s₄) (fun _ _=>False) s₃
    else ∃m,m<n/\I m s₃) (fun _ _=>False) s₂) (fun _ _=>False) s₁') (fun _ _=>False) s₁) (fun _ _=>False) s)
 (n)(h:I n s):codeAny (model prog w) A (.compLoop (.ListComp elt [⟨target,iter,ifs,0⟩] scope pos) 0 it acc env) R s:=by
 refine codeAny_loop rfl I (fun n s hI=>?_) n h;show wpAny _ A ((compTurn (.ListComp elt [⟨target,iter,ifs,0⟩] scope pos) 0 it acc env).onRaise (fun x=>do noteFrame x env;theTreesLotGoes x)) _ _ s
 refine wpAny_noted ?_;rw[compTurn_list];refine zA (wpAny_standAt (zA (A8 (turn n s hI) (fun r s₁ h₁=>?_) fun _ _ h'=>h'.elim)));cases r with
 | none=>exact zC h₁
 | some v=>
  refine zA (A8 h₁ (fun _ s₁' h₁'=>?_) fun _ _ h'=>h'.elim);refine zA (A8 h₁' (fun _ s₂ h₂=>zA (A8 h₂ (fun ok s₃ h₃=>?_) fun _ _ h'=>h'.elim)) fun _ _ h'=>h'.elim);cases ok with
  | false=>exact zC ⟨rfl,h₃⟩
  | true=>exact zA (zA (A8 h₃ (fun x s₄ h₄=>zA (A8 h₄ (fun _ s₅ h₅=>zC (zC ⟨rfl,h₅⟩)) fun _ _ h'=>h'.elim)) fun _ _ h'=>h'.elim))
def G5 (X:Cx)(ifs:List Expr)(t:TT):Prop:=
 ∀pins s σ H Q,AB X pins σ H s->t σ H Q ->
  wpAny (model X.prog X.w) X.A (forIn ifs true fun c r=>if r=true then do let ok <-isTrue c X.env (eval c X.env);pure (ForInStep.yield ok) else pure (ForInStep.yield r)) (TP X pins σ Q) X.xe s
def PV:TT:=fun _ H Q=>Q true H
theorem CC {A B:Hp->Prop}(h:A H):PV σ H (fun b H3=>if b=true then A H3 else B H3):=by
 show (if true=true then A H else B H)
 exact Aa h
theorem CD :G5 X [] PV:=fun _ _ _ H _ I h=>wpAny_tests_nil ⟨H,I,h⟩
theorem El (h:PT X c t):G5 X [c] t:=fun pins s σ H Q I q=>wpAny_tests_one (h pins s σ H Q I q)
noncomputable def BQ (cells:List (Str×Addr)):List (Str×NameKind)->List (Str×Addr)->List (Str×Addr)
 | [],acc=>acc
 | (n,k)::r,acc=>if (k == .free)=true then (match cells.lookup n with | some c=>BQ cells r ((n,c)::acc) | none=>BQ cells r acc) else BQ cells r acc
theorem Po :∀names acc,(BQ cells names acc).lookup x=some c->acc.lookup x=some c\/cells.lookup x=some c
 | [],acc,h=>.inl h
 | (n,k)::r,acc,h=>by
  unfold BQ at h;split at h
  . cases hc:cells.lookup n with
    | none=>rw[hc] at h;exact Po r acc h
    | some c'=>
     rw[hc] at h;rcases Po r _ h with q | q
     . rw[Ec] at q;cases hx:x==n with
       | true=>
        rw[hx] at q;have e:x=n:=by simpa using hx
        have e2:c'=c:=by simpa using q
        rw[e,hc,e2];exact .inr rfl
       | false=>rw[hx] at q;exact .inl q
     . exact .inr q
  . exact Po r acc h
theorem QJ :∀names acc,(∃c,acc.lookup x=some c)->∃c,(BQ cells names acc).lookup x=some c
 | [],acc,h=>h
 | (n,k)::r,acc,h=>by
  unfold BQ;split
  . cases hc:cells.lookup n with
    | none=>exact QJ r acc h
    | some c'=>
     refine QJ r _ ?_;rw[Ec];cases hx:x==n with
     | true=>exact⟨c',rfl⟩
     | false=>exact h
  . exact QJ r acc h
theorem NB (hx:∃c,cells.lookup x=some c):∀names acc,(x,NameKind.free)∈names->∃c,(BQ cells names acc).lookup x=some c
 | [],acc,h=>by simp at h
 | (n,k)::r,acc,h=>by
  rcases zT.mp h with e | h
  . cases e;obtain⟨c,hc⟩:=hx;unfold BQ;rw[if_pos (by rfl),hc];exact QJ r _ ⟨c,by rw[Ec];simp⟩
  . unfold BQ;split
    . cases hc:cells.lookup n with
      | none=>exact NB hx r acc h
      | some c'=>exact NB hx r _ h
    . exact NB hx r acc h
theorem Qr :∀names acc,(∀y∈names,y.2=.free->∃c,env.cells.lookup y.1=some c) ->
 (forIn names acc fun (x:Str×NameKind)(cs:List (Str×Addr))=>(if (x.2 == .free)=true then (do let a <-cellOf env x.1;pure (ForInStep.yield ((x.1,a)::cs))) else pure (ForInStep.yield cs):Sem (ForInStep (List (Str×Addr)))))=pure (BQ env.cells names acc)
 | [],acc,_=>rfl
 | (n,k)::r,acc,h=>by
  rw[List.forIn_cons];have hr:∀y∈r,y.2=.free->∃c,env.cells.lookup y.1=some c:=fun y hy=>h y (zZ _ hy);unfold BQ;cases hk:(k==NameKind.free) with
  | true=>obtain⟨c,hc⟩:=h (n,k) zS (by simpa using hk);simp only[hk,if_true,cellOf,hc,pure_bind];exact Qr r _ hr
  | false=>simp only[hk,Fy,if_false,pure_bind];exact Qr r _ hr
theorem UY (h:∀y∈scope.names,y.2=.free->∃c,env.cells.lookup y.1=some c):closureFor scope env=pure (BQ env.cells scope.names []):=by have e:=Qr scope.names [] h;simp only[closureFor];simp only[bind_pure];exact e
theorem Mc {env:Env}:∀(names:List (Str×NameKind)),
 (names.map fun (n,k)=>if (k==NameKind.free && env.scope.kind == .function && env.kindOf n==some .cell) then (n,NameKind.cell) else (n,k)).lookup x =
  (names.lookup x).map fun k=>if (k==NameKind.free && env.scope.kind == .function && env.kindOf x==some .cell)=true then NameKind.cell else k
 | []=>rfl
 | (n,k)::r=>by
  have ih:=Mc (env:=env) (x:=x) r;rw[BX];show List.lookup x ((if (k==NameKind.free && env.scope.kind == .function && env.kindOf n==some .cell)=true then (n,NameKind.cell) else (n,k))::_)=_
  by_cases c:(k==NameKind.free && env.scope.kind == .function && env.kindOf n==some .cell)=true
  . rw[if_pos c,Ec,Ec];cases hx:x==n with
    | true=>
     have e:x=n:=by simpa using hx
     subst e;show some NameKind.cell=Option.map _ (some k);rw[Dt,if_pos c]
    | false=>exact ih
  . rw[if_neg c,Ec,Ec];cases hx:x==n with
    | true=>
     have e:x=n:=by simpa using hx
     subst e;show some k=Option.map _ (some k);rw[Dt,if_neg c]
    | false=>exact ih
noncomputable def BM (X:Cx)(pl:Bm)(N':List Str)(scope:Scope)(fp:List Addr)(s3:Shared)(H3:Hp):Cx where
 prog:=X.prog
 w:=X.w
 K:=X.K
 mg:=X.mg
 base:=X.base
 A:=X.A
 N:=N'
 s₀:=s3
 H₀:=H3
 env:=compEnvC scope (BQ X.env.cells scope.names []) s3.heap.objs.size X.env
 outer:=X.stack
 stack:=X.stack
 ex:=fp
 fn:=fun _=>false
 calm:=X.calm
 pn:=pl
 xe:=fun _ _=>False
def EV (X:Cx)(scope:Scope):List Str->List Nat->Prop
 | [],[]=>True
 | x::cn,j::ci=>X.N[j]?=some x/\X.env.kindOf x=some .cell/\scope.names.lookup x=some .free/\EV X scope cn ci
 | _,_=>False
theorem EV.get :∀{cn:List Str}{ci:List Nat}{k:Nat}{x:Str},EV X scope cn ci->cn[k]?=some x->∃j,ci[k]?=some j/\X.N[j]?=some x/\X.env.kindOf x=some .cell/\scope.names.lookup x=some .free
 | [],_,_,_,_,h=>by simp at h
 | _::_,[],_,_,c,_=>c.elim
 | y::cn,j::ci,0,x,c,h=>by
  obtain⟨a,b,b',_⟩:=c;have e:y=x:=by simpa using h
  subst e;exact⟨j,rfl,a,b,b'⟩
 | y::cn,j::ci,k+1,x,c,h=>by obtain⟨j',h1,h2⟩:=EV.get (k:=k) c.2.2.2 (by simpa using h);exact⟨j',by simpa using h1,h2⟩
structure JN (X:Cx)(scope:Scope):Prop where
 kind:scope.kind=.function
 nocell:∀y∈scope.names,y.2 ≠ .cell
 names:∀y∈scope.names,y.2=.local->scope.names.lookup y.1=some .local
 free:∀y∈scope.names,y.2=.free->X.env.kindOf y.1=some .cell
section
variable {X:Cx}{pins:Bm}{σ:St}{H3:Hp}{s3:Shared}{scope:Scope}{fp:List Addr}{N' own cn:List Str}{ci:List Nat}{cv:List V}
theorem Ve (ok:X.Ok)(S:JN X scope)(h:(relabel scope X.env).names.lookup x=some .cell\/(relabel scope X.env).names.lookup x=some .free):
 ∃c,(BQ X.env.cells scope.names []).lookup x=some c:=by
 have e:(relabel scope X.env).names.lookup x=(scope.names.lookup x).map fun k=>if (k==NameKind.free && X.env.scope.kind == .function && X.env.kindOf x==some .cell)=true then NameKind.cell else k:=Mc scope.names
 have hf:scope.names.lookup x=some .free:=by
  cases q:scope.names.lookup x with
  | none=>rw[e,q] at h;simp at h
  | some k=>
   by_cases hk:k=.free
   . rw[hk]
   . have hb:(k==NameKind.free)=false:=by simpa using hk
     rw[e,q] at h;simp only[Dt,hb,Bt,Fy,if_false,JF] at h;rcases h with h | h
     . exact absurd h (S.nocell _ (PySem.mem_of_lookup q))
     . exact absurd h hk
 exact NB (ok.has x (.inl (S.free _ (PySem.mem_of_lookup hf) rfl))) scope.names [] (PySem.mem_of_lookup hf)
theorem Hb (h:(BQ X.env.cells scope.names []).lookup x=some c):X.env.cells.lookup x=some c:=by
 rcases Po _ _ h with q | q
 . simp at q
 . exact q
theorem aH (I:AB X pins σ H3 s3)(S:JN X scope)(f:∀b∈fp,BB X pins H3 b)(fz:∀b∈fp,b<s3.heap.objs.size):(BM X (X.pn++pins) N' scope fp s3 H3).Ok where
 mod:=I.ok.mod
 kind:=S.kind
 glob:=I.ok.glob
 blt:=I.ok.blt
 above:=zJ _
 inj:=fun x y c h1 h2=>I.ok.inj x y c (Hb h1) (Hb h2)
 has:=fun x h=>Ve I.ok S h
 cab:=fun x c h=>by cases h
 hd:=I.ok.hd
 frames:=I.ok.frames
 stk:=.inl rfl
 exf:=fun b hb=>⟨zc (fz b hb),fun x c h=>(f b hb).2.2.2.2.1 x c (Hb h)⟩
 bs:=I.bs
 bsz:=zp I.ok.bsz I.sz
 noex:=fun b o e hb=>by
  rcases (f b hb).2.2.2.1 with z | z
  . exact I.ok.noex b o e z
  . exact absurd (zm (zU e) (zp I.ok.bsz z)) (D9 _)
 exfs:=fun b hb z=>by
  rcases zT.mp (I.stkSub b z) with q | q
  . exact (f b hb).2.1 q
  . exact (f b hb).2.2.1 q
 funs:=I.stack
 frf:=I.stkFree
theorem aI (I:AB X pins σ H3 s3)(S:JN X scope)(f:∀b∈fp,BB X pins H3 b)(fz:∀b∈fp,b<s3.heap.objs.size)
 (hN:N'=own++cn)(hc:EV X scope cn ci)(hv:ci.map (fun j=>σ[j]?)=cv.map fun v=>some (some v))(hl:cn.length=ci.length)
 (e7:h1.Ns s3.heap.objs.size (fun _=>none))(hk:∀b o,s3.heap.get? b=some o->h1.get? b=some o):
 AB (BM X (X.pn++pins) N' scope fp s3 H3) [] (List.replicate own.length none++cv.map some) H3 { s3 with heap:=h1,toks:=t }:=by
 have ik:cv.length=ci.length:=by have:=congrArg List.length hv;simpa using this.symm
 refine⟨aH I S f fz,rfl,I.bare,Un.kept hk,⟨_,e7,fun i x v e1 e2 e3=>?_⟩,fun x c e=>?_,I.hok.fresh (zJ _),fun x c e=>I.freeC x c (Hb e),fun p hp=>?_,I.hok.kept hk,?_⟩
 . -- a captured name
   have hi:own.length<=i:=by
    by_cases hi:own.length<=i
    . exact hi
    . rw[zb (by simpa using hi),Lh] at e2;split at e2 <;> cases e2
   rw[zX (by simpa using hi),DB,zO] at e2;have e1':(own++cn)[i]?=some x:=by rw[<-hN];exact e1
   rw[zX hi] at e1';obtain⟨j,hj,hNj,hkx,i4⟩:=hc.get e1';have hcv:cv[i-own.length]?=some v:=by
    cases q:cv[i-own.length]? with
    | none=>rw[q] at e2;cases e2
    | some v'=>rw[q] at e2;cases e2;rfl
   have hσ:σ[j]?=some (some v):=by have:=congrArg (fun l:List (Option (Option V))=>l[i-own.length]?) hv;simp only[zO,hj,hcv,Dt,JF] at this;exact this
   obtain⟨m,_,eO⟩:=I.loc;obtain⟨u,r,q⟩:=eO j x v hNj hσ (.inr (.inl hkx));have hkd:(relabel scope X.env).names.lookup x=some .cell\/(relabel scope X.env).names.lookup x=some .free:=by
    have e:(relabel scope X.env).names.lookup x=(scope.names.lookup x).map fun k=>if (k==NameKind.free && X.env.scope.kind == .function && X.env.kindOf x==some .cell)=true then NameKind.cell else k:=Mc scope.names
    rw[e,i4,Dt];by_cases cc:(NameKind.free==NameKind.free && X.env.scope.kind == .function && X.env.kindOf x==some .cell)=true
    . rw[if_pos cc];exact .inl rfl
    . rw[if_neg cc];exact .inr rfl
   obtain⟨c',gF⟩:=Ve I.ok S hkd;refine⟨u,r,.inr ⟨hkd,c',gF,?_⟩⟩;rcases q with ⟨z,_⟩ | ⟨_,c,hcc,o,ho,hd⟩
   . rw[hkx] at z;cases z
   . have e:c=c':=zY (hcc.symm.trans (Hb gF));subst e;exact⟨o,hk c o ho,hd⟩
 . obtain⟨v,o,ho,hd⟩:=I.cell x c (Hb e);exact⟨v,o,hk c o ho,hd⟩
 . have hJ:p∈X.pn++pins:=by rw[BR] at hp;exact hp
   obtain⟨e,n,ne,nf,d⟩:=I.pin p hJ;refine⟨hk _ _ e,n,zc (zU e),fun z=>?_,d⟩;rcases zT.mp (I.stkSub p.1 z) with q | q
   . exact ne q
   . exact nf q
 . show (List.replicate own.length none++cv.map some).length=N'.length;rw[hN,zM,zM,DB,zD,ik,hl]
def QZ (J:It)(own:Nat)(cv:List V)(g:TG)(ti:TT)(te:TE)(D:Addr)(H1:Hp)(Q:VK):Prop:=∃W:Nat->Nat->List V->Hp->Prop,(∃m,W 0 m [] (upd H1 D (.lst [])))/\∀i m ys H,W i m ys H ->
 (J.stop i H/\Q (.ref D) H)\/(J.go i H/\ys.length<sizeLine/\∃N:List V->Hp->Prop,(∀gP H',N gP H'->∃m',m'<m/\W (i+1) m' gP H') /\
  ∀x H',J.yld i H x H'->g x (List.replicate own none++cv.map some) H' fun σ2 H2=>(σ2.length=own+cv.length/\σ2.drop own=cv.map some) /\
   ti σ2 H2 fun b H3=>if b=true then te σ2 H3 fun y H4=>H4 D=some (.lst ys)/\N (ys++[y]) (upd H4 D (.lst (ys++[y]))) else N ys H3)
def Mk (own:Nat)(ci:List Nat)(wi:TI)(g:TG)(ti:TT)(te:TE):TE:=fun σ H Q=>wi σ H fun J H1=>∃cv:List V,ci.map (fun j=>σ[j]?)=cv.map (fun v=>some (some v)) /\
 ∀D,H1 D=none->QZ J own cv g ti te D H1 Q
theorem Vm (eJ:X.calm=true)(S:JN X scope)(hc:EV X scope cn ci)(hl:cn.length=ci.length)
 (hi:PI X target iter wi)(hg:∀pl fp s3 H3,PG (BM X pl (own++cn) scope fp s3 H3) target g)(ht:∀pl fp s3 H3,G5 (BM X pl (own++cn) scope fp s3 H3) ifs ti)
 (he:∀pl fp s3 H3,PE (BM X pl (own++cn) scope fp s3 H3) elt te)(hs:∀x,foldedSetIterable iter X.env x=pure x)(I:AB X pins σ H s)(h:Mk own.length ci wi g ti te σ H Q)
 (fin:∀D C H5 s6 m6,AB X pins σ H5 s6->s6.heap.Ns C m6->H5 C=none->C≠X.env.locals->X.s₀.heap.objs.size<=C->(∀x c,X.env.cells.lookup x=some c->c≠C) ->
  (∀p∈X.pn++pins,p.1≠C)->Q (.ref D) H5->compPost (model X.prog X.w) X.A X.xe use Q0 (.ref D) C (.ok .next) s6):
 wpAny (model X.prog X.w) X.A (comprehension (.ListComp elt [⟨target,iter,ifs,0⟩] scope pos) scope X.env df (newList []) false (eval iter X.env) use) Q0 X.xe s:=by
 have i8:closureFor scope X.env=pure (BQ X.env.cells scope.names []):=UY fun y hy hf=>I.ok.has y.1 (.inl (S.free y hy hf));refine wpAny_comprehension_free (use:=use) rfl hs i8 S.kind S.names ?_;refine AI (hi pins s σ H _ I h) fun v s1 h1=>AI h1 fun itv s2 h2=>?_;obtain⟨it,fp,tn,J,H2,e,I2,T,st2,f2,cv,hv,hD⟩:=h2;subst e;have ik:cv.length=ci.length:=by have:=congrArg List.length hv;simpa using this.symm
 have I3:=I2.lnew (ys:=[]) (its:=[]) (t':=s2.toks) .nil (zg _);obtain⟨W,⟨m0,w0⟩,turn⟩:=hD s2.heap.objs.size I2.fresh;have fz:∀b∈fp,b<s2.heap.objs.size:=fun b hb=>by obtain⟨o,ho,_⟩:=T.obj _ _ st2 b hb;exact zU ho
 refine Bi ?_;refine wpAny_newFunctionEnv S.nocell (by intro y hy;simp at hy) (fun h4 ir hsb4=>?_) S.kind;generalize hs3:({ s2 with heap:=s2.heap.push { cls:=.type "list",dict:=none,data:=.seq ([]:List Value).toArray } }:Shared)=s3 at ir hsb4 ⊢;have iP:AB X pins σ (upd H2 s2.heap.objs.size (.lst [])) s3:=by rw[<-hs3];exact I3
 have hsz3:s3.heap.objs.size=s2.heap.objs.size+1:=by rw[<-hs3];exact CV ..
 have k23:∀b o,s2.heap.get? b=some o->s3.heap.get? b=some o:=fun b o e=>by rw[<-hs3];exact zG _ e
 have k34:∀b o,s3.heap.get? b=some o->h4.get? b=some o:=fun b o e=>hsb4.extBut b o (zc (zU e)) (zG _ e);have nD:∀b∈fp,b≠s2.heap.objs.size:=fun b hb=>zc (fz b hb);have f3:∀b∈fp,BB X pins (upd H2 s2.heap.objs.size (.lst [])) b:=fun b hb=>⟨by rw[zk (nD b hb)];exact (f2 b hb).1,(f2 b hb).2⟩;have fz3:∀b∈fp,b<s3.heap.objs.size:=fun b hb=>by rw[hsz3];exact Dv (fz b hb)
 have I4:AB (BM X (X.pn++pins) (own++cn) scope fp s3 (upd H2 s2.heap.objs.size (.lst []))) [] (List.replicate own.length none++cv.map some) (upd H2 s2.heap.objs.size (.lst [])) { s3 with heap:=h4,toks:=s3.toks+([]:List (Str×Value)).length }:=
  aI iP S f3 fz3 rfl hc hv hl ir k34
 have st4:tn 0 h4:=T.keep _ _ _ st2 fun b hb o e=>k34 b o (k23 b o e);generalize hX:BM X (X.pn++pins) (own++cn) scope fp s3 (upd H2 s2.heap.objs.size (.lst []))=X' at I4;have hg':PG X' target g:=by rw[<-hX];exact hg _ _ _ _
 have ht':G5 X' ifs ti:=by rw[<-hX];exact ht _ _ _ _
 have gJ:PE X' elt te:=by rw[<-hX];exact he _ _ _ _
 have g8:X'.prog=X.prog:=by rw[<-hX];rfl
 have eW:X'.w=X.w:=by rw[<-hX];rfl
 have eK:X'.K=X.K:=by rw[<-hX];rfl
 have eA:X'.A=X.A:=by rw[<-hX];rfl
 have eE:X'.env=compEnvC scope (BQ X.env.cells scope.names []) s3.heap.objs.size X.env:=by rw[<-hX];rfl
 have eXe:X'.xe=fun _ _=>False:=by rw[<-hX];rfl
 have eC:X'.calm=true:=by rw[<-hX];exact eJ
 have eex:X'.ex=fp:=by rw[<-hX];rfl
 have epn:X'.pn=X.pn++pins:=by rw[<-hX];rfl
 have es0:X'.s₀=s3:=by rw[<-hX];rfl
 have eH0:X'.H₀=upd H2 s2.heap.objs.size (.lst []):=by rw[<-hX];rfl
 have efs:X'.fs=Az X.stack:=by rw[<-hX];rfl
 have ok':=I4.ok;have eZ:∀{H':Hp},(∀b∈fp,H' b=none)->∀b∈fp,BB X' [] H' b:=fun hn b hb=>by
  have eQ:b∈X'.ex:=by rw[eex];exact hb
  refine⟨hn b hb,(ok'.exf b eQ).1,ok'.exfs b eQ,.inl eQ,(ok'.exf b eQ).2,fun p hp=>?_⟩;rw[epn,BR] at hp;exact (f2 b hb).2.2.2.2.2 p hp
 have wk:∀(σ2:St),(σ2.length=own.length+cv.length/\σ2.drop own.length=cv.map some)->∀{pl:Bm}{H':Hp}{s':Shared},AB X' pl σ2 H' s'->AB X' pl (List.replicate own.length none++cv.map some) H' s':=fun σ2 hq pl H' s' I'=>by
  refine I'.weak (by rw[hq.1,zM,DB,zD]) fun i v hi=>?_;by_cases dW:i<own.length
  . rw[zb (by simpa using dW),Lh] at hi;split at hi <;> cases hi
  . rw[zX (by simpa using dW),DB,<-hq.2,List.getElem?_drop] at hi;rw[show own.length+(i-own.length)=i by lia] at hi;exact hi
 have loop:codeAny (model X.prog X.w) X.A (.compLoop (.ListComp elt [⟨target,iter,ifs,0⟩] scope pos) 0 (.ref it) (.ref s2.heap.objs.size) (compEnvC scope (BQ X.env.cells scope.names []) s3.heap.objs.size X.env))
  (compPost (model X.prog X.w) X.A X.xe use Q0 (.ref s2.heap.objs.size) s3.heap.objs.size) { s3 with heap:=h4,toks:=s3.toks+([]:List (Str×Value)).length }:=by
  refine VY (fun n s'=>∃i ys H',AB X' [] (List.replicate own.length none++cv.map some) H' s'/\tn i s'.heap/\(∀b∈fp,H' b=none)/\W i n ys H') ?_ m0
   ⟨0,[],_,I4,st4,fun b hb=>(f3 b hb).1,w0⟩
  rintro n s5 ⟨i,ys,H5,I5,iQ,fr5,w5⟩;rcases turn i n ys H5 w5 with ⟨stop,qn⟩ | ⟨go,hsz,N,hN,step⟩
  . have d:=T.done X' g8 eW eK eC i [] s5 _ H5 (fun _ _=>False) I5 (eZ fr5) iQ stop;rw[eA] at d;refine AI d fun r s6 ⟨hr,I6⟩=>?_;subst hr;obtain⟨m6,hn6,_⟩:=I6.loc;rw[eE] at hn6;have hn6':s6.heap.Ns s3.heap.objs.size m6:=hn6;have un6:Un (Az X.stack) fp (upd H2 s2.heap.objs.size (.lst [])) H5 s3.heap s6.heap:=by have b6:=I6.base;rw[efs,eex,eH0,es0] at b6;exact b6
    have os6:s6.os=s3.os:=by have o6:=I6.os;rw[es0] at o6;exact o6
    have hok6:Ap X.prog X.w H5 s6.heap:=by have o6:=I6.hok;rw[g8,eW] at o6;exact o6
    have I7:AB X pins σ H5 s6:=iP.call' (ch:=fp) os6 un6 hok6 I6.bare fun b hb=>⟨(f2 b hb).2.2.2.1,(f2 b hb).2.1,(f2 b hb).2.2.2.2.1,(f2 b hb).2.2.2.2.2⟩;have fr6:H5 s3.heap.objs.size=none:=by have q:=I6.free;rw[eE] at q;exact q
    refine fin s2.heap.objs.size s3.heap.objs.size H5 s6 m6 I7 hn6' fr6 (Nat.ne_of_gt iP.lt) iP.sz (fun x c e=>?_) (fun p hp=>?_) qn
    . obtain⟨_,o,ho,_⟩:=iP.cell x c e;exact zc (zU ho)
    . exact zc (zU (iP.pin p hp).1)
  . have d:=T.item X' g8 eW eK eC i [] s5 _ H5 (fun _ _=>False) I5 (eZ fr5) iQ go;rw[eA] at d;refine AI d fun r s6 ⟨u,hr,h6⟩=>?_;subst hr;refine AI h6 fun _ s7 ⟨x,H7,I7,r7,y7,st7,fr7⟩=>?_;have I7':=I7.pinned (eZ fr7) (T.obj _ _ st7);have g7:=hg' _ s7 _ H7 x u _ I7' r7 (step x H7 y7);rw[g8,eW,eA,eE,eXe] at g7;refine AI g7 fun _ s8 ⟨σ8,H8,I8,q8,ti8⟩=>?_;have t8:=ht' _ s8 σ8 H8 _ I8 ti8;rw[g8,eW,eA,eE,eXe] at t8;refine AI t8 fun ok s9 ⟨H9,I9,q9⟩=>?_;have again:∀{gP:List V}{H':Hp}{s':Shared},AB X' ([]++Le fp s7.heap) σ8 H' s'->N gP H' ->
     ∃m,m<n/\∃i ys H',AB X' [] (List.replicate own.length none++cv.map some) H' s'/\tn i s'.heap/\(∀b∈fp,H' b=none)/\W i m ys H':=fun {gP H' s'} I' n'=>by
     obtain⟨m',hm,w'⟩:=hN gP H' n';refine⟨m',hm,i+1,gP,H',(wk σ8 q8 I').unpinned,T.keep _ _ _ st7 fun b hb o e=>(I'.pin (b,o) (zl _ (zl _ (Lo hb e)))).1,fun b hb=>?_,w'⟩;obtain⟨o,e,_⟩:=T.obj _ _ st7 b hb;exact (I'.pin (b,o) (zl _ (zl _ (Lo hb e)))).2.1
    cases ok with
    | false=>exact again I9 q9
    | true=>have e9:=gJ _ s9 σ8 H9 _ I9 q9;rw[g8,eW,eA,eE,eXe] at e9;refine AI e9 fun u10 gI ⟨y,H10,I10,r10,hD10,n10⟩=>?_;have a10:=HW (X:=X') _ gI σ8 H10 (.ref s2.heap.objs.size) [y] (.ref s2.heap.objs.size) [u10] (fun _ H'=>N (ys++[y]) H') I10 rfl (.cons r10 .nil) ⟨_,_,_,rfl,rfl,hD10,hsz,n10⟩;rw[g8,eW,eA,eXe] at a10;exact AI a10 fun _ s11 ⟨_,H11,I11,_,n11⟩=>again I11 n11
 exact codeAny_compStart_list loop (T.self X.A 0 _ _ _ st4 loop)
theorem B0 (eJ:X.calm=true)(S:JN X scope)(hc:EV X scope cn ci)(hl:cn.length=ci.length)
 (hi:PI X target iter wi)(hg:∀pl fp s3 H3,PG (BM X pl (own++cn) scope fp s3 H3) target g)(ht:∀pl fp s3 H3,G5 (BM X pl (own++cn) scope fp s3 H3) ifs ti)
 (he:∀pl fp s3 H3,PE (BM X pl (own++cn) scope fp s3 H3) elt te)(hs:∀x,foldedSetIterable iter X.env x=pure x:=by intro _;rfl):
 PE X (.ListComp elt [⟨target,iter,ifs,0⟩] scope pos) (Mk own.length ci wi g ti te):=by
 intro pins s σ H Q I h;rw[eval_ListComp];exact Vm eJ S hc hl hi hg ht he hs I h fun D C H5 s6 m6 I7 hn fr nL ge nC nP q=>⟨m6,hn,fun h' gS=>⟨.ref D,H5,I7.turned (t':=s6.toks) (it:=C) (fun b o hb e=>gS.extBut b o hb e) fr nL (.inr ge) nC nP,rfl,q⟩⟩
theorem HL (hN:X.N.Nodup)(hix:X.N[i]?=some x)(hx:Loc X.env.scope x)(eJ:X.calm=true)(S:JN X scope)(hc:EV X scope cn ci)(hl:cn.length=ci.length)
 (hi:PI X target iter wi)(hg:∀pl fp s3 H3,PG (BM X pl (own++cn) scope fp s3 H3) target g)(ht:∀pl fp s3 H3,G5 (BM X pl (own++cn) scope fp s3 H3) ifs ti)
 (he:∀pl fp s3 H3,PE (BM X pl (own++cn) scope fp s3 H3) elt te)(hs:∀x,foldedSetIterable iter X.env x=pure x:=by intro _;rfl)
 (hsw:swapsWith (.ListComp elt [⟨target,iter,ifs,0⟩] scope df) (some (.Name x pos')) pos.line X.env=pure true:=by rfl)
 (hf:X.fn x=true\/X.env.scope.names.lookup x=some .local:=by first | exact .inl rfl | exact .inr rfl | assumption):
 PS X (.Assign [.Name x pos'] (.ListComp elt [⟨target,iter,ifs,0⟩] scope df) pos) (Di (Mk own.length ci wi g ti te) (HE i)):=by
 intro pins s σ H D I h;rw[exec_Assign_Name_used _ _ _ _ hsw];refine zA (wpAny_standAt (zA ?_));show wpAny _ X.A (do let _ <-comprehension (.ListComp elt [⟨target,iter,ifs,0⟩] scope df) scope X.env _ (newList []) false (eval iter X.env) (some (assign (.Name x pos') X.env))) _ _ s
 refine zA (A8 (Vm (use:=some (assign (.Name x pos') X.env)) (Q0:=fun _ s'=>SP X pins D .next s') eJ S hc hl hi hg ht he hs I h (fun D' C H5 s6 m6 I7 hn fr nL ge nC nP q=>?_)) (fun _ s' hq=>zC (zC hq)) fun _ _ e=>e);obtain⟨oC,es,ep,hoC,hd,r1⟩:=hn;have nf:C∉X.fs:=fun hb=>by obtain⟨_,o,ho,_⟩:=I7.ok.funs.mem hb;exact absurd (zm (zU ho) ge) (D9 _)
 have I7':AB X (pins++[(C,oC)]) σ H5 s6:=I7.pins_of fun p hp=>by
  rcases zj.mp hp with z | z
  . exact I7.pin p (zl _ z)
  . rw[zh.mp z];exact⟨hoC,fr,nL,nf,fun v e=>by rw[hd] at e;cases e⟩
 show wpAny _ X.A (assign (.Name x pos') X.env (.ref D')) _ _ s6;refine wpAny_assign_Name (JX I7' hN hix hx (show AQ (.ref D') (.ref D') from rfl) (fun s' I'=>?_) hf);have hC':=(I'.pin (C,oC) (zl _ (zl _ (zh.mpr rfl)))).1;refine⟨m6,⟨oC,es,ep,hC',hd,r1⟩,fun h' gS=>⟨_,H5,?_,q⟩⟩;have I2:AB X pins (σ.set i (some (.ref D'))) H5 s':=I'.pins_of fun p hp=>I'.pin p (zl _ (C8 _ hp));exact I2.turned (t':=s'.toks) (it:=C) (fun b o hb e=>gS.extBut b o hb e) fr nL (.inr ge) nC nP
end
noncomputable def NW (outer inner:Scope):Bool:=inner.names.all fun y=>(y.2 != .cell) && (y.2 != .local || inner.names.lookup y.1==some .local) && (y.2 != .free || outer.names.lookup y.1==some .cell)
theorem BK (hk:scope.kind=.function)(h:NW X.env.scope scope=true):JN X scope:=by
 have a:=List.all_eq_true.mp h;refine⟨hk,fun y hy e=>?_,fun y hy e=>?_,fun y hy e=>?_⟩
 . have:=a y hy;rw[e] at this;simp at this
 . have:=a y hy;rw[e] at this;simpa using this
 . have:=a y hy;rw[e] at this;have h2:X.env.scope.names.lookup y.1=some .cell:=by simpa using this
   exact h2
theorem D1 {l:List Str}(h:decide l.Nodup=true):l.Nodup:=of_decide_eq_true h
theorem Cy:Hc (BM X pl N' sc fp s3 H3) (LB X.K):=Ac
theorem QR:Hc (BM X pl N' sc fp s3 H3) (Jd X.K):=Ab
theorem RH (hc:X.calm=true)(h:Ng (BM X pl N' sc fp s3 H3) es t)
 (hn:(assignEach es (BM X pl N' sc fp s3 H3).env).length=n:=by rfl)(gY:(assignEach es (BM X pl N' sc fp s3 H3).env).findIdx? (·.1)=none:=by rfl):PG (BM X pl N' sc fp s3 H3) (.Tuple es k pos) (OX X.K n t):=C6 hc h hn gY
theorem Wk {K:AJ}(Pv:Nat->List V->Hp->Prop)(h0:Pv 0 [] (upd H1 D (.lst [])))(hl:∀i ys H,Pv i ys H->AE K H a xs)(hz:∀i ys H,Pv i ys H->ys.length<sizeLine)
 (hs:∀i x ys H,xs[i]?=some x->Pv i ys H->g x (List.replicate own none++cv.map some) H fun σ2 H2=>(σ2.length=own+cv.length/\σ2.drop own=cv.map some) /\
  ti σ2 H2 fun b H3=>if b=true then te σ2 H3 fun y H4=>H4 D=some (.lst ys)/\Pv (i+1) (ys++[y]) (upd H4 D (.lst (ys++[y]))) else Pv (i+1) ys H3)
 (hd:∀ys H,Pv xs.length ys H->Q (.ref D) H):
 QZ (Ma K a) own cv g ti te D H1 Q:=by
 refine⟨fun i m ys H=>m=xs.length-i/\i<=xs.length/\Pv i ys H,⟨xs.length,rfl,zg _,h0⟩,?_⟩;rintro i m ys H ⟨rfl,hi,p⟩;have q:=hl i ys H p;by_cases dW:i<xs.length
 . refine .inr ⟨⟨xs,xs[i],q,by simp[dW]⟩,hz i ys H p,Pv (i+1),fun gP H' p'=>⟨xs.length-(i+1),by lia,rfl,dW,p'⟩,fun x H' y=>?_⟩;obtain⟨e,y⟩:=y;subst e;exact hs i x ys _ (y xs q) p
 . have e:i=xs.length:=by lia
   subst e;exact .inl ⟨⟨xs,q,zJ _⟩,hd ys H p⟩
theorem BV {K:AJ}(Pv:Nat->List V->Hp->Prop)(h0:Pv 0 [] (upd H1 D (.lst [])))(hl:∀i ys H,Pv i ys H->AC K H a xs)(hz:∀i ys H,Pv i ys H->ys.length<sizeLine)
 (hs:∀i x ys H,xs[i]?=some x->Pv i ys H->g x (List.replicate own none++cv.map some) H fun σ2 H2=>(σ2.length=own+cv.length/\σ2.drop own=cv.map some) /\
  ti σ2 H2 fun b H3=>if b=true then te σ2 H3 fun y H4=>H4 D=some (.lst ys)/\Pv (i+1) (ys++[y]) (upd H4 D (.lst (ys++[y]))) else Pv (i+1) ys H3)
 (hd:∀ys H,Pv xs.length ys H->Q (.ref D) H):
 QZ (MS K a) own cv g ti te D H1 Q:=by
 refine⟨fun i m ys H=>m=xs.length-i/\i<=xs.length/\Pv i ys H,⟨xs.length,rfl,zg _,h0⟩,?_⟩;rintro i m ys H ⟨rfl,hi,p⟩;have q:=hl i ys H p;by_cases dW:i<xs.length
 . refine .inr ⟨⟨xs,xs[i],q,by simp[dW]⟩,hz i ys H p,Pv (i+1),fun gP H' p'=>⟨xs.length-(i+1),by lia,rfl,dW,p'⟩,fun x H' y=>?_⟩;obtain⟨e,y⟩:=y;subst e;exact hs i x ys _ (y xs q) p
 . have e:i=xs.length:=by lia
   subst e;exact .inl ⟨⟨xs,q,zJ _⟩,hd ys H p⟩
theorem QG {lo:Int}(Pv:Nat->List V->Hp->Prop)(h0:Pv 0 [] (upd H1 D (.lst [])))(hz:∀i ys H,Pv i ys H->ys.length<sizeLine)
 (hs:∀i ys H,i<n->Pv i ys H->g (.int (lo+i)) (List.replicate own none++cv.map some) H fun σ2 H2=>(σ2.length=own+cv.length/\σ2.drop own=cv.map some) /\
  ti σ2 H2 fun b H3=>if b=true then te σ2 H3 fun y H4=>H4 D=some (.lst ys)/\Pv (i+1) (ys++[y]) (upd H4 D (.lst (ys++[y]))) else Pv (i+1) ys H3)
 (hd:∀ys H,Pv n ys H->Q (.ref D) H):
 QZ (II lo n) own cv g ti te D H1 Q:=by
 refine⟨fun i m ys H=>m=n-i/\i<=n/\Pv i ys H,⟨n,rfl,zg _,h0⟩,?_⟩;rintro i m ys H ⟨rfl,hi,p⟩;by_cases dW:i<n
 . refine .inr ⟨dW,hz i ys H p,Pv (i+1),fun gP H' p'=>⟨n-(i+1),by lia,rfl,dW,p'⟩,fun x H' y=>?_⟩;obtain⟨e,y⟩:=y;subst e;subst y;exact hs i ys _ dW p
 . have e:i=n:=by lia
   subst e;exact .inl ⟨zJ _,hd ys H p⟩
end L2
namespace SortT
open PySem.W PyProof.Rows
noncomputable def ev {α:Type}(lt:Nat->Nat->Bool):KasT α->α
 | .ret a=>a
 | .ask i j k=>ev lt (k (lt i j))
theorem Lr (lt:Nat->Nat->Bool)(f:α->KasT β):∀t:KasT α,ev lt (t.bind f)=ev lt (f (ev lt t))
 | .ret _=>rfl
 | .ask i j k=>Lr lt f (k (lt i j))
section
variable {O:KeyOrd}{key:Nat->O.α}
noncomputable def kk (key:Nat->O.α)(p:Array Nat)(i:Nat):O.α:=key (p.getD i 0)
def Sr (key:Nat->O.α)(p:Array Nat)(n:Nat):Prop:=∀i j,i<=j->j<n->O.kle (kk key p i) (kk key p j)
def Fl (key:Nat->O.α)(p:Array Nat)(n:Nat):Prop:=∀i j,i<=j->j<n->O.kle (kk key p j) (kk key p i)
theorem Mf (h:p[i]?=q[j]?):kk key p i=kk key q j:=by unfold kk;rw[Array.getD_eq_getD_getElem?,Array.getD_eq_getD_getElem?,h]
theorem SM (hj:j<=p.size)(k):kk key (kas_rev p i j) k=if i<=k/\k<j then kk key p (i+j-1-k) else kk key p k:=by
 have e:=getElem?_mirror_all (i:=i) hj k;unfold kas_rev;by_cases h1:i<=k/\k<j
 . rw[if_pos h1] at e ⊢;exact Mf e
 . rw[if_neg h1] at e ⊢;exact Mf e
theorem SH (hj:j<=p.size)(he:∀k,i<=k->k<j->kk key p k=kk key p (j-1))(k):kk key (kas_rev p i j) k=kk key p k:=by
 rw[SM hj];split
 . rw[he _ (by lia) (by lia),he k (by lia) (by lia)]
 . rfl
theorem Vd (hs:src<p.size)(hd:d<=src)(k):
 kk key (bubble p src d) k=if k=src-d then kk key p src else if src-d<k/\k<=src then kk key p (k-1) else kk key p k:=by
 have e:=getElem?_bubble hs d hd k;by_cases h1:k=src-d
 . rw[if_pos h1] at e ⊢;exact Mf e
 . rw[if_neg h1] at e ⊢;by_cases h2:src-d<k/\k<=src
   . rw[if_pos h2] at e ⊢;exact Mf e
   . rw[if_neg h2] at e ⊢;exact Mf e
noncomputable def lt_ (key:Nat->O.α)(i j:Nat):Bool:=O.blt (key i) (key j)
theorem Fk (p)(i j):(kas_rev p i j).Perm p:=mirror_perm _ _ _ _
theorem Rp (p)(i j):(kas_rev p i j).size=p.size:=(Fk p i j).size_eq
theorem SR :∀f n,1<=n->Sr key p n->∃m,ev (lt_ key) (kas_asc p f n)=m/\n<=m/\m<=n+f/\Sr key p m/\(m=n+f\/O.klt (kk key p m) (kk key p (m-1)))
 | 0,n,_,hs=>⟨n,rfl,zJ _,zJ _,hs,.inl rfl⟩
 | f+1,n,h1,hs=>by
  show ∃m,ev (lt_ key) (if lt_ key (p.getD n 0) (p.getD (n-1) 0)=true then KasT.ret n else kas_asc p f (n+1))=m/\_
  cases hl:lt_ key (p.getD n 0) (p.getD (n-1) 0) with
  | true=>exact⟨n,by simp[ev],zJ _,by lia,hs,.inr hl⟩
  | false=>
   have gS:Sr key p (n+1):=fun i j eX hj=>by
    by_cases hjn:j<n
    . exact hs i j eX hjn
    . have hj':j=n:=by lia
      subst hj';by_cases e8:i=j
      . subst e8;exact KeyOrd.kle_refl _
      . exact KeyOrd.kle_trans (hs i (j-1) (by lia) (by lia)) hl
   obtain⟨m,e,a,b,c,d⟩:=SR f (n+1) (by lia) gS;refine⟨m,by simpa using e,by lia,by lia,c,?_⟩;rcases d with d | d
   . exact .inl (by lia)
   . exact .inr d
theorem Ub (h1:1<=n)(hn:n<=nrem)(hz:nrem<=p.size)(hs:Fl key p n):
 ∃m q,ev (lt_ key) (kas_tail3 n nrem p)=(m,q)/\q.Perm p/\1<=m/\m<=nrem/\Sr key q m:=by
 unfold kas_tail3;have gS:Sr key (kas_rev p 0 n) n:=fun i j eX hj=>by rw[SM (by lia),SM (by lia),if_pos (by lia),if_pos (by lia)];exact hs _ _ (by lia) (by lia)
 obtain⟨m,e,a,b,c,_⟩:=SR (nrem-n) n h1 gS;exact⟨m,kas_rev p 0 n,by rw[Lr,e];rfl,Fk _ _ _,by lia,by lia,c⟩
theorem QC:∀f n q p,1<=n->n+f<=p.size->Fl key p n->q+1<=n->(∀i,n-(q+1)<=i->i<n->kk key p i=kk key p (n-1)) ->
 ∃p' n' q',ev (lt_ key) (kas_desc f p n q)=(p',n',q')/\p'.Perm p/\n<=n'/\n'<=n+f/\Fl key p' n'/\q'+1<=n'/\(∀i,n'-(q'+1)<=i->i<n'->kk key p' i=kk key p' (n'-1))
 | 0,n,q,p,_,_,hs,hq,he=>⟨p,n,q,rfl,.refl _,zJ _,zJ _,hs,hq,he⟩
 | f+1,n,q,p,h1,hz,hs,hq,he=>by
  show ∃p' n' q',ev (lt_ key) (if lt_ key (p.getD n 0) (p.getD (n-1) 0)=true then _ else KasT.ask _ _ _)=(p',n',q')/\_
  cases hl:lt_ key (p.getD n 0) (p.getD (n-1) 0) with
  | true=>
   have step:∀xs:Array Nat,(∀k,kk key xs k=kk key p k)->Fl key xs (n+1):=fun xs hk i j eX hj=>by
    rw[hk,hk];by_cases hjn:j<n
    . exact hs i j eX hjn
    . have hj':j=n:=by lia
      subst hj';by_cases e8:i=j
      . subst e8;exact KeyOrd.kle_refl _
      . exact KeyOrd.kle_trans (KeyOrd.kle_of_klt hl) (hs i (j-1) (by lia) (by lia))
   by_cases hq0:q > 0
   . have hk:=SH (key:=key) (p:=p) (i:=n-(q+1)) (j:=n) (by lia) he;obtain⟨p',n',q',e,a,b,c,d⟩:=QC f (n+1) 0 (kas_rev p (n-(q+1)) n) (by lia) (by rw[Rp];lia) (step _ hk) (by lia) (fun i h1 h2=>by congr 1;lia);exact⟨p',n',q',by simpa [hq0] using e,a.trans (Fk _ _ _),by lia,by lia,d⟩
   . obtain⟨p',n',q',e,a,b,c,d⟩:=QC f (n+1) 0 p (by lia) (by lia) (step _ fun _=>rfl) (by lia) (fun i h1 h2=>by congr 1;lia);exact⟨p',n',q',by simpa [hq0] using e,a,by lia,by lia,d⟩
  | false=>
   show ∃p' n' q',ev (lt_ key) (if lt_ key (p.getD (n-1) 0) (p.getD n 0)=true then KasT.ret (p,n,q) else kas_desc f p (n+1) (q+1))=(p',n',q')/\_
   cases hr:lt_ key (p.getD (n-1) 0) (p.getD n 0) with
   | true=>exact⟨p,n,q,by simp[ev],.refl _,zJ _,by lia,hs,hq,he⟩
   | false=>
    have heq:kk key p n=kk key p (n-1):=KeyOrd.kle_antisymm hr hl;have gS:Fl key p (n+1):=fun i j eX hj=>by
     by_cases hjn:j<n
     . exact hs i j eX hjn
     . have hj':j=n:=by lia
       subst hj';by_cases e8:i=j
       . subst e8;exact KeyOrd.kle_refl _
       . rw[heq];exact hs i (j-1) (by lia) (by lia)
    obtain⟨p',n',q',e,a,b,c,d⟩:=QC f (n+1) (q+1) p (by lia) (by lia) gS (by lia) (fun i h1 h2=>by
     rw[show n+1-1=n by lia];by_cases hix:i=n
     . subst hix;rfl
     . rw[heq];exact he i (by lia) (by lia))
    exact⟨p',n',q',by simpa using e,a,by lia,by lia,d⟩
theorem Vv (hn:n+1<=nrem)(hz:nrem<=p.size)(hs:Fl key p (n+1)):
 ∃m q,ev (lt_ key) (kas_descPart n nrem p)=(m,q)/\q.Perm p/\1<=m/\m<=nrem/\Sr key q m:=by
 unfold kas_descPart;rw[Lr];obtain⟨p',n',q',e,a,b,c,d,hq,he⟩:=QC (nrem-(n+1)) (n+1) 0 p (by lia) (by lia) hs (by lia) (fun i h1 h2=>by congr 1;lia);rw[e];dsimp only;have hz':p'.size=p.size:=a.size_eq;by_cases hq0:q' > 0
 . rw[if_pos hq0];have hk:=SH (key:=key) (p:=p') (i:=n'-(q'+1)) (j:=n') (by lia) he;obtain⟨m,r,e2,a2,b2,c2,d2⟩:=Ub (key:=key) (p:=kas_rev p' (n'-(q'+1)) n') (n:=n') (nrem:=nrem) (by lia) (by lia) (by rw[Rp];lia) (fun i j eX hj=>by rw[hk,hk];exact d i j eX hj);exact⟨m,r,e2,a2.trans ((Fk _ _ _).trans a),b2,c2,d2⟩
 . rw[if_neg hq0];obtain⟨m,r,e2,a2,b2,c2,d2⟩:=Ub (key:=key) (p:=p') (n:=n') (nrem:=nrem) (by lia) (by lia) (by lia) d;exact⟨m,r,e2,a2.trans a,b2,c2,d2⟩
theorem ae (h1:1<=nrem)(hz:nrem<=p.size):∃m q,ev (lt_ key) (kas_count nrem p)=(m,q)/\q.Perm p/\1<=m/\m<=nrem/\Sr key q m:=by
 unfold kas_count;rw[Lr];obtain⟨n,e,a,b,hsn,hor⟩:=SR (key:=key) (p:=p) (nrem-1) 1 (zJ _) (fun i j eX hj=>by have:i=j:=(by lia);subst this;exact KeyOrd.kle_refl _);rw[e];by_cases hnn:n=nrem
 . rw[if_pos (by simpa using hnn)];exact⟨n,p,rfl,.refl _,a,by lia,hsn⟩
 . rw[if_neg (by simpa using hnn)];have dW:O.klt (kk key p n) (kk key p (n-1)):=hor.resolve_left (by lia);by_cases hgt:n > 1
   . rw[if_pos hgt];show ∃m q,ev (lt_ key) (if lt_ key (p.getD 0 0) (p.getD (n-1) 0)=true then KasT.ret (n,p) else kas_descPart n nrem (kas_rev p 0 n))=(m,q)/\_
     cases hr:lt_ key (p.getD 0 0) (p.getD (n-1) 0) with
     | true=>exact⟨n,p,by simp[ev],.refl _,a,by lia,hsn⟩
     | false=>
      have du:∀k,0<=k->k<n->kk key p k=kk key p (n-1):=fun k _ hk=>
       KeyOrd.kle_antisymm (hsn k (n-1) (by lia) (by lia)) (KeyOrd.kle_trans hr (hsn 0 k (by lia) hk))
      have hk:=SH (key:=key) (p:=p) (i:=0) (j:=n) (by lia) du;obtain⟨m,q,e2,a2,b2,c2,d2⟩:=Vv (key:=key) (p:=kas_rev p 0 n) (n:=n) (nrem:=nrem) (by lia) (by rw[Rp];lia) (fun i j eX hj=>by
       rw[hk,hk];by_cases hjn:j<n
       . rw[du i (by lia) (by lia),du j (by lia) hjn];exact KeyOrd.kle_refl _
       . have hj':j=n:=by lia
         subst hj';by_cases e8:i=j
         . subst e8;exact KeyOrd.kle_refl _
         . rw[du i (by lia) (by lia)];exact KeyOrd.kle_of_klt dW)
      exact⟨m,q,by simpa using e2,a2.trans (Fk _ _ _),b2,c2,d2⟩
   . rw[if_neg hgt];have iu:n=1:=by lia
     subst iu;refine Vv (by lia) hz fun i j eX hj=>?_;by_cases e8:i=j
     . subst e8;exact KeyOrd.kle_refl _
     . have hi0:i=0:=by lia
       have hj1:j=1:=by lia
       subst hi0;subst hj1;exact KeyOrd.kle_of_klt dW
theorem Q1 (hs:Sr key p k):∀f l r,l<=r->r<=k->r-l<=f->(∀i,i<l->O.kle (kk key p i) (kk key p k))->(∀i,r<=i->i<k->O.klt (kk key p k) (kk key p i)) ->
 ∃m,ev (lt_ key) (kas_place p k f l r)=m/\m<=k/\(∀i,i<m->O.kle (kk key p i) (kk key p k))/\(∀i,m<=i->i<k->O.klt (kk key p k) (kk key p i))
 | 0,l,r,hlr,hrk,hf,hU,hhi=>⟨l,rfl,by lia,hU,fun i h1 h2=>hhi i (by lia) h2⟩
 | f+1,l,r,hlr,hrk,hf,hU,hhi=>by
  unfold kas_place;by_cases hge:l ≥ r
  . rw[if_pos hge];exact⟨l,rfl,by lia,hU,fun i h1 h2=>hhi i (by lia) h2⟩
  . rw[if_neg hge];show ∃m,ev (lt_ key) (if lt_ key (p.getD k 0) (p.getD ((l+r)/2) 0)=true then kas_place p k f l ((l+r)/2) else kas_place p k f ((l+r)/2+1) r)=m/\_
    cases hl:lt_ key (p.getD k 0) (p.getD ((l+r)/2) 0) with
    | true=>obtain⟨m,e,x⟩:=Q1 hs f l ((l+r)/2) (by lia) (by lia) (by lia) hU (fun i h1 h2=>KeyOrd.klt_of_klt_of_kle hl (hs _ _ h1 h2));exact⟨m,by simpa using e,x⟩
    | false=>obtain⟨m,e,x⟩:=Q1 hs f ((l+r)/2+1) r (by lia) (by lia) (by lia) (fun i h1=>KeyOrd.kle_trans (hs i ((l+r)/2) (by lia) (by lia)) (show O.kle _ _ from hl)) hhi;exact⟨m,by simpa using e,x⟩
theorem Vx:∀f p k,k+f=p.size->Sr key p k->∃q,ev (lt_ key) (kas_bin f p k)=q/\q.Perm p/\Sr key q (k+f)
 | 0,p,k,_,hs=>⟨p,rfl,.refl _,hs⟩
 | f+1,p,k,hz,hs=>by
  unfold kas_bin;rw[Lr];obtain⟨l,e,hlk,hU,hhi⟩:=Q1 (key:=key) hs k 0 k (by lia) (by lia) (by lia) (fun i h=>by lia) (fun i h1 h2=>by lia);rw[e];have gS:Sr key (bubble p k (k-l)) (k+1):=fun i j eX hj=>by
   rw[Vd (by lia) (by lia),Vd (by lia) (by lia),show k-(k-l)=l by lia]
   repeat' split
   all_goals first
    | (exfalso;lia)
    | exact KeyOrd.kle_refl _
    | exact hU _ (by lia)
    | exact KeyOrd.kle_of_klt (hhi _ (by lia) (by lia))
    | exact hs _ _ (by lia) (by lia)
  obtain⟨q,e2,a,b⟩:=Vx f (bubble p k (k-l)) (k+1) (by rw[(bubble_perm p k (k-l)).size_eq];lia) gS;exact⟨q,e2,a.trans (bubble_perm _ _ _),by rw[show k+(f+1)=k+1+f by lia];exact b⟩
theorem sort_ok (n)(h1:1<=n):∃q,ev (lt_ key) (kas_sort n)=q/\q.Perm (List.range n).toArray/\Sr key q n:=by
 unfold kas_sort;rw[Lr];have hz:(List.range n).toArray.size=n:=by simp
 obtain⟨m,q,e,a,b,c,d⟩:=ae (key:=key) (p:=(List.range n).toArray) h1 (by lia);rw[e];dsimp only;have hq:q.size=n:=by rw[a.size_eq,hz]
 by_cases hm:m<n
 . rw[if_pos hm];obtain⟨r,e2,a2,b2⟩:=Vx (key:=key) (n-max m 1) q (max m 1) (by lia) (by rw[show max m 1=m by lia];exact d);exact⟨r,e2,a2.trans a,by rw[show max m 1+(n-max m 1)=n by lia] at b2;exact b2⟩
 . rw[if_neg hm];have:m=n:=by lia
   subst this;exact⟨q,rfl,a,d⟩
end
def Bl {α:Type}(n:Nat)(R:α->Prop):KasT α->Prop
 | .ret a=>R a
 | .ask i j k=>i<n/\j<n/\∀b,Bl n R (k b)
theorem Bl.bind {R:α->Prop}(hf:∀a,R a->Bl n R' (f a)):∀t,Bl n R t->Bl n R' (t.bind f)
 | .ret a,h=>hf a h
 | .ask _ _ k,h=>⟨h.1,h.2.1,fun b=>Bl.bind hf (k b) (h.2.2 b)⟩
def Bd (n:Nat)(p:Array Nat):Prop:=∀i,p.getD i 0<n
theorem Bd.perm (h:Bd n q)(hp:p.Perm q):Bd n p:=fun i=>by
 have h0:0<n:=CG (zg _) (h 0);by_cases hi:i<p.size
 . have e:p.getD i 0=p[i]:=by simp[Array.getD,hi]
   rw[e];have hm:p[i]∈q.toList:=(Array.perm_iff_toList_perm.mp hp).mem_iff.mp (by simp);obtain⟨j,hj,ej⟩:=zy hm;have hj':j<q.size:=by simpa using hj
   have:=h j;rw[show q.getD j 0=q[j] by simp[Array.getD,hj']] at this;rw[<-ej];simpa using this
 . have e:p.getD i 0=0:=by simp[Array.getD,hi]
   rw[e];exact h0
theorem SO (hp:Bd n p):∀f m,Bl n (fun _=>True) (kas_asc p f m)
 | 0,_=>trivial
 | f+1,m=>⟨hp _,hp _,fun b=>by
  cases b with
  | true=>exact trivial
  | false=>exact SO hp f (m+1)⟩
theorem Qe :∀f p m q,Bd n p->Bl n (fun r=>Bd n r.1) (kas_desc f p m q)
 | 0,_,_,_,hp=>hp
 | f+1,p,m,q,hp=>⟨hp _,hp _,fun b=>by
  cases b with
  | true=>
   show Bl n _ (if q > 0 then kas_desc f (kas_rev p (m-(q+1)) m) (m+1) 0 else kas_desc f p (m+1) 0)
   split
   . exact Qe f _ _ _ (hp.perm (Fk _ _ _))
   . exact Qe f _ _ _ hp
  | false=>
   refine⟨hp _,hp _,fun d=>?_⟩;cases d with
   | true=>exact hp
   | false=>exact Qe f _ _ _ hp⟩
theorem WR (hp:Bd n p):Bl n (fun r=>Bd n r.2) (kas_tail3 m nrem p):=by unfold kas_tail3;exact Bl.bind (R:=fun _=>True) (R':=fun r=>Bd n r.2) (f:=fun k=>KasT.ret (k,kas_rev p 0 m)) (fun a _=>hp.perm (Fk p 0 m)) _ (SO (hp.perm (Fk p 0 m)) _ _)
theorem UI (hp:Bd n p):Bl n (fun r=>Bd n r.2) (kas_descPart m nrem p):=
 Bl.bind (fun r hr=>by
  split
  . exact WR (hr.perm (Fk _ _ _))
  . exact WR hr) _ (Qe _ _ _ _ hp)
theorem YM (hp:Bd n p):Bl n (fun r=>Bd n r.2) (kas_count nrem p):=
 Bl.bind (fun r _=>by
  split
  . exact hp
  . split
    . refine⟨hp _,hp _,fun b=>?_⟩;cases b with
      | true=>exact hp
      | false=>exact UI (hp.perm (Fk _ _ _))
    . exact UI hp) _ (SO hp _ _)
theorem Rg (hp:Bd n p):∀f l r,Bl n (fun _=>True) (kas_place p k f l r)
 | 0,_,_=>trivial
 | f+1,l,r=>by
  unfold kas_place;split
  . exact trivial
  . refine⟨hp _,hp _,fun b=>?_⟩;cases b with
    | true=>exact Rg hp f _ _
    | false=>exact Rg hp f _ _
theorem VT :∀f p k,Bd n p->Bl n (fun _=>True) (kas_bin f p k)
 | 0,_,_,_=>trivial
 | f+1,p,k,hp=>Bl.bind (fun l _=>VT f _ _ (hp.perm (bubble_perm _ _ _))) _ (Rg hp _ _ _)
theorem sort_win (h:0<n):Bl n (fun _=>True) (kas_sort n):=
 Bl.bind (fun r hr=>by
  split
  . exact VT _ _ _ hr
  . exact trivial) _ (YM fun i=>by
    by_cases hi:i<n
    . simp[Array.getD,hi]
    . simp[Array.getD,hi];exact h)
end SortT
namespace SortT
open PySem PySem.W PySem.Calls PyProof.Rows
theorem wp_ev (hc:∀i j C,i<n->j<n->C (lt i j) s->cmp i j C s):
 ∀t:KasT α,Bl n R t->Q (ev lt t) s->t.kasWp cmp Q s
 | .ret _,_,h=>h
 | .ask i j k,w,h=>hc i j _ w.1 w.2.1 (wp_ev hc (k (lt i j)) (w.2.2 _) h)
structure Put {O:KeyOrd}(key:Nat->O.α)(n:Nat)(out:List Nat):Prop where
 perm:out.Perm (List.range n)
 rise:∀(i j a b:Nat),i<=j->out[i]?=some a->out[j]?=some b->O.kle (key a) (key b)
theorem put_of {O:KeyOrd}{key:Nat->O.α}{n:Nat}{q:Array Nat}(hp:q.Perm (List.range n).toArray)(hs:Sr key q n):Put key n q.toList:=by
 have hl:q.toList.Perm (List.range n):=Array.perm_iff_toList_perm.mp hp;refine⟨hl,fun i j a b eX ha hb=>?_⟩;have hz:q.size=n:=by have:=hp.size_eq;simpa using this
 have hj:j<q.toList.length:=(zI.mp hb).1;have hj':j<n:=by rw[<-hz];simpa using hj
 have h:=hs i j eX hj';have ga:q.getD i 0=a:=by rw[Array.getD_eq_getD_getElem?,<-Array.getElem?_toList,ha];rfl
 have gb:q.getD j 0=b:=by rw[Array.getD_eq_getD_getElem?,<-Array.getElem?_toList,hb];rfl
 unfold kk at h;rw[ga,gb] at h;exact h
structure Asks (prog:Program)(w:World)(A:Around)(s:Shared)(a:Addr)(vs:List Value){O:KeyOrd}(key:Nat->O.α)(κ:SortKind):Prop where
 kind:∀(h':Heap)(Q:SortKind->Shared->Prop)(E:Bw),(∀b o,b≠a->s.heap.get? b=some o->h'.get? b=some o)->Q κ { s with heap:=h' }->wpAny (model prog w) A (keyKind' vs.toArray) Q E { s with heap:=h' }
 less:∀(h':Heap)(i j:Nat)(Q:Bool->Shared->Prop)(E:Bw),(∀b o,b≠a->s.heap.get? b=some o->h'.get? b=some o)->i<vs.length->j<vs.length->Q (O.blt (key i) (key j)) { s with heap:=h' } ->
  wpAny (model prog w) A (keyLt' κ (vs.getD i Value.none) (vs.getD j Value.none)) Q E { s with heap:=h' }
theorem list_sort {a:Addr}{vs:List Value}{n:Nat}{P:PySem.Fin->Shared->Prop}{O:KeyOrd}{key:Nat->O.α}{κ:SortKind}(ho:s.heap.get? a=some (seqObj "list" vs.toArray n)) (gz:vs.length<64)
 (ask:2<=vs.length->Asks prog w A s a vs key κ)
 (h:∀out:List Nat,Put key vs.length out->P (.done (.ret .none)) { s with heap:=sortedHeap s.heap a vs (out.map fun i=>vs.getD i Value.none).toArray }):
 wpAny (model prog w) A (Builtin.«list.sort» ⟨[.ref a],[]⟩) P E s:=by
 rw[list_sort_plain];have ha:a<s.heap.objs.size:=zU ho;refine zA (listItems_at ho rfl ?_);refine zA (listUpdate_at ho rfl ?_ (by rw[zL,sizeLine_eq];lia) (zg _));obtain⟨e1,ho1⟩:∃e1,(s.heap.update a (Obj.mapSeq fun _=>#[])).get? a=some (seqObj "list" #[] e1):=⟨_,get?_update_seq ho (fun _=>#[])⟩;refine zA (seqEpoch_at ho1 rfl ?_);refine zA (wpAny_newTuple ?_ (by show vs.length<=_;rw[sizeLine_eq];lia));refine zA (GQ ?_ (zg _));refine zu ?_;have ho6:(((s.heap.update a (Obj.mapSeq fun _=>#[])).push (seqObj "tuple" vs.toArray 0)).push (seqObj "list" #[] 0)).get? a=some (seqObj "list" #[] e1):=by rw[Heap.get?_push_ne _ _ _ (by rw[size_push',Heap.size_update];exact zc (Dv ha)),Heap.get?_push_ne _ _ _ (by rw[Heap.size_update];exact zc ha)];exact ho1
 have keep:∀b o,b≠a->s.heap.get? b=some o->(((s.heap.update a (Obj.mapSeq fun _=>#[])).push (seqObj "tuple" vs.toArray 0)).push (seqObj "list" #[] 0)).get? b=some o:=fun b o hb e=>by refine zG _ (zG _ ?_);rw[Ds _ _ _ _ hb];exact e
 show wpAny (model prog w) A _ P E { s with heap:=((s.heap.update a (Obj.mapSeq fun _=>#[])).push (seqObj "tuple" vs.toArray 0)).push (seqObj "list" #[] 0) };dsimp only;by_cases h2:vs.toArray.size<2
 . rw[if_pos h2,if_pos h2];refine zA (zC ?_);rw[StateT.run_pure];refine zA (zC ?_);dsimp only;refine zA (seqEpoch_at ho6 rfl ?_);refine zA (listUpdate_at ho6 rfl ?_ (zg _) (by rw[Array.size_map];show (pairsOf vs).size<=_;rw[pairsOf_size,sizeLine_eq];lia));simp only[bne_self_eq_false,Fy,if_false];refine zC ?_;have hlen:vs.length<2:=by simpa using h2
   have hout:(arrOf (SortSt.mk' general' (vs.toArray.zip vs.toArray) #[] 7 none)).map (·.2)=((List.range vs.length).map fun i=>vs.getD i Value.none).toArray:=by
    show (vs.toArray.zip vs.toArray).map (·.2)=_
    match vs,hlen with
    | [],_=>simp
    | [v],_=>simp
    | _::_::_,h=>exfalso;simp only[zo] at h;lia
   have fin:=h (List.range vs.length) ⟨.refl _,fun i j x y eX hx hy=>by
    have hj:j<(List.range vs.length).length:=(zI.mp hy).1;rw[Bu] at hj;have e:i=j:=by lia
    subst e;rw[hx] at hy;cases hy;exact KeyOrd.kle_refl _⟩
   rw[<-hout] at fin;exact fin
 . rw[if_neg h2,if_neg h2];have h2':2<=vs.length:=by
    have:¬ vs.length<2:=by simpa using h2
    lia
   have K:=ask h2';refine zA (K.kind _ _ _ keep ?_);obtain⟨q,eq,hp,hs⟩:=sort_ok (key:=key) vs.length (by lia);have run:(kas_sort vs.length).kasWp (kas_ask prog w A κ vs) (fun p s'=>p=q/\s'={ s with heap:=((s.heap.update a (Obj.mapSeq fun _=>#[])).push (seqObj "tuple" vs.toArray 0)).push (seqObj "list" #[] 0) })
    { s with heap:=((s.heap.update a (Obj.mapSeq fun _=>#[])).push (seqObj "tuple" vs.toArray 0)).push (seqObj "list" #[] 0) }:=
    wp_ev (lt:=lt_ key) (n:=vs.length) (fun i j C hi hj hC=>K.less _ i j C _ keep hi hj hC) _ (sort_win (by lia)) ⟨eq,rfl⟩
   refine zA (A8 (kat_run (ks:=vs) (vs:=vs) (Q:=fun fM s'=>∃p:Array Nat,p.size=vs.length/\arrOf fM=p.map (kas_item (vs.toArray.zip vs.toArray))/\failedOf fM=none/\p=q/\s'={ s with heap:=((s.heap.update a (Obj.mapSeq fun _=>#[])).push (seqObj "tuple" vs.toArray 0)).push (seqObj "list" #[] 0) })
    rfl h2' gz (fun p' fM s' a1 a2 a3 a4=>⟨p',a1,a2,a3,a4⟩) run) ?_ fun _ _ e=>e)
   rintro ⟨⟨⟩,fM⟩ s' ⟨p,hsz,har,hf,rfl,rfl⟩;dsimp only;refine zA (seqEpoch_at ho6 rfl ?_);refine zA (listUpdate_at ho6 rfl ?_ (zg _) (by rw[Array.size_map,har,Array.size_map,hsz,sizeLine_eq];lia));rw[hf];simp only[bne_self_eq_false,Fy,if_false];refine zC ?_;have hout:=kat_snds (ks:=vs) (vs:=vs) rfl har;have fin:=h p.toList (put_of hp hs);rw[<-hout] at fin;exact fin
theorem sorted_list {l:Addr}{vs:List Value}{Q:Bw}{O:KeyOrd}{key:Nat->O.α}{κ:SortKind}(hl:s.heap.IsList l vs.toArray)(gz:vs.length<64)
 (ask:2<=vs.length->∀(s':Shared)(a:Addr),(∀b o,s.heap.get? b=some o->b≠a)->(∀b o,s.heap.get? b=some o->s'.heap.get? b=some o)->Asks prog w A.in1.in1 s' a vs key κ)
 (h:∀(D:Addr)(h':Heap)(out:List Nat)(c:Nat),Put key vs.length out->s.heap.objs.size<=D->(∀b o,s.heap.get? b=some o->h'.get? b=some o) ->
  h'.get? D=some (seqObj "list" (out.map fun i=>vs.getD i Value.none).toArray c)->Q (.ref D) { s with heap:=h' }):
 wpAny (model prog w) A (call (.builtin "sorted") [.ref l]) Q E s:=by
 refine Calls.call_function_entry kind_sorted plain_sorted entry_sorted (args_sorted1 _) ?_;unfold Builtin.«sorted»;refine zA (m:=checkCount "sorted" 1 1 _) (zC ?_);refine zA (collect_list hl ?_ (by rw[sizeLine_eq];lia));refine zA (GQ ?_ (by rw[sizeLine_eq];lia));have hsz:((s.heap.push (seqObj "list" #[] 0)).update s.heap.objs.size (Obj.mapSeq (· ++ vs.toArray))).objs.size=s.heap.objs.size+1:=by rw[Heap.size_update,size_push']
 have gT:(((s.heap.push (seqObj "list" #[] 0)).update s.heap.objs.size (Obj.mapSeq (· ++ vs.toArray))).push (seqObj "list" vs.toArray 0)).get? (s.heap.objs.size+1)=some (seqObj "list" vs.toArray 0):=by rw[<-hsz];exact zN _ rfl
 have keep:∀b o,s.heap.get? b=some o->(((s.heap.push (seqObj "list" #[] 0)).update s.heap.objs.size (Obj.mapSeq (· ++ vs.toArray))).push (seqObj "list" vs.toArray 0)).get? b=some o:=fun b o q=>by have dW:b<s.heap.objs.size:=zU q;rw[Heap.get?_push_ne _ _ _ (by rw[hsz];exact zc (Dv dW)),Ds _ _ _ _ (zc dW),Heap.get?_push_ne _ _ _ (zc dW)];exact q
 show wpAny _ _ _ _ _ { s with heap:=((s.heap.push (seqObj "list" #[] 0)).update s.heap.objs.size (Obj.mapSeq (· ++ vs.toArray))).push (seqObj "list" vs.toArray 0) };rw[hsz];refine zA (zu (CF slot_list_sort ⟨_,gT,rfl⟩ entry_list_sort (list_sort (O:=O) (key:=key) (κ:=κ) gT gz (fun h2=>ask h2 _ _ (fun b o e=>zc (Dv (zU e))) keep) fun out hp=>⟨_,rfl,?_⟩) (args_list_sort _)));refine zC ⟨_,rfl,?_⟩;obtain⟨c,hc⟩:=sortedAll_at s.heap vs (out.map fun i=>vs.getD i Value.none).toArray;exact h _ _ out c hp (Bc _) (fun b o e=>sortedAll_old e) hc
end SortT
namespace DRaw
open PySem PySem.W PySem.Calls PyProof.Rows
def At (h:Heap)(d:Addr)(es:Array DictEntry)(ep:Nat):Prop:=∃o,h.get? d=some o/\o.ExactDict/\o.data=.dict es ep
theorem At.keep (x:At h d es ep)(k:∀o,h.get? d=some o->h'.get? d=some o):At h' d es ep:=
 let ⟨o,ho,r⟩:=x;⟨o,k o ho,r⟩
theorem At.lt (x:At h d es ep):d<h.objs.size:=let ⟨_,ho,_⟩:=x;zU ho
theorem At.typeIs {s:Shared}(x:At s.heap d es ep):s.TypeIs (.ref d) "dict" := let ⟨o,ho,hc,_⟩:=x;⟨o,ho,hc.1⟩
theorem iter (hd:(d==sysModules)=false)(hm:At s.heap d es ep)
 (hQ:Q (.ref s.heap.objs.size) { s with heap:=s.heap.push { cls:=.type "dict_keyiterator",data:=.fields #[.ref d,.int 0 0,.int es.size 0,.int ep 0] } }):
 wpAny (model prog w) A (pyIter (.ref d)) Q E s:=by
 obtain⟨o,ho,hc,fg⟩:=id hm;have hT:=hm.typeIs;refine wpAny_pyIter_slot hT F.slot_dict_iter (CF F.slot_dict_iter hT F.entry_dict_iter ?_ (F.args_dict_iter_1 _));unfold Builtin.«dict.__iter__»;refine zA ?_;unfold Builtin.Dict.dictSlotNone;refine zA (wpAny_notOrdered_dict hT ?_);show wpAny _ _ (pure (Value.ref d)) _ _ s;refine zC ?_;show wpAny _ _ (Builtin.Dict.showsAll d >>= _) _ _ s;unfold Builtin.Dict.showsAll;rw[if_neg (by rw[hd];exact zn)];refine zA (zC ?_);refine zA (wpAny_dictEntries ho fg ?_);refine zA (wpAny_dictEpoch ho fg ?_);refine zA (Bi (zC ⟨_,rfl, "dict_keyiterator",_,⟨_,zN _ rfl,rfl⟩,F.slot_dict_keyiterator_next.lookup,?_⟩));simpa [rawInt] using hQ
theorem next (hit:s.heap.IsKeyIter it d i es.size ep)(hm:At s.heap d es ep)(hlt':i<es.size)
 (hQ:∀h',h'.IsKeyIter it d (i+1) es.size ep->Heap.SameBut it s.heap h'->Q (some es[i].key) { s with heap:=h' }):wpAny (model prog w) A (pyNext (.ref it)) Q E s:=by
 obtain⟨o,ho,hc,hd⟩:=id hit;obtain⟨od,hod,gp,iA⟩:=id hm;unfold pyNext;refine zA (F1 (D0 (name:=Str.ofString "__next__") hit.typeIs F.slot_dict_keyiterator_next
  (CF F.slot_dict_keyiterator_next hit.typeIs F.entry_dict_keyiterator_next ?_ (F.args_dict_keyiterator_next_1 _))))
 refine zA (zC ?_);refine zA ?_;refine zA ?_
 first | refine zA (QM hit.typeIs (zC ?_)) | refine zA (wpAny_typeNameOf_keyiter hit.typeIs (zC ?_))
 refine zA (wpAny_fieldsOf ho hd ?_);have hown:Builtin.Dict_items.ownsTuple "dict_keyiterator"=false:=by decide
 simp only[hown,Fy,if_false];show wpAny _ _ (if (Value.ref d==Value.none)=true then _ else _) _ _ s
 rw[if_neg (show ¬ ((Value.ref d==Value.none)=true) from zn)];refine zA (zC ?_);refine zA (wpAny_dictEntries hod iA ?_);rw[if_neg (by simp)];refine zA (zC ?_);refine zA (wpAny_dictEpoch hod iA ?_);rw[if_neg (by simp)];refine zC ?_;simp only[show ¬ ((i:Int)<0) from by lia,if_false,zv,Array.getElem?_eq_getElem hlt'];refine zA ?_
 first | refine zA (QM hit.typeIs (zC ?_)) | refine zA (wpAny_typeNameOf_keyiter hit.typeIs (zC ?_))
 refine zA (wpAny_isOneOf_keyiter hit.typeIs ?_);show wpAny _ _ (setField (.ref it) 1 (rawInt ((i:Int)+1)) >>= _) _ _ s;refine zA (Fp ho hd (by simp) ?_);have eP:(s.heap.update it (Obj.mapFields (·.setIfInBounds 1 (rawInt ((i:Int)+1))))).IsKeyIter it d (i+1) es.size ep:=
  ⟨_,zq _ ho (Obj.isFreed_of_fields (Obj.data_mapFields hd _)),(Obj.cls_mapFields ..).trans hc,by rw[Obj.data_mapFields hd];simp[rawInt]⟩
 refine zA (zu ?_);refine zA (wpAny_isOneOf_keyiter (s:={ s with heap:=s.heap.update it (Obj.mapFields (·.setIfInBounds 1 (rawInt ((i:Int)+1)))) }) eP.typeIs ?_);show wpAny _ _ (pure es[i].key) _ _ _;exact zC (zC ⟨_,rfl,zC (hQ _ eP (EC ..))⟩)
theorem stop (hh:A.handled=none)(hit:s.heap.IsKeyIter it d i es.size ep)(hm:At s.heap d es ep)(hge:es.size<=i)
 (hQ:∀h',Heap.ExtBut it s.heap h'->Q none { s with heap:=h' }):wpAny (model prog w) A (pyNext (.ref it)) Q E s:=by
 obtain⟨o,ho,hc,hd⟩:=id hit;obtain⟨od,hod,gp,iA⟩:=id hm;unfold pyNext;refine zA (F1 (D0 (name:=Str.ofString "__next__") hit.typeIs F.slot_dict_keyiterator_next
  (CF F.slot_dict_keyiterator_next hit.typeIs F.entry_dict_keyiterator_next ?_ (F.args_dict_keyiterator_next_1 _))))
 refine zA (zC ?_);refine zA ?_;refine zA ?_
 first | refine zA (QM hit.typeIs (zC ?_)) | refine zA (wpAny_typeNameOf_keyiter hit.typeIs (zC ?_))
 refine zA (wpAny_fieldsOf ho hd ?_);have hown:Builtin.Dict_items.ownsTuple "dict_keyiterator"=false:=by decide
 simp only[hown,Fy,if_false];show wpAny _ _ (if (Value.ref d==Value.none)=true then _ else _) _ _ s
 rw[if_neg (show ¬ ((Value.ref d==Value.none)=true) from zn)];refine zA (zC ?_);refine zA (wpAny_dictEntries hod iA ?_);rw[if_neg (by simp)];refine zA (zC ?_);refine zA (wpAny_dictEpoch hod iA ?_);rw[if_neg (by simp)];refine zC ?_;simp only[show ¬ ((i:Int)<0) from by lia,if_false,zv,Array.getElem?_eq_none hge];refine zA ?_
 first | refine zA (QM hit.typeIs (zC ?_)) | refine zA (wpAny_typeNameOf_keyiter hit.typeIs (zC ?_))
 show wpAny _ _ (setField (.ref it) 0 .none >>= _) _ _ s;refine zA (Fp ho hd (by simp) ?_);show wpAny _ _ (newExc (.type "StopIteration") [] >>= _) _ _ _;refine zA ?_;simp only[newExc,newTuple];refine zA (Bi ?_ (by size_fits));refine zA (m:=firstArgMember _ _) (wpAny_of_eq (a:=Value.none) (by first | rfl | (simp only[firstArgMember];rfl)) ?_);refine Bi ?_ (by size_fits);simp only[raiseNew];refine zA (wpAny_handled ?_);rw[show A.in1.handled=none from hh];refine zA (zC (wpAny_throw ?_));refine zA (DM (T := "StopIteration") (b:=true) ⟨_,zN _ rfl,rfl⟩ isSubtype_stop ?_);exact zC (hQ _ (((EC ..).extBut.push _).push _))
theorem NU (hh:A.handled=none)(I:Addr)(eB:d≠I):Walks prog w A I [I,d] [I] es.size (fun i v=>∃e,es[i]?=some e/\v=e.key) (fun i h=>h.IsKeyIter I d i es.size ep/\At h d es ep) where
 sub:=fun b hb=>by simp at hb;simp[hb]
 frame:=fun _ _ _ st hk=>⟨st.1.at fun o e=>hk I (by simp) o e,st.2.keep fun o e=>hk d (by simp) o e⟩
 item:=fun i s Q E hi st hQ=>next st.1 st.2 hi fun h' eP gS=>
  hQ _ h' s.toks ⟨es[i],by simp[hi],rfl⟩ ⟨eP,st.2.keep fun o e=>gS.extBut d o eB e⟩ fun b o hb e=>gS.extBut b o (fun h=>hb (by simp[h])) e
 done:=fun s Q E st hQ=>stop hh st.1 st.2 (zJ _) fun h' gJ=>hQ h' s.toks fun b o hb e=>gJ b o (fun h=>hb (by simp[h])) e
 self:=fun _ _ _ _ st hQ=>wpAny_pyIter_keyiter st.1 hQ
theorem src (lo:(d==sysModules)=false):KdlSrc prog w "dict" d d es.size (fun i v=>∃e,es[i]?=some e/\v=e.key) (fun h=>At h d es ep) where
 type:=fun _ hm=>hm.typeIs
 there:=fun _ hm=>⟨hm.lt,hm.lt⟩
 keep:=fun _ _ hm hk=>hm.keep fun o e=>hk d (.inl rfl) o e
 notList:=by decide
 notTuple:=by decide
 hint:=fun _ _ _ _ hm hq=>kdl_hint_dict hm.typeIs hq
 iter:=fun _ _ hh hm=>⟨_,_,(fun _ _ hq=>iter lo hm hq),NU hh _ (zc hm.lt),⟨⟨_,zN _ rfl,rfl,rfl⟩,hm.keep fun o e=>zG _ e⟩⟩
end DRaw
namespace SortT
open PySem PySem.W PySem.Calls PyProof.Rows
theorem sorted_dict {prog:Program}{w:World}{A:Around}{E:Bw}{s:Shared}{d:Addr}{es:Array DictEntry}{ep:Nat}{vs:List Value}{Q:Bw}{O:KeyOrd}{key:Nat->O.α}{κ:SortKind}
 (hh:A.handled=none)(lo:(d==sysModules)=false)(hm:DRaw.At s.heap d es ep)(hvs:vs=es.toList.map (·.key))(gz:vs.length<64)
 (ask:2<=vs.length->∀(s':Shared)(a:Addr),(∀b o,s.heap.get? b=some o->b≠a)->(∀b o,s.heap.get? b=some o->s'.heap.get? b=some o)->Asks prog w A.in1.in1 s' a vs key κ)
 (h:∀(h1:Heap)(D:Addr)(h':Heap)(t':Nat)(out:List Nat)(c:Nat),Put key vs.length out->(∀b o,s.heap.get? b=some o->h1.get? b=some o)->h1.objs.size<=D->(∀b o,h1.get? b=some o->h'.get? b=some o) ->
  h'.get? D=some (seqObj "list" (out.map fun i=>vs.getD i Value.none).toArray c)->Q (.ref D) { s with heap:=h',toks:=t' }):
 wpAny (model prog w) A (call (.builtin "sorted") [.ref d]) Q E s:=by
 have hlen:vs.length=es.size:=by rw[hvs];simp
 refine call_function_entry kind_sorted plain_sorted entry_sorted (args_sorted1 _) ?_;unfold Builtin.«sorted»;refine zA (m:=checkCount "sorted" 1 1 _) (zC ?_);refine zA (kdu_collect (A:=A.in1) (DRaw.src (es:=es) (ep:=ep) lo) hh hm (by rw[sizeLine_eq];lia) fun h1 tk acc hk hacc=>?_);have el:acc.toList=vs:=by
  apply List.ext_getElem?;intro j;by_cases hj:j<es.size
  . have hz:j<acc.size:=by rw[hacc.1];exact hj
    obtain⟨e,he,hv⟩:=hacc.2 j acc[j] (by simp[hz]);rw[Array.getElem?_toList,Array.getElem?_eq_getElem hz,hv,hvs,zO,Array.getElem?_toList,he];rfl
  . rw[zw (by rw[Array.length_toList,hacc.1];lia),zw (by lia)]
 rw[el];refine zA (GQ ?_ (by rw[sizeLine_eq];lia));have gT:(h1.push (seqObj "list" vs.toArray 0)).get? h1.objs.size=some (seqObj "list" vs.toArray 0):=zN _ rfl;have keep1:∀b o,h1.get? b=some o->(h1.push (seqObj "list" vs.toArray 0)).get? b=some o:=fun b o q=>zG _ q;refine zA (zu (CF slot_list_sort ⟨_,gT,rfl⟩ entry_list_sort (list_sort (O:=O) (key:=key) (κ:=κ) gT gz
  (fun h2=>ask h2 _ _ (fun b o e=>zc (zU (hk b o e))) fun b o e=>keep1 b o (hk b o e)) fun out hp=>⟨_,rfl,?_⟩) (args_list_sort _)))
 refine zC ⟨_,rfl,?_⟩;obtain⟨c,hc⟩:=sortedHeap_at (vs:=vs) (out:=(out.map fun i=>vs.getD i Value.none).toArray) gT;refine h h1 _ _ _ out c hp hk (zJ _) (fun b o e=>?_) hc;have hb:b<h1.objs.size:=zU e;rw[sortedHeap_old (zc hb) (by rw[CV];exact Dv hb)];exact keep1 b o e
end SortT
namespace L2
open PySem PySem.Spec PyProof.Rows
theorem V5:∀a:List Int,HT.lexLt a a=false
 | []=>rfl
 | x::r=>by rw[HT.lexLt_cons,if_pos rfl];exact V5 r
theorem Qs:∀a b c:List Int,HT.lexLt a b=true->HT.lexLt b c=true->HT.lexLt a c=true
 | [],[],_,h,_=>by cases h
 | [],_::_,[],_,h=>by cases h
 | [],_::_,_::_,_,_=>rfl
 | _::_,[],_,h,_=>by cases h
 | _::_,_::_,[],_,h=>by cases h
 | x::a,y::b,z::c,h1,h2=>by
  rw[HT.lexLt_cons] at h1 h2 ⊢;by_cases e1:x=y
  . subst e1;rw[if_pos rfl] at h1;by_cases e2:x=z
    . subst e2;rw[if_pos rfl] at h2 ⊢;exact Qs a b c h1 h2
    . rw[if_neg e2] at h2 ⊢;exact h2
  . rw[if_neg e1] at h1;have l1:x<y:=of_decide_eq_true h1;by_cases e2:y=z
    . subst e2;rw[if_neg e1];exact h1
    . rw[if_neg e2] at h2;have l2:y<z:=of_decide_eq_true h2;rw[if_neg (by lia)];exact zP (by lia)
theorem Rl:∀a b:List Int,HT.lexLt a b=false->HT.lexLt b a=false->a=b
 | [],[],_,_=>rfl
 | [],_::_,h,_=>by cases h
 | _::_,[],_,h=>by cases h
 | x::a,y::b,h1,h2=>by
  rw[HT.lexLt_cons] at h1 h2;by_cases e:x=y
  . subst e;rw[if_pos rfl] at h1 h2;rw[Rl a b h1 h2]
  . rw[if_neg e] at h1;rw[if_neg (Ne.symm e)] at h2;have l1:=of_decide_eq_false h1;have l2:=of_decide_eq_false h2
    lia
theorem aU (a b c)(h:HT.lexLt a c=true):HT.lexLt a b=true\/HT.lexLt b c=true:=by
 cases h1:HT.lexLt a b with
 | true=>exact .inl rfl
 | false=>
  cases h2:HT.lexLt b a with
  | true=>exact .inr (Qs b a c h2 h)
  | false=>rw[<-Rl a b h1 h2];exact .inr h
noncomputable def Gg:KeyOrd:=⟨List Int,HT.lexLt,V5,Qs,aU,Rl⟩
def P3 (ms:List (List Int)):Prop:=ms.Pairwise fun a b=>HT.lexLt b a=false
def A3 (H:Hp):List V->List (List Int)->Prop
 | [],[]=>True
 | x::xs,k::ks=>(∃a,x=.ref a/\H a=some (.tup (k.map V.int))/\k≠[])/\A3 H xs ks
 | _,_=>False
theorem A3.length :∀{xs:List V}{ks:List (List Int)},A3 H xs ks->xs.length=ks.length
 | [],[],_=>rfl
 | [],_::_,h=>h.elim
 | _::_,[],h=>h.elim
 | _::_,_::_,h=>by rw[zo,zo,A3.length h.2]
theorem A3.get :∀{xs:List V}{ks:List (List Int)}{i:Nat}{x:V},A3 H xs ks->xs[i]?=some x->∃a k,x=.ref a/\ks[i]?=some k/\H a=some (.tup (k.map V.int))/\k≠[]
 | [],_,_,_,_,h=>by simp at h
 | _::_,[],_,_,h,_=>h.elim
 | y::_,k::_,0,x,h,e=>by
  obtain⟨⟨a,h1,h2,h3⟩,_⟩:=h;have e':y=x:=by simpa using e
  subst e';exact⟨a,k,h1,rfl,h2,h3⟩
 | _::_,_::_,i+1,x,h,e=>by obtain⟨a,k,h1,h2,h3⟩:=A3.get (i:=i) h.2 (by simpa using e);exact⟨a,k,h1,by simpa using h2,h3⟩
theorem A3.mk :∀{xs:List V}{ks:List (List Int)},xs.length=ks.length->(∀(i:Nat)x(k:List Int),xs[i]?=some x->ks[i]?=some k->∃a,x=V.ref a/\H a=some (.tup (k.map V.int))/\k≠[])->A3 H xs ks
 | [],[],_,_=>trivial
 | [],_::_,e,_=>by simp at e
 | _::_,[],e,_=>by simp at e
 | x::xs,k::ks,e,h=>⟨h 0 x k rfl rfl,A3.mk (by simpa using e) fun i x' k' h1 h2=>h (i+1) x' k' (by simpa using h1) (by simpa using h2)⟩
theorem A3.keep (h:A3 H xs ks)(k:∀b ys,H b=some (.tup ys)->H' b=some (.tup ys)):A3 H' xs ks:=
 A3.mk h.length fun i x c h1 h2=>by obtain⟨a,c',e1,e2,e3,e4⟩:=h.get h1;rw[h2] at e2;cases e2;exact⟨a,e1,k a _ e3,e4⟩
theorem A3.snoc :∀{xs:List V}{ks:List (List Int)}{x:V}{k:List Int},A3 H xs ks->(∃a,x=.ref a/\H a=some (.tup (k.map V.int))/\k≠[])->A3 H (xs++[x]) (ks++[k])
 | [],[],_,_,_,h=>⟨h,trivial⟩
 | [],_::_,_,_,t,_=>t.elim
 | _::_,[],_,_,t,_=>t.elim
 | _::_,_::_,_,_,t,h=>⟨t.1,A3.snoc t.2 h⟩
theorem Wh :∀ns ms us ws i,IntsAre us ns->IntsAre ws ms->fin=decide (ns.length<ms.length)->Q (HT.lexLt ns ms) s ->
 PySem.W.KatLex prog w A true fin Q (us.zip ws) i s
 | [],[],_,_,_,.nil,.nil,e,q=>by subst e;exact q
 | [],_::_,_,_,_,.nil,.cons _ _ _,e,q=>by subst e;exact q
 | _::_,[],_,_,_,.cons _ _ _,.nil,e,q=>by subst e;exact q
 | n::ns,m::ms,_,_,i,.cons _ t hu,.cons _ u hw,e,q=>by
  rw[HT.lexLt_cons] at q;refine PySem.W.kat_cons (wpAny_eqBool_int ?_);by_cases h:n=m
  . rw[if_pos h] at q;rw[show (n==m)=true by simpa using h];exact PySem.W.kat_yes (Wh ns ms _ _ (i+1) hu hw (by rw[e];simp) q)
  . rw[if_neg h] at q;rw[show (n==m)=false by simpa using h];refine PySem.W.kat_no ?_;cases i with
    | zero=>exact oneLt_int q
    | succ j=>exact PySem.W.kat_one _ _ (PyProof.Rows.lt_int q)
theorem WA (I:AB X pins σ H s)(T:A3 H ys ks)(r:AK ys vs)(eB:0<vs.length)
 (fa:∀b o,s.heap.get? b=some o->b≠a)(kp:∀b o,s.heap.get? b=some o->s'.heap.get? b=some o):SortT.Asks X.prog X.w A s' a vs (O:=Gg) (fun i=>ks.getD i []) (tuples' true):=by
 have hl:=T.length;have hv:=r.length;have at_:∀(h':Heap),(∀b o,b≠a->s'.heap.get? b=some o->h'.get? b=some o)->∀i,i<vs.length->∃(p:Addr)(k:List Int)(us:List Value)(o:Obj)(n:Nat),vs[i]?=some (Value.ref p)/\ks[i]?=some k/\k≠[]/\IntsAre us k/\h'.get? p=some o/\o.cls=.type "tuple"/\o.data=.seq us.toArray n:=fun h' kh i hi=>by
  have hy:i<ys.length:=by lia
  obtain⟨p,k,e1,e2,e3,e4⟩:=T.get (i:=i) (x:=ys[i]) (by simp[hy]);obtain⟨u,hu,ru⟩:=r.get (i:=i) (x:=ys[i]) (by simp[hy]);rw[e1] at ru;cases (show u=Value.ref p from ru);obtain⟨_,its,rv,o,ho,hc,n,hd⟩:=I.hok p _ e3;exact⟨p,k,its,o,n,hu,e2,e4,Dz rv,kh p o (fa p o ho) (kp p o ho),hc,hd⟩
 refine⟨fun h' Q E kh q=>?_,fun h' i j Q E kh hi hj q=>?_⟩
 . -- all keys are tuples whose first items are ints
   have tups:∀(m:Nat),m<=vs.length->∃fs:List Value,PySem.W.KatTups h' (vs.drop (vs.length-m)) fs/\fs.length=m/\∀f∈fs,∃x t,f=Value.int x t:=by
    intro m
    induction m with
    | zero=>intro _;exact⟨[],by rw[Nat.sub_zero,List.drop_length];exact trivial,rfl,fun f hf=>by simp at hf⟩
    | succ m ih=>
     intro hm;obtain⟨fs,t,e,hf⟩:=ih (by lia);obtain⟨p,k,us,o,n,hu,hk,hk0,hI,ho,hc,hd⟩:=at_ h' kh (vs.length-(m+1)) (by lia);have ed:vs.drop (vs.length-(m+1))=Value.ref p::vs.drop (vs.length-m):=by
      have dW:vs.length-(m+1)<vs.length:=by lia
      rw[List.drop_eq_getElem_cons dW,show vs.length-(m+1)+1=vs.length-m by lia];have:vs[vs.length-(m+1)]=Value.ref p:=by rw[zB dW] at hu;exact zY hu
      rw[this]
     cases hI with
     | nil=>exact absurd rfl hk0
     | cons x tx hI'=>
      refine⟨Value.int x tx::fs,by rw[ed];exact PySem.W.KatTups.cons ho hc hd rfl t,by rw[zo,e],fun f iM=>?_⟩;rcases zT.mp iM with rfl | iM
      . exact⟨x,tx,rfl⟩
      . exact hf f iM
   obtain⟨fs,t,e,hf⟩:=tups vs.length (zJ _);rw[Eg,HF] at t;refine PySem.W.kat_kind (T:=Value.type "int") t (by lia) (fun v hv=>?_) (by rfl) q;obtain⟨x,tx,rfl⟩:=hf v hv;exact PySem.W.Looks.of_pure rfl
 . obtain⟨p,k,us,o,n,hu,hk,_,hI,ho,hc,hd⟩:=at_ h' kh i hi;obtain⟨p2,k2,us2,o2,n2,hu2,hk2,_,hI2,gU,i9,hd2⟩:=at_ h' kh j hj;have e1:vs.getD i Value.none=.ref p:=by rw[zF,hu];rfl
   have e2:vs.getD j Value.none=.ref p2:=by rw[zF,hu2];rfl
   have g1:ks.getD i []=k:=by rw[zF,hk];rfl
   have g2:ks.getD j []=k2:=by rw[zF,hk2];rfl
   rw[e1,e2];refine PySem.W.kat_lt (s:={ s' with heap:=h' }) ho hd gU hd2 ?_;have q':Q (HT.lexLt k k2) { s' with heap:=h' }:=by
    have:Gg.blt (ks.getD i []) (ks.getD j [])=HT.lexLt k k2:=by rw[g1,g2];rfl
    rw[<-this];exact q
   have l1:=hI.length;have l2:=hI2.length;exact Wh k k2 us us2 0 hI hI2 (by simp only[zL];rw[l1,l2]) q'
theorem XX (T:A3 H ys ks)(r:AK ys vs)(p:SortT.Put (O:=Gg) (fun i=>ks.getD i []) vs.length out):
 ∃zs ms,A3 H zs ms/\ms.Perm ks/\P3 ms/\AK zs (out.map fun i=>vs.getD i Value.none)/\zs.length=ys.length:=by
 have hl:=T.length;have hv:=r.length;have hb:∀i∈out,i<vs.length:=fun i hi=>C0.mp (p.perm.mem_iff.mp hi);refine⟨out.map fun i=>ys.getD i .non,out.map fun i=>ks.getD i [],A3.mk (by rw[zD,zD]) fun j x k hx hk=>?_,?_,?_,?_,?_⟩
 . rw[zO] at hx hk;cases e:out[j]? with
   | none=>rw[e] at hx;cases hx
   | some i=>
    rw[e] at hx hk;have hi:=hb i (zV e);have hy:i<ys.length:=by lia
    obtain⟨a,c,e1,e2,e3,e4⟩:=T.get (i:=i) (x:=ys[i]) (by simp[hy]);have ex:ys.getD i .non=x:=zY hx;have ek:ks.getD i []=k:=zY hk;rw[zF,zB hy] at ex;rw[zF,e2] at ek;have ex':ys[i]=x:=ex;have ek':c=k:=ek;subst ek';exact⟨a,by rw[<-ex'];exact e1,e3,e4⟩
 . have h1:=p.perm.map fun i=>ks.getD i [];have h2:(List.range vs.length).map (fun i=>ks.getD i [])=ks:=by
    rw[show vs.length=ks.length by lia];apply List.ext_getElem?;intro j;rw[zO];by_cases hj:j<ks.length
    . rw[MD hj,zB hj];simp[hj]
    . rw[zw (by rw[Bu];lia),zw (by lia)];rfl
   rw[h2] at h1;exact h1
 . refine Mh.mpr fun i j hi hj eX=>?_;rw[zD] at hi hj;have:=p.rise i j out[i] out[j] (DG eX) (by simp) (by simp);have h3:HT.lexLt (ks.getD out[j] []) (ks.getD out[i] [])=false:=this;simpa using h3
 . have:∀l:List Nat,(∀i∈l,i<vs.length)->AK (l.map fun i=>ys.getD i .non) (l.map fun i=>vs.getD i Value.none):=by
    intro l
    induction l with
    | nil=>intro _;exact .nil
    | cons i l ih=>
     intro h;have hi:=h i zS;have hy:i<ys.length:=by lia
     obtain⟨u,hu,ru⟩:=r.get (i:=i) (x:=ys[i]) (by simp[hy]);refine .cons ?_ (ih fun j hj=>h j (zZ _ hj));show AQ (ys.getD i V.non) (vs.getD i Value.none);rw[zF,zB hy,zF,hu];exact ru
   exact this out hb
 . rw[zD,p.perm.length_eq,Bu];lia
theorem Qt (I:AB X pins σ H s)(hD:s.heap.objs.size<=D)(kp:∀b o,s.heap.get? b=some o->h'.get? b=some o)
 (ho:h'.get? D=some (seqObj "list" us.toArray c)) (r:AK zs us)(hz:zs.length<=sizeLine):AB X pins σ (upd H D (.lst zs)) { s with heap:=h',toks:=t' }:=
 I.laid kp hD (show Av X.prog X.w _ _ _ (.lst zs) from ⟨hz,us,c,r,ho⟩)
inductive Pg (K:AJ)(xs:List V)(H:Hp)(Q:VK):Prop
 | mk:∀p ys ks,(xs=[.ref p])->(AE K H p ys)->(A3 H ys ks)->(ks.length<64)->(∀l zs ms,H l=none->A3 H zs ms->ms.Perm ks->P3 ms->Q (.ref l) (upd H l (.lst zs)))->Pg K xs H Q
theorem ZO:B3 X (.builtin "sorted") (Pg X.K):=by intro pins s σ H xs us Q I r h;obtain⟨p,ys,ks,rfl,hq,T,gz,q⟩:=h;obtain⟨u,rfl,rx⟩:=Cb r;cases rx;obtain⟨its,r',pl,hz⟩:=I.list hq;have hl:=T.length;have hv:=r'.length;refine SortT.sorted_list (O:=Gg) (key:=fun i=>ks.getD i []) (κ:=tuples' true) pl.isList (by lia) (fun h2 s' a fa kp=>WA I T r' (by lia) fa kp) fun D h' out c pt hD kp ho=>?_;obtain⟨zs,ms,T2,hp,hr,rz,hlz⟩:=XX T r' pt;exact⟨.ref D,_,Qt (t':=s.toks) I hD kp ho rz (by lia),rfl,q D zs ms (I.hok.fresh hD) T2 hp hr⟩
inductive PM (xs:List V)(H:Hp)(Q:VK):Prop
 | mk:∀p dQ ks,(xs=[.ref p])->(H p=some (.dT dQ))->(dQ.map (·.1)=ks.map (List.map Sum.inl))->((∀k∈ks,k≠[]))->(ks.length<64)->(∀l zs ms,H l=none->A3 H zs ms->ms.Perm ks->P3 ms->Q (.ref l) (upd H l (.lst zs)))->PM xs H Q
theorem Yk (hc:X.calm=true):B3 X (.builtin "sorted") PM:=by
 intro pins s σ H xs us Q I r h;obtain⟨p,dQ,ks,rfl,hd,hks,hk0,gz,q⟩:=h;obtain⟨u,rfl,rx⟩:=Cb r;cases rx;obtain⟨hz,lo,xs,rel,o,es,ep,ho,hx,fg,er,hnd⟩:=I.hok p _ hd;have key:∀(dQ:List (List AR×V))(xs:List (List AR×Addr×Value))(ks:List (List Int)),KT H dQ xs->dQ.map (·.1)=ks.map (List.map Sum.inl)->(∀k∈ks,k≠[]) ->
  A3 H (xs.map fun q=>V.ref q.2.1) ks/\AK (xs.map fun q=>V.ref q.2.1) ((xs.map (entryOfKey (tupleKind (BE X.prog X.w)))).map (·.key)):=by
  intro dQ xs ks rel
  induction rel generalizing ks with
  | nil=>
   intro e _;cases ks with
   | nil=>exact⟨trivial,.nil⟩
   | cons k ks=>simp at e
  | cons hpq _ ih=>
   intro e h0;cases ks with
   | nil=>simp at e
   | cons k ks=>simp only[BX,List.cons.injEq] at e;obtain⟨T,V⟩:=ih ks e.2 fun c hc=>h0 c (zZ _ hc);obtain⟨e1,e2,_⟩:=hpq;refine⟨⟨⟨_,rfl,?_,h0 k zS⟩,T⟩,.cons rfl V⟩;rw[e2,e.1,List.map_map];rfl
 obtain⟨T,rv⟩:=key dQ xs ks rel hks hk0;have hl:=T.length;have hv:=rv.length;have evs:(xs.map (entryOfKey (tupleKind (BE X.prog X.w)))).map (·.key)=es.toList.map (·.key):=by rw[er]
 refine SortT.sorted_dict (O:=Gg) (key:=fun i=>ks.getD i []) (κ:=tuples' true) (vs:=(xs.map (entryOfKey (tupleKind (BE X.prog X.w)))).map (·.key)) (I.ok.hd hc) lo ⟨o,ho,hx,fg⟩ evs (by lia) (fun h2 s' a fa kp=>WA I T rv (by lia) fa kp) fun h1 D h' t' out c pt k1 hD k2 ho=>?_;obtain⟨zs,ms,T2,hp,hr,rz,hlz⟩:=XX T rv pt;have I1:AB X pins σ H { s with heap:=h1,toks:=s.toks }:=I.kept k1;refine⟨.ref D,_,Qt (s:={ s with heap:=h1,toks:=s.toks }) (t':=t') I1 hD k2 ho rz ?_,rfl,q D zs ms (I1.hok.fresh hD) T2 hp hr⟩;have:sizeLine=16777216:=rfl
 lia
mutual
inductive AW (H:Hp):V->PyData->Prop
 | non:AW H .non .none
 | bl (b:Bool):AW H (.bl b) (.bool b)
 | int (i:Int):AW H (.int i) (.int i)
 | str (x:Str):AW H (.str x) (.str x)
 | tup {a:Addr}{xs:List V}{ds:List PyData}:H a=some (.tup xs)->Aw H xs ds->AW H (.ref a) (.tuple ds)
 | lst {a:Addr}{xs:List V}{ds:List PyData}:H a=some (.lst xs)->Aw H xs ds->AW H (.ref a) (.list ds)
inductive Aw (H:Hp):List V->List PyData->Prop
 | nil:Aw H [] []
 | cons {x:V}{xs:List V}{d:PyData}{ds:List PyData}:AW H x d->Aw H xs ds->Aw H (x::xs) (d::ds)
end
mutual
theorem AW.reads (ok:Ap P w H h):∀{x:V}{d:PyData},AW H x d->∀{u:Value},AQ x u->∃as,Reads h u d as
 | _,_,.non,u,r=>by cases (show u=Value.none from r);exact⟨_,.none⟩
 | _,_,.bl b,u,r=>by cases (show u=Value.bool b from r);exact⟨_,.bool b⟩
 | _,_,.int i,u,r=>by obtain⟨t,rfl⟩:=r;exact⟨_,.int i t⟩
 | _,_,.str x,u,r=>by obtain⟨t,rfl⟩:=r;exact⟨_,.str x t⟩
 | _,_,.tup (a:=a) e s,u,r=>by cases (show u=Value.ref a from r);obtain⟨_,its,rv,o,ho,hc,n,hd⟩:=ok a _ e;obtain⟨as,ra⟩:=Aw.reads ok s rv;exact⟨_,.tuple ho hc hd (by simpa using ra)⟩
 | _,_,.lst (a:=a) e s,u,r=>by cases (show u=Value.ref a from r);obtain⟨_,its,n,rv,ho⟩:=ok a _ e;obtain⟨as,ra⟩:=Aw.reads ok s rv;exact⟨_,.list ho rfl rfl (by simpa using ra)⟩
theorem Aw.reads (ok:Ap P w H h):∀{xs:List V}{ds:List PyData},Aw H xs ds->∀{us:List Value},AK xs us->∃as,ReadsAll h us ds as
 | _,_,.nil,us,r=>by cases r;exact⟨_,.nil⟩
 | _,_,.cons s t,us,r=>by
  cases r with
  | cons r1 r2=>obtain⟨a1,h1⟩:=AW.reads ok s r1;obtain⟨a2,h2⟩:=Aw.reads ok t r2;exact⟨_,.cons h1 h2⟩
end
theorem ED {i j pos} (hr:PA X es t):PA X (.Constant (.int i) j pos::es) (RO (tC (.int i)) t):=zE zi hr (by rfl)
theorem Jv {pos} (h:PA X xs t1)(hr:PA X es t):PA X (.List xs pos::es) (RO (OS t1) t):=zE (CJ h) hr (by rfl)
inductive Mo:List Expr->List Int->Prop where
 | nil:Mo [] []
 | cons {i:Int}{j:Nat}{pos:Pos}{es:List Expr}{ns:List Int}:Mo es ns->Mo (.Constant (.int i) j pos::es) (i::ns)
theorem ZR (h:Mo es ns):PA X es (fun _ H Q=>Q (ns.map V.int) H):=by
 induction h with
 | nil=>exact zQ
 | cons _ ih=>intro pos pins s σ H Q I q;exact (ED ih) pos pins s σ H Q I q
inductive NP:List Expr->List (List Int)->Prop where
 | nil:NP [] []
 | cons {xs:List Expr}{ns:List Int}{pos:Pos}{es:List Expr}{nss:List (List Int)}:Mo xs ns->ns.length<=sizeLine->NP es nss->NP (.List xs pos::es) (ns::nss)
def V4:List (List Int)->TA
 | []=>OA
 | ns::r=>fun σ H Q=>∀p,H p=none->V4 r σ (upd H p (.lst (ns.map V.int))) fun xs H2=>Q (.ref p::xs) H2
theorem YR (h:NP es nss):PA X es (V4 nss):=by
 induction h with
 | nil=>exact zQ
 | cons hx hl _ ih=>intro pos pins s σ H Q I q;exact (Jv (ZR hx) ih) pos pins s σ H Q I ⟨by rw[zD];exact hl,fun p hp=>q p hp⟩
end L2
namespace WM
theorem U8 {α:Type} [DecidableEq α]:∀{l₁ l₂:List α},l₁.Nodup->(∀x∈l₁,x∈l₂)->l₁.length<=l₂.length
 | [],_,_,_=>zg _
 | x::r,l₂,h,s=>by
  obtain⟨h1,h2⟩:=F6.mp h;have hx:x∈l₂:=s x zS;have ih:=U8 (l₁:=r) (l₂:=l₂.erase x) h2 fun y hy=>by have eB:y≠x:=fun e=>h1 (e ▸ hy);exact (List.mem_erase_of_ne eB).mpr (s y (zZ _ hy))
  rw[List.length_erase_of_mem hx] at ih;have:0<l₂.length:=List.length_pos_of_mem hx;rw[zo]
  lia
noncomputable def lowTo (n:Nat):List Int:=(List.range n).map fun (i:Nat)=>(i:Int)
theorem R8 :x∈lowTo n↔0<=x/\x<n:=by
 unfold lowTo;rw[Be];constructor
 . rintro ⟨i,hi,rfl⟩;have:=C0.mp hi
   lia
 . rintro ⟨h0,h1⟩;exact⟨x.toNat,C0.mpr (by lia),by lia⟩
theorem Ru {n:Nat}{l:List Int}(h:l.Nodup)(hb:∀x∈l,0<=x/\x<n):l.length<=n:=by have:=U8 h (l₂:=lowTo n) fun x hx=>R8.mpr (hb x hx);simpa [lowTo] using this
theorem Uh:∀{l₁ l₂:List Int},l₁.Pairwise (· < ·)->l₂.Pairwise (· < ·)->(∀x,x∈l₁↔x∈l₂)->l₁=l₂
 | [],[],_,_,_=>rfl
 | [],y::_,_,_,h=>by have:=(h y).mpr zS;simp at this
 | x::_,[],_,_,h=>by have:=(h x).mp zS;simp at this
 | x::r,y::q,h1,h2,h=>by
  obtain⟨a1,b1⟩:=HH.mp h1;obtain⟨a2,b2⟩:=HH.mp h2;have e:x=y:=by
   rcases zT.mp ((h x).mp zS) with e | e
   . exact e
   . rcases zT.mp ((h y).mpr zS) with e' | e'
     . exact e'.symm
     . have:=a2 x e;have:=a1 y e';lia
  subst e;refine congrArg (x :: ·) (Uh b1 b2 fun z=>?_);constructor
  . intro hz;rcases zT.mp ((h z).mp (zZ _ hz)) with e | e
    . subst e;have:=a1 z hz;lia
    . exact e
  . intro hz;rcases zT.mp ((h z).mpr (zZ _ hz)) with e | e
    . subst e;have:=a2 z hz;lia
    . exact e
theorem XJ (n):(lowTo n).Pairwise (· < ·):=by unfold lowTo;rw[G9];exact List.pairwise_lt_range.imp fun h=>by lia
abbrev T3:=Int×Int×Int
noncomputable def tl (t:T3):List Int:=[t.1,t.2.1,t.2.2]
structure GW (n:Int)(ts:List T3):Prop where
 n1:1<=n
 n24:n<=24
 len:ts.length<64
 rng:∀t∈ts,0<=t.1/\t.1<t.2.1/\t.2.1<n/\1<=t.2.2/\t.2.2<=99
 dis:ts.Pairwise fun s t=>¬ (s.1=t.1/\s.2.1=t.2.1)
def Ah (ts:List T3)(x y l:Int):Prop:=(x,y,l)∈ts\/(y,x,l)∈ts
theorem Ah.symm (h:Ah ts x y l):Ah ts y x l:=h.elim .inr .inl
theorem GW.uniq (g:GW n ts)(h:Ah ts x y l)(h':Ah ts x y l'):l=l':=by
 have key:∀{ts:List T3},ts.Pairwise (fun s t=>¬ (s.1=t.1/\s.2.1=t.2.1))->∀{a b l l':Int},(a,b,l)∈ts->(a,b,l')∈ts->l=l':=by
  intro ts
  induction ts with
  | nil=>intro _ a b l l' h;simp at h
  | cons t r ih=>
   intro hp a b l l' h h';obtain⟨q,hr⟩:=HH.mp hp;rcases zT.mp h with e | e
   . rcases zT.mp h' with e' | e'
     . rw[<-e] at e';injection e' with _ e2;injection e2 with _ e3;exact e3.symm
     . exact absurd (by rw[<-e];exact⟨rfl,rfl⟩) (q _ e')
   . rcases zT.mp h' with e' | e'
     . exact absurd (by rw[<-e'];exact⟨rfl,rfl⟩) (q _ e)
     . exact ih hr e e'
 rcases h with h | h <;> rcases h' with h' | h'
 . exact key g.dis h h'
 . have:=g.rng _ h;have:=g.rng _ h';simp only at *;lia
 . have:=g.rng _ h;have:=g.rng _ h';simp only at *;lia
 . exact key g.dis h h'
theorem GW.adj (g:GW n ts)(h:Ah ts x y l):0<=x/\x<n/\0<=y/\y<n/\x≠y/\1<=l/\l<=99:=by rcases h with h | h <;> (have:=g.rng _ h;simp only at *;lia)
noncomputable def fd (p:Int):List T3->List (List Int)
 | []=>[]
 | t::r=>(if t.1=p then [[t.2.1,t.2.2]] else [])++(if t.2.1=p then [[t.1,t.2.2]] else [])++fd p r
theorem Wb (p):∀a b:List T3,fd p (a++b)=fd p a++fd p b
 | [],b=>rfl
 | t::r,b=>by show _++_++fd p (r++b)=_;rw[Wb p r b];simp[fd,List.append_assoc]
theorem MI :∀{ts:List T3},k∈fd p ts↔∃y l,k=[y,l]/\Ah ts p y l
 | []=>by simp[fd,Ah]
 | (a,b,c)::r=>by
  have ih:=MI (p:=p) (k:=k) (ts:=r);show k∈_++_++fd p r↔_;rw[zj,zj,ih];simp only;constructor
  . rintro ((h | h) | ⟨y,l,e,h⟩)
    . split at h
      . rename_i e;simp at h;subst e;exact⟨b,c,h,.inl zS⟩
      . simp at h
    . split at h
      . rename_i e;simp at h;subst e;exact⟨a,c,h,.inr zS⟩
      . simp at h
    . exact⟨y,l,e,h.elim (fun z=>.inl (zZ _ z)) fun z=>.inr (zZ _ z)⟩
  . rintro ⟨y,l,e,h⟩;rcases h with h | h
    . rcases zT.mp h with q | q
      . injection q with q1 q2;injection q2 with q2 q3;subst q1 q2 q3;exact .inl (.inl (by simp[e]))
      . exact .inr ⟨y,l,e,.inl q⟩
    . rcases zT.mp h with q | q
      . injection q with q1 q2;injection q2 with q2 q3;subst q1 q2 q3;exact .inl (.inr (by simp[e]))
      . exact .inr ⟨y,l,e,.inr q⟩
theorem Rz {n:Int}(p:Int):∀{ts:List T3},(∀t∈ts,t.1<t.2.1)->(fd p ts).length<=ts.length
 | [],_=>zJ _
 | t::r,h=>by
  have ih:=Rz (n:=n) p (ts:=r) fun t ht=>h t (zZ _ ht);have h0:=h t zS;show (_++_++fd p r).length<=_;rw[zM,zM,zo];have:(if t.1=p then [[t.2.1,t.2.2]] else ([]:List (List Int))).length+(if t.2.1=p then [[t.1,t.2.2]] else ([]:List (List Int))).length<=1:=by split <;> split <;> simp <;> lia
  lia
noncomputable def hd (k:List Int):Int:=k.getD 0 0
inductive Way (ts:List T3):Int->Int->Int->Prop where
 | nil (x:Int):Way ts x x 0
 | cons {x z y l d:Int}:Ah ts x z l->Way ts z y d->Way ts x y (l+d)
theorem Way.nn (g:GW n ts)(h:Way ts x y d):0<=d:=by
 induction h with
 | nil=>exact Dx _
 | cons ha _ ih=>have:=g.adj ha;lia
theorem Way.one (h:Ah ts x y l):Way ts x y l:=by have:=Way.cons h (.nil y);rwa [Int.add_zero] at this
theorem Way.trans (h:Way ts x y d)(h':Way ts y z e):Way ts x z (d+e):=by
 induction h with
 | nil=>rw[CI];exact h'
 | cons ha _ ih=>rw[Int.add_assoc];exact .cons ha (ih h')
theorem Way.symm (h:Way ts x y d):Way ts y x d:=by
 induction h with
 | nil=>exact .nil _
 | cons ha _ ih=>have:=ih.trans (.one ha.symm);rwa [Int.add_comm] at this
theorem Way.snoc (h:Way ts x y d)(ha:Ah ts y z l):Way ts x z (d+l):=h.trans (.one ha)
def IsD (ts:List T3)(x y d:Int):Prop:=Way ts x y d/\∀e,Way ts x y e->d<=e
def Ce (ts:List T3)(x y:Int):Option Int->Prop
 | some d=>IsD ts x y d
 | none=>∀d,¬ Way ts x y d
theorem IsD.uniq (h:IsD ts x y d)(h':IsD ts x y e):d=e:=Int.le_antisymm (h.2 _ h'.1) (h'.2 _ h.1)
theorem Ce.uniq (h:Ce ts x y o)(h':Ce ts x y o'):o=o':=by
 cases o with
 | none=>
  cases o' with
  | none=>rfl
  | some e=>exact absurd h'.1 (h e)
 | some d=>
  cases o' with
  | none=>exact absurd h.1 (h' d)
  | some e=>exact congrArg some (IsD.uniq h h')
theorem IsD.symm (h:IsD ts x y d):IsD ts y x d:=⟨h.1.symm,fun e he=>h.2 e he.symm⟩
theorem RA (g:GW n ts)(x):IsD ts x x 0:=⟨.nil x,fun _ h=>h.nn g⟩
structure Dj (ts:List T3)(s:Int)(kn wt:Int->Option Int):Prop where
 kd:∀p d,kn p=some d->IsD ts s p d
 wk:∀p d,wt p=some d->kn p=none/\Way ts s p d
 ord:∀p d q e,kn p=some d->wt q=some e->d<=e
 nb:∀p d q l,kn p=some d->Ah ts p q l->(∃e,kn q=some e)\/∃e,wt q=some e/\e<=d+l
 st:(∃d,kn s=some d)\/wt s=some 0
theorem Dj.front (g:GW n ts)(h:Dj ts s kn wt)(w:Way ts s y d):(∃e,kn y=some e)\/∃q e,wt q=some e/\e<=d:=by
 have key:∀{x y d:Int},Way ts x y d->∀dx,kn x=some dx->(∃e,kn y=some e)\/∃q e,wt q=some e/\e<=dx+d:=by
  intro x y d w
  induction w with
  | nil=>intro dx hx;exact .inl ⟨dx,hx⟩
  | cons ha w' ih=>
   intro dx hx
   rename_i x z y l d
   have hl:=g.adj ha;have hw:=w'.nn g;rcases h.nb x dx z l hx ha with ⟨e,he⟩ | ⟨e,he,hle⟩
   . have hez:e<=dx+l:=(h.kd z e he).2 _ ((h.kd x dx hx).1.snoc ha);rcases ih e he with q | ⟨q,e',hq,hle⟩
     . exact .inl q
     . exact .inr ⟨q,e',hq,by lia⟩
   . exact .inr ⟨z,e,he,by lia⟩
 rcases h.st with ⟨ds,hs⟩ | hs
 . have:ds=0:=IsD.uniq (h.kd s ds hs) (RA g s);subst this;rcases key w 0 hs with q | ⟨q,e,a,b⟩
   . exact .inl q
   . exact .inr ⟨q,e,a,by lia⟩
 . exact .inr ⟨s,0,hs,w.nn g⟩
theorem Dj.pick (g:GW n ts)(h:Dj ts s kn wt)(hp:wt p=some d)(hm:∀q e,wt q=some e->d<=e):IsD ts s p d:=by
 obtain⟨hk,hw⟩:=h.wk p d hp;refine⟨hw,fun e he=>?_⟩;rcases h.front g he with ⟨e',q⟩ | ⟨q,e',hq,hle⟩
 . rw[hk] at q;cases q
 . exact Int.le_trans (hm q e' hq) hle
theorem Dj.done (g:GW n ts)(h:Dj ts s kn wt)(hw:∀q,wt q=none)(y):Ce ts s y (kn y):=by
 cases e:kn y with
 | some d=>exact h.kd y d e
 | none=>
  intro d w;rcases h.front g w with ⟨e',q⟩ | ⟨q,e',hq,_⟩
  . rw[e] at q;cases q
  . rw[hw] at hq;cases hq
structure Dm (ts:List T3)(s p d:Int)(kn wt:Int->Option Int)(seen:Int->Prop):Prop where
 kd:∀q e,kn q=some e->IsD ts s q e
 wk:∀q e,wt q=some e->kn q=none/\Way ts s q e
 ord:∀q e r f,kn q=some e->wt r=some f->e<=f
 nb:∀q e r l,kn q=some e->Ah ts q r l->(q=p/\¬ seen r)\/(∃f,kn r=some f)\/∃f,wt r=some f/\f<=e+l
 st:∃e,kn s=some e
 pd:kn p=some d
 mx:∀q e,kn q=some e->e<=d
theorem Dj.enter (g:GW n ts)(h:Dj ts s kn wt)(hp:wt p=some d)(hm:∀q e,wt q=some e->d<=e):
 Dm ts s p d (fun q=>if q=p then some d else kn q) (fun q=>if q=p then none else wt q) (fun _=>False):=by
 have hd:=h.pick g hp hm;have hk:=(h.wk p d hp).1;refine⟨fun q e hq=>?_,fun q e hq=>?_,fun q e r f hq hr=>?_,fun q e r l hq ha=>?_,?_,if_pos rfl,fun q e hq=>?_⟩
 . by_cases gZ:q=p
   . rw[if_pos gZ] at hq;cases hq;rw[gZ];exact hd
   . rw[if_neg gZ] at hq;exact h.kd q e hq
 . by_cases gZ:q=p
   . rw[if_pos gZ] at hq;cases hq
   . rw[if_neg gZ] at hq ⊢;exact h.wk q e hq
 . by_cases hrp:r=p
   . rw[if_pos hrp] at hr;cases hr
   . rw[if_neg hrp] at hr;by_cases gZ:q=p
     . rw[if_pos gZ] at hq;cases hq;exact hm r f hr
     . rw[if_neg gZ] at hq;exact h.ord q e r f hq hr
 . by_cases gZ:q=p
   . exact .inl ⟨gZ,fun z=>z⟩
   . rw[if_neg gZ] at hq;by_cases hrp:r=p
     . exact .inr (.inl ⟨d,if_pos hrp⟩)
     . rcases h.nb q e r l hq ha with ⟨f,hf⟩ | ⟨f,hf,hle⟩
       . exact .inr (.inl ⟨f,by rw[if_neg hrp];exact hf⟩)
       . exact .inr (.inr ⟨f,by rw[if_neg hrp];exact hf,hle⟩)
 . by_cases fv:s=p
   . exact⟨d,if_pos fv⟩
   . rcases h.st with ⟨e,he⟩ | he
     . exact⟨e,by rw[if_neg fv];exact he⟩
     . -- s waits with 0: then d is 0 too,and p is come to by a way of 0
       have h0:=hm s 0 he;have:=hd.1.nn g;have hd0:d=0:=by lia
       subst hd0;exfalso;have:∀{x y d:Int},Way ts x y d->d=0->x=y:=by
        intro x y d w;cases w with
        | nil=>intro _;rfl
        | cons ha w'=>intro e;have:=g.adj ha;have:=w'.nn g;lia
       exact fv (this hd.1 rfl)
 . by_cases gZ:q=p
   . rw[if_pos gZ] at hq;cases hq;exact Dx _
   . rw[if_neg gZ] at hq;exact h.ord q e p d hq hp
theorem Dm.skip (h:Dm ts s p d kn wt seen)(hr:∃f,kn r=some f):Dm ts s p d kn wt (fun x=>seen x\/x=r):=
 ⟨h.kd,h.wk,h.ord,fun q e x l hq ha=>by
  rcases h.nb q e x l hq ha with ⟨a,b⟩ | c
  . by_cases hx:x=r
    . subst hx;exact .inr (.inl hr)
    . exact .inl ⟨a,fun z=>z.elim b hx⟩
  . exact .inr c,h.st,h.pd,h.mx⟩
theorem Dm.wait (g:GW n ts)(h:Dm ts s p d kn wt seen)(ha:Ah ts p r l)(hr:kn r=none)
 (hf:(wt r=none/\f=d+l)\/∃e,wt r=some e/\f=min (d+l) e):Dm ts s p d kn (fun x=>if x=r then some f else wt x) (fun x=>seen x\/x=r):=by
 have hl:=g.adj ha;have hway:Way ts s r (d+l):=(h.kd p d h.pd).1.snoc ha;have hf1:f<=d+l:=by
  rcases hf with ⟨_,e⟩ | ⟨e,_,e'⟩
  . lia
  . lia
 have hf2:Way ts s r f:=by
  rcases hf with ⟨_,rfl⟩ | ⟨e,he,rfl⟩
  . exact hway
  . by_cases hle:d+l<=e
    . rw[Int.min_eq_left hle];exact hway
    . rw[Int.min_eq_right (by lia)];exact (h.wk r e he).2
 have hf3:d<=f:=by
  rcases hf with ⟨_,rfl⟩ | ⟨e,he,rfl⟩
  . lia
  . have:=h.ord p d r e h.pd he;lia
 refine⟨h.kd,fun q e hq=>?_,fun q e x y hq hx=>?_,fun q e x k hq hax=>?_,h.st,h.pd,h.mx⟩
 . by_cases hqr:q=r
   . rw[if_pos hqr] at hq;cases hq;rw[hqr];exact⟨hr,hf2⟩
   . rw[if_neg hqr] at hq;exact h.wk q e hq
 . by_cases hxr:x=r
   . rw[if_pos hxr] at hx;cases hx;have:=h.mx q e hq;lia
   . rw[if_neg hxr] at hx;exact h.ord q e x y hq hx
 . by_cases hxr:x=r
   . subst hxr;refine .inr (.inr ⟨f,if_pos rfl,?_⟩);rcases h.nb q e x k hq hax with ⟨a,_⟩ | ⟨y,hy⟩ | ⟨y,hy,hle⟩
     . subst a;rw[h.pd] at hq;cases hq;rw[g.uniq hax ha];exact hf1
     . rw[hr] at hy;cases hy
     . rcases hf with ⟨e1,_⟩ | ⟨e1,he1,e2⟩
       . rw[e1] at hy;cases hy
       . rw[he1] at hy;cases hy;lia
   . rcases h.nb q e x k hq hax with ⟨a,b⟩ | c | ⟨y,hy,hle⟩
     . exact .inl ⟨a,fun z=>z.elim b hxr⟩
     . exact .inr (.inl c)
     . exact .inr (.inr ⟨y,by rw[if_neg hxr];exact hy,hle⟩)
theorem Dm.leave (h:Dm ts s p d kn wt seen)(hs:∀r l,Ah ts p r l->seen r):Dj ts s kn wt:=
 ⟨h.kd,h.wk,h.ord,fun q e r l hq ha=>by
  rcases h.nb q e r l hq ha with ⟨a,b⟩ | c
  . subst a;exact absurd (hs r l ha) b
  . exact c,.inl h.st⟩
inductive Bo (ts:List T3)(k:Int):Int->Int->Int->Prop where
 | nil (x:Int):Bo ts k x x 0
 | tie {x y l:Int}:Ah ts x y l->Bo ts k x y l
 | cons {x z y l d:Int}:Ah ts x z l->z<k->Bo ts k z y d->Bo ts k x y (l+d)
theorem Bo.way (h:Bo ts k x y d):Way ts x y d:=by
 induction h with
 | nil=>exact .nil _
 | tie ha=>exact .one ha
 | cons ha _ _ ih=>exact .cons ha ih
theorem Way.toK (g:GW n ts)(h:Way ts x y d):Bo ts n x y d:=by
 induction h with
 | nil=>exact .nil _
 | cons ha _ ih=>exact .cons ha (g.adj ha).2.2.2.1 ih
theorem Bo.split (g:GW n ts)(h:Bo ts (k+1) x y d):Bo ts k x y d\/∃d1 d2,Bo ts k x k d1/\Bo ts k k y d2/\d1+d2<=d:=by
 induction h with
 | nil=>exact .inl (.nil _)
 | tie ha=>exact .inl (.tie ha)
 | cons ha hz w ih=>
  rename_i x z y l d
  by_cases hk:z<k
  . rcases ih with q | ⟨d1,d2,a,b,c⟩
    . exact .inl (.cons ha hk q)
    . exact .inr ⟨l+d1,d2,.cons ha hk a,b,by lia⟩
  . have e:z=k:=by lia
    subst e;rcases ih with q | ⟨d1,d2,a,b,c⟩
    . exact .inr ⟨l,d,.tie ha,q,Dx _⟩
    . have:=a.way.nn g;exact .inr ⟨l,d2,.tie ha,b,by lia⟩
theorem Bo.zero (g:GW n ts)(h:Bo ts 0 x y d):(x=y/\d=0)\/Ah ts x y d:=by
 cases h with
 | nil=>exact .inl ⟨rfl,rfl⟩
 | tie ha=>exact .inr ha
 | cons ha hz _=>have:=g.adj ha;lia
structure Fw (ts:List T3)(n:Int)(F:Int->Int->Option Int):Prop where
 snd:∀x y d,0<=x->x<n->0<=y->y<n->F x y=some d->Way ts x y d
def KH (ts:List T3)(n k:Int)(F:Int->Int->Option Int):Prop:=∀x y d,0<=x->x<n->0<=y->y<n->Bo ts k x y d->∃e,F x y=some e/\e<=d
theorem Fw.len (g:GW n ts)(h:Fw ts n F)(c:KH ts n n F)(hx:0<=x)(dZ:x<n)(hy:0<=y)(dw:y<n):Ce ts x y (F x y):=by
 cases e:F x y with
 | some d=>refine⟨h.snd x y d hx dZ hy dw e,fun e' he=>?_⟩;obtain⟨f,hf,hle⟩:=c x y e' hx dZ hy dw (he.toK g);rw[e] at hf;cases hf;exact hle
 | none=>intro d hd;obtain⟨f,hf,_⟩:=c x y d hx dZ hy dw (hd.toK g);rw[e] at hf;cases hf
noncomputable def A6 (kn:List (Option Int))(p:Int):Option Int:=if 0<=p then kn.getD p.toNat none else none
noncomputable def C4 (kn:List (Option Int)):Nat:=(kn.filter Option.isSome).length
theorem W1 (kn):C4 kn<=kn.length:=EH _ _
theorem Wf (h0:0<=p)(h1:p.toNat<kn.length)(q):A6 (kn.set p.toNat o) q=if q=p then o else A6 kn q:=by
 unfold A6;by_cases hq:0<=q
 . rw[if_pos hq,if_pos hq,zF,zF,List.getElem?_set];by_cases e:q=p
   . subst e;simp[h1]
   . have:¬ p.toNat=q.toNat:=by lia
     rw[if_neg this,if_neg e]
 . rw[if_neg hq,if_neg (by lia),if_neg hq]
theorem Qx:∀{kn:List (Option Int)}{j:Nat}{d:Int},kn[j]?=some none->C4 (kn.set j (some d))=C4 kn+1
 | [],_,_,h=>by simp at h
 | o::r,0,d,h=>by
  have:o=none:=by simpa using h
  subst this;simp[C4,List.set]
 | o::r,j+1,d,h=>by
  have ih:=Qx (kn:=r) (j:=j) (d:=d) (by simpa using h);unfold C4 at ih ⊢;rw[List.set_cons_succ];cases o with
  | none=>rw[M8 (by simp),M8 (by simp)];exact ih
  | some x=>rw[NN (by simp),NN (by simp),zo,zo,ih]
theorem ZT (n):C4 (List.replicate n none)=0:=by unfold C4;rw[List.filter_replicate];simp
theorem M9 (n)(q):A6 (List.replicate n none) q=none:=by
 unfold A6;split
 . rw[zF,Lh];split <;> rfl
 . rfl
structure Dl (ts:List T3)(n s:Int)(kn:List (Option Int))(wt:Int->Option Int):Prop where
 dj:Dj ts s (A6 kn) wt
 ln:kn.length=n.toNat
 bk:∀p d,A6 kn p=some d->d<=99*C4 kn
 bw:∀p e,wt p=some e->e<=99*C4 kn/\0<=p/\p<n
structure Dn (ts:List T3)(n s p d:Int)(kn:List (Option Int))(wt:Int->Option Int)(seen:Int->Prop):Prop where
 dm:Dm ts s p d (A6 kn) wt seen
 ln:kn.length=n.toNat
 bk:∀q e,A6 kn q=some e->e<=99*C4 kn
 bd:d+99<=99*C4 kn
 bw:∀q e,wt q=some e->e<=99*C4 kn/\0<=q/\q<n
theorem Dl.start (g:GW n ts)(h0:0<=s)(h1:s<n):Dl ts n s (List.replicate n.toNat none) (fun q=>if q=s then some 0 else none):=by
 refine⟨⟨fun p d h=>?_,fun p d h=>?_,fun p d q e h=>?_,fun p d q l h=>?_,.inr (if_pos rfl)⟩,DB,fun p d h=>?_,fun p e h=>?_⟩
 . rw[M9] at h;cases h
 . by_cases e:p=s
   . rw[if_pos e] at h;cases h;rw[e];exact⟨M9 _ _,.nil s⟩
   . rw[if_neg e] at h;cases h
 . rw[M9] at h;cases h
 . rw[M9] at h;cases h
 . rw[M9] at h;cases h
 . by_cases e:p=s
   . rw[if_pos e] at h;cases h;rw[e,ZT];exact⟨by simp,h0,h1⟩
   . rw[if_neg e] at h;cases h
theorem Dl.enter (g:GW n ts)(h:Dl ts n s kn wt)(hp:wt p=some d)(hm:∀q e,wt q=some e->d<=e):
 kn[p.toNat]?=some none/\0<=p/\p<n/\C4 (kn.set p.toNat (some d))=C4 kn+1/\Dn ts n s p d (kn.set p.toNat (some d)) (fun q=>if q=p then none else wt q) (fun _=>False):=by
 obtain⟨hb,h0,h1⟩:=h.bw p d hp;have hl:=h.ln;have dW:p.toNat<kn.length:=by lia
 have hk:=(h.dj.wk p d hp).1;have hn:kn[p.toNat]?=some none:=by unfold A6 at hk;rw[if_pos h0,zF,zB dW] at hk;rw[zB dW];exact congrArg some hk
 have hc:=Qx (d:=d) hn;have ef:A6 (kn.set p.toNat (some d))=fun q=>if q=p then some d else A6 kn q:=funext fun q=>Wf h0 dW q
 refine⟨hn,h0,h1,hc,⟨?_,by rw[List.length_set];exact hl,fun q e hq=>?_,by rw[hc];lia,fun q e hq=>?_⟩⟩
 . rw[ef];exact h.dj.enter g hp hm
 . rw[ef] at hq;simp only at hq;rw[hc];by_cases e':q=p
   . rw[if_pos e'] at hq;cases hq;lia
   . rw[if_neg e'] at hq;have:=h.bk q e hq;lia
 . by_cases e':q=p
   . rw[if_pos e'] at hq;cases hq
   . rw[if_neg e'] at hq;have:=h.bw q e hq;rw[hc];exact⟨by lia,this.2⟩
theorem Dn.skip (h:Dn ts n s p d kn wt seen)(hr:A6 kn r=some f):Dn ts n s p d kn wt (fun x=>seen x\/x=r):=
 ⟨h.dm.skip ⟨f,hr⟩,h.ln,h.bk,h.bd,h.bw⟩
theorem Dn.wait (g:GW n ts)(h:Dn ts n s p d kn wt seen)(ha:Ah ts p r l)(hr:A6 kn r=none):
 Dn ts n s p d kn (fun x=>if x=r then some (if (wt r).getD (d+l)<d+l then (wt r).getD (d+l) else d+l) else wt x) (fun x=>seen x\/x=r):=by
 have hl:=g.adj ha;have hf:(wt r=none/\(if (wt r).getD (d+l)<d+l then (wt r).getD (d+l) else d+l)=d+l)\/∃e,wt r=some e/\(if (wt r).getD (d+l)<d+l then (wt r).getD (d+l) else d+l)=min (d+l) e:=by
  cases e:wt r with
  | none=>exact .inl ⟨rfl,by simp⟩
  | some x=>refine .inr ⟨x,rfl,?_⟩;simp only[Option.getD_some];split <;> lia
 refine⟨h.dm.wait g ha hr hf,h.ln,h.bk,h.bd,fun q e hq=>?_⟩;by_cases e':q=r
 . rw[if_pos e'] at hq;have hd:=h.bd;have e2:=zY hq;refine⟨?_,by lia,by lia⟩;split at e2 <;> lia
 . rw[if_neg e'] at hq;exact h.bw q e hq
theorem Dn.leave (h:Dn ts n s p d kn wt seen)(hs:∀r l,Ah ts p r l->seen r):Dl ts n s kn wt:=
 ⟨h.dm.leave hs,h.ln,h.bk,h.bw⟩
structure LR (ts:List T3)(n s:Int)(kn:List (Option Int)):Prop where
 ln:kn.length=n.toNat
 len:∀y,0<=y->y<n->Ce ts s y (A6 kn y)
 bd:∀o∈kn,∀d,o=some d->0<=d/\d<=2376
theorem Dl.done (g:GW n ts)(h:Dl ts n s kn wt)(hw:∀q,wt q=none):LR ts n s kn:=by
 refine⟨h.ln,fun y _ _=>h.dj.done g hw y,fun o ho d e=>?_⟩;obtain⟨j,hj,ej⟩:=zy ho;have hf:A6 kn (j:Int)=some d:=by unfold A6;rw[if_pos (by lia),zF,zv,zB hj,ej,e];rfl
 have h1:=h.bk _ _ hf;have h2:=(h.dj.kd _ _ hf).1.nn g;have h3:=W1 kn;have:=h.ln;have:=g.n24
 lia
noncomputable def DX:Option Int->Option Int->Option Int
 | some a,some b=>some (a+b)
 | _,_=>none
noncomputable def Dg:Option Int->Option Int->Option Int
 | none,o=>o
 | some a,none=>some a
 | some a,some b=>some (if b<a then b else a)
theorem Bo.mono (h:Bo ts k x y d)(hk:k<=k'):Bo ts k' x y d:=by
 induction h with
 | nil=>exact .nil _
 | tie ha=>exact .tie ha
 | cons ha hz _ ih=>exact .cons ha (by lia) ih
structure Fm (ts:List T3)(n k:Int)(F:Int->Int->Option Int)(done:Int->Int->Prop):Prop where
 fw:Fw ts n F
 cv:KH ts n k F
 dn:∀x y d,0<=x->x<n->0<=y->y<n->done x y->Bo ts (k+1) x y d->∃e,F x y=some e/\e<=d
theorem b9 (h:(∃e,o=some e/\e<=d)\/∃e,p=some e/\e<=d):∃e,Dg o p=some e/\e<=d:=by
 rcases h with ⟨e,rfl,h⟩ | ⟨e,rfl,h⟩
 . cases p with
   | none=>exact⟨e,rfl,h⟩
   | some b=>exact⟨_,rfl,by split <;> lia⟩
 . cases o with
   | none=>exact⟨e,rfl,h⟩
   | some a=>exact⟨_,rfl,by split <;> lia⟩
theorem Yt (h:Dg o p=some d):o=some d\/p=some d:=by
 cases o with
 | none=>exact .inr h
 | some a=>
  cases p with
  | none=>exact .inl h
  | some b=>
   have e:(if b<a then b else a)=d:=zY h
   split at e
   . exact .inr (by rw[e])
   . exact .inl (by rw[e])
theorem Xf (h:DX o p=some d):∃a b,o=some a/\p=some b/\a+b=d:=by
 cases o with
 | none=>cases h
 | some a=>
  cases p with
  | none=>cases h
  | some b=>exact⟨a,b,rfl,rfl,zY h⟩
theorem Fm.step (g:GW n ts)(h:Fm ts n k F done)(ha:0<=a)(gN:a<n)(hb:0<=b)(eQ:b<n)(hk:0<=k)(iV:k<n):
 Fm ts n k (fun x y=>if x=a/\y=b then Dg (F a b) (DX (F a k) (F k b)) else F x y) (fun x y=>done x y\/(x=a/\y=b)):=by
 have snd:∀d,Dg (F a b) (DX (F a k) (F k b))=some d->Way ts a b d:=fun d hd=>by
  rcases Yt hd with e | e
  . exact h.fw.snd a b d ha gN hb eQ e
  . obtain⟨d1,d2,e1,e2,rfl⟩:=Xf e;exact (h.fw.snd a k d1 ha gN hk iV e1).trans (h.fw.snd k b d2 hk iV hb eQ e2)
 have cov1:∀d,Bo ts (k+1) a b d->∃e,Dg (F a b) (DX (F a k) (F k b))=some e/\e<=d:=fun d w=>by
  refine b9 ?_;rcases w.split g with q | ⟨d1,d2,q1,q2,hle⟩
  . exact .inl (h.cv a b d ha gN hb eQ q)
  . obtain⟨e1,f1,l1⟩:=h.cv a k d1 ha gN hk iV q1;obtain⟨e2,f2,l2⟩:=h.cv k b d2 hk iV hb eQ q2;exact .inr ⟨e1+e2,by rw[f1,f2];rfl,by lia⟩
 refine⟨⟨fun x y d hx dZ hy dw e=>?_⟩,fun x y d hx dZ hy dw w=>?_,fun x y d hx dZ hy dw hd w=>?_⟩
 . by_cases c:x=a/\y=b
   . rw[if_pos c] at e;rw[c.1,c.2];exact snd d e
   . rw[if_neg c] at e;exact h.fw.snd x y d hx dZ hy dw e
 . by_cases c:x=a/\y=b
   . rw[if_pos c];rw[c.1,c.2] at w;exact cov1 d (w.mono (by lia))
   . rw[if_neg c];exact h.cv x y d hx dZ hy dw w
 . by_cases c:x=a/\y=b
   . rw[if_pos c];rw[c.1,c.2] at w;exact cov1 d w
   . rw[if_neg c];exact h.dn x y d hx dZ hy dw (hd.resolve_right c) w
theorem Fm.enter (h:Fw ts n F)(c:KH ts n k F):Fm ts n k F (fun _ _=>False):=⟨h,c,fun _ _ _ _ _ _ _ z=>z.elim⟩
theorem Fm.leave (h:Fm ts n k F done)(hd:∀x y,0<=x->x<n->0<=y->y<n->done x y):Fw ts n F/\KH ts n (k+1) F:=
 ⟨h.fw,fun x y d hx dZ hy dw w=>h.dn x y d hx dZ hy dw (hd x y hx dZ hy dw) w⟩
def Ft (ts:List T3)(n:Int)(F:Int->Int->Option Int):Prop:=∀x y d,0<=x->x<n->0<=y->y<n->(F x y=some d↔(x=y/\d=0)\/Ah ts x y d)
theorem Ft.fw (g:GW n ts)(h:Ft ts n F):Fw ts n F/\KH ts n 0 F:=by
 refine⟨⟨fun x y d hx dZ hy dw e=>?_⟩,fun x y d hx dZ hy dw w=>?_⟩
 . rcases (h x y d hx dZ hy dw).mp e with ⟨rfl,rfl⟩ | ha
   . exact .nil x
   . exact .one ha
 . refine⟨d,(h x y d hx dZ hy dw).mpr ?_,Dx _⟩;rcases w.zero g with q | q
   . exact .inl q
   . exact .inr q
theorem Ft.nil (n)(h:∀x y,0<=x->x<n->0<=y->y<n->F x y=if x=y then some 0 else none):Ft [] n F:=fun x y d hx dZ hy dw=>by
 rw[h x y hx dZ hy dw];constructor
 . intro e;split at e
   . rename_i c;exact .inl ⟨c,(zY e).symm⟩
   . cases e
 . rintro (⟨rfl,rfl⟩ | ha)
   . rw[if_pos rfl]
   . rcases ha with z | z <;> simp at z
theorem Ft.put (g:GW n (pre++(a,b,l)::post))(h:Ft pre n F):
 Ft (pre++[(a,b,l)]) n (fun x y=>if x=b/\y=a then some l else if x=a/\y=b then some l else F x y):=fun x y d hx dZ hy dw=>by
 have hr:=g.rng (a,b,l) (by simp);simp only at hr;have sub:∀{x y d:Int},Ah pre x y d->Ah (pre++(a,b,l)::post) x y d:=fun z=>z.elim (fun z=>.inl (C8 _ z)) fun z=>.inr (C8 _ z);have own:Ah (pre++(a,b,l)::post) a b l:=.inl (by simp);have gM:Ah (pre++[(a,b,l)]) x y d↔Ah pre x y d\/(x=a/\y=b/\d=l)\/(x=b/\y=a/\d=l):=by
  unfold Ah;simp only[zj,zh,Prod.mk.injEq];constructor
  . rintro ((z | z) | (z | z))
    . exact .inl (.inl z)
    . exact .inr (.inl z)
    . exact .inl (.inr z)
    . exact .inr (.inr ⟨z.2.1,z.1,z.2.2⟩)
  . rintro ((z | z) | z | z)
    . exact .inl (.inl z)
    . exact .inr (.inl z)
    . exact .inl (.inr z)
    . exact .inr (.inr ⟨z.2.1,z.1,z.2.2⟩)
 rw[gM];show (if x=b/\y=a then some l else if x=a/\y=b then some l else F x y)=some d↔_
 by_cases c1:x=b/\y=a
 . rw[if_pos c1];constructor
   . intro e;exact .inr (.inr (.inr ⟨c1.1,c1.2,(zY e).symm⟩))
   . rintro (⟨e,_⟩ | z | ⟨e1,e2,e3⟩ | ⟨_,_,e3⟩)
     . lia
     . have z':=sub z;rw[c1.1,c1.2] at z';rw[g.uniq z' own.symm]
     . rw[e3]
     . rw[e3]
 . rw[if_neg c1];by_cases c2:x=a/\y=b
   . rw[if_pos c2];constructor
     . intro e;exact .inr (.inr (.inl ⟨c2.1,c2.2,(zY e).symm⟩))
     . rintro (⟨e,_⟩ | z | ⟨e1,e2,e3⟩ | ⟨_,_,e3⟩)
       . lia
       . have z':=sub z;rw[c2.1,c2.2] at z';rw[g.uniq z' own]
       . rw[e3]
       . rw[e3]
   . rw[if_neg c2,h x y d hx dZ hy dw];constructor
     . rintro (z | z)
       . exact .inl z
       . exact .inr (.inl z)
     . rintro (z | z | z | z)
       . exact .inl z
       . exact .inr z
       . exact absurd ⟨z.1,z.2.1⟩ c2
       . exact absurd ⟨z.1,z.2.1⟩ c1
noncomputable def A4 (M:DE)(x y:Int):Option Int:=if 0<=x then A6 (M.getD x.toNat []) y else none
noncomputable def D5 (M:DE)(a b:Int)(v:Option Int):List (List (Option Int)):=M.set a.toNat ((M.getD a.toNat []).set b.toNat v)
structure Ck (n:Int)(M:DE):Prop where
 ln:M.length=n.toNat
 rw_:∀r∈M,r.length=n.toNat
theorem Ck.row (h:Ck n M)(ha:0<=a)(gN:a<n):∃r,M[a.toNat]?=some r/\M.getD a.toNat []=r/\r.length=n.toNat:=by
 have hl:=h.ln;have dW:a.toNat<M.length:=by lia
 exact⟨M[a.toNat],zB dW,by rw[zF,zB dW];rfl,h.rw_ _ (Cq dW)⟩
theorem Ck.set (h:Ck n M)(ha:0<=a)(gN:a<n):Ck n (D5 M a b v):=by
 obtain⟨r,h1,h2,h3⟩:=h.row ha gN;refine⟨by unfold D5;rw[List.length_set];exact h.ln,fun q hq=>?_⟩;unfold D5 at hq;rcases List.mem_or_eq_of_mem_set hq with z | z
 . exact h.rw_ q z
 . rw[z,List.length_set,h2,h3]
theorem RM (h:Ck n M)(ha:0<=a)(gN:a<n)(hb:0<=b)(eQ:b<n)(hx:0<=x)(dZ:x<n):
 A4 (D5 M a b v) x y=if x=a/\y=b then v else A4 M x y:=by
 obtain⟨r,h1,h2,h3⟩:=h.row ha gN;have hl:=h.ln;unfold A4 D5;rw[if_pos hx,if_pos hx,zF,List.getElem?_set];by_cases e:x=a
 . subst e;rw[if_pos rfl,if_pos (by lia),Option.getD_some,h2,Wf hb (by lia)];by_cases e2:y=b
   . rw[if_pos e2,if_pos ⟨rfl,e2⟩]
   . rw[if_neg e2,if_neg fun z=>e2 z.2]
 . rw[if_neg (by lia),if_neg fun z=>e z.1,<-zF]
theorem Fm.congr (h:Fm ts n k F done)(e:∀x y,0<=x->x<n->0<=y->y<n->G x y=F x y)(hd:∀x y,0<=x->x<n->0<=y->y<n->done' x y->done x y):Fm ts n k G done':=
 ⟨⟨fun x y d a b c d' z=>h.fw.snd x y d a b c d' (by rw[<-e x y a b c d'];exact z)⟩,fun x y d a b c d' w=>by rw[e x y a b c d'];exact h.cv x y d a b c d' w,fun x y d a b c d' z w=>by rw[e x y a b c d'];exact h.dn x y d a b c d' (hd x y a b c d' z) w⟩
theorem Ft.congr (h:Ft ts n F)(e:∀x y,0<=x->x<n->0<=y->y<n->G x y=F x y):Ft ts n G:=fun x y d a b c d'=>by rw[e x y a b c d'];exact h x y d a b c d'
def Rows (ts:List T3)(n:Int)(M:DE):Prop:=M.length=n.toNat/\∀x,0<=x->x<n->LR ts n x (M.getD x.toNat [])
theorem Zs (g:GW n ts)(x y)(hx:0<=x)(dZ:x<n)(d)(h:IsD ts x y d):0<=d/\d<=2376:=by
 have ex:∀(m:Nat)(kn:List (Option Int))(wt:Int->Option Int),Dl ts n x kn wt->n.toNat-C4 kn<=m->(∃L:List Int,∀q e,wt q=some e->q∈L)->∃kn',LR ts n x kn':=by
  intro m
  induction m with
  | zero=>
   intro kn wt D hm _;refine⟨kn,D.done g fun q=>?_⟩;cases e:wt q with
   | none=>rfl
   | some d=>
    have hk:=(D.dj.wk q d e).1;obtain⟨_,h0,h1⟩:=D.bw q d e;have hl:=D.ln;have dW:q.toNat<kn.length:=by lia
    have hn:kn[q.toNat]?=some none:=by unfold A6 at hk;rw[if_pos h0,zF,zB dW] at hk;rw[zB dW];exact congrArg some hk
    have h1:=Qx (d:=0) hn;have h2:=W1 (kn.set q.toNat (some 0));rw[List.length_set] at h2
    lia
  | succ m ih=>
   intro kn wt D hm hL;by_cases hw:∀q,wt q=none
   . exact⟨kn,D.done g hw⟩
   . -- pick the nearest
     obtain⟨L,hL⟩:=hL;have pick:∀L:List Int,(∃q∈L,(wt q).isSome)->∃p d,wt p=some d/\∀q∈L,∀e,wt q=some e->d<=e:=by
      intro L
      induction L with
      | nil=>rintro ⟨q,hq,_⟩;simp at hq
      | cons z L ihL=>
       rintro ⟨q,hq,hs⟩;by_cases hr:∃q∈L,(wt q).isSome
       . obtain⟨p,d,hp,fY⟩:=ihL hr;cases ez:wt z with
         | none=>
          refine⟨p,d,hp,fun q' fV e he=>?_⟩;rcases zT.mp fV with rfl | fV
          . rw[ez] at he;cases he
          . exact fY q' fV e he
         | some dz=>
          by_cases hz:dz<d
          . refine⟨z,dz,ez,fun q' fV e he=>?_⟩;rcases zT.mp fV with rfl | fV
            . rw[ez] at he;cases he;exact Dx _
            . have:=fY q' fV e he;lia
          . refine⟨p,d,hp,fun q' fV e he=>?_⟩;rcases zT.mp fV with rfl | fV
            . rw[ez] at he;cases he;lia
            . exact fY q' fV e he
       . rcases zT.mp hq with rfl | hq
         . obtain⟨d,hd⟩:=Lv.mp hs;refine⟨q,d,hd,fun q' fV e he=>?_⟩;rcases zT.mp fV with rfl | fV
           . rw[hd] at he;cases he;exact Dx _
           . exact absurd ⟨q',fV,by rw[he];rfl⟩ hr
         . exact absurd ⟨q,hq,hs⟩ hr
     obtain⟨p,d,hp,fY⟩:=pick L (by
      apply Ir;intro ft;refine hw fun q=>?_;cases e:wt q with
      | none=>rfl
      | some d=>exact absurd ⟨q,hL q d e,by rw[e];rfl⟩ ft)
     obtain⟨hn,h0,h1,hc,N⟩:=D.enter g hp (fun q e he=>fY q (hL q e he) e he);have all:∀(ns:List (Int×Int))(wt':Int->Option Int)(seen:Int->Prop),Dn ts n x p d (kn.set p.toNat (some d)) wt' seen->(∃L:List Int,∀q e,wt' q=some e->q∈L)->(∀r l,(r,l)∈ns->Ah ts p r l) ->
      ∃(wt'':Int->Option Int)(ic:Int->Prop),Dn ts n x p d (kn.set p.toNat (some d)) wt'' ic/\(∃L:List Int,∀q e,wt'' q=some e->q∈L)/\(∀r,seen r->ic r)/\∀r l,(r,l)∈ns->ic r:=by
      intro ns
      induction ns with
      | nil=>intro wt' seen N hL _;exact⟨wt',seen,N,hL,fun _ z=>z,fun r l z=>by simp at z⟩
      | cons t ns ih'=>
       intro wt' seen N hL' ha;obtain⟨r,l⟩:=t;have har:=ha r l zS;have gN:∀r l,(r,l)∈ns->Ah ts p r l:=fun r l z=>ha r l (zZ _ z);cases ek:A6 (kn.set p.toNat (some d)) r with
       | some f=>
        obtain⟨w2,s2,N2,L2,m2,a2⟩:=ih' wt' _ (N.skip ek) hL' gN;refine⟨w2,s2,N2,L2,fun q z=>m2 q (.inl z),fun q l' z=>?_⟩;rcases zT.mp z with e | z
        . cases e;exact m2 _ (.inr rfl)
        . exact a2 q l' z
       | none=>
        obtain⟨L',hL'⟩:=hL';obtain⟨w2,s2,N2,L2,m2,a2⟩:=ih' _ _ (N.wait g har ek) ⟨r::L',fun q e he=>by
         by_cases e':q=r
         . rw[e'];exact zS
         . rw[if_neg e'] at he;exact zZ _ (hL' q e he)⟩ gN
        refine⟨w2,s2,N2,L2,fun q z=>m2 q (.inl z),fun q l' z=>?_⟩;rcases zT.mp z with e | z
        . cases e;exact m2 _ (.inr rfl)
        . exact a2 q l' z
     have nbr:∃ns:List (Int×Int),(∀r l,(r,l)∈ns->Ah ts p r l)/\∀r l,Ah ts p r l->(r,l)∈ns:=by
      refine⟨(ts.filterMap fun t=>if t.1=p then some (t.2.1,t.2.2) else none)++(ts.filterMap fun t=>if t.2.1=p then some (t.1,t.2.2) else none),fun r l z=>?_,fun r l z=>?_⟩
      . rcases zj.mp z with z | z
        . obtain⟨⟨a,b,c⟩,ht,e⟩:=HR.mp z;split at e
          . rename_i c1
            have iX:a=p:=c1;have e':=zY e;simp only[Prod.mk.injEq] at e';obtain⟨rfl,rfl⟩:=e';subst iX;exact .inl ht
          . cases e
        . obtain⟨⟨a,b,c⟩,ht,e⟩:=HR.mp z;split at e
          . rename_i c1
            have iX:b=p:=c1;have e':=zY e;simp only[Prod.mk.injEq] at e';obtain⟨rfl,rfl⟩:=e';subst iX;exact .inr ht
          . cases e
      . rcases z with z | z
        . exact C8 _ (HR.mpr ⟨_,z,by simp⟩)
        . exact zl _ (HR.mpr ⟨_,z,by simp⟩)
     obtain⟨ns,hns1,hns2⟩:=nbr;obtain⟨w2,s2,N2,L2,_,a2⟩:=all ns _ _ N ⟨L,fun q e he=>by
      by_cases e':q=p
      . rw[if_pos e'] at he;cases he
      . rw[if_neg e'] at he;exact hL q e he⟩ hns1
     exact ih _ _ (N2.leave fun r l ha=>a2 r l (hns2 r l ha)) (by lia) L2
 obtain⟨kn,K⟩:=ex n.toNat _ _ (Dl.start g hx dZ) (by lia) ⟨[x],fun q e he=>by
  by_cases e':q=x
  . simp[e']
  . rw[if_neg e'] at he;cases he⟩
 have hy:(0<=y/\y<n)\/y=x:=by
  have:∀{x y d:Int},Way ts x y d->x=y\/(0<=y/\y<n):=by
   intro x y d w
   induction w with
   | nil=>exact .inl rfl
   | cons ha _ ih=>
    rcases ih with rfl | q
    . have:=g.adj ha;exact .inr ⟨this.2.2.1,this.2.2.2.1⟩
    . exact .inr q
  rcases this h.1 with e | q
  . exact .inr e.symm
  . exact .inl q
 have dw:0<=y/\y<n:=hy.elim id fun e=>by lia
 have hl:=K.len y dw.1 dw.2;have hlen:=K.ln;have dW:y.toNat<kn.length:=by lia
 have e1:A6 kn y=kn[y.toNat]:=by unfold A6;rw[if_pos dw.1,zF,zB dW];rfl
 have e2:=Ce.uniq hl (show Ce ts x y (some d) from h);exact K.bd _ (Cq dW) d (by rw[<-e1];exact e2)
theorem Zb (g:GW n ts)(h:Ck n M)(f:Fw ts n (A4 M))(c:KH ts n n (A4 M)):Rows ts n M:=by
 refine⟨h.ln,fun x hx dZ=>?_⟩;obtain⟨r,h1,h2,h3⟩:=h.row hx dZ;have e:∀y,A4 M x y=A6 r y:=fun y=>by unfold A4;rw[if_pos hx,h2]
 rw[h2];refine⟨h3,fun y hy dw=>by rw[<-e];exact f.len g c hx dZ hy dw,fun o ho d ed=>?_⟩;obtain⟨j,hj,ej⟩:=zy ho;have hf:A6 r (j:Int)=some d:=by unfold A6;rw[if_pos (by lia),zF,zv,zB hj,ej,ed];rfl
 have hl:=f.len g c hx dZ (y:=(j:Int)) (by lia) (by lia);rw[e,hf] at hl;exact Zs g x j hx dZ d hl
def Xj (ts:List T3)(x y p:Int):Prop:=∃a b,IsD ts x p a/\IsD ts p y b/\IsD ts x y (a+b)
def Cp (ts:List T3)(x y p:Int):Prop:=∃l b,Ah ts x p l/\IsD ts p y b/\IsD ts x y (l+b)
theorem Way.in_ (g:GW n ts)(w:Way ts x y d)(hx:0<=x)(dZ:x<n):0<=y/\y<n:=by
 induction w with
 | nil=>exact⟨hx,dZ⟩
 | cons ha _ ih=>have:=g.adj ha;exact ih this.2.2.1 this.2.2.2.1
theorem Way.least (g:GW n ts)(h:Way ts x y d):∃e,IsD ts x y e:=by
 have:∀(m:Nat)(d:Int),Way ts x y d->d.toNat<=m->∃e,IsD ts x y e:=by
  intro m
  induction m with
  | zero=>
   intro d hd hm;have:=hd.nn g;have e:d=0:=by lia
   subst e;exact⟨0,hd,fun f hf=>hf.nn g⟩
  | succ m ih=>
   intro d hd hm;by_cases hl:∃f,Way ts x y f/\f<d
   . obtain⟨f,hf,dW⟩:=hl;have:=hf.nn g;exact ih f hf (by lia)
   . refine⟨d,hd,fun f hf=>?_⟩;apply Ir;intro hn;exact hl ⟨f,hf,by lia⟩
 exact this _ d h (zJ _)
theorem Cp.exists (g:GW n ts)(h:IsD ts x y d)(eB:x≠y):∃p,Cp ts x y p:=by
 obtain⟨hw,fY⟩:=h;cases hw with
 | nil=>exact absurd rfl eB
 | cons ha w=>
  rename_i z l e
  obtain⟨f,hf⟩:=w.least g;have h1:=hf.2 _ w;have h2:=fY _ (.cons ha hf.1);have:f=e:=by lia
  subst this;exact⟨z,l,f,ha,hf,.cons ha hf.1,fY⟩
theorem Cp.ne (g:GW n ts)(h:Cp ts x y p):x≠y:=by
 obtain⟨l,b,ha,hb,hd⟩:=h;intro e;subst e;have:=IsD.uniq hd (RA g x);have:=g.adj ha;have:=hb.1.nn g
 lia
end WM
namespace L2
open PySem PySem.Spec PyProof.Rows
noncomputable def F2:KeyOrd:=⟨Int,fun a b=>decide (a<b),fun a=>zR (by lia),fun a b c h1 h2=>zP (by have:=of_decide_eq_true h1;have:=of_decide_eq_true h2;lia),
 fun a b c h=>by
  have h':a<c:=of_decide_eq_true h;by_cases iW:a<b
  . exact .inl (zP iW)
  . exact .inr (zP (by lia)),
 fun a b h1 h2=>by have:=of_decide_eq_false h1;have:=of_decide_eq_false h2;lia⟩
theorem WG (hI:IntsAre vs ns)(h2:2<=vs.length):
 SortT.Asks prog w A s a vs (O:=F2) (fun i=>ns.getD i 0) oneType':=by
 have hl:=hI.length;have at_:∀i,i<vs.length->∃t,vs.getD i Value.none=.int (ns.getD i 0) t:=fun i hi=>by obtain⟨n,hn⟩:∃n,ns[i]?=some n:=⟨_,zB (by lia)⟩;obtain⟨t,ht⟩:=hI.get i n hn;exact⟨t,by rw[zF,zF,ht,hn];rfl⟩
 refine⟨fun h' Q E kh q=>?_,fun h' i j Q E kh hi hj q=>?_⟩
 . rw[ksk_kind (keys:=vs.toArray) (kz:=ns) (by simpa using hI) (by simpa using h2)];exact zC q
 . obtain⟨t,e1⟩:=at_ i hi;obtain⟨u,e2⟩:=at_ j hj;rw[e1,e2];exact PySem.W.kat_lt_int q
theorem Zd (hI:IntsAre vs ns)(p:SortT.Put (O:=F2) (fun i=>ns.getD i 0) vs.length out):
 ∃ms:List Int,ms.Perm ns/\ms.Pairwise (· <= ·)/\AK (ms.map V.int) (out.map fun i=>vs.getD i Value.none)/\ms.length=ns.length:=by
 have hl:=hI.length;have hb:∀i∈out,i<vs.length:=fun i hi=>C0.mp (p.perm.mem_iff.mp hi);refine⟨out.map fun i=>ns.getD i 0,?_,?_,?_,?_⟩
 . have h1:=p.perm.map fun i=>ns.getD i 0;have h2:(List.range vs.length).map (fun i=>ns.getD i 0)=ns:=by
    rw[show vs.length=ns.length by lia];apply List.ext_getElem?;intro j;rw[zO];by_cases hj:j<ns.length
    . rw[MD hj,zB hj];simp[hj]
    . rw[zw (by rw[Bu];lia),zw (by lia)];rfl
   rw[h2] at h1;exact h1
 . refine Mh.mpr fun i j hi hj eX=>?_;rw[zD] at hi hj;have:=p.rise i j out[i] out[j] (DG eX) (by simp) (by simp);have h3:decide (ns.getD out[j] 0<ns.getD out[i] 0)=false:=this;have h4:=of_decide_eq_false h3;rw[List.getElem_map,List.getElem_map]
   lia
 . have:∀l:List Nat,(∀i∈l,i<vs.length)->AK ((l.map fun i=>ns.getD i 0).map V.int) (l.map fun i=>vs.getD i Value.none):=by
    intro l
    induction l with
    | nil=>intro _;exact .nil
    | cons i l ih=>intro h;have hi:=h i zS;obtain⟨n,hn⟩:∃n,ns[i]?=some n:=⟨_,zB (by lia)⟩;obtain⟨t,ht⟩:=hI.get i n hn;refine .cons ?_ (ih fun j hj=>h j (zZ _ hj));show AQ (V.int (ns.getD i 0)) (vs.getD i Value.none);rw[zF,zF,ht,hn];exact⟨t,rfl⟩
   exact this out hb
 . rw[zD,p.perm.length_eq,Bu];lia
noncomputable def oV:Option Int->V
 | none=>.non
 | some d=>.int d
theorem SD {n:Nat}{i:Int}(h0:0<=i)(h1:i<n):Gv n i=some i.toNat:=by unfold Gv;rw[if_pos h0,if_pos h1]
theorem Cr (h0:0<=i)(h:xs[i.toNat]?=some v):B9 xs i=some v:=by have:=DS h;rwa [Int.toNat_of_nonneg h0] at this
theorem XW {xs:List Int}:((List.range (min xs.length ys.length)).all (fun j=>xs.getD j 0==ys.getD j 0) && xs.length==ys.length)=decide (xs=ys):=by
 by_cases h:xs=ys
 . subst h;simp
 . rw[zR h];by_cases hl:xs.length=ys.length
   . have:∃j,j<xs.length/\xs.getD j 0≠ys.getD j 0:=by apply Ir;intro hn;refine h (List.ext_getElem hl fun j h1 h2=>?_);apply Ir;intro eB;exact hn ⟨j,h1,by simpa [zF,h1,h2] using eB⟩
     obtain⟨j,hj,eB⟩:=this;rw[Bool.and_eq_false_iff];left;rw[List.all_eq_false];exact⟨j,by rw[C0];lia,by simpa using eB⟩
   . simp[hl]
theorem IX (h1:IntsAre us xs)(h2:IntsAre ws ys)(j)(a:j<us.toArray.size)(b:j<ws.toArray.size):SeqAt.EqAt A s us.toArray[j] ws.toArray[j] (xs.getD j 0==ys.getD j 0):=by
 have l1:=h1.length;have l2:=h2.length;rw[zL] at a b;obtain⟨n,hn⟩:∃n,xs[j]?=some n:=⟨_,zB (by lia)⟩;obtain⟨m,hm⟩:∃m,ys[j]?=some m:=⟨_,zB (by lia)⟩;obtain⟨t,ht⟩:=h1.get j n hn;obtain⟨u,hu⟩:=h2.get j m hm;have e1:us.toArray[j]=.int n t:=by rw[zB a] at ht;simpa using zY ht
 have e2:ws.toArray[j]=.int m u:=by rw[zB b] at hu;simpa using zY hu
 rw[e1,e2,zF,zF,hn,hm];exact SeqAt.EqAt.int_int n t m u
def Tt (K:AJ):R2:=fun x y H Q=>∃a b,∃(xs ys:List Int),x=.ref a/\y=.ref b/\AE K H a (xs.map V.int)/\AE K H b (ys.map V.int)/\Q (.bl (!decide (xs=ys))) H
theorem Kh (hu:X.A.units<cLine):Ay X (compareOp .NotEq) (Tt X.K):=by
 intro pins s σ H x y v u Q I rx ry h;obtain⟨a,b,xs,ys,rfl,rfl,ha,hb,q⟩:=h;cases rx;cases ry;obtain⟨its,r,pl,hz⟩:=I.list ha;obtain⟨d7,r2,gX,hz2⟩:=I.list hb;have h1:=Dz r;have h2:=Dz r2;by_cases hl:its.length=d7.length
 . refine PySem.EqBoolInt.of_rcne (SeqAt.RcNeAt.lists (e:=fun j=>xs.getD j 0==ys.getD j 0) pl.isList gX.isList (by rw[zL,zL];exact hl) hu (fun j a b=>IX h1 h2 j a b)) ⟨.bl _,H,I,rfl,?_⟩;rw[zL];have e:=XW (xs:=xs) (ys:=ys);have l1:=h1.length;have l2:=h2.length;rw[show min xs.length ys.length=its.length by lia,show (xs.length==ys.length)=true by simpa using (by lia),Bool.and_true] at e;rw[e];exact q
 . refine PySem.EqBoolInt.of_rcne (SeqAt.RcNeAt.lists_lengths pl.isList gX.isList (by rw[zL,zL];simpa using hl) hu) ⟨.bl _,H,I,rfl,?_⟩;have eB:xs≠ys:=fun e=>hl (by rw[h1.length,h2.length,e]);rw[zR eB] at q;exact q
noncomputable def RV (scope:Scope)(yc:Str)(cl:List (Str×Addr))(C:Addr)(env:Env):Env:=
 { scope:=relabel scope env,locals:=C,globals:=env.globals,cells:=(yc,C+1)::cl,qual:=env.qual,func:=none,code:=env.code,frame:=env.frame,builtins:=env.builtins }
theorem br (hcf:∀n acc,cellsFrom n scope.names acc=(yc,n)::acc)
 (hQ:∀h':Heap,h'.Ns s.heap.objs.size (fun _=>none)->(∀b o,s.heap.get? b=some o->h'.get? b=some o)->h'.IsCell (s.heap.objs.size+1) none ->
  Q (newEnv scope s.heap.objs.size globals ((yc,s.heap.objs.size+1)::cl) qual none .none (some env) builtinsNs) { s with heap:=h',toks:=s.toks }):
 wpAny M A (newFunctionEnv scope globals cl [] qual none .none (some env)) Q E s:=by
 simp only[newFunctionEnv,Option.isSome_some,if_true];refine zA (wpAny_alloc ?_);refine zA (wpAny_layCells _ (fun name kind cells=>by cases hkc:kind==NameKind.cell <;> simp[hkc]) _ _ _ _ ?_);have ok:=cellsFrom_ok scope.names (s.heap.push { cls:=.type "dict",data:=.dict #[] }) (s.heap.objs.size+1) [] ⟨fun _ _ hm=>(nomatch hm),Io⟩ (by rw[CV];exact zJ _);rw[CV] at ok;rw[show ({ s with heap:=s.heap.push { cls:=.type "dict",data:=.dict #[] } }:Shared).heap.objs.size=s.heap.objs.size+1 from CV ..];rw[hcf] at ok ⊢;refine zA ?_;rw[List.forIn_nil];refine zC (zC ?_);exact hQ _ ((Heap.Ns.new s.heap (.type "dict")).keeps (pushCells_keeps _ _)) (fun b o e=>pushCells_keeps _ _ b o (zG _ e)) (ok.empty _ _ zS).1
noncomputable def EG (X:Cx)(pl:Bm)(N':List Str)(scope:Scope)(yc:Str)(fp:List Addr)(s3:Shared)(H3:Hp):Cx where
 prog:=X.prog
 w:=X.w
 K:=X.K
 mg:=X.mg
 base:=X.base
 A:=X.A
 N:=N'
 s₀:=s3
 H₀:=H3
 env:=RV scope yc (BQ X.env.cells scope.names []) s3.heap.objs.size X.env
 outer:=X.stack
 stack:=X.stack
 ex:=fp
 fn:=fun x=>x==yc
 calm:=X.calm
 pn:=pl
 xe:=fun _ _=>False
structure MF (X:Cx)(scope:Scope)(yc:Str):Prop where
 kind:scope.kind=.function
 cf:∀n acc,cellsFrom n scope.names acc=(yc,n)::acc
 own:scope.names.lookup yc=some .cell
 one:∀y∈scope.names,y.2=.cell->y.1=yc
 names:∀y∈scope.names,y.2=.local->scope.names.lookup y.1=some .local
 free:∀y∈scope.names,y.2=.free->X.env.kindOf y.1=some .cell
section
variable {X:Cx}{pins:Bm}{σ:St}{H3:Hp}{s3:Shared}{scope:Scope}{fp:List Addr}{N' own cn:List Str}{ci:List Nat}{cv:List V}{yc:Str}
theorem Nb {cl:List (Str×Addr)}(h:((yc,n)::cl).lookup x=some c):(x=yc/\c=n)\/(x≠yc/\cl.lookup x=some c):=by
 rw[Ec] at h;cases hx:x==yc with
 | true=>rw[hx] at h;cases h;exact .inl ⟨by simpa using hx,rfl⟩
 | false=>rw[hx] at h;exact .inr ⟨by simpa using hx,h⟩
theorem Uq {cl:List (Str×Addr)}(h:x≠yc):((yc,n)::cl).lookup x=cl.lookup x:=by rw[Ec,show (x==yc)=false by simpa using h]
theorem V2 (ok:X.Ok)(S:MF X scope yc)(h:(relabel scope X.env).names.lookup x=some .cell\/(relabel scope X.env).names.lookup x=some .free):
 ∃c,((yc,n)::BQ X.env.cells scope.names []).lookup x=some c:=by
 by_cases hxy:x=yc
 . subst hxy;exact⟨n,by rw[Ec,beq_self_eq_true]⟩
 rw[Uq hxy];have e:(relabel scope X.env).names.lookup x=(scope.names.lookup x).map fun k=>if (k==NameKind.free && X.env.scope.kind == .function && X.env.kindOf x==some .cell)=true then NameKind.cell else k:=Mc scope.names
 have hf:scope.names.lookup x=some .free:=by
  cases q:scope.names.lookup x with
  | none=>rw[e,q] at h;simp at h
  | some k=>
   by_cases hk:k=.free
   . rw[hk]
   . have hb:(k==NameKind.free)=false:=by simpa using hk
     rw[e,q] at h;simp only[Dt,hb,Bt,Fy,if_false,JF] at h;rcases h with h | h
     . exact absurd (S.one _ (PySem.mem_of_lookup q) h) hxy
     . exact absurd h hk
 exact NB (ok.has x (.inl (S.free _ (PySem.mem_of_lookup hf) rfl))) scope.names [] (PySem.mem_of_lookup hf)
theorem MA (I:AB X pins σ H3 s3)(h:((yc,n)::BQ X.env.cells scope.names []).lookup x=some c):(x=yc/\c=n)\/(x≠yc/\X.env.cells.lookup x=some c/\c<s3.heap.objs.size):=by
 rcases Nb h with z | ⟨z,e⟩
 . exact .inl z
 . have e':=Hb e;obtain⟨v,o,ho,_⟩:=I.cell x c e';exact .inr ⟨z,e',zU ho⟩
theorem ZG (I:AB X pins σ H3 s3)(S:MF X scope yc)(f:∀b∈fp,BB X pins H3 b)(fz:∀b∈fp,b<s3.heap.objs.size):(EG X (X.pn++pins) N' scope yc fp s3 H3).Ok where
 mod:=I.ok.mod
 kind:=S.kind
 glob:=I.ok.glob
 blt:=I.ok.blt
 above:=zJ _
 inj:=fun x y c h1 h2=>by
  rcases MA I h1 with ⟨a,b⟩ | ⟨a,b,d⟩ <;> rcases MA I h2 with ⟨a',b'⟩ | ⟨a',b',d'⟩
  . rw[a,a']
  . rw[b] at d';exact absurd d' (Nat.not_lt.mpr (Bc _))
  . rw[b'] at d;exact absurd d (Nat.not_lt.mpr (Bc _))
  . exact I.ok.inj x y c b b'
 has:=fun x h=>V2 I.ok S h
 cab:=fun x c h e=>by
  have hx:x=yc:=by simpa using (show (x==yc)=true from h)
  rcases MA I e with ⟨_,b⟩ | ⟨a,_⟩
  . rw[b];exact Bc _
  . exact absurd hx a
 hd:=I.ok.hd
 frames:=I.ok.frames
 stk:=.inl rfl
 exf:=fun b hb=>⟨zc (fz b hb),fun x c h=>by
  have:=fz b hb;rcases MA I h with ⟨_,d⟩ | ⟨_,d,_⟩
  . intro z;rw[<-z,d] at this;exact absurd this (Nat.not_lt.mpr (Bc _))
  . exact (f b hb).2.2.2.2.1 x c d⟩
 bs:=I.bs
 bsz:=zp I.ok.bsz I.sz
 noex:=fun b o e hb=>by
  rcases (f b hb).2.2.2.1 with z | z
  . exact I.ok.noex b o e z
  . exact absurd (zm (zU e) (zp I.ok.bsz z)) (D9 _)
 exfs:=fun b hb z=>by
  rcases zT.mp (I.stkSub b z) with q | q
  . exact (f b hb).2.1 q
  . exact (f b hb).2.2.1 q
 funs:=I.stack
 frf:=I.stkFree
theorem Zk (I:AB X pins σ H3 s3)(S:MF X scope yc)(f:∀b∈fp,BB X pins H3 b)(fz:∀b∈fp,b<s3.heap.objs.size)
 (hN:N'=own++cn)(hc:EV X scope cn ci)(hv:ci.map (fun j=>σ[j]?)=cv.map fun v=>some (some v))(hl:cn.length=ci.length)
 (e7:h1.Ns s3.heap.objs.size (fun _=>none))(hk:∀b o,s3.heap.get? b=some o->h1.get? b=some o)(i8:h1.IsCell (s3.heap.objs.size+1) none):
 AB (EG X (X.pn++pins) N' scope yc fp s3 H3) [] (List.replicate own.length none++cv.map some) H3 { s3 with heap:=h1,toks:=t }:=by
 have ik:cv.length=ci.length:=by have:=congrArg List.length hv;simpa using this.symm
 refine⟨ZG I S f fz,rfl,I.bare,Un.kept hk,⟨_,e7,fun i x v e1 e2 e3=>?_⟩,fun x c e=>?_,I.hok.fresh (zJ _),fun x c e=>?_,fun p hp=>?_,I.hok.kept hk,?_⟩
 . -- a captured name
   have hi:own.length<=i:=by
    by_cases hi:own.length<=i
    . exact hi
    . rw[zb (by simpa using hi),Lh] at e2;split at e2 <;> cases e2
   rw[zX (by simpa using hi),DB,zO] at e2;have e1':(own++cn)[i]?=some x:=by rw[<-hN];exact e1
   rw[zX hi] at e1';obtain⟨j,hj,hNj,hkx,i4⟩:=hc.get e1';have hcv:cv[i-own.length]?=some v:=by
    cases q:cv[i-own.length]? with
    | none=>rw[q] at e2;cases e2
    | some v'=>rw[q] at e2;cases e2;rfl
   have hσ:σ[j]?=some (some v):=by have:=congrArg (fun l:List (Option (Option V))=>l[i-own.length]?) hv;simp only[zO,hj,hcv,Dt,JF] at this;exact this
   obtain⟨m,_,eO⟩:=I.loc;obtain⟨u,r,q⟩:=eO j x v hNj hσ (.inr (.inl hkx));have hkd:(relabel scope X.env).names.lookup x=some .cell\/(relabel scope X.env).names.lookup x=some .free:=by
    have e:(relabel scope X.env).names.lookup x=(scope.names.lookup x).map fun k=>if (k==NameKind.free && X.env.scope.kind == .function && X.env.kindOf x==some .cell)=true then NameKind.cell else k:=Mc scope.names
    rw[e,i4,Dt];by_cases cc:(NameKind.free==NameKind.free && X.env.scope.kind == .function && X.env.kindOf x==some .cell)=true
    . rw[if_pos cc];exact .inl rfl
    . rw[if_neg cc];exact .inr rfl
   obtain⟨c',gF⟩:=V2 (n:=s3.heap.objs.size+1) I.ok S hkd;have hxy:x≠yc:=fun z=>by rw[z,S.own] at i4;cases i4
   refine⟨u,r,.inr ⟨hkd,c',gF,?_⟩⟩;rcases q with ⟨z,_⟩ | ⟨_,c,hcc,o,ho,hd⟩
   . rw[hkx] at z;cases z
   . have e:c=c':=zY (hcc.symm.trans (Hb ((Uq hxy).symm.trans gF)));subst e;exact⟨o,hk c o ho,hd⟩
 . rcases MA I e with ⟨_,d⟩ | ⟨_,d,_⟩
   . rw[d];exact⟨_,i8⟩
   . obtain⟨v,o,ho,hd⟩:=I.cell x c d;exact⟨v,o,hk c o ho,hd⟩
 . rcases MA I e with ⟨_,d⟩ | ⟨_,d,_⟩
   . rw[d];exact I.hok.fresh (Bc _)
   . exact I.freeC x c d
 . have hJ:p∈X.pn++pins:=by rw[BR] at hp;exact hp
   obtain⟨e,n,ne,nf,d⟩:=I.pin p hJ;refine⟨hk _ _ e,n,zc (zU e),fun z=>?_,d⟩;rcases zT.mp (I.stkSub p.1 z) with q | q
   . exact ne q
   . exact nf q
 . show (List.replicate own.length none++cv.map some).length=N'.length;rw[hN,zM,zM,DB,zD,ik,hl]
theorem Zu (eJ:X.calm=true)(S:MF X scope yc)(hc:EV X scope cn ci)(hl:cn.length=ci.length)
 (hi:PI X target iter wi)(hg:∀pl fp s3 H3,PG (EG X pl (own++cn) scope yc fp s3 H3) target g)(ht:∀pl fp s3 H3,G5 (EG X pl (own++cn) scope yc fp s3 H3) ifs ti)
 (he:∀pl fp s3 H3,PE (EG X pl (own++cn) scope yc fp s3 H3) elt te)(hs:∀x,foldedSetIterable iter X.env x=pure x)(I:AB X pins σ H s)(h:Mk own.length ci wi g ti te σ H Q)
 (fin:∀D C H5 s6 m6,AB X pins σ H5 s6->s6.heap.Ns C m6->H5 C=none->C≠X.env.locals->X.s₀.heap.objs.size<=C->(∀x c,X.env.cells.lookup x=some c->c≠C) ->
  (∀p∈X.pn++pins,p.1≠C)->Q (.ref D) H5->compPost (model X.prog X.w) X.A X.xe use Q0 (.ref D) C (.ok .next) s6):
 wpAny (model X.prog X.w) X.A (comprehension (.ListComp elt [⟨target,iter,ifs,0⟩] scope pos) scope X.env df (newList []) false (eval iter X.env) use) Q0 X.xe s:=by
 have i8:closureFor scope X.env=pure (BQ X.env.cells scope.names []):=UY fun y hy hf=>I.ok.has y.1 (.inl (S.free y hy hf));refine wpAny_comprehension_free (use:=use) rfl hs i8 S.kind S.names ?_;refine AI (hi pins s σ H _ I h) fun v s1 h1=>AI h1 fun itv s2 h2=>?_;obtain⟨it,fp,tn,J,H2,e,I2,T,st2,f2,cv,hv,hD⟩:=h2;subst e;have ik:cv.length=ci.length:=by have:=congrArg List.length hv;simpa using this.symm
 have I3:=I2.lnew (ys:=[]) (its:=[]) (t':=s2.toks) .nil (zg _);obtain⟨W,⟨m0,w0⟩,turn⟩:=hD s2.heap.objs.size I2.fresh;have fz:∀b∈fp,b<s2.heap.objs.size:=fun b hb=>by obtain⟨o,ho,_⟩:=T.obj _ _ st2 b hb;exact zU ho
 refine Bi ?_;refine br S.cf (fun h4 ir hk4 hc4=>?_);generalize hs3:({ s2 with heap:=s2.heap.push { cls:=.type "list",dict:=none,data:=.seq ([]:List Value).toArray } }:Shared)=s3 at ir hk4 hc4 ⊢;have iP:AB X pins σ (upd H2 s2.heap.objs.size (.lst [])) s3:=by rw[<-hs3];exact I3
 have hsz3:s3.heap.objs.size=s2.heap.objs.size+1:=by rw[<-hs3];exact CV ..
 have k23:∀b o,s2.heap.get? b=some o->s3.heap.get? b=some o:=fun b o e=>by rw[<-hs3];exact zG _ e
 have k34:∀b o,s3.heap.get? b=some o->h4.get? b=some o:=hk4;have nD:∀b∈fp,b≠s2.heap.objs.size:=fun b hb=>zc (fz b hb);have f3:∀b∈fp,BB X pins (upd H2 s2.heap.objs.size (.lst [])) b:=fun b hb=>⟨by rw[zk (nD b hb)];exact (f2 b hb).1,(f2 b hb).2⟩;have fz3:∀b∈fp,b<s3.heap.objs.size:=fun b hb=>by rw[hsz3];exact Dv (fz b hb)
 have I4:AB (EG X (X.pn++pins) (own++cn) scope yc fp s3 (upd H2 s2.heap.objs.size (.lst []))) [] (List.replicate own.length none++cv.map some) (upd H2 s2.heap.objs.size (.lst [])) { s3 with heap:=h4,toks:=s3.toks }:=
  Zk iP S f3 fz3 rfl hc hv hl ir k34 hc4
 have st4:tn 0 h4:=T.keep _ _ _ st2 fun b hb o e=>k34 b o (k23 b o e);generalize hX:EG X (X.pn++pins) (own++cn) scope yc fp s3 (upd H2 s2.heap.objs.size (.lst []))=X' at I4;have hg':PG X' target g:=by rw[<-hX];exact hg _ _ _ _
 have ht':G5 X' ifs ti:=by rw[<-hX];exact ht _ _ _ _
 have gJ:PE X' elt te:=by rw[<-hX];exact he _ _ _ _
 have g8:X'.prog=X.prog:=by rw[<-hX];rfl
 have eW:X'.w=X.w:=by rw[<-hX];rfl
 have eK:X'.K=X.K:=by rw[<-hX];rfl
 have eA:X'.A=X.A:=by rw[<-hX];rfl
 have eE:X'.env=RV scope yc (BQ X.env.cells scope.names []) s3.heap.objs.size X.env:=by rw[<-hX];rfl
 have eXe:X'.xe=fun _ _=>False:=by rw[<-hX];rfl
 have eC:X'.calm=true:=by rw[<-hX];exact eJ
 have eex:X'.ex=fp:=by rw[<-hX];rfl
 have epn:X'.pn=X.pn++pins:=by rw[<-hX];rfl
 have es0:X'.s₀=s3:=by rw[<-hX];rfl
 have eH0:X'.H₀=upd H2 s2.heap.objs.size (.lst []):=by rw[<-hX];rfl
 have efs:X'.fs=Az X.stack:=by rw[<-hX];rfl
 have ok':=I4.ok;have eZ:∀{H':Hp},(∀b∈fp,H' b=none)->∀b∈fp,BB X' [] H' b:=fun hn b hb=>by
  have eQ:b∈X'.ex:=by rw[eex];exact hb
  refine⟨hn b hb,(ok'.exf b eQ).1,ok'.exfs b eQ,.inl eQ,(ok'.exf b eQ).2,fun p hp=>?_⟩;rw[epn,BR] at hp;exact (f2 b hb).2.2.2.2.2 p hp
 have wk:∀(σ2:St),(σ2.length=own.length+cv.length/\σ2.drop own.length=cv.map some)->∀{pl:Bm}{H':Hp}{s':Shared},AB X' pl σ2 H' s'->AB X' pl (List.replicate own.length none++cv.map some) H' s':=fun σ2 hq pl H' s' I'=>by
  refine I'.weak (by rw[hq.1,zM,DB,zD]) fun i v hi=>?_;by_cases dW:i<own.length
  . rw[zb (by simpa using dW),Lh] at hi;split at hi <;> cases hi
  . rw[zX (by simpa using dW),DB,<-hq.2,List.getElem?_drop] at hi;rw[show own.length+(i-own.length)=i by lia] at hi;exact hi
 have loop:codeAny (model X.prog X.w) X.A (.compLoop (.ListComp elt [⟨target,iter,ifs,0⟩] scope pos) 0 (.ref it) (.ref s2.heap.objs.size) (RV scope yc (BQ X.env.cells scope.names []) s3.heap.objs.size X.env))
  (compPost (model X.prog X.w) X.A X.xe use Q0 (.ref s2.heap.objs.size) s3.heap.objs.size) { s3 with heap:=h4,toks:=s3.toks }:=by
  refine VY (fun n s'=>∃i ys H',AB X' [] (List.replicate own.length none++cv.map some) H' s'/\tn i s'.heap/\(∀b∈fp,H' b=none)/\W i n ys H') ?_ m0
   ⟨0,[],_,I4,st4,fun b hb=>(f3 b hb).1,w0⟩
  rintro n s5 ⟨i,ys,H5,I5,iQ,fr5,w5⟩;rcases turn i n ys H5 w5 with ⟨stop,qn⟩ | ⟨go,hsz,N,hN,step⟩
  . have d:=T.done X' g8 eW eK eC i [] s5 _ H5 (fun _ _=>False) I5 (eZ fr5) iQ stop;rw[eA] at d;refine AI d fun r s6 ⟨hr,I6⟩=>?_;subst hr;obtain⟨m6,hn6,_⟩:=I6.loc;rw[eE] at hn6;have hn6':s6.heap.Ns s3.heap.objs.size m6:=hn6;have un6:Un (Az X.stack) fp (upd H2 s2.heap.objs.size (.lst [])) H5 s3.heap s6.heap:=by have b6:=I6.base;rw[efs,eex,eH0,es0] at b6;exact b6
    have os6:s6.os=s3.os:=by have o6:=I6.os;rw[es0] at o6;exact o6
    have hok6:Ap X.prog X.w H5 s6.heap:=by have o6:=I6.hok;rw[g8,eW] at o6;exact o6
    have I7:AB X pins σ H5 s6:=iP.call' (ch:=fp) os6 un6 hok6 I6.bare fun b hb=>⟨(f2 b hb).2.2.2.1,(f2 b hb).2.1,(f2 b hb).2.2.2.2.1,(f2 b hb).2.2.2.2.2⟩;have fr6:H5 s3.heap.objs.size=none:=by have q:=I6.free;rw[eE] at q;exact q
    refine fin s2.heap.objs.size s3.heap.objs.size H5 s6 m6 I7 hn6' fr6 (Nat.ne_of_gt iP.lt) iP.sz (fun x c e=>?_) (fun p hp=>?_) qn
    . obtain⟨_,o,ho,_⟩:=iP.cell x c e;exact zc (zU ho)
    . exact zc (zU (iP.pin p hp).1)
  . have d:=T.item X' g8 eW eK eC i [] s5 _ H5 (fun _ _=>False) I5 (eZ fr5) iQ go;rw[eA] at d;refine AI d fun r s6 ⟨u,hr,h6⟩=>?_;subst hr;refine AI h6 fun _ s7 ⟨x,H7,I7,r7,y7,st7,fr7⟩=>?_;have I7':=I7.pinned (eZ fr7) (T.obj _ _ st7);have g7:=hg' _ s7 _ H7 x u _ I7' r7 (step x H7 y7);rw[g8,eW,eA,eE,eXe] at g7;refine AI g7 fun _ s8 ⟨σ8,H8,I8,q8,ti8⟩=>?_;have t8:=ht' _ s8 σ8 H8 _ I8 ti8;rw[g8,eW,eA,eE,eXe] at t8;refine AI t8 fun ok s9 ⟨H9,I9,q9⟩=>?_;have again:∀{gP:List V}{H':Hp}{s':Shared},AB X' ([]++Le fp s7.heap) σ8 H' s'->N gP H' ->
     ∃m,m<n/\∃i ys H',AB X' [] (List.replicate own.length none++cv.map some) H' s'/\tn i s'.heap/\(∀b∈fp,H' b=none)/\W i m ys H':=fun {gP H' s'} I' n'=>by
     obtain⟨m',hm,w'⟩:=hN gP H' n';refine⟨m',hm,i+1,gP,H',(wk σ8 q8 I').unpinned,T.keep _ _ _ st7 fun b hb o e=>(I'.pin (b,o) (zl _ (zl _ (Lo hb e)))).1,fun b hb=>?_,w'⟩;obtain⟨o,e,_⟩:=T.obj _ _ st7 b hb;exact (I'.pin (b,o) (zl _ (zl _ (Lo hb e)))).2.1
    cases ok with
    | false=>exact again I9 q9
    | true=>have e9:=gJ _ s9 σ8 H9 _ I9 q9;rw[g8,eW,eA,eE,eXe] at e9;refine AI e9 fun u10 gI ⟨y,H10,I10,r10,hD10,n10⟩=>?_;have a10:=HW (X:=X') _ gI σ8 H10 (.ref s2.heap.objs.size) [y] (.ref s2.heap.objs.size) [u10] (fun _ H'=>N (ys++[y]) H') I10 rfl (.cons r10 .nil) ⟨_,_,_,rfl,rfl,hD10,hsz,n10⟩;rw[g8,eW,eA,eXe] at a10;exact AI a10 fun _ s11 ⟨_,H11,I11,_,n11⟩=>again I11 n11
 exact codeAny_compStart_list loop (T.self X.A 0 _ _ _ st4 loop)
theorem V3 (hN:X.N.Nodup)(hix:X.N[i]?=some x)(hx:Loc X.env.scope x)(eJ:X.calm=true)(S:MF X scope yc)(hc:EV X scope cn ci)(hl:cn.length=ci.length)
 (hi:PI X target iter wi)(hg:∀pl fp s3 H3,PG (EG X pl (own++cn) scope yc fp s3 H3) target g)(ht:∀pl fp s3 H3,G5 (EG X pl (own++cn) scope yc fp s3 H3) ifs ti)
 (he:∀pl fp s3 H3,PE (EG X pl (own++cn) scope yc fp s3 H3) elt te)(hs:∀x,foldedSetIterable iter X.env x=pure x:=by intro _;rfl)
 (hsw:swapsWith (.ListComp elt [⟨target,iter,ifs,0⟩] scope df) (some (.Name x pos')) pos.line X.env=pure true:=by rfl)
 (hf:X.fn x=true\/X.env.scope.names.lookup x=some .local:=by first | exact .inl rfl | exact .inr rfl | assumption):
 PS X (.Assign [.Name x pos'] (.ListComp elt [⟨target,iter,ifs,0⟩] scope df) pos) (Di (Mk own.length ci wi g ti te) (HE i)):=by
 intro pins s σ H D I h;rw[exec_Assign_Name_used _ _ _ _ hsw];refine zA (wpAny_standAt (zA ?_));show wpAny _ X.A (do let _ <-comprehension (.ListComp elt [⟨target,iter,ifs,0⟩] scope df) scope X.env _ (newList []) false (eval iter X.env) (some (assign (.Name x pos') X.env))) _ _ s
 refine zA (A8 (Zu (use:=some (assign (.Name x pos') X.env)) (Q0:=fun _ s'=>SP X pins D .next s') eJ S hc hl hi hg ht he hs I h (fun D' C H5 s6 m6 I7 hn fr nL ge nC nP q=>?_)) (fun _ s' hq=>zC (zC hq)) fun _ _ e=>e);obtain⟨oC,es,ep,hoC,hd,r1⟩:=hn;have nf:C∉X.fs:=fun hb=>by obtain⟨_,o,ho,_⟩:=I7.ok.funs.mem hb;exact absurd (zm (zU ho) ge) (D9 _)
 have I7':AB X (pins++[(C,oC)]) σ H5 s6:=I7.pins_of fun p hp=>by
  rcases zj.mp hp with z | z
  . exact I7.pin p (zl _ z)
  . rw[zh.mp z];exact⟨hoC,fr,nL,nf,fun v e=>by rw[hd] at e;cases e⟩
 show wpAny _ X.A (assign (.Name x pos') X.env (.ref D')) _ _ s6;refine wpAny_assign_Name (JX I7' hN hix hx (show AQ (.ref D') (.ref D') from rfl) (fun s' I'=>?_) hf);have hC':=(I'.pin (C,oC) (zl _ (zl _ (zh.mpr rfl)))).1;refine⟨m6,⟨oC,es,ep,hC',hd,r1⟩,fun h' gS=>⟨_,H5,?_,q⟩⟩;have I2:AB X pins (σ.set i (some (.ref D'))) H5 s':=I'.pins_of fun p hp=>I'.pin p (zl _ (C8 _ hp));exact I2.turned (t':=s'.toks) (it:=C) (fun b o hb e=>gS.extBut b o hb e) fr nL (.inr ge) nC nP
end
noncomputable def Ji (outer inner:Scope)(yc:Str):Bool:=inner.names.all fun y=>(y.2 != .cell || y.1==yc) && (y.2 != .local || inner.names.lookup y.1==some .local) && (y.2 != .free || outer.names.lookup y.1==some .cell)
theorem Nw (hk:scope.kind=.function)(hcf:∀n acc,cellsFrom n scope.names acc=(yc,n)::acc)(ho:scope.names.lookup yc=some .cell)(h:Ji X.env.scope scope yc=true):MF X scope yc:=by
 have a:=List.all_eq_true.mp h;refine⟨hk,hcf,ho,fun y hy e=>?_,fun y hy e=>?_,fun y hy e=>?_⟩
 . have:=a y hy;rw[e] at this;simpa using this
 . have:=a y hy;rw[e] at this;simpa using this
 . have:=a y hy;rw[e] at this;have h2:X.env.scope.names.lookup y.1=some .cell:=by simpa using this
   exact h2
def Yn (ta:TA):TE:=fun σ H Q=>ta σ H fun vs H1=>∃j:Int,vs=[.int j]/\0<=j/\j<=1000/\∀l,H1 l=none->Q (.ref l) (upd H1 l (.lst ((WM.lowTo j.toNat).map V.int)))
theorem X9:∀vs(n:Nat),vs.length=n->(∀(j:Nat)v,vs[j]?=some v->∃t,v=.int (0+(j:Int)*1) t)->AK ((WM.lowTo n).map V.int) vs:=by
 have key:∀(vs:List Value)(a:Nat),(∀(j:Nat)(v:Value),vs[j]?=some v->∃t,v=.int ((a+j:Nat):Int) t)->AK ((List.range' a vs.length).map fun (i:Nat)=>V.int (i:Int)) vs:=by
  intro vs
  induction vs with
  | nil=>intro _ _;exact .nil
  | cons v r ih=>intro a h;obtain⟨t,ht⟩:=h 0 v rfl;rw[zo,List.range'_succ,BX];refine .cons ⟨t,by rw[ht];rfl⟩ (ih (a+1) fun j u hj=>?_);obtain⟨t',ht'⟩:=h (j+1) u hj;exact⟨t',by rw[ht'];congr 1;lia⟩
 intro vs n e h;subst e;have:=key vs 0 fun j v hj=>by obtain⟨t,ht⟩:=h j v hj;exact⟨t,by rw[ht];congr 1;lia⟩
 unfold WM.lowTo;rw[List.map_map,List.range_eq_range'];exact this
theorem cN (hc:X.calm=true)(hgL:Gl X "list") (hmL:X.mg "list"=none) (hgR:Gl X "range") (hmR:X.mg "range"=none) (ha:PA X [a] ta)(hs:starEach [a] X.env=[(false,eval a X.env)]:=by rfl)
 (he:starEach [.Call (.Name "range" p2) [a] [] pos2] X.env=[(false,eval (.Call (.Name "range" p2) [a] [] pos2) X.env)]:=by rfl):PE X (.Call (.Name "list" p1) [.Call (.Name "range" p2) [a] [] pos2] [] pos1) (Yn ta):=by
 intro pins s σ H Q I h;refine Gb (EJ I hgL hmL (by decide +kernel:bootBuiltins "list"=some (.type "list")) ?_ (by decide) (by decide));refine PyProof.Rows.callWith_type1 ?_ he rfl;rw[he];refine Calls.spliced_cons ?_;refine Call_ (EJ I hgR hmR boot_range (PyProof.Rows.callWith_type1 (AI (ha pos2 pins s σ H _ I h) fun us s1 ⟨vs,H1,I1,r1,q1⟩=>?_) hs rfl));obtain⟨j,e,h0,h1,q⟩:=q1;subst e;cases r1 with
 | cons r rr=>
  cases rr;obtain⟨t,rfl⟩:=r;refine call_range_1 ?_;refine Calls.spliced_nil ?_;have hz:Builtin.Range.rangeSize 0 j 1=(j.toNat:Int):=by rw[rangeSize_one];split <;> lia
  refine call_list_range (I.ok.hd hc) (IsRange.new ..) (small_one (by lia) (by lia) (by lia) (by lia)) hz (by lia) fun h' tk acc c' kp hD hI=>?_;have kp1:∀b o,s1.heap.get? b=some o->h'.get? b=some o:=fun b o e=>kp b o (zG _ e);have rv:AK ((WM.lowTo j.toNat).map V.int) acc.toList:=X9 acc.toList _ (by rw[Array.length_toList];exact hI.1) fun i v hi=>hI.2 i v (by rw[<-hi,Array.getElem?_toList]);have hsz:s1.heap.objs.size<=(s1.heap.push { cls:=.type "range",data:=.fields #[.int 0 s1.toks,.int j t,.int 1 (s1.toks+1)] }).objs.size:=by rw[CV];exact Bc _
  refine⟨.ref _,_,I1.laid (t':=tk) kp1 hsz (show Av X.prog X.w _ h' _ (.lst ((WM.lowTo j.toNat).map V.int)) from ⟨?_,acc.toList,c',rv,by rw[Array.toArray_toList];exact hD⟩),rfl,q _ (I1.hok.fresh hsz)⟩;rw[zD,WM.lowTo,zD,Bu];have:sizeLine=16777216:=rfl
  lia
def Tc (K:AJ):R2:=fun x y H Q=>∃a b xs,x=.ref a/\y=.ref b/\AE K H a xs/\AE K H b []/\Q (.bl (!xs.isEmpty)) H
def TX (K:AJ):R2:=fun x y H Q=>∃a b xs,x=.ref a/\y=.ref b/\AE K H a xs/\AE K H b []/\Q (.bl xs.isEmpty) H
theorem K5 (hu:X.A.units<cLine):Ay X (compareOp .NotEq) (Tc X.K):=by
 intro pins s σ H x y v u Q I rx ry h;obtain⟨a,b,xs,rfl,rfl,ha,hb,q⟩:=h;cases rx;cases ry;obtain⟨its,r,pl,hz⟩:=I.list ha;obtain⟨d7,r2,gX,hz2⟩:=I.list hb;have l1:=r.length;have l2:=r2.length;cases xs with
 | nil=>refine PySem.EqBoolInt.of_rcne (SeqAt.RcNeAt.lists (e:=fun _=>true) pl.isList gX.isList (by rw[zL,zL,<-l1,<-l2]) hu (fun j a b=>absurd a (by rw[zL,<-l1];exact C1 _))) ⟨.bl _,H,I,rfl,?_⟩;rw[zL,<-l1];exact q
 | cons x xs=>refine PySem.EqBoolInt.of_rcne (SeqAt.RcNeAt.lists_lengths pl.isList gX.isList (by rw[zL,zL,<-l1,<-l2];rfl) hu) ⟨.bl _,H,I,rfl,?_⟩;exact q
theorem RC (hu:X.A.units<cLine):Ay X (compareOp .Eq) (TX X.K):=by
 intro pins s σ H x y v u Q I rx ry h;obtain⟨a,b,xs,rfl,rfl,ha,hb,q⟩:=h;cases rx;cases ry;obtain⟨its,r,pl,hz⟩:=I.list ha;obtain⟨d7,r2,gX,hz2⟩:=I.list hb;have l1:=r.length;have l2:=r2.length;cases xs with
 | nil=>refine SeqAt.eq_listAt (e:=fun _=>true) pl.isList gX.isList (by rw[zL,zL,<-l1,<-l2]) hu (fun j a b=>absurd a (by rw[zL,<-l1];exact C1 _)) ⟨.bl _,H,I,rfl,?_⟩;rw[zL,<-l1];exact q
 | cons x xs=>refine SeqAt.eq_list_lengthsAt pl.isList gX.isList (by rw[zL,zL,<-l1,<-l2];rfl) hu ⟨.bl _,H,I,rfl,?_⟩;exact q
end L2
namespace L2
open PySem PyProof.Rows
def Kp (s0:Shared)(h:Heap):Prop:=∀b o,s0.heap.get? b=some o->h.get? b=some o
structure Il (prog:Program)(w:World)(A:Around)(s0:Shared)(I:Addr)(its:List Value)(itAt:Nat->Heap->Prop):Prop where
 stay:∀j h h',itAt j h->h'.get? I=h.get? I->itAt j h'
 next:∀(j:Nat)(h:Heap)(tk:Nat)(v:Value)(Q:Option Value->Shared->Prop)(E:Bw),Kp s0 h->itAt j h->its[j]?=some v ->
  (∀h',itAt (j+1) h'->(∀b,b≠I->h'.get? b=h.get? b)->Q (some v) { s0 with heap:=h',toks:=tk })->wpAny (model prog w) A (pyNext (.ref I)) Q E { s0 with heap:=h,toks:=tk }
 fin:∀(j:Nat)(h:Heap)(tk:Nat)(Q:Option Value->Shared->Prop)(E:Bw),Kp s0 h->itAt j h->its[j]?=none ->
  (∀h',(∀b o,b≠I->h.get? b=some o->h'.get? b=some o)->Q none { s0 with heap:=h',toks:=tk })->wpAny (model prog w) A (pyNext (.ref I)) Q E { s0 with heap:=h,toks:=tk }
theorem Kp.upd (K:Kp s0 h)(hS:s0.heap.objs.size<=S):Kp s0 (h.update S f):=fun b o e=>by rw[Ds _ _ _ _ (zc (zm (zU e) hS))];exact K b o e
theorem Kp.but (K:Kp s0 h)(hI:s0.heap.objs.size<=I)(k:∀b o,b≠I->h.get? b=some o->h'.get? b=some o):Kp s0 h':=fun b o e=>
 k b o (zc (zm (zU e) hI)) (K b o e)
theorem E5:0<=sizeLine:=by decide
theorem F7:1<=sizeLine:=by decide
theorem Au:2<=sizeLine:=by decide
theorem Gz:3<=sizeLine:=by decide
theorem MY:4<=sizeLine:=by decide
theorem dM:5<=sizeLine:=by decide
theorem cy:6<=sizeLine:=by decide
theorem aj (M:Il prog w A.in1 s0 I its itAt)(bt:Nat->Nat->Bool)(hS:s0.heap.objs.size<=S)(hI:s0.heap.objs.size<=I)(hSI:S≠I)
 (cmp:∀i j vi vj h tk Q E,Kp s0 h->its[i]?=some vi->its[j]?=some vj->Q (.bool (bt i j)) { s0 with heap:=h,toks:=tk }->wpAny (model prog w) A.in1 (richCompare .Lt vi vj) Q E { s0 with heap:=h,toks:=tk })
 (hR:∀v h tk,its[argBest bt (its.length-1)]?=some v->Kp s0 h->R (.ok (.ret v)) { s0 with heap:=h,toks:=tk })
 : ∀r j h tk vb c,its.length-(j+1)=r->j+1<=its.length->Kp s0 h->itAt (j+1) h->its[argBest bt j]?=some vb ->
  h.get? S=some { cls:=.type "list",data:=.seq #[vb,vb] c }->codeAny (model prog w) A (.builtin "min.loop" { pos:=[.ref I,.none,.ref S],kw:=kw }) R { s0 with heap:=h,toks:=tk }:=by
 intro r
 induction r with
 | zero=>intro j h tk vb c hr hj K hit hv hSo;refine codeAny_builtin PySem.F.entry_min_loop ?_;unfold Builtin.«min.loop»;refine zA (ES hSo rfl ?_);dsimp only;refine zA (wpAny_tryCatch (M.fin (j+1) h tk _ _ K hit (zw (by lia)) fun h' k=>?_));have eY:=k S _ hSI hSo;refine zA (wpAny_updateSeq eY rfl (zA (wpAny_letGo (zC ?_))) Au (by show 0<=sizeLine+1;decide));refine hR vb _ tk ?_ ((K.but hI k).upd hS);rw[show its.length-1=j by lia];exact hv
 | succ r ih=>
  intro j h tk vb c hr hj K hit hv hSo;obtain⟨x,hx⟩:∃x,its[j+1]?=some x:=⟨_,zB (by lia)⟩;refine codeAny_builtin PySem.F.entry_min_loop ?_;unfold Builtin.«min.loop»;refine zA (ES hSo rfl ?_);dsimp only;refine zA (wpAny_tryCatch (M.next (j+1) h tk x _ _ K hit hx fun h' eP k=>?_));have K':Kp s0 h':=K.but hI fun b o hb e=>by rw[k b hb];exact e
  have eY:h'.get? S=some { cls:=.type "list",data:=.seq #[vb,vb] c }:=by rw[k S hSI];exact hSo
  refine zA (zC ?_);refine zA (wpAny_tryCatch (zu (zA (cmp (j+1) (argBest bt j) x vb h' tk _ _ K' hx hv ?_))));refine zA (zu (Gh (zA (wpAny_letGo (zC ?_)))));have eb:argBest bt (j+1)=if bt (j+1) (argBest bt j)=true then j+1 else argBest bt j:=argBest.eq_2 bt j
  cases e:bt (j+1) (argBest bt j) with
  | true=>rw[if_pos e] at eb;refine zA (wpAny_updateSeq eY rfl (zA (wpAny_letGo (zC ⟨rfl,?_⟩))) Au (by show 2<=sizeLine+1;decide));exact ih (j+1) _ tk x c (by lia) (by lia) (K'.upd hS) (M.stay _ _ _ eP (Ds _ _ _ _ (Ne.symm hSI))) (by rw[eb];exact hx) (zq _ eY rfl)
  | false=>rw[e,if_neg (by decide)] at eb;refine zA (wpAny_letGo (zC ⟨rfl,?_⟩));exact ih (j+1) h' tk vb c (by lia) (by lia) K' eP (by rw[eb];exact hv) eY
theorem VQ (M:Il prog w A.in1 s0 I its itAt)(bt:Nat->Nat->Bool)(hS:s0.heap.objs.size<=S)(hI:s0.heap.objs.size<=I)(hSI:S≠I)
 (cmp:∀i j vi vj h tk Q E,Kp s0 h->its[i]?=some vi->its[j]?=some vj->Q (.bool (bt i j)) { s0 with heap:=h,toks:=tk }->wpAny (model prog w) A.in1 (richCompare .Lt vi vj) Q E { s0 with heap:=h,toks:=tk })
 (hR:∀v h tk,its[argBest bt (its.length-1)]?=some v->Kp s0 h->R (.ok (.ret v)) { s0 with heap:=h,toks:=tk })
 (h0:its=[]->∀h tk,Kp s0 h->R (.ok (.ret d)) { s0 with heap:=h,toks:=tk })
 (h)(tk)(c)(K:Kp s0 h)(hit:itAt 0 h)(hSo:h.get? S=some { cls:=.type "list",data:=.seq #[] c }):
 codeAny (model prog w) A (.builtin "min.loop" { pos:=[.ref I,.none,.ref S],kw:=[(Str.ofString "default",d)] }) R { s0 with heap:=h,toks:=tk }:=by
 refine codeAny_builtin PySem.F.entry_min_loop ?_;unfold Builtin.«min.loop»;refine zA (ES hSo rfl ?_);dsimp only;cases e:its with
 | nil=>subst e;refine zA (wpAny_tryCatch (M.fin 0 h tk _ _ K hit rfl fun h' k=>?_));exact zA (Cs (zC (h0 rfl h' tk (K.but hI k))))
 | cons x xs=>
  have hx:its[0]?=some x:=by rw[e];rfl
  refine zA (wpAny_tryCatch (M.next 0 h tk x _ _ K hit hx fun h' eP k=>?_));have K':Kp s0 h':=K.but hI fun b o hb e=>by rw[k b hb];exact e
  have eY:h'.get? S=some { cls:=.type "list",data:=.seq #[] c }:=by rw[k S hSI];exact hSo
  refine zA (zC ?_);refine zA (wpAny_updateSeq eY rfl (zC ⟨rfl,?_⟩) E5 (by show 2<=sizeLine+1;decide));refine aj M bt hS hI hSI cmp hR (its.length-1) 0 _ tk x (c+1) rfl (by rw[e];simp) (K'.upd hS) (M.stay _ _ _ eP (Ds _ _ _ _ (Ne.symm hSI))) hx (zq _ eY rfl)
theorem wpAny_of_eq (e:m=m')(h:wpAny M A m' Q E s):wpAny M A m Q E s:=by subst e;exact h
theorem U0 {O:KeyOrd}(ky:Nat->O.α):∀k,argBest (fun i j=>O.blt (ky i) (ky j)) k<=k/\∀j,j<=k->O.blt (ky j) (ky (argBest (fun i j=>O.blt (ky i) (ky j)) k))=false
 | 0=>⟨zJ _,fun j hj=>by obtain rfl:j=0:=(by lia);exact O.irrefl _⟩
 | k+1=>by
  obtain⟨h1,h2⟩:=U0 ky k;rw[argBest.eq_2];cases e:O.blt (ky (k+1)) (ky (argBest (fun i j=>O.blt (ky i) (ky j)) k)) with
  | true=>
   rw[if_pos rfl];refine⟨zJ _,fun j hj=>?_⟩;by_cases c:j=k+1
   . subst c;exact O.irrefl _
   . cases e2:O.blt (ky j) (ky (k+1)) with
     | false=>rfl
     | true=>rw[<-h2 j (by lia)];exact (O.trans _ _ _ e2 e).symm
  | false=>
   rw[if_neg (by decide)];refine⟨by lia,fun j hj=>?_⟩;by_cases c:j=k+1
   . subst c;exact e
   . exact h2 j (by lia)
theorem Vj (hA:A.handled=none)(bt:Nat->Nat->Bool)(hp:s.heap.IsList p its.toArray\/s.heap.IsTuple p its.toArray)
 (cmp:∀i j vi vj h tk Q E,Kp s h->its[i]?=some vi->its[j]?=some vj->Q (.bool (bt i j)) { s with heap:=h,toks:=tk }->wpAny (model prog w) A.in1 (richCompare .Lt vi vj) Q E { s with heap:=h,toks:=tk })
 (hR:∀v h tk,its[argBest bt (its.length-1)]?=some v->Kp s h->Q v { s with heap:=h,toks:=tk })
 (h0:its=[]->∀h tk,Kp s h->Q d { s with heap:=h,toks:=tk }):
 wpAny (model prog w) A (call (.builtin "min") [.ref p] [(Str.ofString "default",d)]) Q E s:=by
 refine Cj (codeAny_call_builtin PySem.F.plain_min PySem.F.entry_min (wpAny_of_eq (show checkBuiltinCall "min" { pos:=[.ref p],kw:=[(Str.ofString "default",d)] }=pure () from rfl) (zC ?_)));unfold Builtin.min;refine zA (wpAny_of_eq (show Builtin.Builtins.bindParams "min" ["key", "default"] 0 { kw:=[(Str.ofString "default",d)] }=pure [none,some d] from rfl) (zC ?_));dsimp only;refine zA (zC ?_);have kp0:∀(o1 o2:Obj),Kp s ((s.heap.push o1).push o2):=fun o1 o2 b o e=>zG _ (zG _ e);rcases hp with hp | hp
 . refine zA (wpAny_pyIter_list hp (zA (GQ (zC ⟨rfl,?_⟩) E5)));have hSe:(s.heap.push { cls:=.type "list_iterator",data:=.fields #[.ref p,.int 0 0] }).objs.size=s.heap.objs.size+1:=CV ..;rw[hSe];refine VQ (s0:=s) (I:=s.heap.objs.size) (S:=s.heap.objs.size+1) (itAt:=fun j h=>h.IsListIter s.heap.objs.size p j) ⟨fun j h h' a e=>?_,fun j h tk v Q E K hit hv q=>?_,fun j h tk Q E K hit hv q=>?_⟩ bt (Bc _) (zJ _) (Nat.succ_ne_self _) cmp hR h0 _ s.toks 0 (kp0 _ _) ?_ ?_
   . obtain⟨o,ho,hc⟩:=a;exact⟨o,by rw[e];exact ho,hc⟩
   . obtain⟨o,ho,hc⟩:=hp;exact wpAny_pyNext_list_item hit ⟨o,K _ _ ho,hc⟩ (by rw[DD];exact hv) fun h' a b=>q h' a fun c hc=>b.2 c hc
   . obtain⟨o,ho,hc⟩:=hp;exact wpAny_pyNext_list_end hA hit ⟨o,K _ _ ho,hc⟩ (by rw[DD];exact hv) fun h' b=>q h' b
   . exact⟨_,zG _ (zN _ rfl),rfl,rfl⟩
   . rw[<-hSe];exact zN _ rfl
 . refine zA (wpAny_pyIter_tuple hp (zA (GQ (zC ⟨rfl,?_⟩) E5)));have hSe:(s.heap.push { cls:=.type "tuple_iterator",data:=.fields #[.ref p,.int 0 0] }).objs.size=s.heap.objs.size+1:=CV ..;rw[hSe];refine VQ (s0:=s) (I:=s.heap.objs.size) (S:=s.heap.objs.size+1) (itAt:=fun j h=>h.IsTupleIter s.heap.objs.size p j) ⟨fun j h h' a e=>?_,fun j h tk v Q E K hit hv q=>?_,fun j h tk Q E K hit hv q=>?_⟩ bt (Bc _) (zJ _) (Nat.succ_ne_self _) cmp hR h0 _ s.toks 0 (kp0 _ _) ?_ ?_
   . obtain⟨o,ho,hc⟩:=a;exact⟨o,by rw[e];exact ho,hc⟩
   . obtain⟨o,ho,hc⟩:=hp;exact wpAny_pyNext_tuple_item hit ⟨o,K _ _ ho,hc⟩ (by rw[DD];exact hv) fun h' a b=>q h' a fun c hc=>b.2 c hc
   . obtain⟨o,ho,hc⟩:=hp;exact wpAny_pyNext_tuple_end hA hit ⟨o,K _ _ ho,hc⟩ (by rw[DD];exact hv) fun h' b=>q h' b
   . exact⟨_,zG _ (zN _ rfl),rfl,rfl⟩
   . rw[<-hSe];exact zN _ rfl
def Pc (K:AJ)(x dv:V)(H:Hp)(Q:VK):Prop:=∃p ys,x=.ref p/\(AE K H p ys\/AC K H p ys)/\(ys=[]->Q dv H) /\
 ((∃ks,A3 H ys ks/\∀(i:Nat)y(k:List Int),ys[i]?=some y->ks[i]?=some k->(∀k'∈ks,HT.lexLt k' k=false)->Q y H)\/(∃ns:List Int,ys=ns.map V.int/\∀n∈ns,(∀m∈ns,n<=m)->Q (.int n) H))
def Nv (K:AJ)(t:TA)(td:TE):TE:=fun σ H Q=>t σ H fun vs H1=>∃x,vs=[x]/\td σ H1 fun dv H2=>Pc K x dv H2 Q
theorem ZA (hc:X.calm=true)(hu:X.A.units+1<cLine)(hg:Gl X "min") (hm:X.mg "min"=none) (he:PA X [e] t)(hd:PE X de td)
 (hs1:backTo pos (starEach [e] X.env)=(false,eval e X.env)::backTo pos (starEach [] X.env):=by rfl)(iH:(backTo pos (starEach [e] X.env)).any (·.1)=false:=by rfl):
 PE X (.Call (.Name "min" np) [e] [⟨some "default",de,kpos⟩] pos) (Nv X.K t td):=by
 intro pins s σ H Q I h;refine Gb (EJ I hg hm (by decide +kernel:bootBuiltins "min"=some (.builtin "min")) ?_);refine PyProof.Rows.callWith_kw (AI (he pos pins s σ H _ I h) fun us s1 ⟨vs,H1,I1,r,q1⟩=>?_) hs1 iH;obtain⟨x,rfl,q1⟩:=q1;obtain⟨u,rfl,rx⟩:=Cb r;show wpAny _ _ (evalAll ((do let v <-eval de X.env;standAt pos;pure v)::[])) _ _ s1
 refine wpAny_evalAll_cons (zA (AI (hd pins s1 σ H1 _ I1 q1) fun ud s2 ⟨dv,H2,I2,rd,q2⟩=>zA (wpAny_standAt (zC (wpAny_evalAll_nil ?_)))));show wpAny _ _ (call (.builtin "min") [u] [(Str.ofString "default",ud)]) _ _ s2;obtain⟨p,ys,rfl,hp,q0,hk⟩:=q2;cases rx;obtain⟨its,rv,hpp⟩:∃its:List Value,AK ys its/\(s2.heap.IsList p its.toArray\/s2.heap.IsTuple p its.toArray):=by
  rcases hp with hp | hp
  . obtain⟨its,r',pl,_⟩:=I2.list hp;exact⟨its,r',.inl pl.isList⟩
  . obtain⟨its,r',pl,_⟩:=I2.tuple hp;exact⟨its,r',.inr pl⟩
 have hlen:=rv.length;have e0:its=[]->ys=[]:=fun z=>Ld.mp (by rw[hlen,z];rfl);rcases hk with ⟨ks,T,q⟩ | ⟨ns,rfl,q⟩
 . have hl:=T.length;refine Vj (I2.ok.hd hc) (fun i j=>Gg.blt (ks.getD i []) (ks.getD j [])) hpp (fun i j vi vj h tk Q E K hi hj q=>?_) (fun v h tk hv K=>?_) (fun z h tk K=>⟨dv,H2,I2.kept K,rd,q0 (e0 z)⟩)
   . have look:∀(i:Nat)(v:Value),its[i]?=some v->∃(p:Addr)(k:List Int)(us:List Value),v=.ref p/\ks[i]?=some k/\IntsAre us k/\IsTup h p us.toArray:=fun i v hv=>by
      have hi:i<ys.length:=by have:=(zI.mp hv).1;lia
      obtain⟨p,k,e1,e2,e3,_⟩:=T.get (i:=i) (x:=ys[i]) (by simp[hi]);obtain⟨u,hu,ru⟩:=rv.get (i:=i) (x:=ys[i]) (by simp[hi]);rw[hv] at hu;cases hu;rw[e1] at ru;cases (show v=Value.ref p from ru);obtain⟨_,us,rv',o,ho,hc⟩:=I2.hok p _ e3;exact⟨p,k,us,rfl,e2,Dz rv',o,K _ _ ho,hc⟩
     obtain⟨p1,k1,us1,rfl,g1,i1,t1⟩:=look i vi hi;obtain⟨p2,k2,us2,rfl,g2,i2,t2⟩:=look j vj hj;refine HT.lt_tupInts (ns:=k1) (ms:=k2) t1 t2 i1 i2 hu ?_;have:Gg.blt (ks.getD i []) (ks.getD j [])=HT.lexLt k1 k2:=by rw[zF,zF,g1,g2];rfl
     rw[<-this];exact q
   . obtain⟨b1,b2⟩:=U0 (O:=Gg) (fun i=>ks.getD i []) (its.length-1);have dW:=(zI.mp hv).1;generalize eb:argBest (fun i j=>Gg.blt (ks.getD i []) (ks.getD j [])) (its.length-1)=bi at hv dW b1 b2;have hy:bi<ys.length:=by lia
     obtain⟨u,hu,ru⟩:=rv.get (i:=bi) (x:=ys[bi]) (by simp[hy]);rw[hv] at hu;cases hu;obtain⟨pa,k,e1,e2,e3,_⟩:=T.get (i:=bi) (x:=ys[bi]) (by simp[hy]);refine⟨ys[bi],H2,I2.kept K,ru,q bi ys[bi] k (by simp[hy]) e2 fun k' iV=>?_⟩;obtain⟨j,hj,ej⟩:=zy iV;have:=b2 j (by lia);have g1:ks.getD j []=k':=by rw[zF,zB hj,ej];rfl
     have g2:ks.getD bi []=k:=by rw[zF,e2];rfl
     rw[g1,g2] at this;exact this
 . have hI:IntsAre its ns:=Dz rv;have hl:=hI.length;have look:∀(i:Nat)(v:Value),its[i]?=some v->∃t,v=.int (ns.getD i 0) t:=fun i v hv=>by
    have hi:i<ns.length:=by have:=(zI.mp hv).1;lia
    obtain⟨u,hu,ru⟩:=rv.get (i:=i) (x:=.int ns[i]) (by simp[hi]);rw[hv] at hu;cases hu;obtain⟨t,rfl⟩:=(show ∃t,v=Value.int ns[i] t from ru);exact⟨t,by rw[zF,zB hi];rfl⟩
   refine Vj (I2.ok.hd hc) (fun i j=>decide (ns.getD i 0<ns.getD j 0)) hpp (fun i j vi vj h tk Q E K hi hj q=>?_) (fun v h tk hv K=>?_) (fun z h tk K=>⟨dv,H2,I2.kept K,rd,q0 (e0 z)⟩)
   . obtain⟨t1,rfl⟩:=look i vi hi;obtain⟨t2,rfl⟩:=look j vj hj;exact PyProof.Rows.lt_int q
   . obtain⟨b1,b2⟩:=argBest_lt (fun i=>ns.getD i 0) (its.length-1);have dW:=(zI.mp hv).1;generalize eb:argBest (fun i j=>decide (ns.getD i 0<ns.getD j 0)) (its.length-1)=bi at hv dW b1 b2;obtain⟨t,rfl⟩:=look bi v hv;have hy:bi<ns.length:=by lia
     refine⟨.int (ns.getD bi 0),H2,I2.kept K,⟨t,rfl⟩,q _ ?_ fun m hm=>?_⟩
     . rw[zF,zB hy];exact Cq hy
     . obtain⟨j,hj,ej⟩:=zy hm;have:=b2 j (by lia);have g1:ns.getD j 0=m:=by rw[zF,zB hj,ej];rfl
       rw[g1] at this;exact this
theorem Z3 (hA:A.handled=none)(hl:PlainL s.heap l its)
 (q:∀h' tk,Kp s h'->Q none { s with heap:=h',toks:=tk }):wpAny (model prog w) A (getAttr? (.ref l) (Str.ofString "keys")) Q E s:=by
 have ty:∀tk,Shared.TypeIs { s with toks:=tk } (.ref l) "list" := fun tk=>by obtain⟨o,ho,hc,_⟩:=hl.isList;exact⟨o,ho,hc⟩
 unfold getAttr?;refine zA (zA (wpAny_fresh (zC ?_)));unfold getAttrBy?;refine zA (F1 ?_);unfold getAttrBy;refine zu (zA (CT (ty _) (zA (wpAny_of_eq (show typeLookup (.type "list") (Str.ofString "__getattribute__")=pure (some (.builtin "list.__getattribute__")) from rfl) (zC ?_)))));show wpAny _ _ (getAttrByItsOwn _ _ _ _ _ _) _ _ _;unfold getAttrByItsOwn;refine zA (wpAny_of_eq (show hookBefore (.type "list")=pure none from rfl) (zC (zA (F1 (zu ?_)))));show wpAny _ _ (boundAndCalled _ _ _) _ _ _;unfold boundAndCalled;refine zA (wpAny_of_eq (show bindSpecial (.builtin "list.__getattribute__") (.ref l)=pure (.builtin "list.__getattribute__",[.ref l]) from rfl) (zC ?_));refine Cj (codeAny_call_builtin (by decide +kernel) PySem.am_entry_list_getattribute ?_);refine zA (DM (ty _) (b:=true) rfl ?_);refine wpAny_of_eq (m':=pure ()) rfl (zC ?_);unfold Builtin.«object.__getattribute__»;refine zA (wpAny_of_eq (m':=pure (Value.ref l,[Value.str (Str.ofString "keys") s.toks])) rfl (zC ?_));refine zA (zC (zA (CT (ty _) (zA ?_))));unfold Builtin.ObjectAttr.find;refine zA (wpAny_of_eq (m':=pure none) rfl (zC (zA (zC (zA (zC ?_))))));obtain⟨o,n,ho,hc,hd,fg⟩:=id hl;obtain⟨cls,dict,data,slots⟩:=o;obtain rfl:cls=_:=hc;obtain rfl:dict=_:=hd;obtain rfl:data=_:=fg
 refine zA (zA (zA (wpAny_loadPart ho (zA (wpAny_loadPart ho (zC (zC ?_)))))));refine zA (wpAny_of_eq (m':=pure ()) rfl (zC (zA (Cs (zC ?_)))));show wpAny _ _ (Builtin.ObjectAttr.noSuchAttribute (Value.ref l) (Str.ofString "keys")) _ _ _;unfold Builtin.ObjectAttr.noSuchAttribute;refine zA (zA (zA (CT (ty _) (wpAny_of_eq (m':=pure (Value.type "list")) rfl (zC (wpAny_of_eq (m':=pure "list") rfl (zC ?_)))))));refine wpAny_raiseAttrError hA (fun h' tk e ne=>?_) (by decide +kernel);obtain⟨t,u,he⟩:=ne.there;have tye:∀tk,Shared.TypeIs { s with heap:=h',toks:=tk } (.ref e) "AttributeError" := fun tk=>⟨_,he,rfl⟩;show wpAny _ _ (getattributeRaised _ _ _ _ _ _ _) _ _ _;unfold getattributeRaised;refine zA (DM (tye _) (b:=true) rfl ?_);refine zA (wpAny_of_eq (m':=pure none) rfl (zC ?_));refine zA (wpAny_throw ?_);refine zA (DM (tye _) (b:=true) rfl (zC ?_));exact q h' tk ne.keeps
theorem VV (a):(Code.builtin "dict.update.loop" a).quiet=true:=plainId_quiet (id := "dict.update.loop") (by decide +kernel) a
theorem Xz [DecidableEq κ] (dQ)(k:κ)(v):(stored dQ k v).length<=dQ.length+1:=by
 unfold stored;split
 . rw[zD];lia
 . rw[zM];exact zJ _
noncomputable def Ff (qs:List (AR×Value)):List (AR×Value):=qs.foldl (fun a q=>stored a q.1 q.2) []
theorem bZ (qs)(q:AR×Value):Ff (qs++[q])=stored (Ff qs) q.1 q.2:=by unfold Ff;rw[List.foldl_append];rfl
theorem cY (qs):(Ff qs).length<=qs.length:=by
 have:∀(qs:List (AR×Value))(a:List (AR×Value)),(qs.foldl (fun a q=>stored a q.1 q.2) a).length<=a.length+qs.length:=by
  intro qs
  induction qs with
  | nil=>intro a;exact zJ _
  | cons q qs ih=>intro a;have h1:=ih (stored a q.1 q.2);have h2:=Xz a q.1 q.2;rw[List.foldl_cons,zo];lia
 have:=this qs [];simpa [Ff] using this
section
variable {prog:Program}{w:World}{A:Around}{s0:Shared}{D I l:Addr}{its:List Value}{qs:List (AR×Value)}
theorem Yl (hA:A.handled=none)(hD:s0.heap.objs.size<=D)(hI:s0.heap.objs.size<=I)(hDI:D≠I)(hl:s0.heap.IsList l its.toArray)(hz:its.length<=sizeLine)(hqs:qs.length=its.length)
 (look:∀(i:Nat)v,its[i]?=some v->∃p kv u k,v=.ref p/\IsTup s0.heap p #[kv,u]/\(BE prog w).is k kv=true/\qs[i]?=some (k,u))
 (hR:∀h(tk:Nat),Kp s0 h->h.DictOf (BE prog w) D (Ff qs)->R (.ok (.ret .none)) { s0 with heap:=h,toks:=tk }):
 ∀(r j:Nat)h(tk:Nat),its.length-j=r->j<=its.length->Kp s0 h->h.IsListIter I l j->h.DictOf (BE prog w) D (Ff (qs.take j)) ->
  codeAny (model prog w) A (.builtin "dict.update.loop" { pos:=[.ref D,.ref I,rawInt j,.none] }) R { s0 with heap:=h,toks:=tk }:=by
 have eO:∀h,Kp s0 h->h.IsList l its.toArray:=fun h K=>by obtain⟨o,ho,hc⟩:=hl;exact⟨o,K _ _ ho,hc⟩
 intro r
 induction r with
 | zero=>intro j h tk hr hj K hit hd;refine codeAny_builtin (b:=Builtin.«dict.update.loop») (by rfl) ?_;unfold Builtin.«dict.update.loop»;refine zA (wpAny_pyNext_list_end hA hit (eO h K) (by rw[DD];exact zw (by lia)) fun h' b=>?_);refine zA (wpAny_of_eq (m':=pure ()) rfl (zC (zC ?_)));refine hR h' tk (K.but hI b) ?_;obtain⟨o,es,ep,ho,fq⟩:=hd;rw[zW (by lia)] at fq;exact⟨o,es,ep,b D o hDI ho,fq⟩
 | succ r ih=>
  intro j h tk hr hj K hit hd;obtain⟨x,hx⟩:∃x,its[j]?=some x:=⟨_,zB (by lia)⟩;obtain⟨p,kv,u,k,rfl,tp,hk,hq⟩:=look j x hx;refine codeAny_builtin (b:=Builtin.«dict.update.loop») (by rfl) ?_;unfold Builtin.«dict.update.loop»;refine zA (wpAny_pyNext_list_item hit (eO h K) (by rw[DD];exact hx) fun h' eP b=>?_);have K':Kp s0 h':=K.but hI fun c o hc e=>by rw[b.2 c hc];exact e
  obtain⟨o,ho,hc,n,fg⟩:=tp;refine zA (zu (zA (wpAny_tryCatch ?_)));unfold Builtin.Dict.pairItems;refine zA (CT (T := "tuple") ⟨o,K' _ _ ho,hc⟩ ?_);refine zA (ES (K' _ _ ho) fg (zC ?_));have i6:h'.DictOf (BE prog w) D (Ff (qs.take j)):=by obtain⟨o,es,ep,ho,fq⟩:=hd;exact⟨o,es,ep,by rw[b.2 D hDI];exact ho,fq⟩
  refine zu (wpAny_dictSet_pairs hk i6 (fun h2 hd2 b2=>?_) (zp (cY _) (by rw[zd];lia)));refine zC ⟨VV _,?_⟩;refine ih (j+1) h2 (tk+1) (by lia) (by lia) (fun c o e=>?_) ?_ ?_
  . rw[b2.2 c (zc (zm (zU e) hD))];exact K' c o e
  . obtain⟨o,ho,hc⟩:=eP;exact⟨o,by rw[b2.2 I (Ne.symm hDI)];exact ho,hc⟩
  . rw[zr,hq];show h2.DictOf _ D (Ff (qs.take j++[(k,u)]));rw[bZ];exact hd2
end
theorem YB (h:Heap):(h.push { cls:=.type "dict",data:=.dict #[] }).DictOf (BE prog w) h.objs.size []:=
 ⟨_,#[],0,zN _ rfl,⟨rfl,rfl,rfl⟩,rfl,by
  first | exact KeysOf.nil | (intro x hx;simp at hx) | trivial | decide,by
  first | exact .nil | trivial,List.nodup_nil⟩
theorem bX {its:List Value}(hA:A.handled=none)(hl:PlainL s.heap l its.toArray)(hz:its.length<=sizeLine)(hqs:qs.length=its.length)
 (look:∀(i:Nat)v,its[i]?=some v->∃p kv u k,v=.ref p/\IsTup s.heap p #[kv,u]/\(BE prog w).is k kv=true/\qs[i]?=some (k,u))
 (q:∀D h(tk:Nat),s.heap.objs.size<=D->Kp s h->h.DictOf (BE prog w) D (Ff qs)->Q (.ref D) { s with heap:=h,toks:=tk }):
 wpAny (model prog w) A (call (.type "dict") [.ref l]) Q E s:=by
 refine callType_codes (Q₁:=fun obj s₁=>obj=.ref s.heap.objs.size/\s₁={ s with heap:=s.heap.push { cls:=.type "dict",data:=.dict #[] } }) PySem.F.kt_called_dict (PySem.F.kt_typeCall_dict_1 _) PySem.F.entry_dict_init ?_ (fun obj s₁ e=>?_)
 . refine codeAny_call_builtin (by decide +kernel) PySem.F.kt_entry_dict_new (wpAny_of_eq (PySem.F.kt_newCall_dict_1 _) (zC ?_));unfold Builtin.«dict.__new__»;refine zA (wpAny_of_eq (m':=pure true) rfl (zC (zA (wpAny_of_eq (m':=pure true) rfl (zC (zA (wpAny_of_eq (m':=pure [Value.type "dict",Value.type "object"]) rfl (zC ?_))))))));exact zA (wpAny_newObjAsIs_type (zC ⟨rfl,rfl⟩))
 . obtain⟨rfl,rfl⟩:=e;refine⟨⟨_,zN _ rfl,rfl⟩,PySem.F.args_dict_init_2 _ _,?_⟩;unfold Builtin.«dict.__init__»;have h0:Kp s (s.heap.push { cls:=.type "dict",data:=.dict #[] }):=fun b o e=>zG _ e;have hl1:∀h,Kp s h->PlainL h l its.toArray:=fun h K=>by obtain⟨o,n,ho,hr⟩:=hl;exact⟨o,n,K _ _ ho,hr⟩
   refine zA (zA (zA (CT (T := "dict") ⟨_,zN _ rfl,rfl⟩ (zC (zA (zC (zC ?_)))))));show wpAny _ _ (Builtin.Dict.updateFrom "dict.__init__" s.heap.objs.size (.ref l) [] .none) _ _ _;unfold Builtin.Dict.updateFrom;refine zA (CT (T := "list") (let ⟨o,ho,hc,_⟩:=(hl1 _ h0).isList;⟨o,ho,hc⟩) ?_);refine zA (Z3 hA (hl1 _ h0) fun h1 tk1 K1=>?_);have K1':Kp s h1:=fun b o e=>K1 b o (h0 b o e);refine zA (Cs (zA (wpAny_pyIter_list (hl1 _ K1').isList (zC ⟨VV _,?_⟩))));have hsz:s.heap.objs.size<h1.objs.size:=zU (K1 _ _ (zN _ rfl));refine Yl (A:=A.in1) (s0:=s) (l:=l) (its:=its) (qs:=qs) hA (zJ _) (DG hsz) (zc hsz) hl.isList hz hqs look ?_ its.length 0 _ tk1 rfl (zg _) (fun b o e=>zG _ (K1' b o e)) ?_ ?_
   . exact fun h tk K hd=>⟨rfl,q _ h tk (zJ _) K hd⟩
   . exact⟨_,zN _ rfl,rfl,rfl⟩
   obtain⟨o,es,ep,ho,hr⟩:=YB (prog:=prog) (w:=w) s.heap;exact⟨o,es,ep,zG _ (K1 _ _ ho),hr⟩
def YJ (H:Hp)(ys:List V)(ps:List (AR×V)):Prop:=ps.length=ys.length/\∀(i:Nat)y,ys[i]?=some y->∃p k v,y=.ref p/\H p=some (.tup [kV k,v])/\ps[i]?=some (k,v)
noncomputable def Lj (ps:List (AR×V)):List (AR×V):=ps.foldl (fun a p=>BC a p.1 p.2) []
theorem We:∀(ps:List (AR×V))(qs:List (AR×Value))(a:List (AR×V))(b:List (AR×Value)),KV ps qs->KV a b->KV (ps.foldl (fun a p=>BC a p.1 p.2) a) (qs.foldl (fun a q=>stored a q.1 q.2) b)
 | [],[],_,_,_,h=>h
 | p::ps,q::qs,a,b,h,h'=>by
  cases h with
  | cons h1 h2=>rw[List.foldl_cons,List.foldl_cons];refine We ps qs _ _ h2 ?_;rw[<-h1.1];exact KV.put h' p.1 h1.2
 | [],_::_,_,_,h,_=>by cases h
 | _::_,[],_,_,h,_=>by cases h
theorem X0 (ps):(Lj ps).length<=ps.length:=by
 have:∀(ps:List (AR×V))(a:List (AR×V)),(ps.foldl (fun a p=>BC a p.1 p.2) a).length<=a.length+ps.length:=by
  intro ps
  induction ps with
  | nil=>intro a;exact zJ _
  | cons q qs ih=>intro a;have h1:=ih (BC a q.1 q.2);have h2:=JQ a q.1 q.2;rw[List.foldl_cons,zo];lia
 have:=this ps [];simpa [Lj] using this
inductive KR (K:AJ)(xs:List V)(H:Hp)(Q:VK):Prop
 | mk:∀l ys ps,(xs=[.ref l])->(AE K H l ys)->(YJ H ys ps)->(∀d,H d=none->Q (.ref d) (upd H d (.dK (Lj ps))))->KR K xs H Q
theorem RF (hc:X.calm=true):B3 X (.type "dict") (KR X.K):=by
 intro pins s σ H xs us Q I r h;obtain⟨l,ys,ps,rfl,hq,⟨gg,hps⟩,q⟩:=h;obtain⟨u,rfl,rx⟩:=Cb r;cases rx;obtain⟨its,rv,pl,hz⟩:=I.list hq;have hlen:=rv.length;have both:∀(i:Nat),i<its.length->∃(p:Addr)(kv u:Value)(k:AR)(v:V),its[i]?=some (.ref p)/\IsTup s.heap p #[kv,u]/\(BE X.prog X.w).is k kv=true/\AQ v u/\ps[i]?=some (k,v):=fun i hi=>by
  have hy:i<ys.length:=by lia
  obtain⟨p,k,v,e1,e2,e3⟩:=hps i ys[i] (by simp[hy]);obtain⟨u,hu,ru⟩:=rv.get (i:=i) (x:=ys[i]) (by simp[hy]);rw[e1] at ru;cases (show u=Value.ref p from ru);obtain⟨_,us,rv',tp⟩:=I.hok p _ e2;obtain⟨a,b,rfl,ra,rb⟩:=Ln rv';exact⟨p,a,b,k,v,hu,tp,JL ra,rb,e3⟩
 obtain⟨qs,hql,hqk⟩:∃qs:List (AR×Value),qs.length=its.length/\∀(i:Nat),i<its.length->∃(p:Addr)(kv u:Value)(k:AR)(v:V),its[i]?=some (.ref p)/\IsTup s.heap p #[kv,u]/\(BE X.prog X.w).is k kv=true/\AQ v u/\ps[i]?=some (k,v)/\qs[i]?=some (k,u):=by
  have:∀m,m<=its.length->∃qs:List (AR×Value),qs.length=m/\∀(i:Nat),i<m->∃(p:Addr)(kv u:Value)(k:AR)(v:V),its[i]?=some (.ref p)/\IsTup s.heap p #[kv,u]/\(BE X.prog X.w).is k kv=true/\AQ v u/\ps[i]?=some (k,v)/\qs[i]?=some (k,u):=by
   intro m
   induction m with
   | zero=>intro _;exact⟨[],rfl,fun i hi=>absurd hi (C1 _)⟩
   | succ m ih=>
    intro hm;obtain⟨qs,h1,h2⟩:=ih (by lia);obtain⟨p,kv,u,k,v,g1,g2,g3,g4,g5⟩:=both m (by lia);refine⟨qs++[(k,u)],by rw[zM,h1];rfl,fun i hi=>?_⟩;by_cases c:i=m
    . subst c;exact⟨p,kv,u,k,v,g1,g2,g3,g4,g5,by rw[zX (by lia),h1,Eg];rfl⟩
    . obtain⟨p,kv,u,k,v,f1,f2,f3,f4,f5,f6⟩:=h2 i (by lia);exact⟨p,kv,u,k,v,f1,f2,f3,f4,f5,by rw[zb (by lia)];exact f6⟩
  exact this its.length (zJ _)
 have kv:KV ps qs:=by
  have:∀(ps:List (AR×V))(qs:List (AR×Value)),ps.length=qs.length->(∀i,i<ps.length->∃k v u,ps[i]?=some (k,v)/\qs[i]?=some (k,u)/\AQ v u)->KV ps qs:=by
   intro ps
   induction ps with
   | nil=>intro qs e _;cases qs with
    | nil=>exact .nil
    | cons _ _=>simp at e
   | cons p ps ih=>
    intro qs e h;cases qs with
    | nil=>simp at e
    | cons q qs=>obtain⟨k,v,u,h1,h2,h3⟩:=h 0 (by simp);simp at h1 h2;subst h1 h2;refine .cons ⟨rfl,h3⟩ (ih qs (by simpa using e) fun i hi=>?_);obtain⟨k,v,u,h1,h2,h3⟩:=h (i+1) (by simp;lia);exact⟨k,v,u,by simpa using h1,by simpa using h2,h3⟩
  refine this ps qs (by lia) fun i hi=>?_;obtain⟨p,kv,u,k,v,_,_,_,f4,f5,f6⟩:=hqk i (by lia);exact⟨k,v,u,f5,f6,f4⟩
 refine bX (its:=its) (qs:=qs) (I.ok.hd hc) pl (by lia) hql (fun i v hv=>?_) (fun D h tk hD K dd=>?_)
 . obtain⟨p,kv,u,k,v',f1,f2,f3,f4,f5,f6⟩:=hqk i (zI.mp hv).1;rw[hv] at f1;cases f1;exact⟨p,kv,u,k,rfl,f2,f3,f6⟩
 . have i4:H D=none:=I.hok.fresh hD;have zz:(Lj ps).length<=sizeLine:=zp (X0 ps) (by lia);refine⟨.ref D,_,I.laid (a:=D) (o:=.dK (Lj ps)) (t':=tk) K hD (Wc zz (beq_eq_false_iff_ne.mpr (Ne.symm (zc (zm I.big hD)))) (We ps qs [] [] kv .nil) dd),rfl,q D i4⟩
end L2
namespace L2
open PySem PySem.Spec PyProof.Rows
theorem C9 (hm:X.mg x=none)(hg:Gl X x:=by rfl)(hv:bootBuiltins x=some (.type T):=by decide +kernel)(hn:x ≠ "__name__" := by decide) (gk:(x==("__debug__" : Str))=false:=by decide):PE X (.Name x pos) (tC (.ty T)):=
 fun pins s σ H Q I h=>EJ I hg hm hv ⟨.ty T,H,I,rfl,h⟩ hn gk
inductive PZ (K:AJ)(xs:List V)(H:Hp)(Q:VK):Prop
 | mk:∀x T t b,(xs=[x,.ty T])->(DC K H x t)->(PySem.W.kitOne K t (.type T)=some b)->(Q (.bl b) H)->PZ K xs H Q
theorem DL:B3 X (.builtin "isinstance") (PZ X.K):=by intro pins s σ H xs us Q I r h;obtain⟨x,T,t,b,rfl,ty,e,q⟩:=h;obtain⟨u,w',rfl,rx,rT⟩:=Ln r;cases (show w'=Value.type T from rT);exact ZC I rx ty e fun tk=>⟨.bl b,H,I.tok tk,rfl,q⟩
section
variable {prog:Program}{w:World}{A:Around}{s0:Shared}{I l:Addr}{bs:List Bool}
theorem Ym (hA:A.handled=none)(hI:s0.heap.objs.size<=I)(hl:s0.heap.IsList l (bs.map Value.bool).toArray)
 (hR:∀h tk,Kp s0 h->R (.ok (.ret (.bool (bs.all id)))) { s0 with heap:=h,toks:=tk }):
 ∀r j h tk,bs.length-j=r->j<=bs.length->Kp s0 h->h.IsListIter I l j->(bs.take j).all id=true ->
  codeAny (model prog w) A (.builtin "all.loop" { pos:=[.ref I] }) R { s0 with heap:=h,toks:=tk }:=by
 have eO:∀h,Kp s0 h->h.IsList l (bs.map Value.bool).toArray:=fun h K=>by obtain⟨o,ho,hc⟩:=hl;exact⟨o,K _ _ ho,hc⟩
 intro r
 induction r with
 | zero=>intro j h tk hr hj K hit ha;refine codeAny_builtin PySem.F.entry_all_loop ?_;unfold Builtin.«all.loop»;refine zA (wpAny_pyNext_list_end hA hit (eO h K) (by rw[DD];exact zw (by rw[zD];lia)) fun h' b=>?_);refine zA (Cs (zC ?_));rw[zW (by lia)] at ha;have:=hR h' tk (K.but hI b);rw[ha] at this;exact this
 | succ r ih=>
  intro j h tk hr hj K hit ha;obtain⟨x,hx⟩:∃x,bs[j]?=some x:=⟨_,zB (by lia)⟩;refine codeAny_builtin PySem.F.entry_all_loop ?_;unfold Builtin.«all.loop»;refine zA (wpAny_pyNext_list_item hit (eO h K) (x:=.bool x) (by rw[DD,zO,hx];rfl) fun h' eP b=>?_);have K':Kp s0 h':=K.but hI fun c o hc e=>by rw[b.2 c hc];exact e
  refine zA (zu (Gh (zA (wpAny_letGo ?_))));cases x with
  | true=>refine zC ⟨rfl,?_⟩;exact ih (j+1) h' tk (by lia) (by lia) K' eP (by rw[zr,hx,List.all_append,ha];rfl)
  | false=>
   refine zA (Cs (zC ?_));have e:bs.all id=false:=by
    cases z:bs.all id with
    | false=>rfl
    | true=>have:=List.all_eq_true.mp z false (zV hx);simp at this
   have:=hR h' tk K';rw[e] at this;exact this
end
theorem Xb:∀{bs:List Bool}{its:List Value},AK (bs.map V.bl) its->its=bs.map Value.bool
 | [],[],_=>rfl
 | b::bs,u::its,h=>by
  cases h with
  | cons h1 h2=>rw[BX,<-Xb h2,show u=Value.bool b from h1]
 | [],_::_,h=>by cases h
 | _::_,[],h=>by cases h
inductive OJ (K:AJ)(xs:List V)(H:Hp)(Q:VK):Prop
 | mk:∀(p:Addr)(bs:List Bool),(xs=[.ref p])->(AE K H p (bs.map V.bl))->(Q (.bl (bs.all id)) H)->OJ K xs H Q
theorem RG (hc:X.calm=true):B3 X (.builtin "all") (OJ X.K):=by
 intro pins s σ H xs us Q I r h;obtain⟨p,bs,rfl,hq,q⟩:=h;obtain⟨u,rfl,rx⟩:=Cb r;cases rx;obtain⟨its,r',pl,hz⟩:=I.list hq;rw[Xb r'] at pl;refine Cj (codeAny_call_builtin PySem.F.plain_all PySem.F.entry_all (wpAny_of_eq (m':=pure ()) rfl (zC ?_)));unfold Builtin.all;refine zA (wpAny_of_eq (m':=pure (Value.ref p)) rfl (zC (zA (wpAny_pyIter_list pl.isList (zC ⟨rfl,?_⟩)))));refine Ym (s0:=s) (l:=p) (bs:=bs) (I.ok.hd hc) (zJ _) pl.isList ?_ bs.length 0 _ s.toks rfl (zg _) (fun b o e=>zG _ e) ?_ rfl
 . exact fun h tk K=>⟨.bl _,H,I.kept K,rfl,q⟩
 . exact⟨_,zN _ rfl,rfl,rfl⟩
section
variable {X:Cx}
def Tu (r:V->List V->Hp->VK->Prop)(to:TE)(t:TA):TE:=fun σ H Q=>to σ H fun x H1=>(∃p ys,x=.ref p/\H1 p=some (.tup ys))/\t σ H1 fun xs H2=>r x xs H2 Q
variable {o e:Expr}{es:List Expr}{to:TE}{t:TA}{name:Str}{apos df:Pos}{id:String}{r:V->List V->Hp->VK->Prop}
theorem Ki (slot:Slot "tuple" name id) (hty:typeOf (.builtin id)=pure (.type "method_descriptor")) (hm:Qj X id r)(ho:PE X o to)(ha:PA X (e::es) t)
 (jA:attributeBase o name X.env (eval o X.env)=eval o X.env:=by rfl)
 (hfew:((backTo df (starEach (e::es) X.env)).all (fun x=>!x.1) && (backToKw df (keywordEach [] X.env)).all (fun x=>x.1.isSome)
  && decide ((e::es).length+([]:List Keyword).length+(if ([]:List Keyword).isEmpty then 0 else 1)<30))=true:=by rfl)
 (iz:(apos.endLine==df.line)=true:=by rfl)(hs:starEach (e::es) X.env=(false,eval e X.env)::starEach es X.env:=by rfl)(gc:(backTo df (starEach es X.env)).any (·.1)=false:=by rfl):
 PE X (.Call (.Attribute o name apos) (e::es) [] df) (Tu r to t):=by
 intro pins s σ H Q I h;refine wpAny_Call_method_late jA hfew iz rfl (AI (ho pins s σ H _ I h) fun v s1 ⟨x,H1,I1,r1,⟨p,ys,ex,hp⟩,q1⟩=>?_);subst ex;cases (show v=Value.ref p from r1);obtain⟨⟨_,o2,gU,hd2⟩,its,rv,ob,hob,i8,_⟩:=(show Av X.prog X.w H1 s1.heap p (.tup ys) from I1.hok p _ hp);refine⟨"tuple",id,PySem.F.plainAttrs_tuple,slot,hty,⟨ob,hob,i8⟩,fun a ea=>?_,?_⟩
 . cases ea;exact⟨o2,gU,hd2⟩
 have hA:=ha df pins s1 σ H1 _ I1 q1;rw[hs] at hA ⊢;refine Calls.callWith_builtin (by show (false || (backTo df (starEach es X.env)).any (·.1))=false;rw[gc] <;> rfl) (Calls.evalArgs_plain ?_);exact AI hA fun us s2 ⟨vs,H2,I2,r2,q2⟩=>hm pins s2 σ H2 (.ref p) vs (.ref p) us Q I2 rfl r2 q2
end
theorem YU {its:Array Value}(hi:IntsAre its.toList ns)(hv:ns[i]?=some v)(ft:∀j,j<i->ns[j]?≠some v)
 (f:Nat->Option PySem.Fin×Unit->Sem (ForInStep (Option PySem.Fin×Unit)))
 (hf:∀j x,f j x=(match its[j]? with
  | some y=>do
   let b <-eqBool y (.int v tv)
   if b=true then do
    let r <-retInt j
    pure (.done (some r,()))
   else pure (.yield (none,()))
  | _=>pure (.yield (none,()))))
 (s)(hR:∀tk,R (some (.done (.ret (.int i s.toks))),()) { s with toks:=tk }):
 ∀r j b,i-j=r->j<=i->wpAny (model prog w) A (forIn (List.range' j (its.size-j) 1) b f) R E s:=by
 have hsz:its.size=ns.length:=by have:=hi.length;simpa using this
 have iL:i<ns.length:=(zI.mp hv).1;have look:∀j,j<ns.length->∃t,its[j]?=some (.int (ns.getD j 0) t):=fun j hj=>by
  have hj':j<its.size:=by lia
  obtain⟨t,ht⟩:=hi.int_at j (its[j]'hj') (by rw[Array.getElem?_toList,Array.getElem?_eq_getElem hj']);exact⟨t,by rw[Array.getElem?_eq_getElem hj',ht]⟩
 intro r
 induction r with
 | zero=>
  intro j b hr hj;obtain rfl:j=i:=by lia
  rw[show its.size-j=(its.size-j-1)+1 by lia,List.range'_succ,List.forIn_cons,hf];obtain⟨t,ht⟩:=look j iL;rw[ht];refine zA (zA (wpAny_eqBool_int ?_));have e:ns.getD j 0=v:=by rw[zF,hv];rfl
  rw[e,show (v==v)=true by simp];refine zA (zA (wpAny_mkInt (zC (zC (zC ?_)))));exact hR _
 | succ r ih=>
  intro j b hr hj;rw[show its.size-j=(its.size-(j+1))+1 by lia,List.range'_succ,List.forIn_cons,hf];obtain⟨t,ht⟩:=look j (by lia);rw[ht];refine zA (zA (wpAny_eqBool_int ?_));have hj':ns[j]?=some (ns.getD j 0):=by rw[zF,zB (by lia)];rfl
  have e:¬ ns.getD j 0=v:=fun z=>ft j (by lia) (by rw[hj',z]);rw[show (ns.getD j 0==v)=false by simpa using e];refine zC ?_;exact ih (j+1) _ (by lia) (by lia)
theorem bK:Qj X "tuple.index" (fun x xs H Q=>∃p,∃(ns:List Int)(i:Nat)(v:Int),x=.ref p/\xs=[.int v]/\AC X.K H p (ns.map V.int)/\ns[i]?=some v/\(∀j,j<i->ns[j]?≠some v)/\Q (.int i) H):=by
 intro pins s σ H x xs v us Q I rx r h;obtain⟨p,ns,i,k,rfl,rfl,hq,hi,ft,q⟩:=h;cases (show v=Value.ref p from rx);obtain⟨u,rfl,t,rfl⟩:=Cb r;obtain⟨its,rv,⟨ob,hob,i8,n,fg⟩,hz⟩:=I.tuple hq;have hI:=Dz rv;refine Cj (codeAny_call_builtin PySem.F.slot_tuple_index.plain PySem.F.entry_tuple_index (PySem.F.slot_tuple_index.check _ _ _ _ _ _ _ _ ⟨ob,hob,i8⟩ (PySem.F.args_tuple_index_2 _ _) ?_));unfold Builtin.«tuple.index»;refine zA (wpAny_of_eq (m':=pure (Value.ref p,[Value.int k t])) rfl (zC ?_));refine zA (zA (ES hob fg (zC ?_)));refine zA (zC (zA (zC (zA ?_))));rw[Std.Legacy.Range.forIn_eq_forIn_range'];have hsz:(Std.Legacy.Range.mk 0 (min its.toArray.size its.toArray.size) 1 (by decide)).size=its.toArray.size-0:=by show (min its.toArray.size its.toArray.size-0+1-1)/1=_;rw[Nat.min_self];lia
 rw[hsz];refine YU (its:=its.toArray) (ns:=ns) (v:=k) (tv:=t) (i:=i) hI hi ft _ (fun j x=>by rfl) s (fun tk=>?_) i 0 _ (by lia) (zg _);exact zC ⟨.int i,H,I.tok _,⟨_,rfl⟩,q⟩
theorem Vy (a):(Code.builtin "list.count.loop" a).quiet=true:=Code.quiet_builtin a (by decide +kernel)
theorem bH (hl:s.heap.IsList l its.toArray)(hi:IntsAre its ns)(hR:∀t tk,R (.ok (.ret (.int (ns.countP fun x=>x==v:Nat) t))) { s with toks:=tk }):
 ∀r j,its.length-j=r->j<=its.length->codeAny (model prog w) A (.builtin "list.count.loop" { pos:=[.ref l,.int v tv,rawInt j,rawInt ((ns.take j).countP fun x=>x==v:Nat)] }) R s:=by
 have iL:=hi.length;intro r
 induction r with
 | zero=>
  intro j hr hj;refine codeAny_builtin (b:=Builtin.«list.count.loop») (by rfl) ?_;unfold Builtin.«list.count.loop»;obtain⟨o,ho,hc,n,hd⟩:=id hl;refine zA (zA (ES ho hd (zC ?_)));have e:its.toArray[(j:Int).toNat]?=none:=by rw[DD,zv];exact zw (by lia)
  rw[e];rw[zW (by lia)];exact zA (wpAny_mkInt (zC (hR _ _)))
 | succ r ih=>
  intro j hr hj;refine codeAny_builtin (b:=Builtin.«list.count.loop») (by rfl) ?_;unfold Builtin.«list.count.loop»;obtain⟨o,ho,hc,n,hd⟩:=id hl;refine zA (zA (ES ho hd (zC ?_)));obtain⟨x,hx⟩:∃x,its[j]?=some x:=⟨_,zB (by lia)⟩;obtain⟨t,rfl⟩:=hi.int_at j x hx;have e:its.toArray[(j:Int).toNat]?=some (.int (ns.getD j 0) t):=by rw[DD,zv];exact hx
  rw[e];refine zA (wpAny_eqBool_int ?_);refine zC ⟨Vy _,?_⟩;have hj':ns[j]?=some (ns.getD j 0):=by rw[zF,zB (by lia)];rfl
  have st:(ns.take (j+1)).countP (fun x=>x==v)=(ns.take j).countP (fun x=>x==v)+(if (ns.getD j 0==v)=true then 1 else 0):=by rw[zr,hj',List.countP_append];show _+List.countP _ [ns.getD j 0]=_;rw[List.countP_cons,List.countP_nil,Nat.zero_add]
  have:=ih (j+1) (by lia) (by lia);rw[st] at this;cases c:(ns.getD j 0==v) with
  | true=>rw[c] at this;exact this
  | false=>rw[c] at this;exact this
theorem Vq:Qj X "list.count" (fun x xs H Q=>∃p,∃(ns:List Int)(v:Int),x=.ref p/\xs=[.int v]/\AE X.K H p (ns.map V.int)/\Q (.int (ns.countP fun x=>x==v:Nat)) H):=by intro pins s σ H x xs u us Q I rx r h;obtain⟨p,ns,v,rfl,rfl,hq,q⟩:=h;cases (show u=Value.ref p from rx);obtain⟨w',rfl,t,rfl⟩:=Cb r;obtain⟨its,rv,pl,hz⟩:=I.list hq;have hi:=Dz rv;refine Cj (codeAny_call_builtin PySem.F.slot_list_count.plain PySem.F.entry_list_count (PySem.F.slot_list_count.check _ _ _ _ _ _ _ _ pl.isList.typeIs (PySem.F.args_list_count_2 _ _) ?_));unfold Builtin.«list.count»;refine zA (wpAny_of_eq (m':=pure (Value.ref p,Value.int v t)) rfl (zC (zC ⟨Vy _,?_⟩)));refine bH (s:=s) (ns:=ns) pl.isList hi ?_ its.length 0 (by lia) (zg _);exact fun t' tk=>⟨.int _,H,I.tok _,⟨t',rfl⟩,q⟩
end L2
namespace WM
open L2
structure En where
 h:Int
 l:Int
 u:Option Int
 d:Option Int
def Cd (es fs:List En)(c:Int×Int):Prop:=∃e∈es,∃f∈fs,f.h=e.h/\c=(e.l+f.l,e.h)
def Cf (P:Int×Int->Prop):Option (Int×Int)->Prop
 | none=>∀c,¬ P c
 | some c=>P c/\∀c',P c'->c.1<c'.1\/(c.1=c'.1/\c.2<=c'.2)
theorem Cf.uniq :∀{a b:Option (Int×Int)},Cf P a->Cf P b->a=b
 | none,none,_,_=>rfl
 | none,some c,h,g=>absurd g.1 (h c)
 | some c,none,h,g=>absurd h.1 (g c)
 | some a,some b,h,g=>by
  have h1:=h.2 b g.1;have h2:=g.2 a h.1;have e1:a.1=b.1:=by lia
  have e2:a.2=b.2:=by lia
  rw[show a=b from Prod.ext e1 e2]
theorem Cf.congr (e:∀c,P c↔P' c):∀{a:Option (Int×Int)},Cf P a->Cf P' a
 | none,h=>fun c z=>h c ((e c).mpr z)
 | some _,h=>⟨(e _).mp h.1,fun c' z=>h.2 c' ((e c').mpr z)⟩
def C3 (es:List En):Prop:=es.Pairwise fun a b=>a.h<b.h
noncomputable def BY (es:List En)(h:Int):Option En:=es.find? fun e=>decide (e.h=h)
theorem MG (hs:C3 es):BY es h=some e↔e∈es/\e.h=h:=by
 unfold BY;constructor
 . intro z;exact⟨List.mem_of_find?_eq_some z,of_decide_eq_true (List.find?_some (p:=fun e:En=>decide (e.h=h)) z)⟩
 . rintro ⟨hm,rfl⟩
   induction es with
   | nil=>simp at hm
   | cons a es ih=>
    rw[HV];rcases zT.mp hm with rfl | hm'
    . simp
    . have hp:=HH.mp hs;have:=hp.1 e hm';rw[zR (show ¬ a.h=e.h by lia)];exact ih hp.2 hm'
theorem Vk :BY es h=none↔∀e∈es,e.h≠h:=by unfold BY;rw[List.find?_eq_none];exact⟨fun z e he=>fun q=>z e he (zP q),fun z e he=>fun q=>z e he (of_decide_eq_true q)⟩
noncomputable def CA (fs:List En)(e:En):Option (Int×Int):=(BY fs e.h).map fun f=>(e.l+f.l,e.h)
theorem JR (hf:C3 fs)(c:Int×Int):c∈es.filterMap (CA fs)↔Cd es fs c:=by
 rw[HR];constructor
 . rintro ⟨e,he,z⟩;unfold CA at z;cases q:BY fs e.h with
   | none=>rw[q] at z;cases z
   | some f=>rw[q] at z;obtain⟨h1,h2⟩:=(MG hf).mp q;exact⟨e,he,f,h1,h2,(zY z).symm⟩
 . rintro ⟨e,he,f,hfm,h1,rfl⟩;refine⟨e,he,?_⟩;unfold CA;rw[(MG hf).mpr ⟨hfm,h1⟩];rfl
theorem Pq {α:Type}{l:List α}{x:α}(p:α->Bool)(h:l[i]?=some x):(l.take (i+1)).filter p=(l.take i).filter p++(if p x=true then [x] else []):=by rw[zr,h,List.filter_append];show _++List.filter p [x]=_;rw[List.filter_cons];rfl
theorem VB {α β:Type}{l:List α}{x:α}(f:α->Option β)(h:l[i]?=some x):(l.take (i+1)).filterMap f=(l.take i).filterMap f++(f x).toList:=by
 rw[zr,h,List.filterMap_append];show _++List.filterMap f [x]=_;cases e:f x with
 | none=>rw[List.filterMap_cons_none e];rfl
 | some y=>rw[List.filterMap_cons_some e];rfl
end WM
namespace L2
open PySem PyProof.Rows
theorem Qu (h:(ps.map (·.1)).Nodup):Lj ps=ps:=by
 have:∀(ps a:List (AR×V)),((a++ps).map (·.1)).Nodup->ps.foldl (fun a p=>BC a p.1 p.2) a=a++ps:=by
  intro ps
  induction ps with
  | nil=>intro a _;rw[BR];rfl
  | cons p ps ih=>
   intro a hn;have e:BC a p.1 p.2=a++[p]:=by unfold BC;rw[if_neg];intro z;obtain⟨q,hq,e⟩:=List.any_eq_true.mp z;have e':=of_decide_eq_true e;rw[zf,BX] at hn;have:=(List.nodup_append.mp hn).2.2 q.1 (List.mem_map_of_mem hq) p.1 zS;exact this e'
   rw[List.foldl_cons,e,ih (a++[p]) (by rw[List.append_assoc];exact hn),List.append_assoc];rfl
 exact this ps [] h
end L2
namespace WM
end WM
namespace L2
open PySem PySem.Spec PyProof.Rows
theorem Uk {i:Int}(h:i.natAbs<10 ^ 40):(Str.ofString (toString i)).length<=41:=by
 have e:=int_text_length_le10 (a:=i) (k:=40) (by decide) h;have e2:(Str.ofString (toString i)).length=(toString i).length:=by rw[Str.ofString_eq_toList];show ((toString i).toList.map Char.toNat).toArray.size=_;rw[zL,zD,String.length_toList]
 lia
end L2
namespace SortT
open PySem PySem.W PySem.Calls PyProof.Rows
theorem gather_tup (ht:IsTup s.heap t us.toArray)(hz:us.length<=sizeLine)
 (q:Q us { s with heap:=(s.heap.push (seqObj "list" #[] 0)).update s.heap.objs.size (Obj.mapSeq (· ++ us.toArray)) }):wpAny (model prog w) A (collect (.ref t)) Q E s:=by
 obtain⟨ob,hob,cob,m,dob⟩:=ht;have hob':(s.heap.push (seqObj "list" #[] 0)).get? t=some ob:=zG _ hob;have new:(s.heap.push (seqObj "list" #[] 0)).get? s.heap.objs.size=some (seqObj "list" #[] 0):=zN _ rfl;unfold collect;refine zA (wpAny_runValue (codeAny_builtin entry_proto_collect' (zA (GQ (zC ⟨Code.quiet_builtin _ (by decide +kernel),codeAny_builtin entry_list_iadd' ?_⟩)))));show wpAny _ _ (Builtin.List.listExtendWith _ (.ref t) _) _ _ _;unfold Builtin.List.listExtendWith;refine zA (CT (T := "tuple") ⟨ob,hob',cob⟩ ?_);have yes:(Value.type "tuple" == Value.type "tuple")=true:=rfl;rw[if_pos (by rw[yes];simp)];refine zA (listItems_at hob' dob (zA (listItems_at (xs:=#[]) (n:=0) new rfl ?_)));rw[if_neg (by simp)];refine zA (listUpdate_at (xs:=#[]) (n:=0) new rfl (zC ?_) (zg _) (by simp;lia));refine zA (wpAny_load (get?_update_seq new _) ?_);have e:((#[]:Array Value)++us.toArray).toList=us:=by simp
 show wpAny _ _ (pure ((#[]:Array Value)++us.toArray).toList) Q E _;rw[e];exact zC q
end SortT
namespace L2
open PySem PySem.Spec PyProof.Rows
def OM (K:AJ):R2:=fun x y H Q=>∃a b xs ys,x=.ref a/\y=.ref b/\AC K H a xs/\AC K H b ys/\xs.length+ys.length<=sizeLine /\
 (xs=[]->Q (.ref b) H)/\(xs≠[]->ys=[]->Q (.ref a) H)/\(xs≠[]->ys≠[]->∀p,H p=none->Q (.ref p) (upd H p (.tup (xs++ys))))
theorem bF {ws:List Value}(ht:IsTup s.heap t #[])(hb:IsTup s.heap b ws.toArray)
 (h:Q (.ref b) s):wpAny (model prog w) A (binaryOp .Add (.ref t) (.ref b)) Q E s:=by
 obtain⟨⟨cls,dd,data,sl⟩,ho,hc,n,hd⟩:=id ht;obtain⟨⟨cls2,dd2,data2,iB⟩,gU,i9,n2,hd2⟩:=id hb;simp only at hc hd i9 hd2;subst hc hd i9 hd2;exact concat_meets ⟨_,ho,rfl⟩ ⟨_,gU,rfl⟩ noFill_tuple_add seq_tuple_add PySem.F.slot_tuple_add PySem.F.entry_tuple_add (PySem.F.args_tuple_add_2 _ _)
  (tuple_addW0 t b #[] ws.toArray n n2 dd dd2 sl iB rfl) ⟨ho,gU,h⟩
theorem U5:Ay X (binaryOp .Add) (OM X.K):=by
 intro pins s σ H x y v u Q I rx ry h;obtain⟨a,b,xs,ys,rfl,rfl,ha,hb,hz,q0,q1,q2⟩:=h;by_cases hx:xs=[]
 . subst hx;cases rx;cases ry;obtain⟨its,r1,p1,_⟩:=I.tuple ha;obtain⟨d7,r2,p2,_⟩:=I.tuple hb;cases r1;exact bF p1 p2 ⟨.ref b,H,I,rfl,q0 rfl⟩
 . exact aq pins s σ H _ _ v u Q I rx ry ⟨a,b,xs,ys,rfl,rfl,ha,hb,hx,hz,q1 hx,q2 hx⟩
def Nm (K:AJ):R2:=fun x y H Q=>∃a b xs,x=.ref a/\y=.ref b/\AC K H a xs/\AC K H b []/\Q (.bl (!xs.isEmpty)) H
theorem ZU (hu:X.A.units<cLine):Ay X (compareOp .NotEq) (Nm X.K):=by
 intro pins s σ H x y v u Q I rx ry h;obtain⟨a,b,xs,rfl,rfl,ha,hb,q⟩:=h;cases rx;cases ry;obtain⟨its,r,pl,hz⟩:=I.tuple ha;obtain⟨d7,r2,gX,hz2⟩:=I.tuple hb;have l1:=r.length;have e2:d7=[]:=by cases r2;rfl
 subst e2;refine PySem.EqBoolInt.of_rcne (SeqAt.RcNeAt.tuples (e:=fun _=>true) pl gX hu (fun j _ h2=>absurd h2 (by simp))) ⟨.bl _,H,I,rfl,?_⟩;have e:(!((List.range (min its.toArray.size ([]:List Value).toArray.size)).all (fun _=>true) && its.toArray.size==([]:List Value).toArray.size))=!xs.isEmpty:=by
  cases xs with
  | nil=>cases r;rfl
  | cons x xs=>cases r;simp
 rw[e];exact q
end L2
namespace HT
open PySem PySem.Spec PyProof.Rows
end HT
namespace L2
open PySem PySem.Spec PyProof.Rows
end L2
namespace HT
open PySem PySem.Spec PyProof.Rows
theorem getItem_tuple_all {lo:Option Int}(ht:IsTup s.heap t items)(hs:s.heap.IsSliceOf sl vl vu .none)(pl:IsPart vl lo)(pu:IsPart vu hi)
 (hw:sIx items.size 0 lo=0/\sIx items.size items.size hi=items.size)(h:Q (.ref t) s):wpAny (model prog w) A (getItem (.ref t) (.ref sl)) Q E s:=by
 obtain⟨os,gE,hcs,gK⟩:=id hs;have hTs:s.TypeIs (.ref sl) "slice" := ⟨os,gE,hcs⟩;unfold getItem
 try with_reducible refine zu ?_
 first | refine zA (zC ?_) | skip
 refine zA (wpAny_sequenceKey ht.typeIs (by decide) ?_);refine zA (D0 (name:=Str.ofString "__getitem__") ht.typeIs PyProof.Rows.slot_tuple_getitem
  (CF PyProof.Rows.slot_tuple_getitem ht.typeIs entry_tuple_getitem ?_ (args_tuple_getitem _ _)))
 show wpAny _ _ (Builtin.Tuple.tupleItemsOf (.ref t) >>= _) _ _ s;refine zA (tupleItemsOf_ ht ?_);refine zA (CT hTs ?_);rw[if_pos (by decide)];refine zA (Wj hs pl pu ?_);have hyes:(((sIx items.size 0 lo:Nat):Int)==0 && (1:Int)==1 && (sIx items.size items.size hi-sIx items.size 0 lo)==items.size)=true:=by rw[hw.1,hw.2];simp
 show wpAny _ _ (if (((sIx items.size 0 lo:Nat):Int)==0 && (1:Int)==1 && (sIx items.size items.size hi-sIx items.size 0 lo)==items.size)=true then _ else _) _ _ s
 rw[if_pos hyes];unfold Builtin.Tuple.tupleIsExact;refine zA (zA (CT ht.typeIs (zC ?_)));rw[if_pos (by decide)]
 first
  | exact zA (Cs (zC ⟨_,rfl,zC h⟩))
  | exact zA (Cs (zC (zC ⟨_,rfl,zC h⟩)))
  | exact zA (Cs (zA (zC (zC ⟨_,rfl,zC h⟩))))
  | exact Cs (zC ⟨_,rfl,zC h⟩)
theorem aY {n:Nat}{os:Obj}(gE:s.heap.get? sl=some os)(gK:os.data=.fields #[.none,.none,vk])(pk:IsPart vk (some (-1)))
 (h:Q ((n:Int)-1,-1,n) s):wpAny (model prog w) A (Builtin.Slice.sliceApplied (.ref sl) (pure (n:Int))) Q E s:=by
 unfold Builtin.Slice.sliceApplied Builtin.Slice.sliceFields;refine zA (zA (Ej gE gK (x:=.none) rfl (zA (Ej gE gK (x:=.none) rfl (zA (Ej gE gK (x:=vk) rfl (zC ?_)))))));refine zA (RI pk ?_);show wpAny _ _ (if ((-1:Int)==0)=true then _ else _) _ _ s
 rw[if_neg (by decide)];refine zA (slicePart_none (zA (slicePart_none (zA (zC ?_)))));have e:Builtin.Slice.sliceAdjust none none (-1) (n:Int)=((n:Int)-1,-1):=rfl;show wpAny _ _ (match Builtin.Slice.sliceAdjust none none (-1) (n:Int) with | (lo,hi)=>pure (lo,(-1:Int),Builtin.Slice.slicePlaces lo hi (-1))) _ _ s
 rw[e];have e2:Builtin.Slice.slicePlaces ((n:Int)-1) (-1) (-1)=n:=by
  unfold Builtin.Slice.slicePlaces;rw[if_neg (by decide)];cases n with
  | zero=>rfl
  | succ m=>
   rw[if_pos (by lia),Int.neg_neg,Int.ediv_one]
   lia
 show wpAny _ _ (pure ((n:Int)-1,(-1:Int),Builtin.Slice.slicePlaces ((n:Int)-1) (-1) (-1))) _ _ s;rw[e2];exact zC h
theorem UZ {α β:Type}{f g:α->Option β}:∀{l:List α},(∀m∈l,f m=g m)->l.filterMap f=l.filterMap g
 | [],_=>rfl
 | a::l,h=>by have ih:=UZ (l:=l) fun m hm=>h m (zZ _ hm);rw[HD,HD,h a zS,ih]
theorem aW (xs:Array Value):((List.range xs.size).filterMap fun (m:Nat)=>xs[(((xs.size:Int)-1)+(m:Int)*(-1)).toNat]?).toArray=xs.toList.reverse.toArray:=by
 have e:((List.range xs.size).filterMap fun (m:Nat)=>xs[(((xs.size:Int)-1)+(m:Int)*(-1)).toNat]?)=((List.range xs.size).map fun k=>xs.size-1-k).filterMap (xs[·]?):=by rw[List.filterMap_map];apply UZ;intro m hm;have:=C0.mp hm;show xs[_]?=xs[_]?;rw[show (((xs.size:Int)-1)+(m:Int)*(-1)).toNat=xs.size-1-m by lia]
 rw[e,PySem.W.krv_range,List.filterMap_reverse,PySem.W.krv_all]
theorem getItem_tuple_rev {os:Obj}(ht:IsTup s.heap t items)(gE:s.heap.get? sl=some os)(hcs:os.cls=.type "slice") (gK:os.data=.fields #[.none,.none,vk])(pk:IsPart vk (some (-1)))
 (h:Q (.ref s.heap.objs.size) { s with heap:=s.heap.push { cls:=.type "tuple",data:=.seq items.toList.reverse.toArray } }) (hsz:items.size<=sizeLine):wpAny (model prog w) A (getItem (.ref t) (.ref sl)) Q E s:=by
 have hTs:s.TypeIs (.ref sl) "slice" := ⟨os,gE,hcs⟩;have eI:sizeOk (.seq items.toList.reverse.toArray):=by show items.toList.reverse.toArray.size<=sizeLine;rw[zL,List.length_reverse,Array.length_toList];exact hsz
 unfold getItem
 try with_reducible refine zu ?_
 first | refine zA (zC ?_) | skip
 refine zA (wpAny_sequenceKey ht.typeIs (by decide) ?_);refine zA (D0 (name:=Str.ofString "__getitem__") ht.typeIs PyProof.Rows.slot_tuple_getitem
  (CF PyProof.Rows.slot_tuple_getitem ht.typeIs entry_tuple_getitem ?_ (args_tuple_getitem _ _)))
 show wpAny _ _ (Builtin.Tuple.tupleItemsOf (.ref t) >>= _) _ _ s;refine zA (tupleItemsOf_ ht ?_);refine zA (CT hTs ?_);rw[if_pos (by decide)];refine zA (aY gE gK pk ?_);have ft:¬ ((((items.size:Int)-1)==0 && (-1:Int)==1 && items.size==items.size)=true):=by intro q;rw[zx,zx] at q;exact absurd q.1.2 (by decide)
 show wpAny _ _ (if (((items.size:Int)-1)==0 && (-1:Int)==1 && items.size==items.size)=true then _ else _) _ _ s
 rw[if_neg ft,aW]
 first
  | exact zA (m:=Builtin.Tuple.tupleExact _) (Bi (zC ⟨_,rfl,zC h⟩) eI)
  | exact zA (m:=Builtin.Tuple.tupleExact _) (Bi (zA (zC (zC ⟨_,rfl,zC h⟩))) eI)
  | exact zA (zA (m:=Builtin.Tuple.tupleExact _) (Bi (zC (zC ⟨_,rfl,zC h⟩)) eI))
  | exact zA (zA (m:=Builtin.Tuple.tupleExact _) (Bi (zC ⟨_,rfl,zC h⟩) eI))
end HT
namespace L2
open PySem PySem.Spec PyProof.Rows
def UA (K:AJ):V->Option Int->Option Int->Hp->VK->Prop:=fun x lo hi H Q=>∃a xs,x=.ref a/\AC K H a xs /\
 ((HT.sIx xs.length 0 lo=0/\HT.sIx xs.length xs.length hi=xs.length)->Q (.ref a) H)/\(¬ (HT.sIx xs.length 0 lo=0/\HT.sIx xs.length xs.length hi=xs.length)->∀p,H p=none->Q (.ref p) (upd H p (.tup (Bq xs lo hi))))
theorem Re:MN X (UA X.K):=by
 intro pins s σ H x v vl vu lo hi sl Q I rx hs pl pu h;obtain⟨a,xs,rfl,hx,q1,q2⟩:=h;by_cases c:HT.sIx xs.length 0 lo=0/\HT.sIx xs.length xs.length hi=xs.length
 . cases rx;obtain⟨its,r,ht,hz⟩:=I.tuple hx;have hlen:its.toArray.size=xs.length:=by rw[zL];exact r.length.symm
   refine⟨"tuple",_,PyProof.Rows.slot_tuple_getitem.lookup,ht.typeIs,?_⟩;exact HT.getItem_tuple_all ht hs pl pu (by rw[hlen];exact c) ⟨.ref a,H,I,rfl,q1 c⟩
 . exact LP pins s σ H _ v vl vu lo hi sl Q I rx hs pl pu ⟨a,xs,rfl,hx,c,q2 c⟩
def Sg (K:AJ)(te:TE):TE:=fun σ H Q=>te σ H fun x H1=>∃a xs,x=.ref a/\AC K H1 a xs/\∀p,H1 p=none->Q (.ref p) (upd H1 p (.tup xs.reverse))
theorem Zf (h:AK xs us):AK xs.reverse us.reverse:=by
 induction h with
 | nil=>exact .nil
 | cons r _ ih=>rw[List.reverse_cons,List.reverse_cons];exact ih.append (.cons r .nil)
theorem Xe {ops:Value->Value->List Value}(he:PE X e te)(hm:PE X m (tC (.int (-1))))(hsub:∀a d,subscripted (.Slice none none (some m) p2) false a d=operate (ops a d) (getItem a d)):PE X (.Subscript e (.Slice none none (some m) p2) pos) (Sg X.K te):=by
 intro pins s σ H Q I h;refine Subscript_ (AI (he pins s σ H _ I h) fun v s1 ⟨x,H1,I1,r1,q1⟩=>?_);obtain⟨a,xs,rfl,hx,q⟩:=q1;refine wpAny_Slice ?_;rw[evalPart_none];refine zC (zC ?_);rw[evalPart_some];refine AI (hm pins s1 σ H1 (fun y H2=>y=.int (-1)/\H2=H1) I1 ⟨rfl,rfl⟩) fun vk s3 ⟨y,H3,I3,rk,ey,eH⟩=>?_;subst ey eH;obtain⟨t,rfl⟩:=rk;cases r1;have I4:AB X pins σ H3 { s3 with heap:=s3.heap.push { cls:=.type "slice",data:=.fields #[.none,.none,.int (-1) t] } }:=I3.kept (t':=s3.toks) fun b ob q=>zG _ q;obtain⟨its,r,ht,hz⟩:=I4.tuple hx;have hlen:its.toArray.size=xs.length:=by rw[zL];exact r.length.symm
 show wpAny (model X.prog X.w) X.A (subscriptTail e (.Slice none none (some m) p2) (.ref a) (.ref s3.heap.objs.size)) (EP X pins σ Q) X.xe { s3 with heap:=s3.heap.push { cls:=.type "slice",data:=.fields #[.none,.none,.int (-1) t] } };refine tail_any (ops:=ops (.ref a) (.ref s3.heap.objs.size)) ht.typeIs PyProof.Rows.slot_tuple_getitem.lookup (HT.getItem_tuple_rev ht (zN _ rfl) rfl rfl (.int (-1) t) ?_ (by rw[hlen];exact hz)) (hsub _ _);refine⟨.ref _,_,I4.laid (t':=s3.toks) (o:=.tup xs.reverse) (fun b ob q=>zG _ q) (zJ _) ?_,rfl,q _ (I4.hok.fresh (zJ _))⟩;exact⟨⟨by rw[List.length_reverse];exact hz,_,zN _ rfl,rfl⟩,_,Zf r,IsTup.new _ _⟩
end L2
namespace STb
open PySem
def Dq (xs:Array Nat):Prop:=xs.toList.Pairwise (· < ·)
theorem Dq.lt (h:Dq xs){i:Nat}(eX:i<j)(hi:xs[i]?=some a)(hj:xs[j]?=some b):a<b:=by obtain⟨h1,e1⟩:=Array.getElem?_eq_some_iff.mp hi;obtain⟨h2,e2⟩:=Array.getElem?_eq_some_iff.mp hj;have:=Mh.mp h i j (by simpa using h1) (by simpa using h2) eX;simpa [e1,e2] using this
theorem Yy (h:Dq xs)(j):∀fuel lo hi,hi-lo<=fuel->lo<=hi->hi<=xs.size->(∀k v,k<lo->xs[k]?=some v->v<j)->(∀k v,hi<=k->xs[k]?=some v->j<=v) ->
 lo<=SetTable.below.go xs j fuel lo hi/\SetTable.below.go xs j fuel lo hi<=hi/\(∀k v,k<SetTable.below.go xs j fuel lo hi->xs[k]?=some v->v<j)/\(∀k v,SetTable.below.go xs j fuel lo hi<=k->xs[k]?=some v->j<=v):=by
 intro fuel
 induction fuel with
 | zero=>
  intro lo hi hf hl hs h1 h2;have:lo=hi:=by lia
  subst this;exact⟨zJ _,zJ _,h1,h2⟩
 | succ fuel ih=>
  intro lo hi hf hl hs h1 h2;unfold SetTable.below.go;by_cases c:lo<hi
  . rw[if_pos c];have hm:(lo+hi)/2<xs.size:=by lia
    have em:xs[(lo+hi)/2]?=some xs[(lo+hi)/2]:=Array.getElem?_eq_getElem hm;have eg:xs.getD ((lo+hi)/2) j=xs[(lo+hi)/2]:=by simp[Array.getD,hm]
    dsimp only;rw[eg];by_cases d:xs[(lo+hi)/2]<j
    . rw[if_pos d];obtain⟨a,b,c1,c2⟩:=ih ((lo+hi)/2+1) hi (by lia) (by lia) hs (fun k v hk e=>by
       by_cases z:k=(lo+hi)/2
       . subst z;rw[em] at e;cases e;exact d
       . have:=h.lt (i:=k) (j:=(lo+hi)/2) (by lia) e em;lia) h2
      exact⟨by lia,b,c1,c2⟩
    . rw[if_neg d];obtain⟨a,b,c1,c2⟩:=ih lo ((lo+hi)/2) (by lia) (by lia) (by lia) h1 (fun k v hk e=>by
       by_cases z:k=(lo+hi)/2
       . subst z;rw[em] at e;cases e;lia
       . have:=h.lt (i:=(lo+hi)/2) (j:=k) (by lia) em e;lia)
      exact⟨a,by lia,c1,c2⟩
  . rw[if_neg c];have:lo=hi:=by lia
    subst this;exact⟨zJ _,zJ _,h1,h2⟩
theorem R1 (h:Dq xs)(j):SetTable.below xs j<=xs.size/\(∀k v,k<SetTable.below xs j->xs[k]?=some v->v<j)/\(∀k v,SetTable.below xs j<=k->xs[k]?=some v->j<=v):=by
 obtain⟨_,a,b,c⟩:=Yy h j xs.size 0 xs.size (by lia) (by lia) (zJ _) (fun k v hk _=>absurd hk (C1 _)) (fun k v hk e=>by have:=(Array.getElem?_eq_some_iff.mp e).1;lia)
 exact⟨a,b,c⟩
theorem YH (h:Dq xs)(e:xs[i]?=some a):SetTable.below xs (a+1)=i+1:=by
 obtain⟨h1,h2,h3⟩:=R1 h (a+1);have hi:=(Array.getElem?_eq_some_iff.mp e).1;rcases Nat.lt_trichotomy (SetTable.below xs (a+1)) (i+1) with c | c | c
 . have:=h3 i a (by lia) e;lia
 . exact c
 . have hl:i+1<xs.size:=by lia
   have e2:xs[i+1]?=some xs[i+1]:=Array.getElem?_eq_getElem hl;have a1:=h2 (i+1) _ c e2;have a2:=h.lt (i:=i) (j:=i+1) (by lia) e e2
   lia
theorem YY (h:Dq xs):SetTable.below xs 0=0:=by
 obtain⟨h1,h2,h3⟩:=R1 h 0;rcases Nat.eq_zero_or_pos (SetTable.below xs 0) with c | c
 . exact c
 . have hl:0<xs.size:=by lia
   have:=h2 0 _ c (Array.getElem?_eq_getElem hl)
   lia
theorem Y5 (h:Dq xs)(ne:xs[SetTable.below xs j]?≠some j):Dq (SetTable.insertAt xs (SetTable.below xs j) j):=by
 obtain⟨h1,h2,h3⟩:=R1 h j;unfold Dq;rw[SetTable.toList_insertAt];have hp:(xs.toList.take (SetTable.below xs j)++xs.toList.drop (SetTable.below xs j)).Pairwise (· < ·):=by rw[MJ];exact h
 obtain⟨p1,p2,p3⟩:=List.pairwise_append.mp hp;have lo:∀a∈xs.toList.take (SetTable.below xs j),a<j:=fun a ha=>by obtain⟨k,hk,e⟩:=zy ha;rw[zd] at hk;rw[List.getElem_take] at e;exact h2 k a (by lia) (by rw[<-Array.getElem?_toList,zB (by lia),e])
 have hi:∀a∈xs.toList.drop (SetTable.below xs j),j<a:=fun a ha=>by
  obtain⟨k,hk,e⟩:=zy ha;rw[Fd] at hk;rw[List.getElem_drop] at e;have eg:xs[SetTable.below xs j+k]?=some a:=by rw[<-Array.getElem?_toList,zB (by lia),e]
  have:=h3 _ a (by lia) eg;by_cases c:k=0
  . subst c;rw[Nat.add_zero] at eg;have:a≠j:=fun z=>ne (by rw[eg,z])
    lia
  . have hz:SetTable.below xs j<xs.size:=by simp at hk;lia
    have e0:xs[SetTable.below xs j]?=some xs[SetTable.below xs j]:=Array.getElem?_eq_getElem hz;have a0:=h3 _ _ (zJ _) e0;have a1:=h.lt (i:=SetTable.below xs j) (j:=SetTable.below xs j+k) (by lia) e0 eg
    lia
 refine List.pairwise_append.mpr ⟨p1,HH.mpr ⟨hi,p2⟩,fun a ha b hb=>?_⟩;rcases zT.mp hb with rfl | hb
 . exact lo a ha
 . exact p3 a ha b hb
structure GT (led:Bool)(t:SetTable):Prop where
 dm:t.dummies=#[]
 ld:t.led=led
 rs:t.plain=true->Dq t.place
theorem ZK (led:Bool):GT led (SetTable.fresh 0 0 led):=⟨rfl,rfl,fun _=>Io⟩
theorem WK (j):SetTable.has #[] j=false:=by unfold SetTable.has;simp
theorem V7 {t:SetTable}(hd:t.dummies=#[]):(t.slot j=.empty->t.place[SetTable.below t.place j]?≠some j)/\t.slot j ≠ .dummy:=by
 unfold SetTable.slot;rw[hd,WK];dsimp only;constructor
 . intro h e;rw[e] at h;simp at h
 . split <;> simp
theorem ZH (hd:t.dummies=#[]):∀fuel p,p.dummy=none->SetTable.probe.go t ha hh fuel p=some (.empty j d)->t.slot j=.empty/\d=none:=by
 intro fuel
 induction fuel with
 | zero=>intro p _ h;unfold SetTable.probe.go at h;cases h
 | succ fuel ih=>
  intro p hp h;unfold SetTable.probe.go at h;cases e:t.slot p.j with
  | empty=>rw[e] at h;simp only[JF,SetTable.Met.empty.injEq] at h;exact⟨by rw[<-h.1];exact e,by rw[<-h.2];exact hp⟩
  | dummy=>exact absurd e (V7 hd).2
  | live i=>
   rw[e] at h;dsimp only at h;split at h
   . cases h
   . refine ih _ ?_ h;unfold SetTable.advance;split
     . exact hp
     . exact hp
theorem cV {t:SetTable}(hd:t.dummies=#[])(h:t.freeSlot hh=some (j,w)):t.place[SetTable.below t.place j]?≠some j:=by
 unfold SetTable.freeSlot at h;cases e:t.probe (fun _=>hh+1) hh (t.probeStart hh) with
 | none=>rw[e] at h;cases h
 | some met=>
  rw[e] at h;cases met with
  | candidate a b c=>cases h
  | empty j' d=>obtain⟨e1,e2⟩:=ZH hd _ _ rfl e;subst e2;simp only[Option.getD_none,JF,Prod.mk.injEq] at h;rw[<-h.1];exact (V7 hd).1 e1
theorem Kq (g:GT led t)(h:t.place[SetTable.below t.place j]?≠some j):GT led (t.put j).1:=by unfold SetTable.put;refine⟨?_,g.ld,fun hp=>Y5 (g.rs hp) h⟩;dsimp only;rw[g.dm,WK];rfl
theorem P6 (g:GT led t)(n):GT led (t.standIn n):=⟨rfl,g.ld,fun h=>by cases h⟩
theorem NS (g:GT led t)(n):GT led (t.orStandIn n):=by
 unfold SetTable.orStandIn;split
 . exact g
 . exact P6 g n
theorem Lc (g:GT led t)(es)(h)(x):GT led (layNew t es h x).2.1:=by
 unfold layNew;cases e:t.freeSlot h with
 | none=>exact P6 g _
 | some q=>obtain⟨j,w⟩:=q;exact NS (Kq g (cV g.dm e)) _
theorem YD {f:Nat->Option Nat}:∀(l:List Nat),l.Pairwise (· < ·)->((l.filterMap fun j=>(f j).map (j,·)).map (·.1)).Pairwise (· < ·):=by
 intro l h;rw[G9,List.pairwise_filterMap];refine h.imp fun {a b} iW x hx y hy=>?_;cases ea:f a with
 | none=>rw[ea] at hx;cases hx
 | some u=>
  cases eb:f b with
  | none=>rw[eb] at hy;cases hy
  | some v=>rw[ea] at hx;rw[eb] at hy;cases hx;cases hy;exact iW
theorem bu (g:GT led t)(es)(n):GT led (relayAll t es n).2.1:=by
 unfold relayAll;cases e:t.relaid (es.map (·.1)) n with
 | none=>exact P6 g _
 | some q=>
  obtain⟨t',order⟩:=q;dsimp only;split
  . unfold SetTable.relaid SetTable.laid at e;simp only[Option.bind_eq_bind,Option.bind_eq_some_iff,Option.pure_def,JF,Prod.mk.injEq] at e;obtain⟨owner,_,e1,_⟩:=e;rw[<-e1];refine⟨rfl,g.ld,fun _=>?_⟩;show List.Pairwise _ (List.map _ _).toArray.toList;exact YD _ List.pairwise_lt_range
  . exact P6 g _
end STb
namespace STb
open PySem PySem.Spec PyProof.Rows L2
structure To (prog:Program)(w:World)(led:Bool)(S:Int->Bool)(n:Nat)(el:Array (Int×Value))(tb:SetTable):Prop where
 elm:ElemsOf (intKind prog w) el.toList
 mem:∀k,S k=true↔∃e∈el.toList,(intKind prog w).is k e.2=true
 few:el.size<scanBound
 fit:tb.fits el.size=true
 siz:el.size=n
 gt:GT led tb
def B6 (prog:Program)(w:World)(led:Bool)(h:Heap)(a:Addr)(S:Int->Bool)(n:Nat):Prop:=
 ∃ob el ep tb,h.get? a=some ob/\ob.ExactSet/\ob.data=.set el ep tb/\To prog w led S n el tb
theorem B6.keep (x:B6 prog w led h a S n)(k:∀o,h.get? a=some o->h'.get? a=some o):B6 prog w led h' a S n:=
 let ⟨ob,el,ep,tb,g1,g2,g3,g4⟩:=x;⟨ob,el,ep,tb,k _ g1,g2,g3,g4⟩
theorem B6.congr (x:B6 prog w led h a S n)(e:∀k,S' k=S k)(en:n'=n):B6 prog w led h a S' n':=by obtain⟨ob,el,ep,tb,g1,g2,g3,g4⟩:=x;subst en;exact⟨ob,el,ep,tb,g1,g2,g3,⟨g4.elm,fun k=>by rw[e k];exact g4.mem k,g4.few,g4.fit,g4.siz,g4.gt⟩⟩
theorem V9 {h:Heap}(g1:h.get? a=some ob)(g3:ob.data=.set el ep tb)(el')(tb':SetTable):
 (h.update a (Obj.putSet el' tb')).get? a=some { ob with data:=.set el' (ep+1) tb' }:=by
 have q:=zq (Obj.putSet el' tb') g1 (by rw[putSet_of el' tb' g3];rfl);rwa [putSet_of el' tb' g3] at q
theorem VC {note:Bool->Sem Unit}
 (hn:∀b s₁ Q',Q' () s₁->wpAny (model prog w) A (note b) Q' E s₁)
 (g1:s.heap.get? a=some ob)(g2:ob.ExactSet)(g3:ob.data=.set el ep tb)(B:To prog w led S n fC gV)
 (q:∀h',Heap.SameBut a s.heap h'->B6 prog w led h' a S n->R (some true) { s with heap:=h' }):
 wpAny (model prog w) A (storeSet a fC gV >>= fun _=>if (!wd && gV.tooFull)=true then (note (relayAll gV fC (SetTable.grown fC.size)).2.2 >>= fun _=>storeSet a (relayAll gV fC (SetTable.grown fC.size)).1 (relayAll gV fC (SetTable.grown fC.size)).2.1 >>= fun _=>pure (some true)) else pure (some true)) R E s:=by
 refine zA (wpAny_storeSet_of g1 g3 ?_ (fits_of_scanBound B.few));have p1:=V9 g1 g3 fC gV;have b1:=EC s.heap a (Obj.putSet fC gV);by_cases c:(!wd && gV.tooFull)=true
 . rw[if_pos c];have pm:=relayAll_perm gV fC (SetTable.grown fC.size);have pf:=relayAll_fits gV fC (SetTable.grown fC.size);have pg:=bu B.gt fC (SetTable.grown fC.size);generalize relayAll gV fC (SetTable.grown fC.size)=ra at pm pf pg ⊢;obtain⟨el2,tb2,gv⟩:=ra;dsimp only at pm pf pg ⊢;have z:el2.size=fC.size:=by rw[<-Array.length_toList,pm.length_eq,Array.length_toList]
   refine zA (hn _ _ _ (zA (wpAny_storeSet_of p1 rfl ?_ (fits_of_scanBound (by rw[z];exact B.few)))));refine zC (q _ (b1.trans (EC _ a _)) ⟨_,el2,_,tb2,V9 p1 rfl el2 tb2,g2,rfl,⟨B.elm.perm pm,fun k=>(B.mem k).trans ?_,by rw[z];exact B.few,pf,by rw[z];exact B.siz,pg⟩⟩);exact⟨fun ⟨e,he,u⟩=>⟨e,pm.mem_iff.mpr he,u⟩,fun ⟨e,he,u⟩=>⟨e,pm.mem_iff.mp he,u⟩⟩
 . rw[if_neg c];exact zC (q _ b1 ⟨_,fC,_,gV,p1,g2,rfl,B⟩)
theorem Nc (G:B6 prog w led s.heap a S n)(room:n+1<scanBound)
 (q:∀h',Heap.SameBut a s.heap h'->B6 prog w led h' a (fun j=>S j || decide (j=k)) (if S k then n else n+1)->Q (!S k) { s with heap:=h' }):
 wpAny (model prog w) A (setAddHashed a (.int k tk) ((intKind prog w).hash k)) Q E s:=by
 have kk:(intKind prog w).is k (.int k tk)=true:=intKind_is _ _ _ _;obtain⟨ob,el,ep,tb,g1,g2,g3,B⟩:=G;unfold setAddHashed setAddHashedIn;refine zu (zA (HC g1 g3 B.fit ?_));dsimp only;rw[byScan_of (knd:=intKind prog w) (x:=.int k tk) rfl B.few B.elm];rw[if_pos rfl];unfold setAddByScan;refine zA (zA (Cs (zA (wpAny_setScan_of kk g1 g3 B.fit B.elm ?_))));cases fi:el.toList.findIdx? (fun e=>(intKind prog w).is k e.2) with
 | some j=>
  obtain⟨hj,hp,_⟩:=List.findIdx?_eq_some_iff_getElem.mp fi;have yes:S k=true:=(B.mem k).mpr ⟨_,Cq hj,hp⟩;refine zC (zC ?_);have r:=q s.heap (Heap.SameBut.refl a s.heap) ⟨ob,el,ep,tb,g1,g2,g3,⟨B.elm,fun i=>?_,B.few,B.fit,by rw[yes];exact B.siz,B.gt⟩⟩
  . rw[yes] at r;exact r
  . rw[Bool.or_eq_true,decide_eq_true_eq,<-B.mem i];exact⟨fun z=>z.elim id fun e=>by rw[e];exact yes,.inl⟩
 | none=>
  have no:S k=false:=by
   cases hk:S k with
   | false=>rfl
   | true=>obtain⟨e,he,hp⟩:=(B.mem k).mp hk;have:=List.findIdx?_eq_none_iff.mp fi e he;rw[hp] at this;cases this
  dsimp only;have pm:=layNew_perm tb el ((intKind prog w).hash k) (.int k tk);have pf:=layNew_fits tb el ((intKind prog w).hash k) (.int k tk);have pg:=Lc B.gt el ((intKind prog w).hash k) (.int k tk);generalize layNew tb el ((intKind prog w).hash k) (.int k tk)=la at pm pf pg ⊢;obtain⟨fC,gV,wd,gv⟩:=la;dsimp only at pm pf pg ⊢;rw[Array.toList_push] at pm;have z:fC.size=n+1:=by rw[<-Array.length_toList,pm.length_eq,zM,Array.length_toList,B.siz];rfl
  have B1:To prog w led (fun j=>S j || decide (j=k)) (n+1) fC gV:=⟨(B.elm.push kk rfl).perm pm,mem_push_iff kk B.mem pm,by rw[z];exact room,pf,z,pg⟩;have fin:∀h',Heap.SameBut a s.heap h'->B6 prog w led h' a (fun j=>S j || decide (j=k)) (n+1)->Q true { s with heap:=h' }:=fun h' hs hG=>by have r:=q h' hs;rw[no] at r;exact r hG
  have nt:∀(b:Bool)(s₁:Shared)(Q':Unit->Shared->Prop),Q' () s₁->wpAny (model prog w) A (match b with | true=>rule "set.scan.the-table-gave-way" | false=>pure ()) Q' E s₁:=fun b s₁ Q' u=>by
   cases b
   . exact zC u
   . exact Cs u
  refine zA (nt gv _ _ ?_);by_cases c:gV.plain=true
  . rw[if_pos c];refine zA (wpAny_of_eq (m':=pure true) rfl (zC ?_));rw[if_pos rfl];exact VC nt g1 g2 g3 B1 fun h' hs hG=>zC (fin h' hs hG)
  . rw[if_neg c];refine zA (zC ?_);rw[if_pos rfl];exact VC nt g1 g2 g3 B1 fun h' hs hG=>zC (fin h' hs hG)
theorem Eh:Slot "set_iterator" "__next__" "set_iterator.__next__" := .of (owner := "set_iterator") (n := "__next__") (by rw[typeLookup_type,builtinLookup_eq_fast];kernel_rfl) (by decide +kernel) (by decide +kernel) (by decide +kernel) (by first | exact .inl (by decide +kernel) | exact .inr (by decide +kernel)) (by rw[isSubtype_type];kernel_rfl)
theorem WX:Slot "set_iterator" "__iter__" "set_iterator.__iter__" := .of (owner := "set_iterator") (n := "__iter__") (by rw[typeLookup_type,builtinLookup_eq_fast];kernel_rfl) (by decide +kernel) (by decide +kernel) (by decide +kernel) (by first | exact .inl (by decide +kernel) | exact .inr (by decide +kernel)) (by rw[isSubtype_type];kernel_rfl)
theorem QB:entryFor table "set_iterator.__next__"=some Builtin.«set_iterator.__next__» := entryFor_of_tree (by kernel_rfl)
theorem Y9:entryFor table "set_iterator.__iter__"=some Builtin.«dict_keyiterator.__iter__» := entryFor_alias (id' := "dict_keyiterator.__iter__") (by kernel_rfl) (by first | rfl | decide +kernel) (by decide +kernel) (by kernel_rfl)
theorem cH:entryFor table "set.__iter__"=some Builtin.«frozenset.__iter__» := entryFor_alias (id' := "frozenset.__iter__") (by kernel_rfl) (by first | rfl | decide +kernel) (by decide +kernel) (by kernel_rfl)
theorem U4:Manifest.owners.lookup (String.ofList ['r','o','t','a','r','e','t','i','_','t','e','s'].reverse)=some Manifest.sig_set_iterator:=by kernel_rfl
theorem Px (a):argsOk "set_iterator.__next__" ⟨[a],[]⟩:=by
 unfold argsOk;rw[signature?_of (id := "set_iterator.__next__") (n:=['_','_','t','x','e','n','_','_']) (o:=['r','o','t','a','r','e','t','i','_','t','e','s']) (by kernel_rfl) U4]
 kernel_rfl
theorem bg (a):argsOk "set_iterator.__iter__" ⟨[a],[]⟩:=by
 unfold argsOk;rw[signature?_of (id := "set_iterator.__iter__") (n:=['_','_','r','e','t','i','_','_']) (o:=['r','o','t','a','r','e','t','i','_','t','e','s']) (by kernel_rfl) U4]
 kernel_rfl
theorem Sb {α:Type}:∀{l:List α}{k:Nat}{x:α},l[k]?=some x->(x::l.eraseIdx k).Perm l
 | [],_,_,h=>by simp at h
 | _::_,0,_,h=>by simp at h;subst h;exact List.Perm.refl _
 | y::r,k+1,x,h=>by show (x::y::r.eraseIdx k).Perm (y::r);exact (List.Perm.swap y x _).trans ((Sb (by simpa using h)).cons y)
theorem XM (next:Nat->Nat):∀(fuel k:Nat)(left:List α)(out:Array α),left.length=fuel->(pickOrder.go next fuel k left out).toList.Perm (out.toList++left)
 | 0,k,left,out,h=>by have:left=[]:=Ld.mp h;subst this;unfold pickOrder.go;rw[BR]
 | fuel+1,k,left,out,h=>by unfold pickOrder.go;have hl:next k%left.length<left.length:=Nat.mod_lt _ (by lia);have e:left[next k%left.length]?=some left[next k%left.length]:=zB hl;rw[e];dsimp only;refine (XM next fuel (k+1) _ _ (by rw[List.length_eraseIdx,if_pos hl];lia)).trans ?_;rw[Array.toList_push,List.append_assoc];exact (Sb e).append_left _
theorem Vw (next:Nat->Nat)(xs:Array α):(pickOrder next xs).toList.Perm xs.toList:=by have:=XM next xs.size 0 xs.toList #[] (by simp);simpa [pickOrder] using this
theorem NR (hn:n≠0)(h:∀i d',i<n->Q i { s with drawn:=d' }):wpAny (model prog w) A (choose src n) Q E s:=
 fun _ _ _=>⟨hn,h _ _ (Nat.mod_lt _ (Nat.pos_of_ne_zero hn))⟩
theorem WZ :∀(k:Nat)(xs:List α)(s:Shared)(Q:List α->Shared->Prop),xs.length=k->(∀ys d',ys.Perm xs->Q ys { s with drawn:=d' })->wpAny (model prog w) A (drawOrder k xs) Q E s
 | 0,xs,s,Q,h,q=>by have:xs=[]:=Ld.mp h;subst this;unfold drawOrder;exact zC (q [] s.drawn (List.Perm.refl _))
 | k+1,[],s,Q,h,q=>by cases h
 | k+1,x::r,s,Q,h,q=>by unfold drawOrder;refine zA (NR (by simp) fun i d' hi=>?_);have e:(x::r)[i]?=some (x::r)[i]:=zB hi;rw[e];dsimp only;refine zA (WZ k _ _ _ (by rw[List.length_eraseIdx,if_pos hi];lia) fun ys d2 hp=>zC ?_);exact q _ d2 ((hp.cons _).trans (Sb e))
def Bf (h:Heap)(a:Addr)(el:Array (Int×Value))(ep:Nat)(tb:SetTable):Prop:=∃ob,h.get? a=some ob/\ob.ExactSet/\ob.data=.set el ep tb
theorem Bf.keep (x:Bf h a el ep tb)(k:∀o,h.get? a=some o->h'.get? a=some o):Bf h' a el ep tb:=let ⟨ob,g,r⟩:=x;⟨ob,k _ g,r⟩
theorem Bf.typeIs {s:Shared}(x:Bf s.heap a el ep tb):s.TypeIs (.ref a) "set" := let ⟨ob,g,c,_⟩:=x;⟨ob,g,c.1⟩
theorem Bf.lt (x:Bf h a el ep tb):a<h.objs.size:=let ⟨_,g,_⟩:=x;zU g
def SI (h:Heap)(I:Addr)(f:Value)(i n ep:Nat)(a:Addr):Prop:=∃o,h.get? I=some o/\o.cls=.type "set_iterator"/\o.data=.fields #[f,.int i 0,.ref a,.int n 0,.int ep 0]
theorem SI.typeIs {s:Shared}(x:SI s.heap I f i n ep a):s.TypeIs (.ref I) "set_iterator" := let ⟨o,h,c,_⟩:=x;⟨o,h,c⟩
theorem SI.keep (x:SI h I f i n ep a)(k:∀o,h.get? I=some o->h'.get? I=some o):SI h' I f i n ep a:=let ⟨o,g,r⟩:=x;⟨o,k _ g,r⟩
section
variable {prog:Program}{w:World}{A:Around}{E:Bw}{s:Shared}{a I:Addr}{el:Array (Int×Value)}{ep:Nat}{tb:SetTable}
noncomputable def EK (f:Value)(n ep:Nat)(a:Addr):Obj:={ cls:=.type "set_iterator",data:=.fields #[f,.int 0 0,.ref a,.int n 0,.int ep 0] }
theorem Z2 (hm:Bf s.heap a el ep tb)(hf:tb.fits el.size=true)
 (qa:(w.params.followText "set-order"=true\/tb.plain=true\/el.size<=1)->Q (.ref s.heap.objs.size) { s with heap:=s.heap.push (EK (.int 0 0) el.size ep a) })
 (qb:∀(ys:List Nat)d',ys.Perm (List.range el.size)->Q (.ref (s.heap.push { cls:=.type "tuple",data:=.seq (ys.map fun (i:Nat)=>rawInt i).toArray }).objs.size) { s with heap:=(s.heap.push { cls:=.type "tuple",data:=.seq (ys.map fun (i:Nat)=>rawInt i).toArray }).push (EK (.ref s.heap.objs.size) el.size ep a),drawn:=d' }) (hz:el.size<=100000):
 wpAny (model prog w) A (pyIter (.ref a)) Q E s:=by
 obtain⟨ob,g1,g2,g3⟩:=id hm;refine wpAny_pyIter_slot hm.typeIs F.slot_set_iter (CF F.slot_set_iter hm.typeIs cH ?_ (F.args_set_iter_1 _));unfold Builtin.«frozenset.__iter__»;refine zA ?_;refine zA (zC (zC ?_));refine zA ?_;unfold Builtin.Frozenset.sizeOf;refine zA (wpAny_setEntries_of g1 g3 hf (zC ?_));unfold setDrawn setsByText;refine zA (zA (HC g1 g3 hf (zA (zA (wpAny_askSetting (zC (zC ?_)))))));show wpAny _ _ (if (!w.params.followText "set-order" && (!tb.plain && decide (el.size > 1)))=true then _ else _) _ _ s
 by_cases c:(!w.params.followText "set-order" && (!tb.plain && decide (el.size > 1)))=true
 . rw[if_pos c];refine zA (WZ _ _ _ _ (by rw[Bu]) fun ys d' hp=>zA ?_);unfold newTuple;refine Bi ?_ ?_
   . unfold setEpoch;refine zA (zA (HC (zG _ g1) g3 hf (zC ?_)));refine zA (Bi (zC ⟨_,rfl, "set_iterator",_,⟨_,zN _ rfl,rfl⟩,Eh.lookup,?_⟩));exact qb ys d' hp
   . show (List.toArray _).size<=sizeLine;rw[zL,zD,hp.length_eq,Bu];have:sizeLine=16777216:=rfl
     lia
 . rw[if_neg c];refine zA (zC ?_);unfold setEpoch;refine zA (zA (HC g1 g3 hf (zC ?_)));refine zA (Bi (zC ⟨_,rfl, "set_iterator",_,⟨_,zN _ rfl,rfl⟩,Eh.lookup,?_⟩));refine qa ?_;by_cases c1:w.params.followText "set-order"=true
   . exact .inl c1
   . right;by_cases c2:tb.plain=true
     . exact .inl c2
     . right;by_cases c3:el.size<=1
       . exact c3
       . exact absurd (by simp[c1,c2];lia) c
theorem UH (hm:Bf s.heap a el ep tb)(hf:tb.fits el.size=true)(ht:w.params.followText "set-order"=true)
 (q:Q (((pickOrder (w.params.setOrder a ep) el)[given]?).map fun e=>(e.2,slot)) s):wpAny (model prog w) A (setNext a slot given ep) Q E s:=by
 obtain⟨ob,g1,g2,g3⟩:=id hm;unfold setNext setsByText;refine zA (HC g1 g3 hf (zA (zA (wpAny_askSetting (zC ?_)))));show wpAny _ _ (if w.params.followText "set-order"=true then _ else _) _ _ s
 rw[if_pos ht];show wpAny _ _ (if (ep != ep)=true then _ else _) _ _ s
 rw[if_neg (by simp)];unfold setWalk setsByText;refine zA (zA (HC g1 g3 hf (zA (zA (wpAny_askSetting (zC ?_))))));show wpAny _ _ (if w.params.followText "set-order"=true then _ else _) _ _ s
 rw[if_pos ht];refine zA (wpAny_askSetting (zC (zC q)))
theorem U7 (hm:Bf s.heap a el ep tb)(hf:tb.fits el.size=true)(ht:w.params.followText "set-order"=false) (hp:tb.plain=true\/el.size<=1)(hl:tb.led=true)(hi:SetTable.below tb.place slot=i)
 (q:Q (match el[i]?,tb.place[i]? with | some (_,x),some j=>some (x,j+1) | _,_=>none) s):wpAny (model prog w) A (setNext a slot given ep) Q E s:=by
 obtain⟨ob,g1,g2,g3⟩:=id hm;unfold setNext setsByText;refine zA (HC g1 g3 hf (zA (zA (wpAny_askSetting (zC ?_)))));show wpAny _ _ (if w.params.followText "set-order"=true then _ else _) _ _ s
 rw[if_neg (by rw[ht];simp)];show wpAny _ _ (if (!tb.plain && decide (el.size > 1))=true then _ else _) _ _ s
 rw[if_neg (by rcases hp with z | z <;> simp[z])];show wpAny _ _ ((if (!tb.led && !el.isEmpty)=true then _ else _) >>= _) _ _ s
 rw[if_neg (by rw[hl];simp)];refine zA (zC ?_);dsimp only;rw[hi];exact zC q
def WL (prog:Program)(w:World)(a:Addr)(slot i ep:Nat)(r:Option (Value×Nat))(s:Shared):Prop:=∀A E Q,Q r s->wpAny (model prog w) A (setNext a slot i ep) Q E s
theorem Kw {h:Heap}{i n:Nat}(ho:h.get? I=some o)(hc:o.cls=.type "set_iterator") (hd:o.data=.fields #[f,.int i 0,.ref a,.int n 0,.int ep 0]):
 SI ((h.update I (Obj.mapFields (·.setIfInBounds 0 f'))).update I (Obj.mapFields (·.setIfInBounds 1 (rawInt ((i:Int)+1))))) I f' (i+1) n ep a:=by
 have e1:(h.update I (Obj.mapFields (·.setIfInBounds 0 f'))).get? I=some (Obj.mapFields (·.setIfInBounds 0 f') o):=zq _ ho (Obj.isFreed_of_fields (Obj.data_mapFields hd _));have d1:=Obj.data_mapFields hd (·.setIfInBounds 0 f');refine⟨_,zq _ e1 (Obj.isFreed_of_fields (Obj.data_mapFields d1 _)),(Obj.cls_mapFields ..).trans ((Obj.cls_mapFields ..).trans hc),?_⟩;rw[Obj.data_mapFields d1];simp[rawInt]
theorem KP {h:Heap}{i n:Nat}(ho:h.get? I=some o)(hc:o.cls=.type "set_iterator") (hd:o.data=.fields #[f,.int i 0,.ref a,.int n 0,.int ep 0]):
 SI (h.update I (Obj.mapFields (·.setIfInBounds 1 (rawInt ((i:Int)+1))))) I f (i+1) n ep a:=by
 refine⟨_,zq _ ho (Obj.isFreed_of_fields (Obj.data_mapFields hd _)),(Obj.cls_mapFields ..).trans hc,?_⟩;rw[Obj.data_mapFields hd];simp[rawInt]
theorem U6 {slot:Nat}(hit:SI s.heap I (.int slot 0) i el.size ep a)(hm:Bf s.heap a el ep tb)(hf:tb.fits el.size=true)(hs:WL prog w a slot i ep (some (x,nx)) s)
 (hQ:∀h',SI h' I (.int nx 0) (i+1) el.size ep a->Heap.SameBut I s.heap h'->Q (some x) { s with heap:=h' }):wpAny (model prog w) A (pyNext (.ref I)) Q E s:=by
 obtain⟨o,ho,hc,hd⟩:=id hit;obtain⟨ob,g1,g2,g3⟩:=id hm;unfold pyNext;refine zA (F1 (D0 (name:=Str.ofString "__next__") hit.typeIs Eh (CF Eh hit.typeIs QB ?_ (Px _))));unfold Builtin.«set_iterator.__next__»;refine zA (zC ?_);refine zA (wpAny_fieldsOf ho hd ?_);refine zA (wpAny_setEntries_of g1 g3 hf ?_);rw[if_neg (by simp)];dsimp only;rw[zv,zv,zv];refine zA (hs _ _ _ ?_);dsimp only;refine zA (Fp ho hd (by simp) ?_);have e1:(s.heap.update I (Obj.mapFields (·.setIfInBounds 0 (rawInt (nx:Int))))).get? I=some (Obj.mapFields (·.setIfInBounds 0 (rawInt (nx:Int))) o):=zq _ ho (Obj.isFreed_of_fields (Obj.data_mapFields hd _));refine zA (Fp e1 (Obj.data_mapFields hd _) (by simp) ?_);refine zC ⟨_,rfl,zC (hQ _ (Kw ho hc hd) ((EC ..).trans (EC ..)))⟩
theorem Vn {Q:Option Value->Shared->Prop}(hh:A.handled=none)(hQ:∀h',(∀b o,h0.get? b=some o->h'.get? b=some o)->Q none { s with heap:=h' }):
 wpAny (model prog w) A.in1 (newExc (.type "StopIteration") [] >>= fun e=>raiseNew (α:=Fin) e) R (fun e s'=>wpAny (model prog w) A (isInstance e (.type "StopIteration") >>= fun b=>if b=true then pure none else throw e) Q E s') { s with heap:=h0 }:=by
 refine zA ?_;simp only[newExc,newTuple];refine zA (Bi ?_ (by size_fits));refine zA (m:=firstArgMember _ _) (wpAny_of_eq (m':=pure Value.none) (by first | rfl | (simp only[firstArgMember];rfl)) (zC ?_));refine Bi ?_ (by size_fits);simp only[raiseNew];refine zA (wpAny_handled ?_);rw[show A.in1.handled=none from hh];refine zA (zC (wpAny_throw ?_));refine zA (DM (T := "StopIteration") (b:=true) ⟨_,zN _ rfl,rfl⟩ isSubtype_stop ?_);exact zC (hQ _ fun b o e=>zG _ (zG _ e))
theorem IZ {slot:Nat}(hh:A.handled=none)(hit:SI s.heap I (.int slot 0) i el.size ep a)(hm:Bf s.heap a el ep tb)(hf:tb.fits el.size=true)(hs:WL prog w a slot i ep none s)
 (hQ:∀h',(∀b o,b≠I->s.heap.get? b=some o->h'.get? b=some o)->Q none { s with heap:=h' }):wpAny (model prog w) A (pyNext (.ref I)) Q E s:=by
 obtain⟨o,ho,hc,hd⟩:=id hit;obtain⟨ob,g1,g2,g3⟩:=id hm;unfold pyNext;refine zA (F1 (D0 (name:=Str.ofString "__next__") hit.typeIs Eh (CF Eh hit.typeIs QB ?_ (Px _))));unfold Builtin.«set_iterator.__next__»;refine zA (zC ?_);refine zA (wpAny_fieldsOf ho hd ?_);refine zA (wpAny_setEntries_of g1 g3 hf ?_);rw[if_neg (by simp)];dsimp only;rw[zv,zv,zv];refine zA (hs _ _ _ ?_);dsimp only;refine zA (Fp ho hd (by simp) ?_);refine Vn hh fun h' k=>hQ h' fun b o' nb e=>k b o' ((EC s.heap I _).extBut b o' nb e)
end
section
variable {prog:Program}{w:World}{A:Around}{E:Bw}{s:Shared}{a I tp:Addr}{el:Array (Int×Value)}{ep:Nat}{tb:SetTable}
def JM (h:Heap)(tp:Addr)(ys:List Nat):Prop:=∃o n,h.get? tp=some o/\o.data=.seq (ys.map fun (i:Nat)=>rawInt i).toArray n
theorem JM.keep (x:JM h tp ys)(k:∀o,h.get? tp=some o->h'.get? tp=some o):JM h' tp ys:=let ⟨o,n,e,d⟩:=x;⟨o,n,k _ e,d⟩
theorem Jp (hit:SI s.heap I (.ref tp) i el.size ep a)(hm:Bf s.heap a el ep tb)(hf:tb.fits el.size=true)(ht:JM s.heap tp ys)(hy:ys[i]?=some y)(he:el[y]?=some e)
 (hQ:∀h',SI h' I (.ref tp) (i+1) el.size ep a->Heap.SameBut I s.heap h'->Q (some e.2) { s with heap:=h' }):wpAny (model prog w) A (pyNext (.ref I)) Q E s:=by
 obtain⟨o,ho,hc,hd⟩:=id hit;obtain⟨ob,g1,g2,g3⟩:=id hm;obtain⟨ot,n,t1,t2⟩:=ht;unfold pyNext;refine zA (F1 (D0 (name:=Str.ofString "__next__") hit.typeIs Eh (CF Eh hit.typeIs QB ?_ (Px _))));unfold Builtin.«set_iterator.__next__»;refine zA (zC ?_);refine zA (wpAny_fieldsOf ho hd ?_);refine zA (wpAny_setEntries_of g1 g3 hf ?_);rw[if_neg (by simp)];refine zA (ES t1 t2 ?_);dsimp only;have ey:(ys.map fun (i:Nat)=>rawInt i).toArray[(i:Int).toNat]?=some (.int (y:Int) 0):=by rw[zv,DD,zO,hy];rfl
 rw[ey];dsimp only;rw[zv,zv];unfold setNextDrawn;refine zA (zA (HC g1 g3 hf ?_));show wpAny _ _ (if (ep != ep)=true then _ else _) _ _ s
 rw[if_neg (by simp)];obtain⟨e1,e2⟩:=e;show wpAny _ _ (match el[y]? with | some (_,x)=>_ | _=>_) _ _ s
 rw[he];refine zC ?_;refine zA (Fp ho hd (by simp) ?_);exact zC ⟨_,rfl,zC (hQ _ (KP ho hc hd) (EC ..))⟩
theorem O6 (hh:A.handled=none)(hit:SI s.heap I (.ref tp) i el.size ep a)(hm:Bf s.heap a el ep tb)(hf:tb.fits el.size=true)(ht:JM s.heap tp ys)(hy:ys[i]?=none)
 (hQ:∀h',(∀b o,b≠I->s.heap.get? b=some o->h'.get? b=some o)->Q none { s with heap:=h' }):wpAny (model prog w) A (pyNext (.ref I)) Q E s:=by
 obtain⟨o,ho,hc,hd⟩:=id hit;obtain⟨ob,g1,g2,g3⟩:=id hm;obtain⟨ot,n,t1,t2⟩:=ht;unfold pyNext;refine zA (F1 (D0 (name:=Str.ofString "__next__") hit.typeIs Eh (CF Eh hit.typeIs QB ?_ (Px _))));unfold Builtin.«set_iterator.__next__»;refine zA (zC ?_);refine zA (wpAny_fieldsOf ho hd ?_);refine zA (wpAny_setEntries_of g1 g3 hf ?_);rw[if_neg (by simp)];refine zA (ES t1 t2 ?_);dsimp only;have ey:(ys.map fun (i:Nat)=>rawInt i).toArray[(i:Int).toNat]?=none:=by rw[zv,DD,zO,hy];rfl
 rw[ey];dsimp only;refine zA (Fp ho hd (by simp) ?_);have e1:(s.heap.update I (Obj.mapFields (·.setIfInBounds 0 (rawInt 0)))).get? I=some (Obj.mapFields (·.setIfInBounds 0 (rawInt 0)) o):=zq _ ho (Obj.isFreed_of_fields (Obj.data_mapFields hd _));refine zA (Fp e1 (Obj.data_mapFields hd _) (by simp) ?_);refine Vn hh fun h' k=>hQ h' fun b o' nb e=>k b o' ((EC _ I _).extBut b o' nb ((EC s.heap I _).extBut b o' nb e))
theorem WH (hit:SI s.heap I f i el.size ep a)(h:Q (.ref I) s):wpAny (model prog w) A (pyIter (.ref I)) Q E s:=by refine wpAny_pyIter_slot hit.typeIs WX (CF WX hit.typeIs Y9 ?_ (bg _));show wpAny _ _ (ret (.ref I)) _ _ s;exact zC ⟨_,rfl, "set_iterator",_,hit.typeIs,Eh.lookup,h⟩
noncomputable def DV (w:World)(a:Addr)(ep:Nat)(el:Array (Int×Value)):List (Int×Value):=if w.params.followText "set-order"=true then (pickOrder (w.params.setOrder a ep) el).toList else el.toList
theorem SE:(DV w a ep el).Perm el.toList:=by
 unfold DV;split
 . exact Vw _ _
 . exact List.Perm.refl _
theorem Uv (h:xs.size<=1):Dq xs:=by
 unfold Dq;have hl:xs.toList.length<=1:=by simpa using h
 generalize xs.toList=l at hl;cases l with
 | nil=>exact Io
 | cons x r=>cases r with
  | nil=>exact List.pairwise_singleton _ _
  | cons y r=>simp at hl
theorem LY (hh:A.handled=none)(hIa:a≠I)(hf:tb.fits el.size=true)(hc:w.params.followText "set-order"=true\/tb.plain=true\/el.size<=1) (gt:GT (!w.params.followText "set-order") tb):
 Walks prog w A I [I,a] [I] el.size (fun i v=>∃e,(DV w a ep el)[i]?=some e/\v=e.2) (fun i h=>∃slot:Nat,SI h I (.int slot 0) i el.size ep a/\Bf h a el ep tb/\(w.params.followText "set-order"=false->SetTable.below tb.place slot=i)) where
 sub:=fun b hb=>by simp at hb;simp[hb]
 frame:=fun _ _ _ ⟨slot,h1,h2,h3⟩ hk=>⟨slot,h1.keep fun o e=>hk I (by simp) o e,h2.keep fun o e=>hk a (by simp) o e,h3⟩
 item:=fun i s Q E hi ⟨slot,h1,h2,h3⟩ hQ=>by
  have lo:i<(DV w a ep el).length:=by rw[SE.length_eq];simpa using hi
  cases ht:w.params.followText "set-order" with
  | true=>
   have ei:(pickOrder (w.params.setOrder a ep) el)[i]?=some (DV w a ep el)[i]:=by
    rw[<-Array.getElem?_toList];have:(pickOrder (w.params.setOrder a ep) el).toList=DV w a ep el:=by unfold DV;rw[if_pos ht]
    rw[this];exact zB lo
   refine U6 (x:=(DV w a ep el)[i].2) (nx:=slot) h1 h2 hf (fun A' E' Q' q=>UH h2 hf ht (by rw[ei];exact q)) fun h' st sb=>?_;exact hQ _ h' s.toks ⟨_,zB lo,rfl⟩ ⟨slot,st,h2.keep fun o e=>sb.extBut a o hIa e,fun z=>by rw[ht] at z;cases z⟩ fun b o hb e=>sb.extBut b o (fun z=>hb (by simp[z])) e
  | false=>
   have hp:tb.plain=true\/el.size<=1:=hc.resolve_left (by rw[ht];simp);have ps:tb.place.size=el.size:=by simp only[SetTable.fits,zx,beq_iff_eq] at hf;exact hf.1
   have rs:Dq tb.place:=hp.elim gt.rs fun z=>Uv (by lia);have eo:DV w a ep el=el.toList:=by unfold DV;rw[if_neg (by rw[ht];simp)]
   have e1:el[i]?=some el[i]:=Array.getElem?_eq_getElem hi;have e2:tb.place[i]?=some (tb.place[i]'(by lia)):=Array.getElem?_eq_getElem (by lia);refine U6 (x:=el[i].2) (nx:=tb.place[i]'(by lia)+1) h1 h2 hf (fun A' E' Q' q=>U7 (i:=i) h2 hf ht hp (by rw[gt.ld,ht];rfl) (h3 ht) (by rw[e1,e2];exact q)) fun h' st sb=>?_;exact hQ _ h' s.toks ⟨el[i],by rw[eo,Array.getElem?_toList];exact e1,rfl⟩ ⟨_,st,h2.keep fun o e=>sb.extBut a o hIa e,fun _=>YH rs e2⟩ fun b o hb e=>sb.extBut b o (fun z=>hb (by simp[z])) e
 done:=fun s Q E ⟨slot,h1,h2,h3⟩ hQ=>by
  cases ht:w.params.followText "set-order" with
  | true=>
   have ei:(pickOrder (w.params.setOrder a ep) el)[el.size]?=none:=by rw[<-Array.getElem?_toList];exact zw (by rw[(Vw _ _).length_eq];simp)
   exact IZ hh h1 h2 hf (fun A' E' Q' q=>UH h2 hf ht (by rw[ei];exact q)) fun h' k=>hQ h' s.toks fun b o hb e=>k b o (fun z=>hb (by simp[z])) e
  | false=>have hp:tb.plain=true\/el.size<=1:=hc.resolve_left (by rw[ht];simp);exact IZ hh h1 h2 hf (fun A' E' Q' q=>U7 (i:=el.size) h2 hf ht hp (by rw[gt.ld,ht];rfl) (h3 ht) (by rw[Array.getElem?_eq_none (zJ _)];exact q)) fun h' k=>hQ h' s.toks fun b o hb e=>k b o (fun z=>hb (by simp[z])) e
 self:=fun i s Q E ⟨slot,h1,_⟩ h=>WH h1 h
theorem LV {ys:List Nat}(hh:A.handled=none)(hIa:a≠I)(hIt:tp≠I)(hf:tb.fits el.size=true)(hp:ys.Perm (List.range el.size)):
 Walks prog w A I [I,a,tp] [I] el.size (fun i v=>∃y e,ys[i]?=some y/\el[y]?=some e/\v=e.2) (fun i h=>SI h I (.ref tp) i el.size ep a/\Bf h a el ep tb/\JM h tp ys) where
 sub:=fun b hb=>by simp at hb;simp[hb]
 frame:=fun _ _ _ ⟨h1,h2,h3⟩ hk=>⟨h1.keep fun o e=>hk I (by simp) o e,h2.keep fun o e=>hk a (by simp) o e,h3.keep fun o e=>hk tp (by simp) o e⟩
 item:=fun i s Q E hi ⟨h1,h2,h3⟩ hQ=>by
  have hl:ys.length=el.size:=by rw[hp.length_eq,Bu]
  have e1:ys[i]?=some ys[i]:=zB (by lia);have hy:ys[i]<el.size:=C0.mp (hp.mem_iff.mp (Cq _));have e2:el[ys[i]]?=some el[ys[i]]:=Array.getElem?_eq_getElem hy;refine Jp h1 h2 hf h3 e1 e2 fun h' st sb=>?_;exact hQ _ h' s.toks ⟨_,_,e1,e2,rfl⟩ ⟨st,h2.keep fun o e=>sb.extBut a o hIa e,h3.keep fun o e=>sb.extBut tp o hIt e⟩ fun b o hb e=>sb.extBut b o (fun z=>hb (by simp[z])) e
 done:=fun s Q E ⟨h1,h2,h3⟩ hQ=>by
  have hl:ys.length=el.size:=by rw[hp.length_eq,Bu]
  exact O6 hh h1 h2 hf h3 (zw (by lia)) fun h' k=>hQ h' s.toks fun b o hb e=>k b o (fun z=>hb (by simp[z])) e
 self:=fun i s Q E ⟨h1,_⟩ h=>WH h1 h
end
end STb
namespace STb
open PySem PySem.Spec PyProof.Rows PySem.Calls L2
theorem Wo (hT:s.TypeIs (.ref a) "set") (h:Q false s):wpAny (model prog w) A (Builtin.List.listLengthHint (.ref a)) Q E s:=by
 unfold Builtin.List.listLengthHint;refine zA (wpAny_specialOf hT PySem.F.slot_set_len.lookup ?_);generalize Ax:("set.__len__" : String)=id0
 wp_delta
 rw[show splitId id0=some ("set", "__len__") from by subst Ax;decide +kernel];subst Ax;refine zA (DM (T := "set") (b:=true) hT sub_set_self ?_);refine wpAny_ite_split (fun iW=>absurd iW (by decide)) (fun _=>?_);refine wpAny_ite_split (fun _=>zA (CT hT (zC h))) (fun iW=>absurd (by decide +kernel) iW)
theorem QX {St:Nat->Heap->Prop}{s0:Shared}(W:Walks prog w A.in1 I fp [I] n P St)(hSf:S∉fp)(hn:n<=sizeLine)(hI:s0.heap.objs.size<=I)
 (k0:∀b o,b≠S->s0.heap.get? b=some o->s.heap.get? b=some o)(st:St 0 s.heap)(hS:s.heap.get? S=some { cls:=.type "list",data:=.seq #[] c })
 (q:∀s' acc c',s'.gens=s.gens->s'.drawn=s.drawn->s'.os=s.os->(∀b o,b≠S->s0.heap.get? b=some o->s'.heap.get? b=some o)->s'.heap.get? S=some { cls:=.type "list",dict:=none,data:=.seq acc c',slots:=#[] }->ItemsOf P acc n->R (.ok (.ret res)) s'):
 codeAny (model prog w) A (.builtin "list.extend.loop" ⟨[.ref S,.ref I,res],[]⟩) R s:=by
 refine codeAny_extend_loopS W.toS hn S hSf res n 0 s #[] c rfl (zg _) st hS (ItemsOf.nil _) fun s' acc c' mv eY ha=>?_;refine q s' acc c' mv.gens mv.drawn mv.os (fun b o hb e=>mv.heap b o (fun z=>?_) (k0 b o hb e)) eY ha;rcases zT.mp z with z | z
 . exact hb z
 . have dW:=zU e;rw[zh.mp z] at dW;exact absurd (zm dW hI) (D9 _)
def FK (el:Array (Int×Value))(acc:Array Value):Prop:=∃l:List (Int×Value),l.Perm el.toList/\acc.toList=l.map (·.2)
theorem WC (h:ItemsOf (fun i v=>∃e,(DV w a ep el)[i]?=some e/\v=e.2) acc el.size):FK el acc:=by
 refine⟨DV w a ep el,SE,?_⟩;have hl:(DV w a ep el).length=el.size:=by rw[SE.length_eq];simp
 apply List.ext_getElem?;intro j;by_cases hj:j<el.size
 . have hz:j<acc.size:=by rw[h.1];exact hj
   obtain⟨e,he,hv⟩:=h.2 j acc[j] (by simp[hz]);rw[Array.getElem?_toList,Array.getElem?_eq_getElem hz,hv,zO,he];rfl
 . rw[zw (by rw[Array.length_toList,h.1];lia),zw (by rw[zD];lia)]
theorem ZX {α:Type}{l:List α}{ys:List Nat}(h:ys.Perm (List.range l.length)):(ys.filterMap fun i=>l[i]?).Perm l:=by refine (h.filterMap _).trans ?_;rw[List.filterMap_getElem?_range_length]
theorem UK {ys:List Nat}(hp:ys.Perm (List.range el.size))(h:ItemsOf (fun i v=>∃y e,ys[i]?=some y/\el[y]?=some e/\v=e.2) acc el.size):FK el acc:=by
 have hl:ys.length=el.size:=by rw[hp.length_eq,Bu]
 refine⟨ys.map fun y=>el.toList.getD y (0,.none),?_,?_⟩
 . have e:(ys.map fun y=>el.toList.getD y (0,.none))=ys.filterMap fun i=>el.toList[i]?:=by
    rw[<-List.filterMap_eq_map];refine fm_eq fun y hy=>?_;have dw:y<el.toList.length:=by have:=C0.mp (hp.mem_iff.mp hy);simpa using this
    simp only[Function.comp];rw[zF,zB dw];rfl
   rw[e];exact ZX (by simpa using hp)
 . apply List.ext_getElem?;intro j;by_cases hj:j<el.size
   . have hz:j<acc.size:=by rw[h.1];exact hj
     obtain⟨y,e,h1,h2,hv⟩:=h.2 j acc[j] (by simp[hz]);rw[Array.getElem?_toList,Array.getElem?_eq_getElem hz,hv,zO,zO,h1];show some e.2=some (el.toList.getD y (0,.none)).2;rw[zF,Array.getElem?_toList,h2];rfl
   . rw[zw (by rw[Array.length_toList,h.1];lia),zw (by rw[zD,zD];lia)]
where
 fm_eq {α β:Type}{f g:α->Option β}:∀{l:List α},(∀m∈l,f m=g m)->l.filterMap f=l.filterMap g
  | [],_=>rfl
  | x::r,h=>by rw[HD,HD,h x zS,fm_eq fun m hm=>h m (zZ _ hm)]
theorem Yg (hh:A.handled=none)(hm:Bf s.heap a el ep tb)(hf:tb.fits el.size=true)(gt:GT (!w.params.followText "set-order") tb) (hz:el.size<=100000)(hSa:S≠a)
 (hS:s.heap.get? S=some { cls:=.type "list",data:=.seq #[] c })
 (q:∀s' acc c',s'.gens=s.gens->s'.os=s.os->(∀b o,b≠S->s.heap.get? b=some o->s'.heap.get? b=some o)->s'.heap.get? S=some { cls:=.type "list",dict:=none,data:=.seq acc c',slots:=#[] }->FK el acc->R (.ok (.ret res)) s'):
 wpAny (model prog w) A.in1 (Builtin.List.listExtendWith (.ref S) (.ref a) res)
  (fun fin s'=>match fin with | .done f=>R (.ok f) s' | .again c'=>c'.quiet=true/\codeAny (model prog w) A c' R s') (fun e s'=>R (.error e) s') s:=by
 have nS:el.size<=sizeLine:=by have:sizeLine=16777216:=rfl;lia
 unfold Builtin.List.listExtendWith;refine zA (CT (T := "set") hm.typeIs ?_);have h1:Builtin.List.listSameRef (.ref S) (.ref a)=false:=by simp[Builtin.List.listSameRef,hSa]
 have h2:(Value.type "set" == Value.type "list")=false:=by decide
 have h3:(Value.type "set" == Value.type "tuple")=false:=by decide
 simp only[h1,h2,h3,Bool.or_false,Fy,if_false];have nSI:∀I,s.heap.objs.size<=I->S≠I:=fun I h z=>absurd (zm (zU hS) h) (by rw[z];exact D9 _);have naI:∀I,s.heap.objs.size<=I->a≠I:=fun I h z=>absurd (zm hm.lt h) (by rw[z];exact D9 _);refine zA (Z2 hm hf (fun hc=>?_) (fun ys d' hp=>?_) hz)
 . have W:=LY (prog:=prog) (w:=w) (A:=A.in1) (I:=s.heap.objs.size) (ep:=ep) hh (naI _ (zJ _)) hf hc gt;have nf:S∉[s.heap.objs.size,a]:=by simp only[zT,F0,or_false,not_or];exact⟨nSI _ (zJ _),hSa⟩
   have kp:∀b o,s.heap.get? b=some o->(s.heap.push (EK (.int 0 0) el.size ep a)).get? b=some o:=fun b o e=>zG _ e;have st0:∃slot:Nat,SI (s.heap.push (EK (.int 0 0) el.size ep a)) s.heap.objs.size (.int slot 0) 0 el.size ep a/\Bf (s.heap.push (EK (.int 0 0) el.size ep a)) a el ep tb/\(w.params.followText "set-order"=false->SetTable.below tb.place slot=0):=by
    refine⟨0,⟨_,zN _ rfl,rfl,rfl⟩,hm.keep fun o e=>kp _ o e,fun ht=>YY ?_⟩;have ps:tb.place.size=el.size:=by simp only[SetTable.fits,zx,beq_iff_eq] at hf;exact hf.1
    exact (hc.resolve_left (by rw[ht];simp)).elim gt.rs fun z=>Uv (by lia)
   refine zA (zu (Wo (Bf.typeIs (hm.keep fun o e=>kp _ o e)) ?_));refine wpAny_ite_split (fun _=>?_) (fun _=>?_)
   . refine zA (Cs (zA ?_));show wpAny _ _ (updateSeq S (·.push .none) >>= fun _=>updateSeq S (·.pop)) _ _ _;refine zA (wpAny_updateSeq (kp _ _ hS) rfl ?_);have hS2:=zq (Obj.mapSeq (·.push Value.none)) (kp _ _ hS) rfl;refine wpAny_updateSeq (hz:=by seq_fits) hS2 rfl ?_;have hS3:=zq (Obj.mapSeq (·.pop)) hS2 rfl;have up:∀b o,b≠S->(s.heap.push (EK (.int 0 0) el.size ep a)).get? b=some o->(((s.heap.push (EK (.int 0 0) el.size ep a)).update S (Obj.mapSeq (·.push Value.none))).update S (Obj.mapSeq (·.pop))).get? b=some o:=fun b o hb e=>(GY _ _ (Ne.symm hb)).trans ((GY _ _ (Ne.symm hb)).trans e);refine zC ⟨plainId_quiet PySem.F.plain_extend_loop _,QX W nf nS (zJ _) (fun b o hb e=>up b o hb (kp b o e)) (W.frame 0 _ _ st0 fun b hb o e=>up b o (fun z=>nf (z ▸ hb)) e) hS3 fun s' acc c' e1 _ e3 k eY ha=>q s' acc c' e1 e3 k eY (WC ha)⟩
   . exact zC ⟨plainId_quiet PySem.F.plain_extend_loop _,QX W nf nS (zJ _) (fun b o _ e=>kp b o e) st0 (kp _ _ hS) fun s' acc c' e1 _ e3 k eY ha=>q s' acc c' e1 e3 k eY (WC ha)⟩
 . have hT:(s.heap.push { cls:=.type "tuple",data:=.seq (ys.map fun (i:Nat)=>rawInt i).toArray }).objs.size=s.heap.objs.size+1:=CV ..;have hI:s.heap.objs.size<=(s.heap.push { cls:=.type "tuple",data:=.seq (ys.map fun (i:Nat)=>rawInt i).toArray }).objs.size:=by rw[hT];exact Bc _
   have ntI:s.heap.objs.size≠(s.heap.push { cls:=.type "tuple",data:=.seq (ys.map fun (i:Nat)=>rawInt i).toArray }).objs.size:=by rw[hT];exact zc (Nat.lt_succ_self _)
   have W:=LV (prog:=prog) (w:=w) (A:=A.in1) (I:=(s.heap.push { cls:=.type "tuple",data:=.seq (ys.map fun (i:Nat)=>rawInt i).toArray }).objs.size) (tp:=s.heap.objs.size) (tb:=tb) (ep:=ep) hh (naI _ hI) ntI hf hp;have nf:S∉[(s.heap.push { cls:=.type "tuple",data:=.seq (ys.map fun (i:Nat)=>rawInt i).toArray }).objs.size,a,s.heap.objs.size]:=by simp only[zT,F0,or_false,not_or];exact⟨nSI _ hI,hSa,nSI _ (zJ _)⟩
   have kp:∀b o,s.heap.get? b=some o->((s.heap.push { cls:=.type "tuple",data:=.seq (ys.map fun (i:Nat)=>rawInt i).toArray }).push (EK (.ref s.heap.objs.size) el.size ep a)).get? b=some o:=fun b o e=>zG _ (zG _ e);have st0:SI ((s.heap.push { cls:=.type "tuple",data:=.seq (ys.map fun (i:Nat)=>rawInt i).toArray }).push (EK (.ref s.heap.objs.size) el.size ep a)) (s.heap.push { cls:=.type "tuple",data:=.seq (ys.map fun (i:Nat)=>rawInt i).toArray }).objs.size (.ref s.heap.objs.size) 0 el.size ep a/\Bf ((s.heap.push { cls:=.type "tuple",data:=.seq (ys.map fun (i:Nat)=>rawInt i).toArray }).push (EK (.ref s.heap.objs.size) el.size ep a)) a el ep tb/\JM ((s.heap.push { cls:=.type "tuple",data:=.seq (ys.map fun (i:Nat)=>rawInt i).toArray }).push (EK (.ref s.heap.objs.size) el.size ep a)) s.heap.objs.size ys:=
    ⟨⟨_,zN _ rfl,rfl,rfl⟩,hm.keep fun o e=>kp _ o e,⟨_,_,zG _ (zN _ rfl),rfl⟩⟩
   generalize (s.heap.push { cls:=.type "tuple",data:=.seq (ys.map fun (i:Nat)=>rawInt i).toArray }).objs.size=I0 at hT hI ntI W nf st0 kp ⊢;generalize (s.heap.push { cls:=.type "tuple",data:=.seq (ys.map fun (i:Nat)=>rawInt i).toArray }).push (EK (.ref s.heap.objs.size) el.size ep a)=h0 at st0 kp ⊢;refine zA (zu (Wo (Bf.typeIs (hm.keep fun o e=>kp _ o e)) ?_));refine wpAny_ite_split (fun _=>?_) (fun _=>?_)
   . refine zA (Cs (zA ?_));show wpAny _ _ (updateSeq S (·.push .none) >>= fun _=>updateSeq S (·.pop)) _ _ _;refine zA (wpAny_updateSeq (kp _ _ hS) rfl ?_);have hS2:=zq (Obj.mapSeq (·.push Value.none)) (kp _ _ hS) rfl;refine wpAny_updateSeq (hz:=by seq_fits) hS2 rfl ?_;have hS3:=zq (Obj.mapSeq (·.pop)) hS2 rfl;have up:∀b o,b≠S->h0.get? b=some o->((h0.update S (Obj.mapSeq (·.push Value.none))).update S (Obj.mapSeq (·.pop))).get? b=some o:=fun b o hb e=>(GY _ _ (Ne.symm hb)).trans ((GY _ _ (Ne.symm hb)).trans e);refine zC ⟨plainId_quiet PySem.F.plain_extend_loop _,QX (s0:=s) W nf nS hI (fun b o hb e=>up b o hb (kp b o e)) (W.frame 0 _ _ st0 fun b hb o e=>up b o (fun z=>nf (z ▸ hb)) e) hS3 fun s' acc c' e1 _ e3 k eY ha=>q s' acc c' e1 e3 k eY (UK hp ha)⟩
   . exact zC ⟨plainId_quiet PySem.F.plain_extend_loop _,QX (s0:=s) W nf nS hI (fun b o _ e=>kp b o e) st0 (kp _ _ hS) fun s' acc c' e1 _ e3 k eY ha=>q s' acc c' e1 e3 k eY (UK hp ha)⟩
theorem af (hh:A.handled=none)(hm:Bf s.heap a el ep tb)(hf:tb.fits el.size=true)(gt:GT (!w.params.followText "set-order") tb) (hz:el.size<=100000)
 (q:∀s' acc,s'.gens=s.gens->s'.os=s.os->(∀b o,s.heap.get? b=some o->s'.heap.get? b=some o)->FK el acc->R acc.toList s'):wpAny (model prog w) A (collect (.ref a)) R E s:=by
 unfold collect;refine zA (wpAny_runValue (codeAny_builtin entry_proto_collect' ?_));rw[Around.under_plainId PySem.F.plain_proto_collect _];refine zA (m:=newList []) (Bi ?_);refine zC ⟨plainId_quiet PySem.F.plain_list_iadd _,codeAny_builtin entry_list_iadd' ?_⟩;rw[Around.under_plainId PySem.F.plain_list_iadd _];have hS:(s.heap.push { cls:=.type "list",data:=.seq ([]:List Value).toArray }).get? s.heap.objs.size=some { cls:=.type "list",data:=.seq #[] }:=zN _ rfl;show wpAny _ A.in1 (Builtin.List.listExtendWith (.ref s.heap.objs.size) (.ref a) (.ref s.heap.objs.size)) _ _ _;have key:=Yg (prog:=prog) (w:=w) (A:=A) (s:={ s with heap:=s.heap.push { cls:=.type "list",data:=.seq ([]:List Value).toArray } }) (res:=.ref s.heap.objs.size)
  (R:=fun (u:Result)(s':Shared)=>∃(acc:Array Value)(c':Nat),u=.ok (.ret (.ref s.heap.objs.size))/\s'.gens=s.gens/\s'.os=s.os/\(∀b o,s.heap.get? b=some o->s'.heap.get? b=some o)/\s'.heap.get? s.heap.objs.size=some { cls:=.type "list",dict:=none,data:=.seq acc c',slots:=#[] }/\FK el acc)
  hh (hm.keep fun o e=>zG _ e) hf gt hz (Nat.ne_of_gt hm.lt) hS (fun s' acc c' e1 e2 k eY g=>⟨acc,c',rfl,e1,e2,fun b o e=>k b o (zc (zU e)) (zG _ e),eY,g⟩)
 refine A8 key (fun fin s' x=>?_) fun e s' x=>?_
 . cases fin with
   | done f=>obtain⟨acc,c',e,e1,e2,k,eY,g⟩:=x;cases e;exact zA (wpAny_load eY (zC (q s' acc e1 e2 k g)))
   | again c1=>refine⟨x.1,codeAny_mono x.2 fun u s2 y=>?_⟩;obtain⟨acc,c',rfl,e1,e2,k,eY,g⟩:=y;exact zA (wpAny_load eY (zC (q s2 acc e1 e2 k g)))
 . obtain⟨_,_,e',_⟩:=x;cases e'
end STb
namespace STb
open PySem PySem.Spec PyProof.Rows L2
theorem Wt {St:Nat->Heap->Prop}(W:Walks prog w A.in1 I fp [I] n P St)(hSf:S∉fp)(hSI:S≠I)(val:Nat->Int)(hv:∀i v,P i v->∃t,v=.int (val i) t)(hb:n+1<scanBound):
 ∀k i s,n-i=k->i<=n->St i s.heap->B6 prog w led s.heap S (fun z=>(firstMet val i).any fun x=>x==z) (firstMet val i).length ->
  (∀s':Shared,s'.gens=s.gens->s'.drawn=s.drawn->s'.os=s.os->(∀b o,b≠S->b≠I->s.heap.get? b=some o->s'.heap.get? b=some o)->B6 prog w led s'.heap S (fun z=>(firstMet val n).any fun x=>x==z) (firstMet val n).length->R (.ok (.ret .none)) s') ->
  codeAny (model prog w) A (.builtin "set.update.loop" ⟨[.ref S,.ref I],[]⟩) R s:=by
 intro k
 induction k with
 | zero=>
  intro i s hk hi st G q;obtain rfl:i=n:=by lia
  refine codeAny_builtin PyProof.Rows.F.entry_set_update_loop ?_;rw[Around.under_plainId PyProof.Rows.F.plain_set_update_loop _];refine zA (m:=pyNext (.ref I)) (W.done s _ _ st fun h' tk kp=>?_);refine zC (q _ rfl rfl rfl (fun b o _ hbI e=>kp b o (fun z=>hbI (by simpa using z)) e) (G.keep fun o e=>kp S o (fun z=>hSI (by simpa using z)) e))
 | succ k ih=>
  intro i s hk hi st G q;have dW:i<n:=by lia
  refine codeAny_builtin PyProof.Rows.F.entry_set_update_loop ?_;rw[Around.under_plainId PyProof.Rows.F.plain_set_update_loop _];refine zA (m:=pyNext (.ref I)) (W.item i s _ _ dW st fun v h' tk hP fM kp=>?_);obtain⟨t,rfl⟩:=hv i v hP;have G':B6 prog w led h' S (fun z=>(firstMet val i).any fun x=>x==z) (firstMet val i).length:=G.keep fun o e=>kp S o (fun z=>hSI (by simpa using z)) e;refine zA (m:=holding [Value.int (val i) t] (setAdd S (.int (val i) t))) (zu ?_);unfold setAdd;refine zu (zA ((intKind prog w).pyHash (k:=val i) (intKind_is _ _ _ _) ?_));refine Nc (s:={ s with heap:=h',toks:=tk+1 }) G' (by have:=firstMet_length_le val i;lia) fun h2 sb G2=>?_;have Gi:B6 prog w led h2 S (fun z=>(firstMet val (i+1)).any fun x=>x==z) (firstMet val (i+1)).length:=G2.congr (fun z=>by rw[firstMet_succ,step_any]) (by rw[firstMet_succ,step_length]);refine zC ⟨plainId_quiet PyProof.Rows.F.plain_set_update_loop _,ih (i+1) _ (by lia) dW (W.frame _ _ _ fM fun b hb o e=>(sb.2 b fun z=>hSf (z ▸ hb)).trans e) Gi fun s'' e1 e2 e3 kp2 G3=>?_⟩;exact q s'' e1 e2 e3 (fun b o hbS hbI e=>kp2 b o hbS hbI ((sb.2 b hbS).trans (kp b o (fun z=>hbI (by simpa using z)) e))) G3
noncomputable def CH (w:World):Obj:={ cls:=.type "set",dict:=none,data:=.set #[] 0 (.fresh 0 0 (!w.params.followText "set-order")) }
theorem XG (h:Heap):B6 prog w (!w.params.followText "set-order") (h.push (CH w)) h.objs.size (fun _=>false) 0:=
 ⟨_,#[],0,_,zN _ rfl,⟨rfl,rfl,rfl⟩,rfl,⟨fun e he=>by simp at he,fun k=>by simp,by decide,by rfl,rfl,ZK _⟩⟩
theorem Ho (a)(h:Q₁ (.ref s.heap.objs.size) { s with heap:=s.heap.push (CH w) }):codeAny (model prog w) A (.call (.builtin "set.__new__") ⟨[.type "set",a],[]⟩) (wants Q₁ E) s:=by
 refine codeAny_of_tree (zA (m:=checkBuiltinCall "set.__new__" ⟨[.type "set",a],[]⟩) (wpAny_of_eq (PySem.F.newCall_set_1 a) (zC ⟨plainId_quiet PySem.F.plain_set_new _,codeAny_builtin PySem.F.entry_set_new ?_⟩)));rw[Around.under_plainId PySem.F.plain_set_new _];unfold Builtin.«set.__new__» Builtin.Frozenset.newClass;have sub:=sub_set_self;obtain⟨hp,g,d,tk,os⟩:=s;dsimp only
 wp_walk
 refine wpAny_askSetting (zC ?_);dsimp only;simp only[newObj];exact zA (wpAny_alloc (zC (zC h)))
theorem YK (hA:A.handled=none)(hl:s.heap.IsList l its.toArray)(hi:IntsAre its ns)(hz:its.length+1<scanBound)
 (q:∀h tk,(∀b o,s.heap.get? b=some o->h.get? b=some o)->B6 prog w (!w.params.followText "set-order") h s.heap.objs.size (fun z=>(firstMet (fun i=>ns.getD i 0) its.length).any fun x=>x==z) (firstMet (fun i=>ns.getD i 0) its.length).length->Q (.ref s.heap.objs.size) { s with heap:=h,toks:=tk }):
 wpAny (model prog w) A (call (.type "set") [.ref l]) Q E s:=by
 refine Cj (codeAny_of_tree (zC ⟨Code.quiet_builtin _ (by decide +kernel),codeAny_builtin PySem.F.entry_type_call ?_⟩));unfold Builtin.«type.__call__»;dsimp only;rw[if_neg (by rw[PySem.F.called_set.notType];decide)];rw[if_neg (by rw[PySem.F.called_set.canCreate];decide)];obtain⟨c,tl,hm⟩:=PySem.F.called_set.mro;refine zA (wpAny_of_eq (PySem.F.typeCall_set_1 _) (zC (zA (wpAny_of_eq hm (zC ?_)))));refine zA (wpAny_of_eq PySem.F.called_set.made (zC (zA (zC ?_))));refine zA (zu (Cj (codeAny_mono (Ho (E:=E) (.ref l) (Q₁:=fun obj s₁=>obj=.ref s.heap.objs.size/\s₁={ s with heap:=s.heap.push (CH w) }) ⟨rfl,rfl⟩) fun r s₁ e=>?_)))
 match r,e with
 | .ok (.ret obj),e=>
  obtain⟨rfl,rfl⟩:=e;have h0:∀b o,s.heap.get? b=some o->(s.heap.push (CH w)).get? b=some o:=fun b o e=>zG _ e;have ht:∀h:Heap,(∀b o,s.heap.get? b=some o->h.get? b=some o)->h.IsList l its.toArray:=fun h K=>by obtain⟨o,ho,hr⟩:=hl;exact⟨o,K _ _ ho,hr⟩
  have dW:l<s.heap.objs.size:=by obtain⟨o,ho,_⟩:=hl;exact zU ho
  have tyS:Shared.TypeIs { s with heap:=s.heap.push (CH w) } (.ref s.heap.objs.size) "set" := ⟨_,zN _ rfl,rfl⟩;show wpAny _ _ _ _ _ _;refine zA (DM tyS PySem.F.called_set.sub ?_);refine zA (zu ?_);unfold callSpecial?;refine zA (wpAny_specialOf tyS PySem.F.called_set.init.lookup (zu (zA (wpAny_of_eq (PySem.F.called_set.init.bind _) (zC (zA (Cj (codeAny_call_builtin PySem.F.called_set.init.plain PySem.F.entry_set_init (check_set_init_1 tyS ?_)))))))));unfold Builtin.«set.__init__»;refine zA (wpAny_of_eq (m':=pure ()) rfl (zC ?_));dsimp only;refine zA (zA (zA (CT tyS (wpAny_of_eq (m':=pure (Value.type "set")) rfl (zC (wpAny_of_eq (m':=pure "set") rfl (zC ?_)))))));refine zA (wpAny_of_eq (m':=pure ()) rfl (zC (zA (zC ?_))));refine zA (zA (zA (wpAny_load (zN _ rfl) ?_)));refine wpAny_of_eq (m':=pure (#[],0,SetTable.fresh 0 0 (!w.params.followText "set-order"))) (by unfold CH;cases w.params.followText "set-order" <;> rfl) (zC (wpAny_of_eq (m':=pure false) (by cases w.params.followText "set-order" <;> rfl) (zC ?_)));have tyT:∀h tk,(∀b o,s.heap.get? b=some o->h.get? b=some o)->Shared.TypeIs { s with heap:=h,toks:=tk } (.ref l) "list" := fun h tk K=>by obtain⟨o,ho,hr⟩:=ht h K;exact⟨o,ho,hr.1⟩
  show wpAny _ _ (Builtin.Frozenset.updateFrom "set.__init__" s.heap.objs.size (.ref l) >>= _) _ _ _;unfold Builtin.Frozenset.updateFrom;refine zA (zA (zA (DM (tyT _ _ h0) PySem.F.sub_list_set (DM (tyT _ _ h0) (b:=false) PySem.F.sub_list_frozenset ?_))));refine zA (CT (tyT _ _ h0) ?_);refine zA (wpAny_pyIter_list (ht _ h0) (zA (wpAny_runValue ?_)));have hsz:(s.heap.push (CH w)).objs.size=s.heap.objs.size+1:=CV ..;have nli:l≠(s.heap.push (CH w)).objs.size:=zc (by rw[hsz];exact Dv dW);have nsi:s.heap.objs.size≠(s.heap.push (CH w)).objs.size:=by rw[hsz];exact zc (Nat.lt_succ_self _)
  refine Wt (led:=!w.params.followText "set-order") (Walks.list (prog:=prog) (w:=w) (A:=(A.under (Code.builtin "type.__call__" { pos:=[.type "set",.ref l] })).in1.in1) hA (s.heap.push (CH w)).objs.size l nli its.toArray) ?_ nsi (fun i=>ns.getD i 0) ?_ (by simpa using hz) its.toArray.size 0 _ rfl (zg _) ?_ ?_ ?_
  . intro z;rcases zT.mp z with z | z
    . exact nsi z
    . exact absurd (zh.mp z) (Nat.ne_of_gt dW)
  . intro i v hv;rw[DD] at hv;exact hi.int_at i v hv
  . exact⟨⟨_,zN _ rfl,rfl,rfl⟩,ht _ fun b o e=>zG _ (h0 b o e)⟩
  . exact (XG (prog:=prog) (w:=w) s.heap).keep fun o e=>zG _ e
  . intro s' e1 e2 e3 kp so;refine zC (zC (zC (zC ?_)));obtain⟨h',g',d',t',o'⟩:=s';cases e1;cases e2;cases e3;refine q h' t' (fun b o e=>kp b o (zc (zU e)) (fun z=>?_) (zG _ (h0 b o e))) (by simpa using so);have hb:b<s.heap.objs.size:=zU e;rw[z,hsz] at hb;exact absurd hb (Nat.not_lt.mpr (Bc _))
 | .ok .next,e=>exact e.elim
 | .ok .brk,e=>exact e.elim
 | .ok .cont,e=>exact e.elim
 | .error v,e=>exact e
theorem KO (hA:A.handled=none)(hl:s.heap.IsTuple l its.toArray)(hi:IntsAre its ns)(hz:its.length+1<scanBound)
 (q:∀h tk,(∀b o,s.heap.get? b=some o->h.get? b=some o)->B6 prog w (!w.params.followText "set-order") h s.heap.objs.size (fun z=>(firstMet (fun i=>ns.getD i 0) its.length).any fun x=>x==z) (firstMet (fun i=>ns.getD i 0) its.length).length->Q (.ref s.heap.objs.size) { s with heap:=h,toks:=tk }):
 wpAny (model prog w) A (call (.type "set") [.ref l]) Q E s:=by
 refine Cj (codeAny_of_tree (zC ⟨Code.quiet_builtin _ (by decide +kernel),codeAny_builtin PySem.F.entry_type_call ?_⟩));unfold Builtin.«type.__call__»;dsimp only;rw[if_neg (by rw[PySem.F.called_set.notType];decide)];rw[if_neg (by rw[PySem.F.called_set.canCreate];decide)];obtain⟨c,tl,hm⟩:=PySem.F.called_set.mro;refine zA (wpAny_of_eq (PySem.F.typeCall_set_1 _) (zC (zA (wpAny_of_eq hm (zC ?_)))));refine zA (wpAny_of_eq PySem.F.called_set.made (zC (zA (zC ?_))));refine zA (zu (Cj (codeAny_mono (Ho (E:=E) (.ref l) (Q₁:=fun obj s₁=>obj=.ref s.heap.objs.size/\s₁={ s with heap:=s.heap.push (CH w) }) ⟨rfl,rfl⟩) fun r s₁ e=>?_)))
 match r,e with
 | .ok (.ret obj),e=>
  obtain⟨rfl,rfl⟩:=e;have h0:∀b o,s.heap.get? b=some o->(s.heap.push (CH w)).get? b=some o:=fun b o e=>zG _ e;have ht:∀h:Heap,(∀b o,s.heap.get? b=some o->h.get? b=some o)->h.IsTuple l its.toArray:=fun h K=>by obtain⟨o,ho,hr⟩:=hl;exact⟨o,K _ _ ho,hr⟩
  have dW:l<s.heap.objs.size:=by obtain⟨o,ho,_⟩:=hl;exact zU ho
  have tyS:Shared.TypeIs { s with heap:=s.heap.push (CH w) } (.ref s.heap.objs.size) "set" := ⟨_,zN _ rfl,rfl⟩;show wpAny _ _ _ _ _ _;refine zA (DM tyS PySem.F.called_set.sub ?_);refine zA (zu ?_);unfold callSpecial?;refine zA (wpAny_specialOf tyS PySem.F.called_set.init.lookup (zu (zA (wpAny_of_eq (PySem.F.called_set.init.bind _) (zC (zA (Cj (codeAny_call_builtin PySem.F.called_set.init.plain PySem.F.entry_set_init (check_set_init_1 tyS ?_)))))))));unfold Builtin.«set.__init__»;refine zA (wpAny_of_eq (m':=pure ()) rfl (zC ?_));dsimp only;refine zA (zA (zA (CT tyS (wpAny_of_eq (m':=pure (Value.type "set")) rfl (zC (wpAny_of_eq (m':=pure "set") rfl (zC ?_)))))));refine zA (wpAny_of_eq (m':=pure ()) rfl (zC (zA (zC ?_))));refine zA (zA (zA (wpAny_load (zN _ rfl) ?_)));refine wpAny_of_eq (m':=pure (#[],0,SetTable.fresh 0 0 (!w.params.followText "set-order"))) (by unfold CH;cases w.params.followText "set-order" <;> rfl) (zC (wpAny_of_eq (m':=pure false) (by cases w.params.followText "set-order" <;> rfl) (zC ?_)));have tyT:∀h tk,(∀b o,s.heap.get? b=some o->h.get? b=some o)->Shared.TypeIs { s with heap:=h,toks:=tk } (.ref l) "tuple" := fun h tk K=>by obtain⟨o,ho,hr⟩:=ht h K;exact⟨o,ho,hr.1⟩
  show wpAny _ _ (Builtin.Frozenset.updateFrom "set.__init__" s.heap.objs.size (.ref l) >>= _) _ _ _;unfold Builtin.Frozenset.updateFrom;refine zA (zA (zA (DM (tyT _ _ h0) PySem.F.sub_tuple_set (DM (tyT _ _ h0) (b:=false) rfl ?_))));refine zA (CT (tyT _ _ h0) ?_);refine zA (wpAny_pyIter_tuple (ht _ h0) (zA (wpAny_runValue ?_)));have hsz:(s.heap.push (CH w)).objs.size=s.heap.objs.size+1:=CV ..;have nli:l≠(s.heap.push (CH w)).objs.size:=zc (by rw[hsz];exact Dv dW);have nsi:s.heap.objs.size≠(s.heap.push (CH w)).objs.size:=by rw[hsz];exact zc (Nat.lt_succ_self _)
  refine Wt (led:=!w.params.followText "set-order") (Walks.tuple (prog:=prog) (w:=w) (A:=(A.under (Code.builtin "type.__call__" { pos:=[.type "set",.ref l] })).in1.in1) hA (s.heap.push (CH w)).objs.size l nli its.toArray) ?_ nsi (fun i=>ns.getD i 0) ?_ (by simpa using hz) its.toArray.size 0 _ rfl (zg _) ?_ ?_ ?_
  . intro z;rcases zT.mp z with z | z
    . exact nsi z
    . exact absurd (zh.mp z) (Nat.ne_of_gt dW)
  . intro i v hv;rw[DD] at hv;exact hi.int_at i v hv
  . exact⟨⟨_,zN _ rfl,rfl,rfl⟩,ht _ fun b o e=>zG _ (h0 b o e)⟩
  . exact (XG (prog:=prog) (w:=w) s.heap).keep fun o e=>zG _ e
  . intro s' e1 e2 e3 kp so;refine zC (zC (zC (zC ?_)));obtain⟨h',g',d',t',o'⟩:=s';cases e1;cases e2;cases e3;refine q h' t' (fun b o e=>kp b o (zc (zU e)) (fun z=>?_) (zG _ (h0 b o e))) (by simpa using so);have hb:b<s.heap.objs.size:=zU e;rw[z,hsz] at hb;exact absurd hb (Nat.not_lt.mpr (Bc _))
 | .ok .next,e=>exact e.elim
 | .ok .brk,e=>exact e.elim
 | .ok .cont,e=>exact e.elim
 | .error v,e=>exact e
end STb
namespace L2
open PySem PySem.Spec PyProof.Rows STb
theorem Rn (val:Nat->Int):∀i,(firstMet val i).Nodup
 | 0=>List.nodup_nil
 | i+1=>by
  have ih:=Rn val i;rw[firstMet_succ];unfold step_dedup;split
  . exact ih
  . rename_i h
    refine List.nodup_append.mpr ⟨ih,by simp,fun a ha b hb e=>h ?_⟩;rw[zh.mp hb] at e;subst e;exact List.any_eq_true.mpr ⟨_,ha,by simp⟩
theorem Uj:∀{l2 l1:List Int},l2.Nodup->(∀x∈l2,x∈l1)->l1.length<=l2.length->l1.Perm l2
 | [],l1,_,_,h=>by have:l1=[]:=Ld.mp (by simpa using h);subst this;exact List.Perm.refl _
 | x::r,l1,nd,hs,h=>by
  have hx:x∈l1:=hs x zS;have nx:x∉r:=(F6.mp nd).1;refine (List.perm_cons_erase hx).trans ((Uj (F6.mp nd).2 (fun y hy=>?_) ?_).cons x)
  . exact (List.mem_erase_of_ne (a:=y) (b:=x) (fun z=>nx (by rw[<-z];exact hy))).mpr (hs y (zZ _ hy))
  . rw[List.length_erase_of_mem hx];simp only[zo] at h
    lia
theorem XO :∀{l:List (Int×Value)},ElemsOf (intKind prog w) l->∃ns:List Int,IntsAre (l.map (·.2)) ns/\∀z,z∈ns↔∃e∈l,(intKind prog w).is z e.2=true
 | [],_=>⟨[],.nil,fun z=>by simp⟩
 | e::r,h=>by
  obtain⟨ns,h1,h2⟩:=XO (l:=r) h.tail;obtain⟨⟨k,hk,_⟩,_⟩:=h.head;obtain⟨t,et⟩:=Value.isInt_shape hk;refine⟨k::ns,?_,fun z=>?_⟩
  . rw[BX,et];exact .cons k t h1
  . rw[zT,h2];constructor
    . rintro (rfl | ⟨e',gJ,hz⟩)
      . exact⟨e,zS,hk⟩
      . exact⟨e',zZ _ gJ,hz⟩
    . rintro ⟨e',gJ,hz⟩;rcases zT.mp gJ with rfl | gJ
      . exact .inl ((intKind prog w).inj _ _ _ hz hk)
      . exact .inr ⟨e',gJ,hz⟩
theorem J4 (ns:List Int)(z):((firstMet (fun i=>ns.getD i 0) ns.length).any fun x=>x==z)=true↔z∈ns:=by
 rw[firstMet_any];have e:(List.range ns.length).map (fun i=>ns.getD i 0)=ns:=by
  apply List.ext_getElem
  . simp
  . intro i h1 h2;simp[h2]
 rw[e,List.any_eq_true];exact⟨fun ⟨x,hx,h⟩=>by rw[<-eq_of_beq h];exact hx,fun h=>⟨z,h,by simp⟩⟩
theorem bx {ms:List Int}(h1:ms.Pairwise (· <= ·))(h2:ms.Nodup):ms.Pairwise (· < ·):=by
 rw[Mh] at h1 ⊢;intro i j hi hj eX;have a:=h1 i j hi hj eX;have b:ms[i]≠ms[j]:=fun z=>by have:=(List.getElem_inj h2).mp z;lia
 lia
section
open PySem.W PySem.Calls SortT
theorem Z0 (hh:A.handled=none)(G:B6 prog w (!w.params.followText "set-order") s.heap a S n) (gz:n<64)
 (q:∀(s1:Shared)(h':Heap)(D:Addr)(ms:List Int)(us:List Value)(c:Nat),s1.gens=s.gens->s1.os=s.os->(∀b o,s.heap.get? b=some o->s1.heap.get? b=some o)->(∀b o,s1.heap.get? b=some o->h'.get? b=some o)->s1.heap.objs.size<=D->h'.get? D=some (seqObj "list" us.toArray c)->AK (ms.map V.int) us->ms.Pairwise (· <= ·)->(∀z,z∈ms↔S z=true)->ms.length=n->Q (.ref D) { s1 with heap:=h' }):
 wpAny (model prog w) A (call (.builtin "sorted") [.ref a]) Q E s:=by
 obtain⟨ob,el,ep,tb,g1,g2,g3,B⟩:=G;refine Calls.call_function_entry kind_sorted plain_sorted entry_sorted (args_sorted1 _) ?_;unfold Builtin.«sorted»;refine zA (m:=checkCount "sorted" 1 1 _) (zC ?_);refine zA (af (A:=A.in1) hh ⟨ob,g1,g2,g3⟩ B.fit B.gt (by have:=B.siz;lia) fun s1 acc e1 e2 k1 hg=>?_);obtain⟨l,lp,la⟩:=hg;obtain⟨ns,hI,hm⟩:=XO (B.elm.perm lp);have hl:l.length=n:=by rw[lp.length_eq,Array.length_toList,B.siz]
 have hvl:acc.toList.length=n:=by rw[la,zD,hl]
 rw[<-la] at hI;generalize acc.toList=vs at hI hvl;refine zA (GQ ?_ (by rw[sizeLine_eq];lia));have gT:(s1.heap.push (seqObj "list" vs.toArray 0)).get? s1.heap.objs.size=some (seqObj "list" vs.toArray 0):=zN _ rfl;have kp1:∀b o,s1.heap.get? b=some o->(s1.heap.push (seqObj "list" vs.toArray 0)).get? b=some o:=fun b o z=>zG _ z;refine zA (zu (CF slot_list_sort ⟨_,gT,rfl⟩ entry_list_sort (SortT.list_sort (O:=F2) (key:=fun i=>ns.getD i 0) (κ:=oneType') gT (by lia) (fun h2=>WG hI h2) fun out hp=>⟨_,rfl,?_⟩) (args_list_sort _)));refine zC ⟨_,rfl,?_⟩;obtain⟨c,hc⟩:=sortedHeap_at (vs:=vs) (out:=(out.map fun i=>vs.getD i Value.none).toArray) gT;obtain⟨ms,pm,pr,rz,pl⟩:=Zd hI hp;refine q s1 _ _ ms _ c e1 e2 k1 (fun b o z=>?_) (zJ _) hc rz pr (fun z=>?_) (by rw[pl,<-hI.length,hvl])
 . have hb:b<s1.heap.objs.size:=zU z;rw[sortedHeap_old (zc hb) (by rw[CV];exact Dv hb)];exact kp1 b o z
 . rw[pm.mem_iff,hm z,B.mem z];exact⟨fun ⟨e,he,u⟩=>⟨e,lp.mem_iff.mp he,u⟩,fun ⟨e,he,u⟩=>⟨e,lp.mem_iff.mpr he,u⟩⟩
end
def Ze (K:AJ)(ta:TA):TE:=fun σ H Q=>ta σ H fun vs H1=>∃p,∃(ns:List Int),vs=[.ref p]/\(AE K H1 p (ns.map V.int)\/AC K H1 p (ns.map V.int))/\ns.length<64/\∀l(ms:List Int),H1 l=none->ms.Pairwise (· < ·)->(∀z:Int,z∈ms↔z∈ns)->Q (.ref l) (upd H1 l (.lst (ms.map V.int)))
theorem cT (hc:X.calm=true)(hgS:Gl X "sorted") (hmS:X.mg "sorted"=none) (hgT:Gl X "set") (hmT:X.mg "set"=none) (ha:PA X [a] ta)(hs:starEach [a] X.env=[(false,eval a X.env)]:=by rfl)
 (iH:starEach [.Call (.Name "set" p2) [a] [] pos2] X.env=[(false,eval (.Call (.Name "set" p2) [a] [] pos2) X.env)]:=by rfl):
 PE X (.Call (.Name "sorted" p1) [.Call (.Name "set" p2) [a] [] pos2] [] pos1) (Ze X.K ta):=by
 intro pins s σ H Q I h;refine Gb (EJ I hgS hmS (by decide +kernel:bootBuiltins "sorted"=some (.builtin "sorted")) ?_ (by decide) (by decide));refine PyProof.Rows.callWith_builtin1 ?_ iH rfl;rw[iH];refine Calls.spliced_cons ?_;refine Call_ (EJ I hgT hmT (by decide +kernel:bootBuiltins "set"=some (.type "set")) (PyProof.Rows.callWith_type1 (AI (ha pos2 pins s σ H _ I h) fun us s1 ⟨vs,H1,I1,r1,q1⟩=>?_) hs rfl));obtain⟨p,ns,e,hq,gz,q⟩:=q1;subst e;obtain⟨u,rfl,rx⟩:=Cb r1;cases rx;have lh:(firstMet (fun i=>ns.getD i 0) ns.length).length<=ns.length:=firstMet_length_le _ _;have key:∀(h:Heap)(tk:Nat),(∀b o,s1.heap.get? b=some o->h.get? b=some o)->B6 X.prog X.w (!X.w.params.followText "set-order") h s1.heap.objs.size (fun z=>(firstMet (fun i=>ns.getD i 0) ns.length).any fun x=>x==z) (firstMet (fun i=>ns.getD i 0) ns.length).length ->
  wpAny (model X.prog X.w) X.A (call (.builtin "sorted") [.ref s1.heap.objs.size]) (EP X pins σ Q) X.xe { s1 with heap:=h,toks:=tk }:=by
  intro h tk K so;refine Z0 (I1.ok.hd hc) so (by lia) fun s2 h' D ms us c e1 e2 k1 k2 hD ho rz pr hm hlen=>?_;obtain⟨eT,g2,d2,t2,o2⟩:=s2;cases e1;cases e2;have kk:∀b o,s1.heap.get? b=some o->eT.get? b=some o:=fun b o z=>k1 b o (K b o z);have I2:AB X pins σ H1 { s1 with heap:=eT,gens:=s1.gens,drawn:=d2,toks:=t2 }:=I1.call (ch:=[]) (Un.kept kk) (I1.hok.kept kk) I1.bare fun _ z=>nomatch z;have cov:=Uj (l2:=firstMet (fun i=>ns.getD i 0) ns.length) (l1:=ms) (Rn _ _) (fun x hx=>(hm x).mpr (List.any_eq_true.mpr ⟨x,hx,by simp⟩)) (by lia);refine⟨.ref D,_,Qt (t':=t2) I2 hD k2 ho rz ?_,rfl,q D ms (I2.hok.fresh hD) (bx pr (cov.nodup_iff.mpr (Rn _ _))) fun z=>(hm z).trans (J4 ns z)⟩;have:sizeLine=16777216:=rfl;rw[zD]
  lia
 have sb:scanBound=4096:=rfl;rcases hq with hq | hq
 . obtain⟨its,rv,pl,hz⟩:=I1.list hq;have hi:=Dz rv;have iL:=hi.length;refine YK (I1.ok.hd hc) pl.isList hi (by lia) fun h tk K so=>?_;rw[iL] at so;exact Calls.spliced_nil (key h tk K so)
 . obtain⟨its,rv,pl,hz⟩:=I1.tuple hq;have hi:=Dz rv;have iL:=hi.length;refine KO (I1.ok.hd hc) pl hi (by lia) fun h tk K so=>?_;rw[iL] at so;exact Calls.spliced_nil (key h tk K so)
end L2
namespace L2
open PySem PySem.Spec PyProof.Rows
theorem AB.turnedLaid {t':Nat}{fp:List Addr}{a:Addr}{o:HO}(I:AB X pins σ H s)(hf:∀b∈fp,BB X pins H b)(k:∀b u,b∉fp->s.heap.get? b=some u->h'.get? b=some u)(hp:s.heap.objs.size<=a)
 (new:Av X.prog X.w (upd H a o) h' a o):AB X pins σ (upd H a o) { s with heap:=h',toks:=t' }:=by
 have fr:H a=none:=I.hok.fresh hp;have nfp:∀b u,H b=some u->b∉fp:=fun b u e z=>by rw[(hf b z).1] at e;cases e
 have na:∀b u,H b=some u->b≠a:=fun b u e z=>by rw[z,fr] at e;cases e
 refine I.step (g':=s.gens) (d':=s.drawn) (ch:=fp) (fun b hb=>?_) (fun b u _ _ hc e _=>k b u hc e) (fun b u _ _ hc e _=>⟨u.slots,k b u hc e⟩) (fun b u hc e n=>?_) (fun b u hc e=>⟨u,k b u hc e⟩)
  (fun b xs e=>by rw[zk (na b _ e)];exact e) (fun b u w e=>by rw[zk (na b _ e)];exact e) (fun b ps e=>⟨#[],by rw[zk (na b _ e),e];simp⟩) (fun m hm=>?_) (fun b u e=>?_) I.bare
 . obtain⟨f0,f1,f2,f3,f4,f5⟩:=hf b hb;exact⟨f3,f1,f4,f5⟩
 . rw[zk (zc (zm (zU e) hp))];exact n
 . obtain⟨u,es,ep,ho,r⟩:=hm;exact⟨u,es,ep,k _ u (fun z=>(hf _ z).2.1 rfl) ho,r⟩
 . by_cases z:b=a
   . subst z;rw[zK] at e;cases e;exact new
   . rw[zk z] at e;refine (I.hok b u e).stay (fun c v hc q=>k c v ?_ q) (fun c q=>by rw[zk (na c _ q)];exact q) fun c xs q=>by rw[zk (na c _ q)];exact q
     rcases hc with z | z
     . rw[z];exact nfp b u e
     . exact nfp c _ z
end L2
namespace L2
open PySem PySem.Spec PyProof.Rows
open PySem.AutoSeq1 (wpAny_loadPart')
theorem YZ (hi:s.heap.IsTupleIter it t i)(ht:s.heap.IsTuple t items)(hx:items[i]?=some x)
 (hQ:∀h',h'.IsTupleIter it t (i+1)->Heap.SameBut it s.heap h'->Q x { s with heap:=h' }):wpAny (model prog w) A (Builtin.SmallTypes.nextOf (.ref it)) Q E s:=by
 obtain⟨oi,iq,ci,di⟩:=id hi;obtain⟨ot,hot,_,nt,dt⟩:=ht;unfold Builtin.SmallTypes.nextOf;refine zA (D0 (name:=Str.ofString "__next__") hi.typeIs PySem.F.slot_tuple_iterator_next (CF PySem.F.slot_tuple_iterator_next hi.typeIs PySem.F.entry_tuple_iterator_next ?_ (PySem.F.args_tuple_iterator_next_1 _)));show wpAny (model prog w) _ (field (.ref it) 0 >>= _) _ _ s;refine zA (Ej iq di (x:=.ref t) rfl ?_);show wpAny (model prog w) _ (if (Value.ref t==Value.none)=true then _ else _) _ _ s;rw[if_neg (show ¬ ((Value.ref t==Value.none)=true) from zn)]
 show wpAny (model prog w) _ (field (.ref it) 1 >>= _) _ _ s;refine zA (Ej iq di (x:=.int i 0) rfl ?_);show wpAny (model prog w) _ (seqItems? (.ref t) >>= _) _ _ s;refine zA (ES hot dt ?_);simp only[hx,zv];refine zA (Fp iq di (by simp) (zC ⟨x,rfl,zC (hQ _ ?_ (EC ..))⟩));refine⟨_,zq _ iq (Obj.isFreed_of_fields (Obj.data_mapFields di _)),(Obj.cls_mapFields ..).trans ci,?_⟩;rw[Obj.data_mapFields di];simp[rawInt]
theorem Ui (hA:A.handled=none)(hi:s.heap.IsTupleIter it t i)(ht:s.heap.IsTuple t items)(hx:items[i]?=none)
 (hE:∀h' e,Heap.ExtBut it s.heap h'->(∃o,h'.get? e=some o/\o.cls=.type "StopIteration")->E (.ref e) { s with heap:=h' }):wpAny (model prog w) A (Builtin.SmallTypes.nextOf (.ref it)) Q E s:=by
 obtain⟨oi,iq,ci,di⟩:=id hi;obtain⟨ot,hot,_,nt,dt⟩:=ht;unfold Builtin.SmallTypes.nextOf;refine zA (D0 (name:=Str.ofString "__next__") hi.typeIs PySem.F.slot_tuple_iterator_next (CF PySem.F.slot_tuple_iterator_next hi.typeIs PySem.F.entry_tuple_iterator_next ?_ (PySem.F.args_tuple_iterator_next_1 _)));show wpAny (model prog w) _ (field (.ref it) 0 >>= _) _ _ s;refine zA (Ej iq di (x:=.ref t) rfl ?_);show wpAny (model prog w) _ (if (Value.ref t==Value.none)=true then _ else _) _ _ s;rw[if_neg (show ¬ ((Value.ref t==Value.none)=true) from zn)]
 show wpAny (model prog w) _ (field (.ref it) 1 >>= _) _ _ s;refine zA (Ej iq di (x:=.int i 0) rfl ?_);show wpAny (model prog w) _ (seqItems? (.ref t) >>= _) _ _ s;refine zA (ES hot dt ?_);simp only[hx,zv];refine zA (Cs (zA (Fp iq di (by simp) ?_)));show wpAny (model prog w) _ (newExc (.type "StopIteration") [] >>= _) _ _ _;refine zA ?_;simp only[newTuple,newExc];refine zA (Bi ?_ (by size_fits));refine zA (m:=firstArgMember _ _) (PySem.wpAny_of_eq (a:=Value.none) (by first | rfl | (simp only[firstArgMember];rfl)) ?_);refine Bi ?_ (by size_fits);simp only[raiseNew];refine zA (wpAny_handled ?_)
 first
  | rw[show A.in1.handled=none from hA]
  | rw[hA]
 exact zA (zC (wpAny_throw (hE _ _ (((EC ..).extBut.push _).push _) ⟨_,zN _ rfl,rfl⟩)))
theorem Y0 {prog:Program}{w:World}{A:Around}(hA:A.handled=none)(it t:Addr)(eB:t≠it)(items:Array Value):
 Draws prog w A it [it,t] items.size (fun i v=>items[i]?=some v) (fun i h=>h.IsTupleIter it t i/\h.IsTuple t items) where
 live:=fun _ _ st=>by obtain⟨⟨o,ho,_⟩,_⟩:=st;exact⟨o,ho⟩
 frame:=fun _ h h' st hk=>by obtain⟨⟨o,ho,r⟩,o2,gU,r2⟩:=st;exact⟨⟨o,hk it (by simp) o ho,r⟩,o2,hk t (by simp) o2 gU,r2⟩
 item:=fun i s Q E hi st hQ=>YZ st.1 st.2 (x:=items[i]) (by simp[hi]) fun h' a b=>hQ _ h' s.toks (by simp[hi]) ⟨a,st.2.extBut b.extBut eB⟩ b
 done:=fun s Q E st hE=>Ui hA st.1 st.2 (by simp) hE
theorem Zz (t)(items)(n)(dct)(sl):
 Meets (Builtin.«enumerate.__new__» ⟨[.type "enumerate",.ref t],[]⟩) (fun _ R s=>s.heap.get? t=some { cls:=.type "tuple",dict:=dct,data:=.seq items n,slots:=sl } /\
  R (.ok (.ret (.ref (s.heap.push { cls:=.type "tuple_iterator",data:=.fields #[.ref t,.int 0 0] }).objs.size))) { s with heap:=(s.heap.push { cls:=.type "tuple_iterator",data:=.fields #[.ref t,.int 0 0] }).push { cls:=.type "enumerate",data:=.fields #[.none,.bool false,.ref s.heap.objs.size,rawInt 0,.none,.none] } }):=by
 refine .of_wp fun prog w A R s hs=>?_;obtain⟨hp,g,d,tk,os⟩:=s;obtain⟨ho,hR⟩:=hs;have su:=sub_enumerate;have tT:Heap.IsTuple (Shared.heap ⟨hp,g,d,tk,os⟩) t items:=⟨_,ho,rfl,n,rfl⟩
 wp_walk using wpAny_loadPart' ho
 refine wpAny_stack_any fun stk=>zC ?_;split
 . rename_i c _ _ _ _ _
   cases (c==Value.type "enumerate") <;> (wp_walk using wpAny_loadPart' ho,wpAny_pyIter_tuple tT;exact⟨_,rfl,hR⟩)
 . wp_walk using wpAny_loadPart' ho,wpAny_pyIter_tuple tT
   exact⟨_,rfl,hR⟩
theorem cE (hT:s.heap.IsTuple t items)
 (h:∀h',IsEnum h' (s.heap.objs.size+1) s.heap.objs.size 0 .none->h'.IsTupleIter s.heap.objs.size t 0->(∀b o,s.heap.get? b=some o->h'.get? b=some o)->Q (.ref (s.heap.objs.size+1)) { s with heap:=h' }):
 wpAny (model prog w) A (call (.type "enumerate") [.ref t]) Q E s:=by
 obtain⟨⟨c,dct,dt,sl⟩,ho,hc,n,hd⟩:=hT;obtain rfl:c=.type "tuple" := hc;obtain rfl:dt=.seq items n:=hd;refine callType_new PySem.F.called_enumerate (by decide) (PySem.F.typeCall_enumerate_1 _) (PySem.F.newCall_enumerate_1 _) (fun obj=>PySem.F.args_object_init_2 obj _) PySem.F.entry_enumerate_new (Zz t items n dct sl) ⟨ho,?_⟩;have hz:(s.heap.push { cls:=.type "tuple_iterator",data:=.fields #[.ref t,.int 0 0] }).objs.size=s.heap.objs.size+1:=CV ..;show _/\_;rw[hz];have he:IsEnum ((s.heap.push { cls:=.type "tuple_iterator",data:=.fields #[.ref t,.int 0 0] }).push { cls:=.type "enumerate",data:=.fields #[.none,.bool false,.ref s.heap.objs.size,rawInt 0,.none,.none] }) (s.heap.objs.size+1) s.heap.objs.size 0 .none:=by have g:=zN (s.heap.push { cls:=.type "tuple_iterator",data:=.fields #[.ref t,.int 0 0] }) (o:={ cls:=.type "enumerate",data:=.fields #[.none,.bool false,.ref s.heap.objs.size,rawInt 0,.none,.none] }) rfl;rwa [hz] at g
 exact⟨⟨_,he,rfl⟩,h _ he ⟨_,zG _ (zN _ rfl),rfl,rfl⟩ fun b o x=>zG _ (zG _ x)⟩
noncomputable def Ew (K:AJ)(a:Addr):It:=
 ⟨fun i H=>∃xs x,AC K H a xs/\xs[i]?=some x,fun i H x H'=>∃T v,x=.ref T/\H T=none/\H'=upd H T (.tup [.int i,v])/\∀xs,AC K H a xs->xs[i]?=some v,fun i H=>∃xs,AC K H a xs/\xs.length<=i⟩
theorem cZ {P:Program}{w:World}{K:AJ}{elts:List Expr} {x1} {tp:Pos}(a e it:Addr):Ep P w K (.Tuple elts x1 tp) (Ew K a) [e,it] e (fun i h=>(∃old,IsEnum h e it (i:Nat) old)/\h.IsTupleIter it a i/\e≠it/\a≠it/\a≠e) where
 mem:=by simp
 obj:=fun i h st b hb=>by
  obtain⟨⟨old,he⟩,⟨o,e1,c,d⟩,_⟩:=st;rcases zT.mp hb with rfl | hb
  . exact⟨_,he,fun v z=>by cases z⟩
  . have e2:b=it:=by simpa using hb
    subst e2;exact⟨o,e1,fun v z=>by rw[d] at z;cases z⟩
 keep:=fun i h h' st k=>by obtain⟨⟨old,he⟩,⟨o,e1,r⟩,ne⟩:=st;exact⟨⟨old,k e (by simp) _ he⟩,⟨o,k it (by simp) o e1,r⟩,ne⟩
 item:=by
  intro X hP hw hK hc i pins s σ H E I hf st hg;subst hP hw hK;obtain⟨⟨old,he⟩,hit,ne,nai,nae⟩:=st;obtain⟨xs,x,hq,hx⟩:=hg;obtain⟨its,rv,p,hz⟩:=I.tuple hq;obtain⟨u,hu,ru⟩:=rv.get hx;have elt:e<s.heap.objs.size:=zU he;have ilt:it<s.heap.objs.size:=by obtain⟨_,q,_⟩:=id hit;exact zU q
  have dW:i<its.toArray.size:=by have:=(zI.mp hu).1;simpa using this
  refine wpAny_pyNext_enum_itemD (Y0 (A:=X.A.in1) (I.ok.hd hc) it a nai its.toArray) he ⟨hit,p⟩ dW ne (by simp;exact⟨ne,fun z=>nae z.symm⟩) fun y h' tk hy heo hst' hT hsz hk=>?_;have hyu:y=u:=by
   have h1:its[i]?=some y:=by simpa using hy
   rw[hu] at h1;exact (zY h1).symm
  subst hyu;refine⟨_,rfl,wpAny_letOwnedTupleGo_enum heo fun h2 he2 iH=>?_⟩;have hT2:h2.get? s.heap.objs.size=some { cls:=.type "tuple",data:=.seq #[.int i tk,y] }:=(iH.2 _ (Nat.ne_of_gt elt)).trans hT;refine⟨.ref s.heap.objs.size,upd H s.heap.objs.size (.tup [.int i,x]),I.turnedLaid (t':=tk+1) (fp:=[e,it]) hf (fun b o hb q=>?_) (zJ _) ?_,rfl,⟨_,x,rfl,I.hok.fresh (zJ _),rfl,fun zs hzs=>by rw[I.tuple_inj hzs hq];exact hx⟩,⟨⟨y,?_⟩,?_,ne,nai,nae⟩,fun b hb=>?_⟩
  . exact (iH.2 b fun z=>hb (by simp[z])).trans (hk b o (fun z=>hb (by simp[z])) (fun z=>hb (by simp[z])) q)
  . exact⟨⟨Au,_,hT2,rfl⟩,[.int i tk,y],.cons ⟨_,rfl⟩ (.cons ru .nil),⟨_,hT2,rfl,_,rfl⟩⟩
  . have:=he2;rwa [show ((i:Nat):Int)+1=((i+1:Nat):Int) by lia] at this
  . obtain⟨⟨o,ho,r⟩,_⟩:=hst';exact⟨o,(iH.2 it (Ne.symm ne)).trans ho,r⟩
  . rcases zT.mp hb with rfl | hb
    . rw[zk (zc elt)];exact (hf _ (by simp)).1
    . have e2:b=it:=by simpa using hb
      subst e2;rw[zk (zc ilt)];exact (hf _ (by simp)).1
 done:=by intro X hP hw hK hc i pins s σ H E I hf st hg;subst hP hw hK;obtain⟨⟨old,he⟩,hit,ne,nai,nae⟩:=st;obtain⟨xs,hq,hx⟩:=hg;obtain⟨its,rv,p,hz⟩:=I.tuple hq;obtain⟨f0,f1,f2,f3,f4,f5⟩:=hf it (by simp);have hl:=rv.length;unfold pyNext;have hT:s.TypeIs (.ref e) "enumerate" := ⟨_,he,rfl⟩;refine zA (F1 (D0 (name:=Str.ofString "__next__") hT PySem.F.slot_enumerate_next (CF PySem.F.slot_enumerate_next hT PySem.F.entry_enumerate_next ?_ (PySem.F.args_enumerate_next_1 _))));show wpAny (model X.prog X.w) _ (field (.ref e) 2 >>= _) _ _ s;refine zA (Ej he rfl (x:=.ref it) rfl ?_);refine zA (Ui (A:=X.A.in1) (I.ok.hd hc) hit p (by simp;lia) fun h' z eb hz'=>?_);obtain⟨o,ho,i8⟩:=hz';refine zA (DM (T := "StopIteration") (b:=true) ⟨o,ho,i8⟩ isSubtype_stop (zC ?_));exact⟨rfl,I.turned (t':=s.toks) (fun b o hb e=>eb b o hb e) f0 f1 f3 f4 f5⟩
 self:=fun _ _ _ _ _ st h=>by obtain⟨⟨old,he⟩,_⟩:=st;exact wpAny_pyIter_enum he h
def J8 (K:AJ)(ta:TA):TI:=fun σ H R=>ta σ H fun vs H1=>∃a,vs=[.ref a]/\(∃xs,AC K H1 a xs)/\R (Ew K a) H1
theorem R0 {x1} (hg:Gl X "enumerate") (hm:X.mg "enumerate"=none) (ha:PA X [a] ta)(hs:starEach [a] X.env=[(false,eval a X.env)]:=by rfl):PI X (.Tuple elts x1 tp) (.Call (.Name "enumerate" p) [a] [] pos) (J8 X.K ta):=by
 intro pins s σ H R I h;refine Call_ (EJ I hg hm boot_enumerate (PyProof.Rows.callWith_type1 (AI (ha pos pins s σ H _ I h) fun us s1 ⟨vs,H1,I1,r1,q1⟩=>?_) hs rfl));obtain⟨l,e,⟨xs,hq⟩,q⟩:=q1;subst e;obtain⟨u,rfl,rx⟩:=Cb r1;cases rx;obtain⟨its,rv,pl,hz⟩:=I1.tuple hq;have hll:l<s1.heap.objs.size:=by obtain⟨o,ho,_⟩:=id pl;exact zU ho
 refine cE pl fun h' he hit hk=>?_;refine wpAny_pyIter_enum he ?_;refine⟨s1.heap.objs.size+1,[s1.heap.objs.size+1,s1.heap.objs.size],_,_,H1,rfl,I1.kept (t':=s1.toks) hk,cZ l _ _,⟨⟨_,he⟩,hit,Nat.succ_ne_self _,zc hll,zc (Dv hll)⟩,fun b hb=>?_,q⟩;rcases zT.mp hb with rfl | hb
 . exact I1.fpOk (Bc _) (I1.hok.fresh (Bc _))
 . have e2:b=s1.heap.objs.size:=by simpa using hb
   subst e2;exact I1.fpOk (zJ _) (I1.hok.fresh (zJ _))
theorem Ry {K:AJ}{g:TG}{tb:TS}{D:Gc}(Pv:Nat->St->Hp->Prop)(h0:Pv 0 σ H)(hl:∀i σ H,i<=xs.length->Pv i σ H->AC K H a xs)
 (hs:∀i x σ H T,xs[i]?=some x->Pv i σ H->H T=none->g (.ref T) σ (upd H T (.tup [.int i,x])) fun σ2 H2=>tb { D with nx:=Pv (i+1),ct:=Pv (i+1),bk:=D.nx } σ2 H2)(hd:∀ σ H,Pv xs.length σ H->D.nx σ H):
 ∃W:Nat->Nat->St->Hp->Prop,(∃m,W 0 m σ H)/\∀i m σ H,W i m σ H ->
  ((Ew K a).stop i H/\D.nx σ H)\/((Ew K a).go i H/\∃N:St->Hp->Prop,(∀ σ' H',N σ' H'->∃m',m'<m/\W (i+1) m' σ' H')/\∀x H',(Ew K a).yld i H x H'->g x σ H' fun σ2 H2=>tb { D with nx:=N,ct:=N,bk:=D.nx } σ2 H2):=by
 refine⟨fun i m σ H=>i<=xs.length/\m=xs.length-i/\Pv i σ H,⟨_,zg _,rfl,h0⟩,fun i m σ H h=>?_⟩;obtain⟨hi,rfl,hp⟩:=h;by_cases c:i<xs.length
 . refine .inr ⟨⟨xs,xs[i],hl i σ H hi hp,zB c⟩,Pv (i+1),fun σ' H' hJ=>⟨xs.length-(i+1),by lia,c,rfl,hJ⟩,fun x H' y=>?_⟩;obtain⟨T,v,rfl,hT,rfl,hv⟩:=y;exact hs i v σ H T (hv xs (hl i σ H hi hp)) hp hT
 . have e:i=xs.length:=by lia
   subst e;exact .inl ⟨⟨xs,hl _ σ H hi hp,zJ _⟩,hd σ H hp⟩
theorem Av.there (x:Av P w H h a o):∃ob,h.get? a=some ob:=by
 cases o with
 | lst xs=>obtain⟨_,_,_,_,e⟩:=x;exact⟨_,e⟩
 | tup xs=>obtain⟨⟨_,o2,e2,_⟩,_⟩:=x;exact⟨_,e2⟩
 | dK dQ=>obtain⟨_,_,_,_,o,_,_,e,_⟩:=x;exact⟨_,e⟩
 | dT dQ=>obtain⟨_,_,_,_,o,_,_,e,_⟩:=x;exact⟨_,e⟩
 | set S n=>obtain⟨o,_,_,_,e,_⟩:=x;exact⟨_,e⟩
 | ins C dx fs=>obtain⟨_,_,_,e,_⟩:=x;exact⟨_,e⟩
 | own y=>obtain⟨_,e⟩:=x;exact⟨_,e⟩
 | xd fs=>obtain⟨_,⟨_,_,_,e,_⟩,_⟩:=x;exact⟨_,e⟩
 | rng lo hi=>obtain⟨_,_,_,e⟩:=x;exact⟨_,e⟩
 | frz ob u=>obtain⟨e,_⟩:=x;exact⟨_,e⟩
 | tbl ps=>exact⟨_,show h.get? a=some _ from x⟩
 | met f y=>exact⟨_,show h.get? a=some _ from x⟩
 | ext φ=>obtain⟨_,⟨_,e⟩,_⟩:=x;exact⟨_,e⟩
theorem Ap.stays {B:Heap}(x:Ap P w H h)(k:B.StaysIn h)(k':B.StaysIn h')(tr:∀b u,H b=some u->∃o,B.get? b=some o):Ap P w H h':=fun a o e=>
 (x a o e).stay (fun b u hb q=>by
  have:∃v,H b=some v:=by
   rcases hb with rfl | hb
   . exact⟨_,e⟩
   . exact⟨_,hb⟩
  obtain⟨v,hv⟩:=this;obtain⟨o',iU⟩:=tr b v hv;have e2:o'=u:=zY ((k b o' iU).symm.trans q);exact e2 ▸ k' b o' iU) (fun _ q=>q) fun _ _ q=>q
noncomputable abbrev MX:List Value:=[.type "ValueError",.type "Exception",.type "BaseException",.type "object"]
theorem Ut {K:AJ}(X:K.In h)(q:PySem.W.excIn K C bmB newId=true):
 ∃bm N nm qn bs gL sn sub ab col dd k0 k1 k2 k3 k5 mN,h.get? C=some (excClassObj nm qn C N bs bm gL sn sub ab col dd k0 k1 k2 k3 k5 newId)/\h.Ns N mN/\mN "__init__"=none/\OwnTail h bmB bm:=by
 unfold PySem.W.excIn at q;split at q
 . next dd cd sl look=>
   split at q
   . next D bm k0 k1 k2 k3 n k5 em es=>
     simp only[zx,beq_iff_eq,Bool.not_eq_true'] at q;obtain⟨⟨⟨⟨⟨q1,q2⟩,q3⟩,q4⟩,q5⟩,q6⟩:=q;subst q1 q2;cases cd;simp only at em q3 q5 q6;subst em q3;cases sl;simp only at es;subst es;exact⟨_,_,_,_,_,_,_,_,_,_,_,_,_,_,_,_,_,X _ _ look,.of_isNs (PySem.W.isNs_of_in X q5),PySem.W.nsMap_none_of_in X q5 q6,PySem.W.tail_of_in X q4⟩
   . cases q
 . cases q
theorem ZP (I:AB X pins σ H s)(hN:X.N.Nodup)(hi:X.N[i]?=some x)(hk:X.env.kindOf x=some .local)(hv:σ[i]?=some (some v))
 (h:∀s',AB X pins (σ.set i none) H s'->Q () s'):wpAny M A (unbindName X.env x) Q E s:=by
 obtain⟨m,hn,hl⟩:=id I.loc;have i7:(X.env.scope.kind == .class || (X.env.scope.kind == .module && X.env.locals != X.env.globals))=false:=by rw[I.ok.kind];rfl
 have iV:X.env.scope.names.lookup x=some .local:=hk;obtain⟨u,_,lk⟩:=hl i x v hi hv (.inl iV);have hm:m x=some u:=by
  rcases lk with ⟨_,e⟩ | ⟨q,_⟩
  . exact e
  . rcases q with q | q <;> (rw[hk] at q;cases q)
 obtain⟨oL,_,_,gT,_⟩:=id hn;have neL:∀b o,X.s₀.heap.get? b=some o->b≠X.env.locals:=fun b o e=>zc (zm (zU e) I.ok.above);refine wpAny_unbindName_local hk hn hm i7 fun h' uu iK hs=>h _ ⟨I.ok,I.os,I.bare,⟨fun b o e n hb hx=>(hs.2 b (neL b o e)).trans (I.base.keep b o e n hb hx),fun b o e n hb hx=>?_,I.base.free,fun b o e hx=>?_,I.base.tups,I.base.frzs,I.base.tbls⟩,⟨_,iK,fun j y v' e1 e2 e3=>?_⟩,fun y c e=>?_,I.free,I.freeC,fun p hp=>?_,fun b ob e=>?_,by simpa using I.len⟩
 . obtain⟨sl,e1⟩:=I.base.slot b o e n hb hx;exact⟨sl,(hs.2 b (neL b o e)).trans e1⟩
 . obtain⟨o',e1⟩:=I.base.there b o e hx;exact⟨o',(hs.2 b (neL b o e)).trans e1⟩
 . have hj:j≠i:=fun z=>by subst z;have:j<σ.length:=(zI.mp hv).1;rw[List.getElem?_set_self this] at e2;cases e2
   rw[List.getElem?_set_ne (Ne.symm hj)] at e2;obtain⟨u',r',q⟩:=hl j y v' e1 e2 e3;refine⟨u',r',?_⟩;rcases q with ⟨k,e⟩ | ⟨k,c,e,z⟩
   . have ny:y≠x:=fun e=>hj (Q6 hN e1 (e ▸ hi));exact .inl ⟨k,by simp[ny,e]⟩
   . exact .inr ⟨k,c,e,z.sameBut hs (I.cne y c e)⟩
 . obtain⟨w',z⟩:=I.cell y c e;exact⟨w',z.sameBut hs (I.cne y c e)⟩
 . obtain⟨e,n,ne,nf,d⟩:=I.pin p hp;exact⟨(hs.2 p.1 ne).trans e,n,ne,nf,d⟩
 . refine (I.hok b ob e).stay (fun c w' hc q=>(hs.2 c ?_).trans q) (fun _ q=>q) fun _ _ q=>q;rintro rfl;rcases hc with rfl | hc
   . rw[I.free] at e;cases e
   . rw[I.free] at hc;cases hc
theorem Yu {M:Model}{A:Around}{E:Bw}{s:Shared}{nm qn nm' qn':Str}{C W Nn Nn':Addr}{bs bm bs' bm':List Value}{gL hdct':Bool}{sn sn':List Str}{sub sub':List Value}{ab ab':Bool}{col col':Option Bool}{dd dd':Option Addr}
 {k0 k1 k2 k3 k5 k0' k1' k2' k3' k5':Option Value}{newId newId':String}{e:Addr}{oe:Obj}{Q:Bool->Shared->Prop}
 (hC:s.heap.get? C=some (excClassObj nm qn C Nn bs bm gL sn sub ab col dd k0 k1 k2 k3 k5 newId))(hW:s.heap.get? W=some (excClassObj nm' qn' W Nn' bs' bm' hdct' sn' sub' ab' col' dd' k0' k1' k2' k3' k5' newId'))
 (he:s.heap.get? e=some oe)(i7:oe.cls=.ref C)(hb:bm'.contains (.type "BaseException")=true) (hs:(Value.ref C::bm).contains (.ref W)=true)(hq:Q true s):wpAny M A (excMatches (.ref e) (.ref W)) Q E s:=by
 obtain⟨h,g,d,t,os⟩:=s;have hWB:(Value.ref W::bm').contains (.type "BaseException")=true:=by rw[List.contains_cons,hb,Bool.or_true]
 have f:=tc_notTuple;unfold excMatches
 repeat (first | (with_reducible refine DO he ?_;rw[i7]) | with_reducible refine DO hW ?_ | (with_reducible refine wpAny_isSubtype_exc hW ?_;rw[hWB]) | (with_reducible refine wpAny_isSubtype_exc hC ?_;rw[hs]) | wp_step)
 exact hq
noncomputable def subIn (K:AJ)(C W:Addr):Bool:=match K.lookup C with
 | some ⟨_,_,.cls cd,_⟩=>cd.mro.contains (.ref W)
 | _=>false
theorem Ks {K:AJ}
 (X:K.In h)(q:subIn K C W=true)(hC:h.get? C=some (excClassObj nm qn C Nn bs bm gL sn sub ab col dd k0 k1 k2 k3 k5 newId)):(Value.ref C::bm).contains (.ref W)=true:=by
 unfold subIn at q;split at q
 . next look=>
   have e:=(X _ _ look).symm.trans hC;unfold excClassObj at e;cases e;exact q
 . cases q
noncomputable def Cx.held (X:Cx)(ea:Addr)(oe:Obj):Cx:={ X with A:=X.A.mark (some (.ref ea)),calm:=false,pn:=(ea,oe)::X.pn,xe:=fun _ _=>False }
theorem AB.hold (I:AB X pins σ H s)(h1:s.heap.get? ea=some oe)(h2:H ea=none)(h3:ea≠X.env.locals)(h4:ea∉X.fs)(h5:∀v,oe.data ≠ .cell v):AB (X.held ea oe) pins σ H s:=
 ⟨⟨I.ok.mod,I.ok.kind,I.ok.glob,I.ok.blt,I.ok.above,I.ok.inj,I.ok.has,I.ok.cab,(fun z=>by cases z),I.ok.frames,I.ok.stk,I.ok.exf,I.ok.bs,I.ok.bsz,I.ok.noex,I.ok.exfs,I.ok.funs,I.ok.frf⟩,I.os,I.bare,I.base,I.loc,I.cell,I.free,I.freeC,
  fun p hp=>by
   rcases zT.mp (show p∈(ea,oe)::(X.pn++pins) from hp) with rfl | hp
   . exact⟨h1,h2,h3,h4,h5⟩
   . exact I.pin p hp,I.hok,I.len⟩
theorem AB.letgo (ok:X.Ok)(I:AB (X.held ea oe) pins σ H s):AB X pins σ H s:=
 ⟨ok,I.os,I.bare,I.base,I.loc,I.cell,I.free,I.freeC,fun p hp=>I.pin p (zZ _ hp),I.hok,I.len⟩
theorem bh {st:List Env}{s1 s':Shared}(un:Un (Az st) [] H1 H' s1.heap s'.heap)(fl:Heap.FlyingW B st ea C a0 s'.heap)
 (old:∀b o,s1.heap.get? b=some o->H1 b=none->b∉Az st->B.get? b=some o)(al:∀b o,s1.heap.get? b=some o->b∉Az st->∃o',B.get? b=some o')(iQ:B.StaysIn h5)(up:s'.heap.UpToSlots h5):Un (Az st) [] H1 H' s1.heap h5:=by
 refine⟨fun b o e n hb _=>iQ b o (old b o e n hb),fun b o e n hb _=>?_,un.free,fun b o e _=>?_,un.tups,un.frzs,un.tbls⟩
 . obtain⟨iB,e2⟩:=un.slot b o e n hb (by intro z;cases z);obtain⟨_,o3,e3,nd⟩:=fl.2.2.1.mem hb;obtain⟨sl4,e4⟩:=up b _ e3 nd;have e5:=zY (e3.symm.trans e2);rw[e5] at e4;exact⟨sl4,e4⟩
 . by_cases hb:b∈Az st
   . obtain⟨_,o3,e3,nd⟩:=fl.2.2.1.mem hb;obtain⟨sl4,e4⟩:=up b _ e3 nd;exact⟨_,e4⟩
   . obtain⟨o3,e3⟩:=al b o e hb;exact⟨_,iQ b o3 e3⟩
noncomputable def IK (i:Nat)(D:Gc):Gc:={ D with nx:=fun σ H=>D.nx (σ.set i none) H,bk:=fun σ H=>D.bk (σ.set i none) H,ct:=fun σ H=>D.ct (σ.set i none) H }
end L2
namespace L2
open PySem PySem.Spec PySem.W PyProof.Rows Builtin Builtin.ObjectAttr Builtin.Getset_descriptor
section
variable {prog:Program}{w:World}{A:Around}{E:Bw}{s:Shared}{K:Frag}{x C:Addr}{ox:Obj}
structure C7 (K:Frag)(C:Addr):Prop where
 ga:findIn K (.ref C) "__getattribute__"=some (some (.builtin "BaseException.__getattribute__"))
 gn:findIn K (.ref C) "__getattr__"=some none
 cl:findIn K (.ref C) "__class__"=some (some (.builtin "object.__class__"))
 mo:mroIn K C (.type "object")=some true
 mb:mroIn K C (.type "BaseException")=some true
 ci:(clsIn K C).isSome=true
def DR (h:Heap)(x C:Addr):Prop:=∃o,h.get? x=some o/\o.cls=.ref C
theorem DR.type (I:DR h x C):Looks M h (typeOf (.ref x)) (.ref C):=by obtain⟨o,e,c⟩:=I;rw[<-c];exact (Looks.ld e).andThen .now
theorem av (X:K.In s.heap)(I:DR s.heap x C)(hm:mroIn K C (.type "object")=some true) (h:R (.ok (.ret (.ref C))) s):
 codeAny (model prog w) A (.call (.builtin "getset_descriptor.__get__") ⟨[.builtin "object.__class__",.ref x,tp],[]⟩) R s:=by
 obtain⟨h0,g0,d0,t0,o0⟩:=s;have T0:=I.type (M:=model prog w);have T1:=looks_mroIn (M:=model prog w) X hm;refine codeAny_call_builtin KF.slot_gs.plain KF.entry_gs (KF.slot_gs.check _ _ _ _ _ _ _ _ KF.type_class (KF.args_gs _ _ _) ?_);unfold Builtin.«getset_descriptor.__get__» descrGet;rw[dga_obj];apply zA;apply zC;unfold descrGetter descrCheckInstance descrNameAndClass isInstance;simp only[KF.owner_class]
 repeat lk
 refine⟨Code.quiet_builtin _ (by decide +kernel),codeAny_builtin KF.entry_class (?_:wpAny _ _ _ _ _ _)⟩;unfold Builtin.«object.__class__»;unfold shownTypeOf
 repeat lk
 exact h
theorem az (X:K.In s.heap)(I:DR s.heap x C)(F':C7 K C)(hq:Q (.done (.ret (.ref C))) s):
 wpAny (model prog w) A (Builtin.«object.__getattribute__» ⟨[.ref x,.str "__class__" tk],[]⟩) Q E s:=by
 obtain⟨h,g,d,t,os⟩:=s;have L0:=I.type (M:=model prog w);have L1:=looks_findIn (M:=model prog w) X F'.cl;have hT5:(⟨h,g,d,t,os⟩:Shared).TypeIs (.builtin "object.__class__") "getset_descriptor" := F.typeOf_object_class;have f5:=F.typeOf_object_class;have f6:=F.slot_gs_get.lookup;have f7:=F.slot_gs_set.lookup
 repeat (any_goals (first | assumption | with_reducible refine L0.at ?_ | with_reducible refine L1.at ?_ | wp_step))
 refine av (s:=⟨h,g,d,t,os⟩) X I F'.mo ?_
 repeat (any_goals (first | assumption | wp_step))
theorem VR (X:K.In s.heap)(I:DR s.heap x C)(F':C7 K C)(hq:Q () s):wpAny M A (checkBuiltinCall "BaseException.__getattribute__" ⟨[.ref x,ij],[]⟩) Q E s:=by
 obtain⟨h,g,d,t,os⟩:=s;have L0:=I.type (M:=M);have L1:=looks_mroIn (M:=M) X F'.mb;have e1:builtinKind "BaseException.__getattribute__"=some .slot:=by decide +kernel
 have e2:splitId "BaseException.__getattribute__"=some ("BaseException", "__getattribute__"):=by decide +kernel
 have ha:=F.args_bexc_ga (.ref x) ij;simp only[checkBuiltinCall,e1,e2];refine zA ?_;unfold isInstance
 repeat (any_goals (first | assumption | with_reducible refine L0.at ?_ | with_reducible refine L1.at ?_ | wp_step))
theorem ZQ (X:K.In s.heap)(I:DR s.heap x C)(F':C7 K C)(hq:R (.ok (.ret (.ref C))) s):
 codeAny (model prog w) A (.call (.builtin "BaseException.__getattribute__") ⟨[.ref x,.str "__class__" tk],[]⟩) R s:=
 codeAny_call_builtin F.attrBase_ValueError.ga.plain F.entry_bexc_ga (VR X I F' (az X I F' hq))
theorem JY {fill:Bool}(X:K.In s.heap)(I:DR s.heap x C)(F':C7 K C)(hq:Q (.ref C) s):wpAny (model prog w) A (getAttrBy (.ref x) (.str "__class__" tk) fill) Q E s:=by
 obtain⟨h,g,d,t,os⟩:=s;have L0:=I.type (M:=model prog w);have L1:=looks_findIn (M:=model prog w) X F'.ga;have L2:=looks_findIn (M:=model prog w) X F'.gn;have f3:=F.attrBase_ValueError.ga.bind (.ref x);have hx2:(Value.builtin "BaseException.__getattribute__" == Value.builtin "object.__getattribute__")=false:=by decide +kernel
 have hx1:(onTheHeap (Value.ref C) && Value.builtin "BaseException.__getattribute__" == Value.builtin "object.__getattribute__")=false:=by rw[hx2];rfl
 repeat (any_goals (first | assumption | with_reducible refine L0.at ?_ | with_reducible refine L1.at ?_ | with_reducible refine L2.at ?_ | wp_step))
 refine ZQ (s:=⟨h,g,d,t,os⟩) X I F' ?_
 repeat (any_goals (first | assumption | wp_step))
theorem ZF (X:K.In s.heap)(I:DR s.heap x C)(F':C7 K C)(hq:Q (some (.ref C)) { s with toks:=s.toks+1 }):wpAny (model prog w) A (getAttr? (.ref x) "__class__") Q E s:=by
 obtain⟨h,g,d,t,os⟩:=s;unfold getAttr? getAttrBy?
 repeat (any_goals (first | assumption | with_reducible apply JY (s:=⟨h,g,d,t+1,os⟩) X I F' | wp_step))
theorem Ri (F':C7 K C):KitX K (.ref x) (.ref C) (fun h=>DR h x C) where
 ty:=fun _ _ _ I=>I.type
 it:=fun _ _ X _=>by
  obtain⟨cdD,hcD⟩:=Lv.mp F'.ci;unfold clsIn at hcD;split at hcD
  . next ho=>
    intro A' Q' E' s' k q;unfold isType loadHead;exact zA (wpAny_loadPart (k _ _ (X _ _ ho)) (zC q))
  . cases hcD
 ne:=fun h tp dd its n sl X htp=>by
  obtain⟨cdD,hcD⟩:=Lv.mp F'.ci;refine Bool.eq_false_iff.mpr fun q=>?_;have e:C=tp:=Value.ref.inj (beq_iff_eq.mp q);subst e;unfold clsIn at hcD;split at hcD
  . next ho=>
    have z:=(X _ _ ho).symm.trans htp;cases z
  . cases hcD
 ca:=fun X I k=>ZF X I F' k
end
structure Mu (X:Cx)(ea C:Addr):Prop where
 pin:∃oe,(ea,oe)∈X.pn/\oe.cls=.ref C
section
variable {X:Cx}
theorem RX (h:Mu X ea C)(I:AB X pins σ H s):DR s.heap ea C:=by obtain⟨oe,hp,hc⟩:=h.pin;obtain⟨e,_⟩:=I.pin (ea,oe) (C8 _ hp);exact⟨oe,e,hc⟩
theorem Yw (hh:Mu X ea C):B3 X (.builtin "isinstance") (fun xs H Q=>∃W b,C7 X.K C/\xs=[.ref ea,.ref W]/\PySem.W.kitOne X.K (.ref C) (.ref W)=some b/\Q (.bl b) H):=by intro pins s σ H xs us Q I r h;obtain⟨W,b,F',rfl,e,q⟩:=h;obtain⟨u,w',rfl,rx,rT⟩:=Ln r;cases (show u=Value.ref ea from rx);cases (show w'=Value.ref W from rT);have J:=RX hh I;exact PySem.W.kia_one (Ri F') I.kIn J e (fun z=>nomatch z) fun tk=>⟨.bl b,H,I.tok tk,rfl,q⟩
theorem bO (hh:Mu X ea C):B3 X (.builtin "isinstance") (fun xs H Q=>∃T b,C7 X.K C/\xs=[.ref ea,.ty T]/\PySem.W.kitOne X.K (.ref C) (.type T)=some b/\Q (.bl b) H):=by intro pins s σ H xs us Q I r h;obtain⟨T,b,F',rfl,e,q⟩:=h;obtain⟨u,w',rfl,rx,rT⟩:=Ln r;cases (show u=Value.ref ea from rx);cases (show w'=Value.type T from rT);have J:=RX hh I;exact PySem.W.kia_one (Ri F') I.kIn J e (fun z=>nomatch z) fun tk=>⟨.bl b,H,I.tok tk,rfl,q⟩
theorem Uo (hh:Mu X ea C):B3 X (.builtin "isinstance") (fun xs H Q=>∃(tp:Addr)(Ws:List Addr)(b:Bool),C7 X.K C/\xs=[.ref ea,.ref tp]/\H tp=some (.tup (Ws.map V.ref))/\PySem.W.kitAny X.K (.ref C) (Ws.map Value.ref)=some b/\Q (.bl b) H):=by
 intro pins s σ H xs us Q I r h;obtain⟨tp,Ws,b,F',rfl,ht,e,q⟩:=h;obtain⟨u,w',rfl,rx,rT⟩:=Ln r;cases (show u=Value.ref ea from rx);cases (show w'=Value.ref tp from rT);have J:=RX hh I;obtain⟨⟨z,o2,e2,d2⟩,its,rv,ob,e3,c3,n3,s3⟩:=(show Av X.prog X.w H s.heap tp (.tup (Ws.map V.ref)) from I.hok tp _ ht);have hits:its=Ws.map Value.ref:=by
  have:∀(Ws:List Addr)(its:List Value),AK (Ws.map V.ref) its->its=Ws.map Value.ref:=by
   intro Ws
   induction Ws with
   | nil=>intro its h;cases h;rfl
   | cons a r ih=>
    intro its h;cases h with
    | cons h1 h2=>rw[ih _ h2,show _=Value.ref a from h1];rfl
  exact this Ws its rv
 obtain⟨c',d',da',sl'⟩:=ob;simp only at c3 s3;subst c3 s3 hits;exact PySem.W.kia_tup (Ri F') I.kIn J e3 e (fun z=>nomatch z) fun tk=>⟨.bl b,H,I.tok tk,rfl,q⟩
theorem QE (h:oe.cls=.ref C):Mu (X.held ea oe) ea C:=⟨⟨oe,zS,h⟩⟩
end
end L2
namespace L2
open PySem PySem.Spec PyProof.Rows
def DK (h h':Heap):Prop:=∀b o,h.get? b=some o->∃o',h'.get? b=some o'/\o'.dict=o.dict
theorem DK.refl (h):DK h h:=fun _ o e=>⟨o,e,rfl⟩
theorem DK.trans (a:DK h1 h2)(b:DK h2 h3):DK h1 h3:=fun x o e=>by obtain⟨o1,e1,d1⟩:=a x o e;obtain⟨o2,e2,d2⟩:=b x o1 e1;exact⟨o2,e2,d2.trans d1⟩
def KD {α:Type}:Sem α->Prop
 | .pure _=>True
 | .raise _=>True
 | .unsupported _=>True
 | .finish _=>True
 | .rule _ k=>KD (k ())
 | .at _ k=>KD (k ())
 | .load _ _ k=>∀o,KD (k o)
 | .update _ _ f k=>(∀o,(f o).dict=o.dict/\(o.isFreed=false->(f o).isFreed=false))/\KD (k ())
 | .alloc _ k=>∀a,KD (k a)
 | .loadIfAlive _ k=>∀o,KD (k o)
 | .point _ k=>KD (k ())
 | .fresh k=>∀t,KD (k t)
 | .ask k=>∀x,KD (k x)
 | .stack k=>∀l,KD (k l)
 | .handled _ k=>∀v,KD (k v)
 | _=>False
theorem KD.bind (h:KD t)(hk:∀a,KD (k a)):KD (t >>= k):=by
 show KD (Sem.bind t k)
 induction t with
 | pure a=>exact hk a
 | raise e=>trivial
 | unsupported w=>trivial
 | finish e=>trivial
 | rule t f ih=>exact ih () h
 | «at» p f ih=>exact ih () h
 | load a p f ih=>exact fun o=>ih o (h o)
 | update a p f g ih=>exact⟨h.1,ih () h.2⟩
 | alloc o f ih=>exact fun a=>ih a (h a)
 | loadIfAlive a f ih=>exact fun o=>ih o (h o)
 | point l f ih=>exact ih () h
 | fresh f ih=>exact fun t=>ih t (h t)
 | ask f ih=>exact fun x=>ih x (h x)
 | stack f ih=>exact fun l=>ih l (h l)
 | handled o f ih=>exact fun v=>ih v (h v)
 | register=>exact h.elim
 | choose=>exact h.elim
 | os=>exact h.elim
 | call=>exact h.elim
 | newGen=>exact h.elim
 | genState=>exact h.elim
 | resume=>exact h.elim
 | yield=>exact h.elim
 | fork=>exact h.elim
 | thread=>exact h.elim
 | await=>exact h.elim
theorem KD.wp (h:KD t):∀{p:Pos}{s:Shared},DK h0 s.heap->Sem.wp M Γ t Q E p s->Sem.wp M Γ t (fun a p' s'=>Q a p' s'/\DK h0 s'.heap) E p s:=by
 induction t with
 | pure a=>exact fun d w=>⟨w,d⟩
 | raise e=>exact fun d w=>w
 | unsupported w=>exact fun d w=>w
 | finish e=>exact fun d w=>w
 | rule t f ih=>exact fun d w=>ih () h d w
 | «at» p f ih=>exact fun d w=>ih () h d w
 | load a p f ih=>intro p s d w;obtain⟨o,e,w⟩:=w;exact⟨o,e,ih o (h o) d w⟩
 | update a p f g ih=>
  intro p s d w;obtain⟨e,w⟩:=w;refine⟨e,ih () h.2 (d.trans fun b o q=>?_) w⟩;by_cases c:b=a
  . subst c;have fr:=(Heap.get?_some_iff.mp q).2;exact⟨f o,zq f q ((h.1 o).2 fr),(h.1 o).1⟩
  . exact⟨o,(GY _ _ (Ne.symm c)).trans q,rfl⟩
 | alloc o f ih=>intro p s d w;exact ih _ (h _) (d.trans fun b o q=>⟨o,zG _ q,rfl⟩) w
 | loadIfAlive a f ih=>exact fun d w=>ih _ (h _) d w
 | point l f ih=>exact fun d w=>ih () h d w
 | fresh f ih=>exact fun d w=>ih _ (h _) d w
 | ask f ih=>exact fun d w=>ih _ (h _) d w
 | stack f ih=>exact fun d w=>ih _ (h _) d w
 | handled o f ih=>exact fun d w=>ih _ (h _) d w
 | register=>exact h.elim
 | choose=>exact h.elim
 | os=>exact h.elim
 | call=>exact h.elim
 | newGen=>exact h.elim
 | genState=>exact h.elim
 | resume=>exact h.elim
 | yield=>exact h.elim
 | fork=>exact h.elim
 | thread=>exact h.elim
 | await=>exact h.elim
theorem Md (k:KD t)(h:wpAny M A t Q E s):wpAny M A t (fun a s'=>Q a s'/\DK s.heap s'.heap) E s:=
 fun Γ p hΓ => k.wp (DK.refl _) (h Γ p hΓ)
theorem Ga [Decidable c] (h1:KD a)(h2:KD b):KD (if c then a else b):=by split <;> assumption
theorem YX (v):KD (fieldsOf v):=by
 unfold fieldsOf;split
 . refine KD.bind (fun o=>trivial) fun o=>?_;split <;> trivial
 . trivial
theorem P0 (v)(i):KD (field v i):=by unfold field;refine KD.bind (YX v) fun vs=>?_;split <;> trivial
theorem b8 (g:Array Value->Array Value)(o):(Obj.mapFields g o).dict=o.dict/\(o.isFreed=false->(Obj.mapFields g o).isFreed=false):=by obtain⟨c,d,dt,sl⟩:=o;cases dt <;> exact⟨rfl,fun h=>h⟩
theorem SV (v)(i)(x):KD (setField v i x):=by
 unfold setField;split
 . unfold updateField;refine KD.bind (fun o=>trivial) fun o=>?_;split
   . exact Ga ⟨fun o=>b8 _ o,trivial⟩ trivial
   . trivial
 . trivial
theorem Rw (e)(f):KD (setFlight e f):=by unfold setFlight;refine KD.bind (P0 e 1) fun tb=>Ga (SV _ _ _) trivial
theorem aX:KD frameEnvs:=by unfold frameEnvs;exact KD.bind (fun l=>trivial) fun l=>trivial
theorem Yq (env:Env)(l):KD (behindIsImport env l):=by unfold behindIsImport;exact Ga trivial (Ga trivial (KD.bind (P0 _ _) fun _=>trivial))
theorem bz (env:Env)(b:Bool)(l):KD (keptBack env b l):=by
 unfold keptBack;split
 . refine Ga trivial ?_;refine KD.bind ?_ fun _=>trivial;unfold underTheClaimsCaller;exact KD.bind (fun l=>trivial) fun l=>trivial
 . trivial
theorem Uw:∀l:List Env,KD (readyFrames l)
 | []=>trivial
 | env::outer=>by
  unfold readyFrames;split
  . refine KD.bind (fun o=>trivial) fun o=>?_;refine Ga trivial ?_;refine KD.bind (Yq _ _) fun b=>?_;refine KD.bind (bz _ _ _) fun b=>?_;refine KD.bind ⟨fun o=>⟨rfl,fun h=>(by obtain⟨c,d,dt,sl⟩:=o;cases dt <;> exact h)⟩,trivial⟩ fun _=>Uw outer
  . trivial
theorem bM (env:Env):KD (PySem.frameOf env):=by
 unfold PySem.frameOf;refine KD.bind aX fun l=>?_;refine KD.bind ?_ fun r=>?_
 . unfold frameObject;split
   . trivial
   . exact KD.bind (Uw _) fun _=>trivial
 . split <;> trivial
theorem Yb (f)(b:Bool):KD (entryPlaceOf f b):=by unfold entryPlaceOf;refine KD.bind (fun l=>trivial) fun l=>?_;split <;> trivial
theorem X5 (a b c d e)(l):KD (EntryCells.newEntry a b c d e l):=by
 unfold EntryCells.newEntry newFields newObj;have fin:∀d:Data,KD (newObjAsIs (.type "traceback") d):=fun d=>by unfold newObjAsIs;exact KD.bind (fun a=>trivial) fun a=>trivial
 simp only[];exact Ga (KD.bind trivial fun _=>fin _) (fin _)
theorem Ux (e)(env:Env):KD (noteFrame e env):=by
 unfold noteFrame;split
 . refine KD.bind (P0 _ _) fun hd=>?_;have fin:∀f:Addr,KD (do setField e 1 (<-EntryCells.newEntry hd (<-PySem.frameOf env) .none (rawInt f) .none (<-entryPlaceOf f (hd != .none)))):=fun f=>
    KD.bind (bM env) fun a=>KD.bind (Yb _ _) fun pl=>KD.bind (X5 _ _ _ _ _ _) fun b=>SV _ _ _
   refine Ga ?_ (fin _);refine KD.bind (P0 _ _) fun x=>Ga trivial ?_;exact KD.bind (SV _ _ _) fun _=>fin _
 . trivial
theorem UX (env:Env)(e):KD (leaving env e):=KD.bind (Ux e env) fun _=>Rw e none
noncomputable def Fs (K:AJ)(C:Addr):Bool:=match K.lookup C with
 | some ⟨.type "type",_,.cls u,z⟩=>
  match u.mro,z.toList with
  | .ref D::b,[_,_,_,_,some (.builtin m),_]=>D==C && m == "ValueError.__new__" && !u.hasDel && PySem.W.tailIn K MX b && PySem.W.nsOkIn K u.ns && u.hasDict
  | _,_=>false
 | _=>false
theorem JK {K:AJ}(X:K.In h)(q:Fs K C=true):
 ∃bm N nm qn bs sn sub ab col dd k0 k1 k2 k3 k5 mN,h.get? C=some (excClassObj nm qn C N bs bm true sn sub ab col dd k0 k1 k2 k3 k5 "ValueError.__new__")/\h.Ns N mN/\OwnTail h MX bm:=by
 unfold Fs at q;split at q
 . next dd cd sl look=>
   split at q
   . next D bm k0 k1 k2 k3 n k5 em es=>
     simp only[zx,beq_iff_eq,Bool.not_eq_true'] at q;obtain⟨⟨⟨⟨⟨q1,q2⟩,q3⟩,q4⟩,q5⟩,q6⟩:=q;subst q1 q2;cases cd;simp only at em q3 q5 q6;subst em q3 q6;cases sl;simp only at es;subst es;exact⟨_,_,_,_,_,_,_,_,_,_,_,_,_,_,_,_,X _ _ look,.of_isNs (PySem.W.isNs_of_in X q5),PySem.W.tail_of_in X q4⟩
   . cases q
 . cases q
structure Cz (K:AJ)(C fI:Addr):Prop where
 cl:Fs K C=true
 ini:PySem.W.findIn K (.ref C) "__init__"=some (some (.ref fI))
 fn:PySem.W.isFn K (.ref fI)=true
 sa:PySem.W.findIn K (.ref C) "__setattr__"=some (some (.builtin "object.__setattr__"))
 kp:PySem.W.keepIn K (.ref C)=true
noncomputable def By (C t:Addr)(od:Option Addr):Obj:={ cls:=.ref C,dict:=od,data:=.fields #[.ref t,.none,.none,.none,.bool false,.none] }
noncomputable def Gy (us:List Value):Obj:={ cls:=.type "tuple",data:=.seq us.toArray }
section
variable {prog:Program}{w:World}{A:Around}{E:Bw}{h:Heap}{g:Array GenState}{d:Drawn}{t:Nat}{os:OsState}{K:AJ}{C fI:Addr}{us:List Value}
noncomputable def Gf (h:Heap)(C:Addr)(us:List Value):Heap:=(h.push (Gy us)).push (By C h.objs.size none)
theorem VD (h)(C)(us):∀b o,h.get? b=some o->(Gf h C us).get? b=some o:=fun _ _ e=>zG _ (zG _ e)
theorem Up (h)(C)(us):(Gf h C us).get? (h.objs.size+1)=some (By C h.objs.size none):=Heap.get?_push_at (by rw[CV]) rfl
theorem Yj (X:K.In h)(I:Cz K C fI)(hz:us.length<=sizeLine)
 (hq:wpAny (model prog w) A (call (.ref fI) (.ref (h.objs.size+1)::us)) (fun r s'=>r=.none/\Q (.done (.ret (.ref (h.objs.size+1)))) s') E ⟨Gf h C us,g,d,t,os⟩):
 wpAny (model prog w) A (Builtin.«type.__call__» ⟨.ref C::us,[]⟩) Q E ⟨h,g,d,t,os⟩:=by
 obtain⟨bm,N,nm,qn,bs,sn,sub,ab,col,dd,k0,k1,k2,k3,k5,mN,hC,hN,T⟩:=JK X I.cl;have F:=PySem.F.excBase_ValueError
 repeat (first | with_reducible refine DO hC ?_ | with_reducible refine wpAny_madeBy_exc hC ?_ | wp_step)
 refine codeAny_call_builtin_code (Code.quiet_builtin _ F.quiet) (wpAny_check_new_subT F T hC (codeAny_exc_new_subT F T hC ?_ hz));show wpAny _ _ _ _ _ ⟨Gf h C us,g,d,t,os⟩;have hC1:=VD h C us _ _ hC;have he1:(Gf h C us).get? (h.objs.size+1)=some { cls:=.ref C,data:=.fields #[.ref h.objs.size,.none,.none,.none,.bool false,.none] }:=Up h C us;have X1:K.In (Gf h C us):=X.keeps (VD h C us);have own:(Value.ref C::bm).contains (.ref C)=true:=by simp
 unfold isInstance
 repeat (first | with_reducible refine DO he1 ?_ | (with_reducible refine wpAny_isSubtype_exc hC1 ?_;rw[own]) | wp_step)
 have L:=PySem.W.looks_findIn (M:=model prog w) X1 I.ini;refine L.at ?_;refine zu (zA ?_);refine (PySem.W.bind_fn (M:=model prog w) X1 (.ref (h.objs.size+1)) (beq_iff_eq.mp I.fn)).at ?_;refine zA (A8 hq (fun r s' hr=>?_) fun _ _ z=>z);obtain⟨rfl,hQ⟩:=hr
 wp_walk
 exact hQ
theorem Z9 (X:K.In h)(I:Cz K C fI)(hz:us.length<=sizeLine)
 (hq:wpAny (model prog w) (A.under (.builtin "type.__call__" ⟨.ref C::us,[]⟩)) (call (.ref fI) (.ref (h.objs.size+1)::us)) (fun r s'=>r=.none/\Q (.ref (h.objs.size+1)) s') E ⟨Gf h C us,g,d,t,os⟩):
 wpAny (model prog w) A (call (.ref C) us) Q E ⟨h,g,d,t,os⟩:=by
 obtain⟨bm,N,nm,qn,bs,sn,sub,ab,col,dd,k0,k1,k2,k3,k5,mN,hC,hN,T⟩:=JK X I.cl;have f1:=tc_lookup;have f2:=tc_bind (.ref C);have hT:(⟨h,g,d,t,os⟩:Shared).TypeIs (.ref C) "type" := ⟨_,hC,rfl⟩;refine Cj (codeAny_of_tree ?_);show wpAny _ _ (callAny (.ref C) _) _ _ _
 repeat (any_goals (first | assumption | with_reducible refine DO hC ?_ | wp_step))
 refine⟨rfl,?_⟩;exact codeAny_call_builtin_at (Code.quiet_builtin _ (by decide +kernel)) entry_typeCall (wpAny_check_type_call_sub hC (Yj X I hz hq))
end
theorem Vf (T:OwnTail h MX bm)(self):refuseLoop self "__setattr__" bm=pure ():=by
 induction T with
 | base=>exact PySem.F.store_ValueError.passes self
 | own _ _ _ _ ih=>rw[refuseLoop_ref];exact ih
section
variable {prog:Program}{w:World}{A:Around}{E:Bw}{h:Heap}{g:Array GenState}{d:Drawn}{t:Nat}{os:OsState}{K:AJ}{C fI x tt:Addr}{name:Str}{v:Value}
theorem X7 (X:K.In h)(mo:PySem.W.mroIn K C (.type "object")=some true) (hx:h.get? x=some (By C tt od))(hq:Q () ⟨h,g,d,t,os⟩):
 wpAny M A (checkBuiltinCall "object.__setattr__" ⟨[.ref x,ij,v],[]⟩) Q E ⟨h,g,d,t,os⟩:=by
 have L0:=(show DR h x C from ⟨_,hx,rfl⟩).type (M:=M);have L1:=PySem.W.looks_mroIn (M:=M) X mo;have ha:=PySem.F.store_ValueError.args (.ref x) ij v;have e1:=PySem.F.store_ValueError.kind;have e2:=PySem.F.store_ValueError.split;simp only[checkBuiltinCall,e1,e2];refine zA ?_;unfold isInstance
 repeat (any_goals (first | assumption | with_reducible refine L0.at ?_ | with_reducible refine L1.at ?_ | wp_step))
theorem Um (e7:h.Ns1 dx mA)(hw:PySem.Within mA ns)(hz:ns.length<1000)
 (hq:∀h' fK,h'.Ns1 dx (fun y=>if y=name then some v else mA y)->(∀b,b≠dx->h'.get? b=h.get? b)->Q (.done (.ret .none)) ⟨h',g,d,fK,os⟩):
 wpAny M A (Builtin.ObjectAttr.storeInDict dx (.str name tk) name v) Q E ⟨h,g,d,t,os⟩:=by
 unfold Builtin.ObjectAttr.storeInDict Builtin.ObjectAttr.newKeyGuard;refine zA (zC (zA (wpAny_nsSet1 e7 fun h' iK hs=>?_)));obtain⟨oD,esD,epD,hoD,hdD,hcD⟩:=iK.count (Within.cons name v hw);refine zA (wpAny_lookBehind hoD (by rw[hdD];exact pastItsLine_dict (zp hcD (by rw[zo,sizeLine_eq];lia))) ?_)
 wp_walk
 exact hq h' _ iK fun b hb=>hs.2 b hb
theorem aO (X:K.In h)(I:Cz K C fI)(nm:PySem.W.findIn K (.ref C) name=some none)(hx:h.get? x=some (By C tt none))
 (hq:∀h' fK,h'.get? x=some (By C tt (some h.objs.size))->h'.Ns1 h.objs.size (fun y=>if y=name then some v else none)->(∀b o,b≠x->h.get? b=some o->h'.get? b=some o)->Q (.done (.ret .none)) ⟨h',g,d,fK,os⟩):
 wpAny (model prog w) A (Builtin.«object.__setattr__» ⟨[.ref x,.str name tk,v],[]⟩) Q E ⟨h,g,d,t,os⟩:=by
 obtain⟨bm,N,nmm,qn,bs,sn,sub,ab,col,dd,k0,k1,k2,k3,k5,mN,hC,hN,T⟩:=JK X I.cl;have pass:=Vf T (.ref x);obtain⟨o,ho⟩:∃o,o=By C tt none:=⟨_,rfl⟩;rw[<-ho] at hx;have hc:o.cls=.ref C:=by rw[ho];rfl
 have iN:o.dict=none:=by rw[ho];rfl
 have L:=PySem.W.looks_findIn (M:=model prog w) X nm;unfold Builtin.«object.__setattr__»
 repeat (first | rw[refuse_eq] | (rw[refuseLoop_ref,pass]) | (with_reducible refine DO hx ?_;rw[hc]) | with_reducible refine wpAny_mroOf_exc hC ?_ | with_reducible refine L.at ?_ | wp_step)
 have hdt:o.data=.fields #[.ref tt,.none,.none,.none,.bool false,.none]:=by rw[ho];rfl
 have hx1:=zG { cls:=.type "dict",data:=.dict #[] } hx;have xs:x≠h.objs.size:=zc (zU hx);rw[iN,hdt];refine zA (wpAny_alloc' (zA (wpAny_update' hx1 (zC ?_))));have fr:(By C tt (some h.objs.size)).isFreed=false:=rfl;have up:((h.push { cls:=.type "dict",data:=.dict #[] }).update x fun o=>{ cls:=o.cls,dict:=some h.objs.size,data:=o.data,slots:=o.slots }).get? x=some (By C tt (some h.objs.size)):=by have:=zq (fun o:Obj=>{ cls:=o.cls,dict:=some h.objs.size,data:=o.data,slots:=o.slots }) hx1 (by rw[ho];rfl);rw[this,ho];rfl
 have nd:((h.push { cls:=.type "dict",data:=.dict #[] }).update x fun o=>{ cls:=o.cls,dict:=some h.objs.size,data:=o.data,slots:=o.slots }).get? h.objs.size=some { cls:=.type "dict",data:=.dict #[] }:=
  (GY _ _ xs).trans (Heap.get?_push_at rfl rfl)
 refine Um (Heap.Ns1.of_empty ⟨_,#[],_,nd,rfl,fun e he=>absurd he (by simp),fun _=>rfl⟩) Within.nil (by decide) fun h' fK n' same=>?_;refine hq h' fK ((same x xs).trans up) n' fun b ob hb e=>?_;rw[same b (zc (zU e)),GY _ _ (Ne.symm hb)];exact zG _ e
theorem bp (X:K.In h)(I:Cz K C fI)(nm:PySem.W.findIn K (.ref C) name=some none)(hx:h.get? x=some (By C tt (some dx)))
 (e7:h.Ns1 dx mA)(hw:PySem.Within mA ns)(hz:ns.length<1000)
 (hq:∀h' fK,h'.Ns1 dx (fun y=>if y=name then some v else mA y)->(∀b,b≠dx->h'.get? b=h.get? b)->Q (.done (.ret .none)) ⟨h',g,d,fK,os⟩):
 wpAny (model prog w) A (Builtin.«object.__setattr__» ⟨[.ref x,.str name tk,v],[]⟩) Q E ⟨h,g,d,t,os⟩:=by
 obtain⟨bm,N,nmm,qn,bs,sn,sub,ab,col,dd,k0,k1,k2,k3,k5,mN,hC,hN,T⟩:=JK X I.cl;have pass:=Vf T (.ref x);obtain⟨o,ho⟩:∃o,o=By C tt (some dx):=⟨_,rfl⟩;rw[<-ho] at hx;have hc:o.cls=.ref C:=by rw[ho];rfl
 have iN:o.dict=some dx:=by rw[ho];rfl
 have L:=PySem.W.looks_findIn (M:=model prog w) X nm;unfold Builtin.«object.__setattr__»
 repeat (first | rw[refuse_eq] | (rw[refuseLoop_ref,pass]) | (with_reducible refine DO hx ?_;rw[hc]) | with_reducible refine wpAny_mroOf_exc hC ?_ | with_reducible refine L.at ?_ | wp_step)
 rw[iN];exact zC (Um e7 hw hz hq)
theorem UM {Pr:Heap->Prop}(X:K.In h)(I:Cz K C fI)(mo:PySem.W.mroIn K C (.type "object")=some true) (hx:h.get? x=some (By C tt od))
 (ent:∀A' E' tk t' Q',(∀h' fK,Pr h'->Q' (.done (.ret .none)) ⟨h',g,d,fK,os⟩)->wpAny (model prog w) A' (Builtin.«object.__setattr__» ⟨[.ref x,.str name tk,v],[]⟩) Q' E' ⟨h,g,d,t',os⟩)
 (hq:∀h' fK,Pr h'->Q () ⟨h',g,d,fK,os⟩):wpAny (model prog w) A (setAttr (.ref x) name v) Q E ⟨h,g,d,t,os⟩:=by
 have SF:=PySem.F.store_ValueError;have f3:=SF.slot.bind (.ref x);have L0:=(show DR h x C from ⟨_,hx,rfl⟩).type (M:=model prog w);have L1:=PySem.W.looks_findIn (M:=model prog w) X I.sa;unfold setAttr callSpecial? specialOf
 repeat (any_goals (first | assumption | with_reducible refine L0.at ?_ | with_reducible refine L1.at ?_ | wp_step))
 refine codeAny_call_builtin SF.slot.plain SF.entry (X7 X mo hx (ent _ _ _ _ _ fun h' fK p=>?_))
 repeat (any_goals (first | assumption | wp_step))
 exact hq h' fK p
end
noncomputable def xO (e C t:Addr)(od:Option Addr):HO:=.ext fun h=>h.get? e=some (By C t od)
noncomputable def dO (dx:Addr)(fs:List (Str×V)):HO:=.ext fun h=>∃mA,h.Ns1 dx mA/\(∀f,CL (fs.lookup f) (mA f))/\PySem.Within mA (fs.map (·.1))
theorem ID (hx:h.get? e=some (By C t od)):Av P w H h e (xO e C t od):=⟨hx,⟨_,hx⟩,fun _ _ p k=>k _ p⟩
theorem IR (hn:h.Ns1 dx mA)(r:∀f,CL (fs.lookup f) (mA f))(wi:PySem.Within mA (fs.map (·.1))):Av P w H h dx (dO dx fs):=
 ⟨⟨mA,hn,r,wi⟩,let ⟨o,_,_,q,_⟩:=hn;⟨o,q⟩,fun _ _ ⟨m,⟨o,es,ep,q,z⟩,r,wi⟩ k=>⟨m,⟨o,es,ep,k _ q,z⟩,r,wi⟩⟩
theorem Ap.add (x:Ap P w H h)(hn:H a=none)(new:Av P w (upd H a o) h a o):Ap P w (upd H a o) h:=fun b u e=>by
 by_cases hb:b=a
 . subst hb;rw[zK] at e;cases e;exact new
 . rw[zk hb] at e;exact (x b u e).stay (fun c v _ q=>q) (fun c q=>by rw[zk (zt q hn)];exact q) fun c xs q=>by rw[zk (zt q hn)];exact q
theorem YW (n:a≠b):upd (upd H a o) b u=upd (upd H b u) a o:=by
 funext c;by_cases h1:c=a
 . subst h1;rw[zK,zk n,zK]
 . by_cases h2:c=b
   . subst h2;rw[zK,zk h1,zK]
   . rw[zk h2,zk h1,zk h1,zk h2]
theorem aw (I:AB X pins σ H s)(EI:Cz X.K C fI)(mo:PySem.W.mroIn X.K C (.type "object")=some true) (nm:PySem.W.findIn X.K (.ref C) f=some none)(he:H e=some (xO e C t none))(ry:AQ y u)
 (h:∀dx s',H dx=none->AB X pins σ (upd (upd H dx (dO dx [(f,y)])) e (xO e C t (some dx))) s'->Q () s'):wpAny (model X.prog X.w) A (setAttr (.ref e) f u) Q E s:=by
 obtain⟨hp,g,d,tk,os⟩:=s;have hx:hp.get? e=some (By C t none):=(I.hok e _ he).1;refine UM (Pr:=fun h'=>h'.get? e=some (By C t (some hp.objs.size))/\h'.Ns1 hp.objs.size (fun y=>if y=f then some u else none)/\(∀b o,b≠e->hp.get? b=some o->h'.get? b=some o)) I.kIn EI mo hx
  (fun A' E' fK t' Q' k=>aO I.kIn EI nm hx fun h' tk2 a b c=>k h' tk2 ⟨a,b,c⟩) fun h' fK ⟨a,b,c⟩=>?_
 have hn:H hp.objs.size=none:=I.hok.fresh (zJ _);have ne:e≠hp.objs.size:=zc (zU hx);refine h hp.objs.size _ hn ?_;have mu:IC ((upd H hp.objs.size (dO hp.objs.size [(f,y)])) e):=by rw[zk ne,he];exact True.intro
 have mu':IC (H e):=by rw[he];exact True.intro
 refine I.un (h':=h') (t':=fK) ((Un.laid (h':=hp) (fun _ _ q=>q) (zJ _) hn).trans (Un.write mu (.inl rfl) c ⟨_,a⟩)) ?_;rw[YW (Ne.symm ne)];refine Ap.add (I.hok.write mu' (.inl rfl) c ⟨_,a⟩ (ID a)) (by rw[zk (Ne.symm ne)];exact hn) (IR b (fun g=>?_) (fun g hg=>?_))
 . show CL (List.lookup g [(f,y)]) (if g=f then some u else none)
   by_cases q:g=f
   . subst q;rw[if_pos rfl,List.lookup_cons_self];exact ry
   . rw[if_neg q,Ec,show (g==f)=false from by simpa using q];trivial
 . by_cases q:g=f
   . subst q;exact zS
   . exact absurd (by show (if g=f then some u else none)=none;rw[if_neg q]) hg
theorem Zg (I:AB X pins σ H s)(EI:Cz X.K C fI)(mo:PySem.W.mroIn X.K C (.type "object")=some true) (nm:PySem.W.findIn X.K (.ref C) f=some none)(he:H e=some (xO e C t (some dx)))(hd:H dx=some (dO dx fs))(hl:fs.length<900)(ry:AQ y u)
 (h:∀s',AB X pins σ (upd H dx (dO dx (Du f y fs))) s'->Q () s'):wpAny (model X.prog X.w) A (setAttr (.ref e) f u) Q E s:=by
 obtain⟨hp,g,d,tk,os⟩:=s;have hx:hp.get? e=some (By C t (some dx)):=(I.hok e _ he).1;obtain⟨mA,e7,r,wi⟩:=(I.hok dx _ hd).1;refine UM (Pr:=fun h'=>h'.Ns1 dx (fun y=>if y=f then some u else mA y)/\(∀b,b≠dx->h'.get? b=hp.get? b)) I.kIn EI mo hx
  (fun A' E' fK t' Q' k=>bp I.kIn EI nm hx e7 wi (by rw[zD];lia) fun h' tk2 a b=>k h' tk2 ⟨a,b⟩) fun h' fK ⟨a,b⟩=>?_
 refine h _ ?_;have mu:IC (H dx):=by rw[hd];exact True.intro
 refine I.write (x:=dx) (e:=dx) (t':=fK) mu (.inl rfl) (fun b_ u' hb q=>(b b_ hb).trans q) (let ⟨o,_,_,q,_⟩:=a;⟨o,q⟩) (IR a (fun g=>?_) (fun g hg=>?_))
 . show CL ((Du f y fs).lookup g) (if g=f then some u else mA g)
   rw[Wy];by_cases q:g=f
   . rw[if_pos q,if_pos q];exact ry
   . rw[if_neg q,if_neg q];exact r g
 . by_cases q:g=f
   . rw[q];exact (Qy f y fs).1
   . refine (Qy f y fs).2 g (wi g fun z=>hg ?_);show (if g=f then some u else mA g)=none
     rw[if_neg q];exact z
def Ob (C:Addr)(f:Str)(ta tv:TE):TS:=fun D σ H=>tv σ H fun y H1=>ta σ H1 fun x H2=>∃e t,x=.ref e /\
 ((H2 e=some (xO e C t none)/\∀dx,H2 dx=none->D.nx σ (upd (upd H2 dx (dO dx [(f,y)])) e (xO e C t (some dx)))) \/
  ∃dx fs,H2 e=some (xO e C t (some dx))/\H2 dx=some (dO dx fs)/\fs.length<900/\D.nx σ (upd H2 dx (dO dx (Du f y fs))))
theorem VH (EI:Cz X.K C fI)(mo:PySem.W.mroIn X.K C (.type "object")=some true) (nm:PySem.W.findIn X.K (.ref C) f=some none)(ha:PE X o ta)(hv:PE X value tv)(hs:swapsWith value (some (.Attribute o f pos')) pos.line X.env=pure false:=by rfl):
 PS X (.Assign [.Attribute o f pos'] value pos) (Ob C f ta tv):=by
 intro pins s σ H D I h;refine plainObj_wpAny_Assign_Attribute (AI (hv pins s σ H _ I h) fun u s1 ⟨y,H1,I1,ry,q⟩=>AI (ha pins s1 σ H1 _ I1 q) fun ov s2 ⟨x,H2,I2,rx,e,t,ex,q2⟩=>?_) hs;subst ex;obtain rfl:ov=Value.ref e:=rx;rcases q2 with ⟨he,q⟩ | ⟨dx,fs,he,hd,hl,q⟩
 . exact aw I2 EI mo nm he ry fun dx s3 n I3=>⟨σ,_,I3,q dx n⟩
 . exact Zg I2 EI mo nm he hd hl ry fun s3 I3=>⟨σ,_,I3,q⟩
def Dh (C:Addr)(f1 f2:Str):Sp:=fun vs H Q _=>∃e t v1 v2,vs=[.ref e,v1,v2]/\H e=some (xO e C t none)/\∀dx,H dx=none->dx≠e->Q .non (upd (upd H dx (dO dx [(f1,v1),(f2,v2)])) e (xO e C t (some dx)))
def G8 (B:Heap)(l:List Env)(e:Addr)(C a0:Value)(od:Option Addr)(h:Heap):Prop:=Heap.FlyingW B l e C a0 h/\∃o,h.get? e=some o/\o.dict=od
theorem G8.step (x:G8 B l e C a0 od h)(f:Heap.FlyingW B l' e C a0 h')(k:DK h h'):G8 B l' e C a0 od h':=by obtain⟨_,o,q,r⟩:=x;obtain⟨o',q',r'⟩:=k e o q;exact⟨f,o',q',r'.trans r⟩
def CB (P:Program)(w:World):IP:=fun outer H s E e s'=>
 ∃ea t C od H' B,e=.ref ea/\s'.os=s.os/\AllBare s'.gens/\Un (Az outer) [] H H' s.heap s'.heap/\Ap P w H' s'.heap /\
  G8 B outer ea C (.ref t) od s'.heap/\(∀b u,H' b=some u->∃o,B.get? b=some o)/\(∀b o,s.heap.get? b=some o->H b=none->b∉Az outer->B.get? b=some o)/\(∀b o,s.heap.get? b=some o->b∉Az outer->∃o',B.get? b=some o')/\E C od H'
section
variable {P:Program}{w:World}{K:AJ}{mg:Bx}{base:Heap}{N:List Str}{qual:Str}{scope:Scope}{f:Addr}{cd:Value}{A:Around}{outer:List Env}{s0 s:Shared}{H0 H:Hp}{E:XK}{pins:Bm}{σ:St}
theorem Wz (I:AB (Cv (CB P w) P w K mg base N qual scope f cd A outer s0 H0 E) pins σ H s)(he:s.heap.get? ea=some oe)(hc:oe.cls=C)(hd:oe.data=.fields vs)(h1:vs[1]?=some .none)(h0:vs[0]?=some (.ref t))(hn:H ea=none)(h00:s0.heap.get? ea=none)(hE:E C oe.dict H):
 (Cv (CB P w) P w K mg base N qual scope f cd A outer s0 H0 E).xe (.ref ea) s:=by
 subst hc;let fr:List Addr:=(envOfC qual scope s0.heap.objs.size f cd::outer).filterMap (·.frame);have hin:∀env∈(envOfC qual scope s0.heap.objs.size f cd::outer),∀a,env.frame=some a->a∈ea::fr:=fun env he b hb=>zZ _ (HR.mpr ⟨env,he,hb⟩);have ff:=PySem.W.funFrames_hide I.stack hin;have off:ea∉fr:=fun z=>by obtain⟨_,o,ho,nd⟩:=I.stack.mem z;rw[he] at ho;cases ho;exact nd vs hd
 refine A8 (Md (UX _ _) (wpAny_leaving_firstW (Q:=fun _ s'=>∃h',s'={ s with heap:=h' }/\Heap.LeftW (PySem.W.hideAll s.heap (ea::fr)) (envOfC qual scope s0.heap.objs.size f cd::outer) ea oe.cls (.ref t) s.heap h') (base:=PySem.W.hideAll s.heap (ea::fr)) I.ok.frames ff rfl he (fun b o q=>PySem.W.of_hideAll _ q) (PySem.W.hideAll_none _ zS) hd h1 h0 fun h' L=>⟨h',rfl,L⟩)) (fun _ s' hq=>?_) fun _ _ z=>z;obtain⟨⟨h'',rfl,L1,⟨_,_,L2'⟩,L3,up⟩,dk⟩:=hq;have st:(PySem.W.hideAll s.heap (ea::fr)).StaysIn h'':=L1;have stk:∀b,b∈fr->b=s0.heap.objs.size\/b∈Az outer:=fun b z=>zT.mp (I.stkSub b z);have Ax:∀b o,s.heap.get? b=some o->b≠ea->b∉fr->(PySem.W.hideAll s.heap (ea::fr)).get? b=some o:=fun b o q n z=>PySem.W.hideAll_get _ q fun y=>by
  rcases zT.mp y with y | y
  . exact n y
  . exact z y
 have nea:∀b o,s0.heap.get? b=some o->b≠ea:=fun b o q z=>by rw[z,h00] at q;cases q
 have nfr:∀b o,s0.heap.get? b=some o->b∉Az outer->b∉fr:=fun b o q hb z=>by
  rcases stk b z with y | y
  . exact absurd (zU q) (by rw[y];exact Nat.not_lt_of_le (zJ _))
  . exact hb y
 have old:∀b o,s0.heap.get? b=some o->H0 b=none->b∉Az outer->(PySem.W.hideAll s.heap (ea::fr)).get? b=some o:=fun b o e n hb=>
  Ax b o (I.base.keep b o e n hb (by intro z;cases z)) (nea b o e) (nfr b o e hb)
 have al:∀b o,s0.heap.get? b=some o->b∉Az outer->∃o',(PySem.W.hideAll s.heap (ea::fr)).get? b=some o':=fun b o e hb=>by obtain⟨o1,e1⟩:=I.base.there b o e (by intro z;cases z);exact⟨o1,Ax b o1 e1 (nea b o e) (nfr b o e hb)⟩
 have tr:∀b u,H b=some u->∃o,(PySem.W.hideAll s.heap (ea::fr)).get? b=some o:=fun b u e=>by obtain⟨o,ho⟩:=(I.hok b u e).there;refine⟨o,Ax b o ho (fun z=>by rw[z,hn] at e;cases e) fun z=>?_⟩;have:=I.stkFree b z;rw[e] at this;cases this
 obtain⟨o',q',r'⟩:=dk ea oe he;refine⟨ea,t,oe.cls,oe.dict,H,_,rfl,I.os,I.bare,⟨fun b o e n hb dZ=>st b o (old b o e n hb),fun b o e n hb dZ=>?_,I.base.free,fun b o e dZ=>?_,I.base.tups,I.base.frzs,I.base.tbls⟩,I.hok.stays (fun b o q=>PySem.W.of_hideAll _ q) st tr,⟨⟨L1,PySem.W.hideAll_none _ zS,L2',L3⟩,o',q',r'⟩,tr,old,al,hE⟩
 . obtain⟨sl,e1⟩:=I.base.slot b o e n hb (by intro z;cases z);obtain⟨_,o2,e2,nd⟩:=I.stack.mem (show b∈fr from zZ _ hb);have e3:o2={ o with slots:=sl }:=zY (e2.symm.trans e1);obtain⟨iB,e4⟩:=up b _ e1 (fun vs=>by rw[<-e3];exact nd vs);exact⟨iB,e4⟩
 . obtain⟨o1,e1⟩:=I.base.there b o e (by intro z;cases z);by_cases hb:b∈fr
   . obtain⟨_,o2,e2,nd⟩:=I.stack.mem hb;obtain⟨iB,e4⟩:=up b _ e2 nd;exact⟨_,e4⟩
   . exact⟨_,st b _ (Ax b o1 e1 (nea b o e) hb)⟩
end
section
variable {P:Program}{w:World}{K:AJ}{mg:Bx}{base:Heap}{N:List Str}{qual:Str}{scope:Scope}{f:Addr}{cd:Value}{A:Around}{outer:List Env}{s0 s:Shared}{H0 H:Hp}{E:XK}{pins:Bm}{σ:St}
theorem YA (I:AB (Cv (CB P w) P w K mg base N qual scope f cd A outer s0 H0 E) pins σ H s)(h:CB P w (envOfC qual scope s0.heap.objs.size f cd::outer) H s E1 e s')
 (imp:∀C d H',E1 C d H'->E C d H'):(Cv (CB P w) P w K mg base N qual scope f cd A outer s0 H0 E).xe e s':=by
 obtain⟨ea,t,C,od,H',B,rfl,os,bare,un,hok,fl,tr,old,al,hE⟩:=h;refine A8 (Md (UX _ _) (wpAny_leaves_onW (Q:=fun _ s2=>∃h',s2={ s' with heap:=h' }/\Heap.FlyingW B outer ea C (.ref t) h'/\s'.heap.UpToSlots h') I.ok.frames rfl fl.1 fun h' f2 u=>⟨h',rfl,f2,u⟩)) (fun _ s2 hq=>?_) fun _ _ z=>z;obtain⟨⟨h'',rfl,fl2,up⟩,dk⟩:=hq;have st:B.StaysIn h'':=fl2.1;have nl:∀b o,s0.heap.get? b=some o->H0 b=none->b∉Az outer->B.get? b=some o:=fun b o e n hb=>by
  refine old b o (I.base.keep b o e n hb (by intro z;cases z)) (I.base.free b o e n (by intro z;cases z)) fun z=>?_;rcases zT.mp (I.stkSub b z) with q | q
  . exact absurd (zU e) (by rw[q];exact Nat.not_lt_of_le (zJ _))
  . exact hb q
 have na:∀b o,s0.heap.get? b=some o->b∉Az outer->∃o',B.get? b=some o':=fun b o e hb=>by
  obtain⟨o1,e1⟩:=I.base.there b o e (by intro z;cases z);refine al b o1 e1 fun z=>?_;rcases zT.mp (I.stkSub b z) with q | q
  . exact absurd (zU e) (by rw[q];exact Nat.not_lt_of_le (zJ _))
  . exact hb q
 refine⟨ea,t,C,od,H',B,rfl,os.trans I.os,bare,⟨fun b o e n hb _=>st b o (nl b o e n hb),fun b o e n hb _=>?_,fun b o e n _=>?_,fun b o e _=>?_,fun b xs e=>un.tups _ _ (I.base.tups _ _ e),fun b o u e=>un.frzs _ _ _ (I.base.frzs _ _ _ e),fun b ps e=>?_⟩,hok.stays fl.1.1 st tr,fl.step fl2 dk,tr,nl,na,imp _ _ _ hE⟩
 . obtain⟨sl,e1⟩:=I.base.slot b o e n hb (by intro z;cases z);have n1:=I.base.free b o e n (by intro z;cases z);obtain⟨iB,e2⟩:=un.slot b _ e1 n1 (zZ _ hb) (by intro z;cases z);obtain⟨_,o3,e3,nd⟩:=fl.1.2.2.1.mem (show b∈(envOfC qual scope s0.heap.objs.size f cd::outer).filterMap (·.frame) from zZ _ hb);obtain⟨sl4,e4⟩:=up b _ e3 nd;have e5:=zY (e3.symm.trans e2);rw[e5] at e4;exact⟨sl4,e4⟩
 . exact un.free b _ (I.base.there b o e (by intro z;cases z)).choose_spec (I.base.free b o e n (by intro z;cases z)) (by intro z;cases z)
 . obtain⟨o1,e1⟩:=I.base.there b o e (by intro z;cases z);by_cases hb:b∈(envOfC qual scope s0.heap.objs.size f cd::outer).filterMap (·.frame)
   . obtain⟨_,o3,e3,nd⟩:=fl.1.2.2.1.mem hb;obtain⟨sl4,e4⟩:=up b _ e3 nd;exact⟨_,e4⟩
   . obtain⟨o3,e3⟩:=al b o1 e1 hb;exact⟨_,st b o3 e3⟩
 . obtain⟨m1,e1⟩:=I.base.tbls _ _ e;obtain⟨m2,e2⟩:=un.tbls _ _ e1;exact⟨m1++m2,by rw[e2,Array.append_assoc]⟩
end
theorem QN {K:AJ}:QF (CB P w) (Cv (CB P w) P w K mg base N qual scope f cd A outer s0 H0 E) E:=fun _ _ _ _ _ _ I h=>YA I h fun _ _ _ z=>z
theorem Cm.okI {K:AJ}{st:Stmt}(F:Cm K x qual st f fd)(S:AX N ps (defScope st))(len:∀vs H Q E,sp vs H Q E->vs.length=ps.length)
 (eL:∀dy A outer s H vs Q E,A0 k (A.deeper (envOfC qual (defScope st) s.heap.objs.size f dy))->sp vs H Q E ->
  ∃t,BU (Cv (CB P w) P w K mg base N qual (defScope st) f dy A outer s H E) (defBody st) t/\t { nx:=fun _ H'=>Q .non H',rt:=Q } (start N vs) H):AL P w K mg base (CB P w) (k+1) f fd ps sp:=by
 obtain⟨oc,od,kV,doc,pm,an,dy,ct,osl,rfl,lk,gp⟩:=F.ex;exact Hh lk gp S len fun A outer s H vs Q E hr fv=>eL dy A outer s H vs Q E hr fv
noncomputable def Iz (e:Addr)(H:Hp):Hp:=fun b=>if b=e then none else H b
theorem ET (n:b≠e):Iz e H b=H b:=by unfold Iz;rw[if_neg n]
theorem Iq :Iz e H e=none:=by unfold Iz;rw[if_pos rfl]
theorem AB.drop (I:AB X pins σ H s)(he:H e=some (.ext φ)):AB X pins σ (Iz e H) s:=by
 have nt:∀b xs,H b=some (.tup xs)->b≠e:=fun b xs q z=>by rw[z,he] at q;cases q
 have no:∀b y,H b=some (.own y)->b≠e:=fun b y q z=>by rw[z,he] at q;cases q
 refine⟨I.ok,I.os,I.bare,⟨I.base.keep,I.base.slot,fun b o q n hx=>?_,I.base.there,fun b xs q=>by rw[ET (nt b xs (I.base.tups b xs q))];exact I.base.tups b xs q,fun b o u q=>?_,fun b ps q=>?_⟩,I.loc,I.cell,?_,fun x c q=>?_,fun p hp=>?_,fun b o q=>?_,I.len⟩
 . by_cases z:b=e
   . subst z;exact Iq
   . rw[ET z];exact I.base.free b o q n hx
 . have r:=I.base.frzs b o u q;rw[ET (fun z=>by rw[z,he] at r;cases r)];exact r
 . obtain⟨m,r⟩:=I.base.tbls b ps q;exact⟨m,by rw[ET (fun z=>by rw[z,he] at r;cases r)];exact r⟩
 . by_cases z:X.env.locals=e
   . rw[z];exact Iq
   . rw[ET z];exact I.free
 . by_cases z:c=e
   . subst z;exact Iq
   . rw[ET z];exact I.freeC x c q
 . obtain⟨a,b,r⟩:=I.pin p hp;refine⟨a,?_,r⟩;by_cases z:p.1=e
   . rw[z];exact Iq
   . rw[ET z];exact b
 . have z:b≠e:=fun z=>by rw[z,Iq] at q;cases q
   rw[ET z] at q;exact (I.hok b o q).stay (fun _ _ _ r=>r) (fun c r=>by rw[ET (no c _ r)];exact r) fun c xs r=>by rw[ET (nt c xs r)];exact r
theorem YN {M:Model}{A:Around}{E:Bw}{env:Env}{K:AJ}{C tt:Addr}{od:Option Addr}{y:Sem Value}{Q:Flow->Shared->Prop}(q:Fs K C=true)(hh:A.handled=none)
 (h:wpAny M A y (fun v s1=>∃e,v=.ref e/\K.In s1.heap/\(∃tt od,s1.heap.get? e=some (By C tt od))/\E (.ref e) s1) E s):wpAny M A (raiseStmt env (some y) none) Q E s:=by
 unfold raiseStmt;refine zA (A8 h (fun v s1 hv=>?_) fun _ _ z=>z);obtain⟨e,rfl,X1,⟨tt,od,he⟩,hE⟩:=hv;obtain⟨bm,N,nm,qn,bs,sn,sub,ab,col,dd,k0,k1,k2,k3,k5,mN,hC,hN,T⟩:=JK X1 q;have hcB:(Value.ref C::bm).contains (.type "BaseException")=true:=by rw[List.contains_cons,T.hasType (X := "BaseException") (b:=true) (by rfl),Bool.or_true]
 obtain⟨hp,g,d,tk,os⟩:=s1;have gJ:hp.get? e=some { cls:=.ref C,dict:=od,data:=.fields #[.ref tt,.none,.none,.none,.bool false,.none] }:=he
 repeat (first | with_reducible refine DO gJ ?_ | with_reducible refine DO hC ?_ | (with_reducible refine wpAny_isSubtype_exc hC ?_;rw[hcB]) | wp_step)
 exact wpAny_raiseNew_none hh hE
theorem AB.madeX (I:AB X pins σ H s)(r:AK vs us)(hz:vs.length<=sizeLine):
 AB X pins σ (upd (upd H s.heap.objs.size (.tup vs)) (s.heap.objs.size+1) (xO (s.heap.objs.size+1) C s.heap.objs.size none)) { s with heap:=Gf s.heap C us }:=by
 have e1:(s.heap.push (Gy us)).get? s.heap.objs.size=some (Gy us):=Heap.get?_push_at rfl rfl;have I1:=I.laid (a:=s.heap.objs.size) (o:=.tup vs) (h':=s.heap.push (Gy us)) (t':=s.toks) (fun b u q=>zG _ q) (zJ _) ⟨⟨hz,_,e1,rfl⟩,us,r,⟨_,e1,rfl,_,rfl⟩⟩;exact I1.laid (a:=s.heap.objs.size+1) (t':=s.toks) (h':=Gf s.heap C us) (fun b u q=>zG _ q) (Nat.le_of_eq (CV _ _)) (ID (Up s.heap C us))
def Zr (C:Addr)(f1 f2:Str)(t:TA)(E:XK):TS:=fun _ σ H=>t σ H fun vs H1=>∃v1 v2,vs=[v1,v2]/\∀tt dx,H1 tt=none->H1 dx=none->tt≠dx->E (.ref C) (some dx) (upd (upd H1 tt (.tup [v1,v2])) dx (dO dx [(f1,v1),(f2,v2)]))
theorem WO (hg:Gl X x)(hm:X.mg x=some (.ref C))(EI:Cz X.K C fI)(hc:X.calm=true)(F:AL X.prog X.w X.K X.mg X.base AU k fI fd ps (Dh C f1 f2))(hr:A0 (k+1) X.A)(hb:DA X.K fd ps [])(ha:PA X [e1,e2] t)
 (hxe:∀pins σ H s ea tt dx,AB X pins σ H s->s.heap.get? ea=some (By C tt (some dx))->H ea=none->X.s₀.heap.get? ea=none->E (.ref C) (some dx) H->X.xe (.ref ea) s)
 (hd:(x==("__debug__" : Str))=false:=by decide) (hs:starEach [e1,e2] X.env=(false,eval e1 X.env)::starEach [e2] X.env:=by rfl)(gg:(backTo df (starEach [e2] X.env)).any (·.1)=false:=by rfl):
 PS X (.Raise (some (.Call (.Name x np) [e1,e2] [] df)) none pos) (Zr C f1 f2 t E):=by
 intro pins s σ H D I h;rw[arm_exec_Raise];refine zA (wpAny_standAt ?_);show wpAny _ _ (raiseStmt X.env (some (do let v <-eval (.Call (.Name x np) [e1,e2] [] df) X.env;standAt pos;pure v)) none) _ _ _
 refine YN (tt:=0) (od:=none) EI.cl (I.ok.hd hc) (zA (A8 (Q:=fun v s1=>∃e,v=.ref e/\X.K.In s1.heap/\(∃tt od,s1.heap.get? e=some (By C tt od))/\X.xe (.ref e) s1) (E:=X.xe) ?main (fun v s3 h3=>zA (wpAny_standAt (zC h3))) fun _ _ z=>z))
 case main=>
  refine Gb (L4 I hg hm ?_ hd);refine PySem.W.callWith_K (h₀:=X.base) I.ok.mod.kin EI.kp (A8 (ha df pins s σ H _ I h) (fun us s1 ⟨vs,H1,I1,r,q⟩=>⟨I1.kIn,?_⟩) fun _ _ z=>z) hs gg;obtain⟨v1,v2,rfl,q⟩:=q;have hz:us.length<=sizeLine:=by rw[<-r.length];show 2<=sizeLine;decide
  have I2:=AB.madeX (C:=C) I1 r (show 2<=sizeLine by decide);have r2:AK (V.ref (s1.heap.objs.size+1)::[v1,v2]) (Value.ref (s1.heap.objs.size+1)::us):=.cons rfl r;have n1:H1 s1.heap.objs.size=none:=I1.hok.fresh (zJ _);have n2:H1 (s1.heap.objs.size+1)=none:=I1.hok.fresh (Bc _);have s00:X.s₀.heap.get? (s1.heap.objs.size+1)=none:=Heap.get?_none_of_le (zp I1.sz (Bc _));refine Z9 (h:=s1.heap) I1.kIn EI hz ?_;have ne:s1.heap.objs.size≠s1.heap.objs.size+1:=zc (Nat.lt_succ_self _);have fv:Dh C f1 f2 (V.ref (s1.heap.objs.size+1)::[v1,v2]) (upd (upd H1 s1.heap.objs.size (.tup [v1,v2])) (s1.heap.objs.size+1) (xO (s1.heap.objs.size+1) C s1.heap.objs.size none))
   (fun v H2=>v=.non/\∃dx,H2 (s1.heap.objs.size+1)=some (xO (s1.heap.objs.size+1) C s1.heap.objs.size (some dx))/\E (.ref C) (some dx) (Iz (s1.heap.objs.size+1) H2)) (fun _ _ _=>False):=by
   refine⟨_,_,v1,v2,rfl,zK,fun dx hZ nd=>⟨rfl,dx,zK,?_⟩⟩;rw[zk nd] at hZ;have nt:s1.heap.objs.size≠dx:=fun z=>by rw[<-z,zK] at hZ;cases hZ
   have hdx1:H1 dx=none:=by rw[zk (Ne.symm nt)] at hZ;exact hZ
   have eq:Iz (s1.heap.objs.size+1) (upd (upd (upd (upd H1 s1.heap.objs.size (.tup [v1,v2])) (s1.heap.objs.size+1) (xO (s1.heap.objs.size+1) C s1.heap.objs.size none)) dx (dO dx [(f1,v1),(f2,v2)])) (s1.heap.objs.size+1) (xO (s1.heap.objs.size+1) C s1.heap.objs.size (some dx)))
   =upd (upd H1 s1.heap.objs.size (.tup [v1,v2])) dx (dO dx [(f1,v1),(f2,v2)]):=by
    funext b;by_cases hb:b=s1.heap.objs.size+1
    . subst hb;rw[Iq,zk (Ne.symm nd),zk (Ne.symm ne)];exact n2.symm
    . rw[ET hb,zk hb];by_cases hb2:b=dx
      . subst hb2;rw[zK,zK]
      . rw[zk hb2,zk hb,zk hb2]
   rw[eq];exact q _ dx n1 hdx1 nt
  have hl:(Value.ref (s1.heap.objs.size+1)::us).length=ps.length:=by rw[<-r2.length];exact F.len _ _ _ _ fv
  refine Cj (codeAny_mono (F.run _ X.stack _ _ ⟨Value.ref (s1.heap.objs.size+1)::us,[]⟩ (Value.ref (s1.heap.objs.size+1)::us) _ _ (fun _ _ _=>False) (hr.make C us []) (I2.env0.make C us [])
   (by have:=hb _ (Value.ref (s1.heap.objs.size+1)::us) I2.kIn (by rw[BR];exact hl);rw[BR] at this;exact this) r2 fv) fun r s' fV=>?_)
  cases r with
  | error e=>exact False.elim fV
  | ok fl=>
   cases fl with
   | ret u=>obtain⟨v,H',I3,rv,ev,dx,hx,hE⟩:=I2.after fV;subst ev;refine⟨rv,_,rfl,I3.kIn,⟨_,_,(I3.hok _ _ hx).1⟩,?_⟩;exact hxe pins σ _ s' _ _ dx (I3.drop hx) (I3.hok _ _ hx).1 Iq s00 hE
   | next=>exact False.elim fV
   | brk=>exact False.elim fV
   | cont=>exact False.elim fV
section
variable {prog:Program}{w:World}{A:Around}{E:Bw}{h:Heap}{g:Array GenState}{d:Drawn}{t:Nat}{os:OsState}{K:AJ}{C x dx:Addr}{o:Obj}{name:Str}{v:Value}{mA:Bx}
theorem Y4 (X:K.In h)(q:Fs K C=true)(hx:h.get? x=some o)(hc:o.cls=.ref C)(hd:o.data=.fields vs)(iN:o.dict=some dx)(e7:h.Ns1 dx mA)(nm:PySem.W.findIn K (.ref C) name=some none)(hv:mA name=some v)(hq:Q (.done (.ret v)) ⟨h,g,d,t,os⟩):
 wpAny (model prog w) A (Builtin.«object.__getattribute__» ⟨[.ref x,.str name tk],[]⟩) Q E ⟨h,g,d,t,os⟩:=by
 obtain⟨bm,N,nmm,qn,bs,sn,sub,ab,col,dd,k0,k1,k2,k3,k5,mN,hC,hN,T⟩:=JK X q;have L:=PySem.W.looks_findIn (M:=model prog w) X nm;unfold Builtin.«object.__getattribute__»
 repeat (first | (with_reducible refine DO hx ?_;rw[hc]) | with_reducible refine DO hC ?_ | with_reducible refine L.at ?_ | wp_step)
 rw[hd];have ns:h.Ns dx mA:=e7.ns;show wpAny _ _ (instanceDict x false) _ _ _;unfold instanceDict
 repeat (first | (with_reducible refine DO hx ?_;rw[hc]) | with_reducible refine DO hC ?_ | wp_step)
 rw[iN];refine zC ?_;unfold Builtin.ObjectAttr.inDict;refine wpAny_nsGet ns ?_;rw[hv]
 repeat (any_goals (first | assumption | wp_step))
theorem Zo (X:K.In h)(q:Fs K C=true)(F':C7 K C)(hx:h.get? x=some o)(hc:o.cls=.ref C)(hd:o.data=.fields vs)(iN:o.dict=some dx)(e7:h.Ns1 dx mA)(nm:PySem.W.findIn K (.ref C) name=some none)(hv:mA name=some v)(hq:R (.ok (.ret v)) ⟨h,g,d,t,os⟩):
 codeAny (model prog w) A (.call (.builtin "BaseException.__getattribute__") ⟨[.ref x,.str name tk],[]⟩) R ⟨h,g,d,t,os⟩:=
 codeAny_call_builtin PySem.F.attrBase_ValueError.ga.plain PySem.F.entry_bexc_ga (VR X ⟨o,hx,hc⟩ F' (Y4 X q hx hc hd iN e7 nm hv hq))
theorem KB {fill:Bool}(X:K.In h)(q:Fs K C=true)(F':C7 K C)(hx:h.get? x=some o)(hc:o.cls=.ref C)(hd:o.data=.fields vs)(iN:o.dict=some dx)(e7:h.Ns1 dx mA)(nm:PySem.W.findIn K (.ref C) name=some none)(hv:mA name=some v)(hh:PySem.W.handedIn v=true)(hq:Q v ⟨h,g,d,t,os⟩):
 wpAny (model prog w) A (getAttrBy (.ref x) (.str name tk) fill b) Q E ⟨h,g,d,t,os⟩:=by
 have L0:=(show DR h x C from ⟨o,hx,hc⟩).type (M:=model prog w);have L1:=PySem.W.looks_findIn (M:=model prog w) X F'.ga;have L2:=PySem.W.looks_findIn (M:=model prog w) X F'.gn;have f3:=PySem.F.attrBase_ValueError.ga.bind (.ref x);have hx2:(Value.builtin "BaseException.__getattribute__" == Value.builtin "object.__getattribute__")=false:=by decide +kernel
 have hx0:(b && onTheHeap (Value.builtin "BaseException.__getattribute__"))=false:=by cases b <;> rfl
 have hx1:(onTheHeap (Value.ref C) && Value.builtin "BaseException.__getattribute__" == Value.builtin "object.__getattribute__")=false:=by rw[hx2];rfl
 repeat (any_goals (first | assumption | with_reducible refine L0.at ?_ | with_reducible refine L1.at ?_ | with_reducible refine L2.at ?_ | wp_step))
 refine Zo X q F' hx hc hd iN e7 nm hv ?_;show wpAny _ _ (handedOut v) _ _ _;exact PySem.W.handed_on hh hq
theorem N7 (X:K.In h)(q:Fs K C=true)(F':C7 K C)(hx:h.get? x=some o)(hc:o.cls=.ref C)(hd:o.data=.fields vs)(iN:o.dict=some dx)(e7:h.Ns1 dx mA)(nm:PySem.W.findIn K (.ref C) name=some none)(hv:mA name=some v)(hh:PySem.W.handedIn v=true)(hq:∀tk,Q v ⟨h,g,d,tk,os⟩):
 wpAny (model prog w) A (getAttr (.ref x) name b) Q E ⟨h,g,d,t,os⟩:=by
 unfold getAttr
 repeat (any_goals (first | assumption | exact hq _ | with_reducible refine KB X q F' hx hc hd iN e7 nm hv hh ?_ | wp_step))
end
structure IA (X:Cx)(ea C dx:Addr):Prop where
 pin:∃oe vs,(ea,oe)∈X.pn/\oe.cls=.ref C/\oe.dict=some dx/\oe.data=.fields vs
def Nj (X:Cx)(ta:TE)(f:Str):TE:=fun σ H Q=>ta σ H fun x H1=>∃ea C dx fs v,x=.ref ea/\IA X ea C dx/\Fs X.K C=true/\C7 X.K C/\PySem.W.findIn X.K (.ref C) f=some none/\H1 dx=some (dO dx fs)/\fs.lookup f=some v/\Q v H1
theorem UG (he:PE X e ta)(hb:attributeBase e f X.env (eval e X.env)=eval e X.env:=by rfl):PE X (.Attribute e f pos) (Nj X ta f):=by intro pins s σ H Q I h;refine Y3 hb (AI (he pins s σ H _ I h) fun u s1 ⟨x,H1,I1,rx,ea,C,dx,fs,v,ex,⟨⟨oe,vs,hp,hc,iN,hd⟩⟩,q,F',nm,hZ,hl,hq⟩=>?_);subst ex;obtain rfl:u=Value.ref ea:=rx;obtain⟨e1,_⟩:=I1.pin (ea,oe) (C8 _ hp);obtain⟨mA,e7,r,wi⟩:=(I1.hok dx _ hZ).1;obtain⟨u,hu,ru⟩:=CL.some_of (v:=v) (o:=mA f) (by rw[<-hl];exact r f);obtain⟨hJ,g,d,tk,os⟩:=s1;exact N7 I1.kIn q F' e1 hc hd iN e7 nm hu (aB ru) fun fK=>⟨v,H1,I1.tok fK,ru,hq⟩
def Fo (e:Addr)(od:Option Addr)(h:Heap):Prop:=∃o,h.get? e=some o/\o.dict=od
theorem Fo.step (x:Fo e od h)(k:DK h h'):Fo e od h':=by obtain⟨o,q,r⟩:=x;obtain⟨o',q',r'⟩:=k e o q;exact⟨o',q',r'.trans r⟩
theorem ZM (i4:A.frames=some (env::outer))(hf:env.frame=some L)(hfl:Heap.FlyingW base (env::outer) e cls a0 s.heap)(hd:Fo e od s.heap)
 (hQ:∀h',Heap.HeldW base (env::outer) e cls a0 L h'->s.heap.UpToSlots h'->Fo e od h'->Q () { s with heap:=h' }):wpAny M A (noteFrame (.ref e) env) Q E s:=by
 refine A8 (Md (Ux _ _) (wpAny_looks_onW (Q:=fun _ s2=>∃h',s2={ s with heap:=h' }/\Heap.HeldW base (env::outer) e cls a0 L h'/\s.heap.UpToSlots h') i4 hf hfl fun h' a b=>⟨h',rfl,a,b⟩)) (fun _ s2 hq=>?_) fun _ _ z=>z;obtain⟨⟨h',rfl,a,b⟩,k⟩:=hq;exact hQ h' a b (hd.step k)
theorem Jg (hh:Heap.HeldW base l e cls a0 L s.heap)(hd:Fo e od s.heap)
 (hQ:∀h',Heap.FlyingW base l e cls a0 h'->s.heap.UpToSlots h'->Fo e od h'->Q () { s with heap:=h' }):wpAny M A (setFlight (.ref e) none) Q E s:=by
 refine A8 (Md (Rw _ _) (wpAny_landsW (Q:=fun _ s2=>∃h',s2={ s with heap:=h' }/\Heap.FlyingW base l e cls a0 h'/\s.heap.UpToSlots h') hh fun h' a b=>⟨h',rfl,a,b⟩)) (fun _ s2 hq=>?_) fun _ _ z=>z;obtain⟨⟨h',rfl,a,b⟩,k⟩:=hq;exact hQ h' a b (hd.step k)
theorem J0 (hh:Heap.FlyingW base l e cls a0 s.heap)(hd:Fo e od s.heap)
 (hQ:∀h',Heap.FlyingW base l e cls a0 h'->s.heap.UpToSlots h'->Fo e od h'->Q () { s with heap:=h' }):wpAny M A (setFlight (.ref e) none) Q E s:=by
 refine A8 (Md (Rw _ _) (lands_againW (Q:=fun _ s2=>∃h',s2={ s with heap:=h' }/\Heap.FlyingW base l e cls a0 h'/\s.heap.UpToSlots h') hh fun h' a b=>⟨h',rfl,a,b⟩)) (fun _ s2 hq=>?_) fun _ _ z=>z;obtain⟨⟨h',rfl,a,b⟩,k⟩:=hq;exact hQ h' a b (hd.step k)
noncomputable def FQ (K:AJ)(C:Addr):Bool:=Fs K C || PySem.W.excIn K C MX "ValueError.__new__"
theorem aG {K:AJ}(X:K.In h)(q:FQ K C=true):
 ∃bm N nm qn bs gL sn sub ab col dd k0 k1 k2 k3 k5,h.get? C=some (excClassObj nm qn C N bs bm gL sn sub ab col dd k0 k1 k2 k3 k5 "ValueError.__new__"):=by
 unfold FQ at q;rcases Bool.or_eq_true _ _ ▸ q with q | q
 . obtain⟨bm,N,nm,qn,bs,sn,sub,ab,col,dd,k0,k1,k2,k3,k5,mN,hC,_⟩:=JK X q;exact⟨_,_,_,_,_,_,_,_,_,_,_,_,_,_,_,_,hC⟩
 . obtain⟨bm,N,nm,qn,bs,gL,sn,sub,ab,col,dd,k0,k1,k2,k3,k5,mN,hC,_⟩:=Ut X q;exact⟨_,_,_,_,_,_,_,_,_,_,_,_,_,_,_,_,hC⟩
def dJ (K:AJ)(W:Addr)(ts:Addr->Obj->Addr->TS)(i:Nat)(D:Gc)(σ:St):XK:=fun C od H'=>∃Ca,C=.ref Ca/\FQ K Ca=true/\subIn K Ca W=true/\∀ea oe vs,oe.cls=.ref Ca->oe.dict=od->oe.data=.fields vs->H' ea=none->ts ea oe Ca (IK i D) (σ.set i (some (.ref ea))) H'
def OR (K:AJ)(W:Addr)(tb:XK->TS)(ts:Addr->Obj->Addr->TS)(i:Nat):TS:=fun D σ H=>tb (dJ K W ts i D σ) D σ H
def Xh (X:Cx)(body:List Stmt)(tb:XK->TS):Prop:=∀pins s σ H D E1,AB X pins σ H s->tb E1 D σ H ->
 wpAny (model X.prog X.w) X.A (execs body X.env) (SP X pins D) (fun e s'=>∃H1 s1,AB X pins σ H1 s1/\CB X.prog X.w X.stack H1 s1 E1 e s') s
theorem bc (hN:X.N.Nodup)(hi:X.N[i]?=some n)(hk:X.env.kindOf n=some .local)
 (gY:X.stack=X.env::X.outer)(hfl:X.env.frame=some X.env.locals)(hg:Gl X x)(hm:X.mg x=some (.ref W))(qW:PySem.W.excIn X.K W MX "ValueError.__new__"=true)
 (hb:Xh X body tb)(hs:∀ea oe C,oe.cls=.ref C->BU (X.held ea oe) (b0::suite) (ts ea oe C))(hd:(x==("__debug__" : Str))=false:=by decide):
 PS X (.Try body [.ExceptHandler (some (.Name x np)) (some n) (b0::suite) hpos] [] [] pos) (OR X.K W tb ts i):=by
 intro pins s σ H D I h;refine wpAny_Try_except (A8 (hb pins s σ H D _ I h) (fun fl s' hq=>?_) fun e s' hq=>?_)
 . cases fl with
   | next=>exact wpAny_execs_nil hq
   | brk=>exact hq
   | cont=>exact hq
   | ret u=>exact hq
 . obtain⟨H1,s1,I1,ea,t,C,od,H',B,rfl,os,bare,un,hok,⟨fl,fd⟩,tr,old,al,Ca,rfl,qC,sub,hts⟩:=hq;have i4:X.A.frames=some (X.env::X.outer):=by rw[<-gY];exact I.ok.frames
   have fl':=fl;rw[gY] at fl';have hHe:H' ea=none:=by
    cases z:H' ea with
    | none=>rfl
    | some u=>obtain⟨o,ho⟩:=tr ea u z;rw[fl.2.1] at ho;cases ho
   refine ZM i4 hfl fl' fd fun h4 held up4 d4=>?_;refine Jg held d4 fun h5 fl5 up5 d5=>?_;have key:∀(h6:Heap),Heap.FlyingW B (X.env::X.outer) ea (.ref Ca) (.ref t) h6->s'.heap.UpToSlots h6->Fo ea od h6->∃oe vs,h6.get? ea=some oe/\oe.cls=.ref Ca/\oe.dict=od/\oe.data=.fields vs/\AB (X.held ea oe) pins σ H' { s' with heap:=h6 }:=fun h6 fl6 up6 d6=>by
    obtain⟨oe,ws,hoe,hc,hdt,_⟩:=fl6.first;have hdi:oe.dict=od:=by obtain⟨o2,q2,r2⟩:=d6;rw[hoe] at q2;cases q2;exact r2
    have un6:Un (Az X.stack) [] H1 H' s1.heap h6:=bh un fl old al fl6.1 up6;have I6:AB X pins σ H' { s' with heap:=h6 }:=I1.call' (s':={ s' with heap:=h6 }) os un6 (hok.stays fl.1 fl6.1 tr) bare (fun b z=>absurd z (by simp));have nfr:ea∉Az X.stack:=fun z=>by rw[gY] at z;obtain⟨_,o,ho,nd⟩:=fl6.2.2.1.mem z;rw[hoe] at ho;cases ho;exact nd ws hdt
    have hfs:Az X.stack=X.env.locals::X.fs:=by rw[gY];unfold Az;rw[HD,hfl];rfl
    rw[hfs] at nfr;exact⟨oe,ws,hoe,hc,hdi,hdt,I6.hold hoe hHe (fun z=>nfr (z ▸ zS)) (fun z=>nfr (zZ _ z)) (fun v z=>by rw[hdt] at z;cases z)⟩
   obtain⟨oe5,ws5,hoe5,hc5,_,_,I5⟩:=key h5 fl5 (up4.trans up5) d5;refine wpAny_handleBy_cons (codeAny_handlers_test (L4 (X:=X.held ea oe5) I5 hg hm ?_ hd)) (by intro q;cases q);obtain⟨bm,Nn,nm,qn,bs,gL,sn,sb,ab,col,dd,k0,k1,k2,k3,k5,hC⟩:=aG I5.kIn qC;obtain⟨bm',Nn',nm',qn',bs',hdct',sn',sb',ab',col',dd',k0',k1',k2',k3',k5',mN',hW,_,_,TW⟩:=Ut I5.kIn qW;refine Yu hC hW hoe5 hc5 (TW.hasType (by rfl)) (Ks I5.kIn sub hC) ?_;refine codeAny_handlers_suite_as (J0 fl5 d5 fun h6 fl6 up6 d6=>?_);obtain⟨oe6,ws6,hoe6,hc6,hd6,hf6,I6⟩:=key h6 fl6 ((up4.trans up5).trans up6) d6;refine JX (X:=X.held ea oe6) I6 hN hi (.inl hk) (v:=.ref ea) rfl (fun s7 I7=>?_) (.inr hk);refine A8 (hs ea oe6 Ca hc6 pins s7 _ H' (IK i D) I7 (hts ea oe6 ws6 hc6 hd6 hf6 hHe)) (fun f s8 hq=>?_) fun _ _ z=>z.elim;have fin:∀{σ':St}{H2:Hp}{Q:Unit->Shared->Prop},AB (X.held ea oe6) pins σ' H2 s8->(∀s9,AB X pins (σ'.set i none) H2 s9->Q () s9)->wpAny (model X.prog X.w) X.A (do bindName X.env n .none;unbindBehindTheSuite X.env n hpos) Q X.xe s8:=fun {σ' H2 Q} J hQ=>by
    have J1:=AB.letgo I.ok J;have hiσ:i<σ'.length:=by rw[J1.len];exact (zI.mp hi).1
    refine zA (wpAny_bindName (JX J1 hN hi (.inl hk) (v:=.non) rfl (fun s9 J2=>?_) (.inr hk)));unfold unbindBehindTheSuite;refine wpAny_onRaise (ZP J2 hN hi hk (v:=.non) (List.getElem?_set_self hiσ) fun gI J3=>?_);rw[List.set_set] at J3;exact hQ gI J3
   cases f with
   | next=>obtain⟨σ',H2,J,q⟩:=hq;exact fin J fun s9 J9=>⟨_,H2,J9,q⟩
   | brk=>obtain⟨σ',H2,J,q⟩:=hq;exact fin J fun s9 J9=>⟨_,H2,J9,q⟩
   | cont=>obtain⟨σ',H2,J,q⟩:=hq;exact fin J fun s9 J9=>⟨_,H2,J9,q⟩
   | ret u=>obtain⟨v,σ',H2,J,r,q⟩:=hq;exact fin J fun s9 J9=>⟨v,_,H2,J9,r,q⟩
theorem cL (F:AL X.prog X.w X.K X.mg X.base (CB X.prog X.w) k f fd ps sp)(hr:A0 k X.A)(hg:Gl X x)(hm:X.mg x=some (.ref f))(hk:PySem.W.keepIn X.K (.ref f)=true)(hb:DA X.K fd ps [])
 (ha:PA X.nox (e::es) t)(I:AB X pins σ H s)(h:t σ H fun vs H1=>sp vs H1 Q E1)(gk:(x==("__debug__" : Str))=false:=by decide) (he:starEach (e::es) X.env=(false,eval e X.env)::starEach es X.env:=by rfl)(gg:(backTo pos (starEach es X.env)).any (·.1)=false:=by rfl):
 wpAny (model X.prog X.w) X.A (eval (.Call (.Name x p) (e::es) [] pos) X.env) (EP X pins σ Q) (fun e s'=>∃H1 s1,AB X pins σ H1 s1/\CB X.prog X.w X.stack H1 s1 E1 e s') s:=by
 refine Gb (L4 I hg hm ?_ gk);refine PySem.W.callWith_K (h₀:=X.base) I.ok.mod.kin hk (A8 (ha pos pins s σ H _ (I.wish _) h) (fun us s1 ⟨vs,H1,I1,r,q⟩=>⟨I1.unwish.kIn,?_⟩) fun _ _ z=>False.elim z) he gg;have I2:=I1.unwish;have hl:us.length=ps.length:=by rw[<-r.length];exact F.len _ _ _ _ q
 refine Cj (codeAny_mono (F.run X.A X.stack s1 H1 ⟨us,[]⟩ us vs Q E1 hr I2.env0 (by have:=hb s1 us I2.kIn (by rw[BR];exact hl);rw[BR] at this;exact this) r q) fun r s' hq=>?_);cases r with
 | error e=>exact⟨H1,s1,I2,hq⟩
 | ok fl=>
  cases fl with
  | ret u=>exact I2.after hq
  | next=>exact False.elim hq
  | brk=>exact False.elim hq
  | cont=>exact False.elim hq
section
variable {X:Cx}{k:Nat}{f:Addr}{fd:FuncData}{ps:List Str}{sp:Addr->Addr->Sp}{x:Str}{p pos:Pos}{e:Expr}{es:List Expr}{t:TA}{ea:Addr}{oe:Obj}
theorem VL (h:oe.cls=.ref C)(h1:oe.dict=some dx)(h2:oe.data=.fields vs):IA (X.held ea oe) ea C dx:=⟨⟨oe,vs,zS,h,h1,h2⟩⟩
end
theorem YF (hN:X.N.Nodup)(hi:X.N[i]?=some y)(hx:Loc X.env.scope y)(F:AL X.prog X.w X.K X.mg X.base (CB X.prog X.w) k f fd ps sp)(hr:A0 k X.A)(hg:Gl X x)(hm:X.mg x=some (.ref f))(hk:PySem.W.keepIn X.K (.ref f)=true)(hb:DA X.K fd ps [])
 (ha:PA X.nox (e::es) t)(hs:swapsWith (.Call (.Name x p) (e::es) [] pos) (some (.Name y pos')) epos.line X.env=pure false:=by rfl)(hf:X.fn y=true\/X.env.scope.names.lookup y=some .local:=by first | exact .inl rfl | exact .inr rfl | assumption)(gk:(x==("__debug__" : Str))=false:=by decide) (he:starEach (e::es) X.env=(false,eval e X.env)::starEach es X.env:=by rfl)(gg:(backTo pos (starEach es X.env)).any (·.1)=false:=by rfl):
 Xh X [.Assign [.Name y pos'] (.Call (.Name x p) (e::es) [] pos) epos] (fun E1 D σ H=>t σ H fun vs H1=>sp vs H1 (fun v H2=>D.nx (σ.set i (some v)) H2) E1):=by
 intro pins s σ H D E1 I h;refine wpAny_execs_cons (wpAny_Assign_Name (A8 (cL F hr hg hm hk hb ha I h gk he gg) (fun v s1 ⟨z,H1,I1,r1,q1⟩=>?_) fun _ _ z=>z) hs);exact JX I1 hN hi hx r1 (fun s2 I2=>wpAny_execs_nil ⟨_,H1,I2,q1⟩) hf
theorem AB.off (I:AB X pins σ H s)(f:BB X pins H a)(k:∀b o,b≠a->s.heap.get? b=some o->h'.get? b=some o):AB X pins σ H { s with heap:=h',toks:=t' }:=by
 obtain⟨f1,f2,f3,f4,f5,f6⟩:=f;refine I.step (g':=s.gens) (d':=s.drawn) (ch:=[a]) (fun b hb=>?_) (fun b o _ _ hb e _=>k b o (fun z=>hb (by rw[z];exact zS)) e) (fun b o _ _ hb e _=>⟨o.slots,k b o (fun z=>hb (by rw[z];exact zS)) e⟩) (fun _ _ _ _ n=>n) (fun b o hb e=>⟨o,k b o (fun z=>hb (by rw[z];exact zS)) e⟩) (fun _ _ e=>e) (fun _ _ _ e=>e) (fun b ps e=>⟨#[],by rw[e];simp⟩) (fun m hm=>?_) (fun b u e=>?_) I.bare
 . obtain rfl:b=a:=zh.mp hb;exact⟨f4,f2,f5,f6⟩
 . obtain⟨o,es,ep,e,z⟩:=hm;exact⟨o,es,ep,k _ _ (Ne.symm f2) e,z⟩
 . have nb:∀c u,H c=some u->c≠a:=fun c u q z=>by rw[z,f1] at q;cases q
   refine (I.hok b u e).stay (fun x v hx z=>k x v ?_ z) (fun _ z=>z) fun _ _ z=>z;rcases hx with z1 | z1
   . rw[z1];exact nb _ _ e
   . exact nb _ _ z1
structure Cn (X:Cx)(pins:Bm)(σ:St)(H2:Hp)(f:Addr)(of:Obj)(Ia Sa:Addr)(H:Hp)(s:Shared):Prop where
 inv:AB X pins σ H s
 sm:AD H2 H
 fo:s.heap.get? f=some of
 fn:BB X pins H f
 fi:BB X pins H Ia
 fs:BB X pins H Sa
 d1:f≠Ia
 d2:f≠Sa
 d3:Sa≠Ia
 io:∃o,s.heap.get? Ia=some o
 so:∃o,s.heap.get? Sa=some o
theorem BB.to (f:BB X pins H b)(h:H' b=none):BB X pins H' b:=⟨h,f.2⟩
theorem BB.nst (I:AB X pins σ H s)(f:BB X pins H b):b∉Az X.stack:=fun z=>by
 rcases zT.mp (I.stkSub b z) with q | q
 . exact f.2.1 q
 . exact f.2.2.1 q
theorem Cn.offI (L:Cn X pins σ H2 f of Ia Sa H s)(k:∀b o,b≠Ia->s.heap.get? b=some o->h'.get? b=some o)(ho:∃o,h'.get? Ia=some o):Cn X pins σ H2 f of Ia Sa H { s with heap:=h',toks:=t' }:=
 ⟨L.inv.off L.fi k,L.sm,k _ _ L.d1 L.fo,L.fn,L.fi,L.fs,L.d1,L.d2,L.d3,ho,let ⟨o,e⟩:=L.so;⟨o,k _ _ L.d3 e⟩⟩
theorem Cn.offS (L:Cn X pins σ H2 f of Ia Sa H s)(k:∀b o,b≠Sa->s.heap.get? b=some o->h'.get? b=some o)(ho:∃o,h'.get? Sa=some o):Cn X pins σ H2 f of Ia Sa H { s with heap:=h',toks:=t' }:=
 ⟨L.inv.off L.fs k,L.sm,k _ _ L.d2 L.fo,L.fn,L.fi,L.fs,L.d1,L.d2,L.d3,let ⟨o,e⟩:=L.io;⟨o,k _ _ (Ne.symm L.d3) e⟩,ho⟩
theorem Cn.call (L:Cn X pins σ H2 f of Ia Sa H s)(h:CE X.stack X.prog X.w H s (fun v H'=>v=x/\AD H H') r s'):
 ∃H',Cn X pins σ H2 f of Ia Sa H' s'/\AQ x r/\(∀o,s.heap.get? Ia=some o->s'.heap.get? Ia=some o)/\(∀o,s.heap.get? Sa=some o->s'.heap.get? Sa=some o):=by
 obtain⟨v,H',os,bare,un,hok,rv,rfl,sm⟩:=h;have kp:∀b,BB X pins H b->∀o,s.heap.get? b=some o->s'.heap.get? b=some o:=fun b fb o e=>un.keep b o e fb.1 (fb.nst L.inv) (by intro z;cases z);have fr:∀b,BB X pins H b->(∃o,s.heap.get? b=some o)->BB X pins H' b:=fun b fb ⟨o,e⟩=>fb.to (un.free b o e fb.1 (by intro z;cases z));refine⟨H',⟨L.inv.call' os un hok bare (fun b z=>absurd z (by simp)),L.sm.trans sm,kp f L.fn _ L.fo,fr f L.fn ⟨_,L.fo⟩,fr Ia L.fi L.io,fr Sa L.fs L.so,L.d1,L.d2,L.d3,?_,?_⟩,rv,kp Ia L.fi,kp Sa L.fs⟩
 . obtain⟨o,e⟩:=L.io;exact⟨o,kp Ia L.fi o e⟩
 . obtain⟨o,e⟩:=L.so;exact⟨o,kp Sa L.fs o e⟩
end L2
namespace L2
open PySem PyProof.Rows
inductive PY (K:AJ)(xs:List V)(H:Hp)(Q:VK):Prop
 | mk:∀(p:Addr)(ns:List Int),(xs=[.ref p])->(AE K H p (ns.map V.int))->(ns≠[])->(∀M,M∈ns->(∀a∈ns,M<=a)->Q (.int M) H)->PY K xs H Q
theorem cI (hc:X.calm=true):B3 X (.builtin "min") (PY X.K):=by
 intro pins s σ H xs us Q I r h;obtain⟨p,ns,rfl,hq,eB,q⟩:=h;obtain⟨u,rfl,rx⟩:=Cb r;cases rx;obtain⟨its,rv,pl,hz⟩:=I.list hq;have hi:=Dz rv;have iL:=hi.length;have hlp:p<s.heap.objs.size:=by obtain⟨o,_,ho,_⟩:=pl;exact zU ho
 have hpos:0<ns.length:=List.length_pos_iff.mpr eB;refine call_min_walk (wpAny_pyIter_list pl.isList ⟨s.heap.objs.size,[s.heap.objs.size,p],[s.heap.objs.size],its.toArray.size,_,_,fun i j=>decide (ns.getD i 0<ns.getD j 0),rfl,Walks.list (A:=X.A.in1) (I.ok.hd hc) s.heap.objs.size p (zc hlp) its.toArray,⟨?_,?_⟩,?_,by simpa [iL] using hpos,?_,fun v h' tk hv kp=>?_⟩)
 . exact⟨_,zN _ rfl,rfl,rfl⟩
 . obtain⟨o,ho,hr⟩:=pl.isList;exact⟨o,zG _ ho,hr⟩
 . intro b hb;rw[CV];rcases zT.mp hb with rfl | hb
   . exact Nat.lt_succ_self _
   . rw[zh.mp hb];exact Dv hlp
 . intro i j vi vj s' Q' E' hvi hvj q';have hvi':its[i]?=some vi:=by simpa using hvi
   have hvj':its[j]?=some vj:=by simpa using hvj
   obtain⟨t1,rfl⟩:=hi.int_at i vi hvi';obtain⟨t2,rfl⟩:=hi.int_at j vj hvj';exact PyProof.Rows.lt_int q'
 . obtain⟨b1,b2⟩:=argBest_lt (fun i=>ns.getD i 0) (its.toArray.size-1);have iF:its[argBest (fun i j=>decide (ns.getD i 0<ns.getD j 0)) (its.toArray.size-1)]?=some v:=by simpa using hv
   generalize eb:argBest (fun i j=>decide (ns.getD i 0<ns.getD j 0)) (its.toArray.size-1)=bi at iF b1 b2;obtain⟨t,rfl⟩:=hi.int_at bi v iF;have dW:bi<ns.length:=by have:=(zI.mp iF).1;lia
   have hK:Kp s h':=fun b o e=>kp b o (fun z=>absurd (zh.mp z) (zc (zU e))) (zG _ e);refine⟨.int (ns.getD bi 0),H,I.kept hK,⟨t,rfl⟩,q _ ?_ fun m hm=>?_⟩
   . rw[zF,zB dW];exact Cq dW
   . obtain⟨j,hj,ej⟩:=zy hm;have:=b2 j (by rw[zL];lia);have g1:ns.getD j 0=m:=by rw[zF,zB hj,ej];rfl
     rw[g1] at this;exact this
end L2
namespace L2
open PySem PySem.Spec PyProof.Rows
def PJ (K:AJ):R2:=fun x y H Q=>∃a b xs,x=.ref a/\y=.ref b/\AC K H a xs/\AC K H b []/\Q (.bl xs.isEmpty) H
theorem Yx (hu:X.A.units<cLine):Ay X (compareOp .Eq) (PJ X.K):=by
 intro pins s σ H x y v u Q I rx ry h;obtain⟨a,b,xs,rfl,rfl,ha,hb,q⟩:=h;cases rx;cases ry;obtain⟨its,r,pl,hz⟩:=I.tuple ha;obtain⟨d7,r2,gX,hz2⟩:=I.tuple hb;have l1:=r.length;have e2:d7=[]:=by cases r2;rfl
 subst e2;refine SeqAt.eq_tupleAt (e:=fun _=>true) pl gX hu (fun j _ h2=>absurd h2 (by simp)) ⟨.bl _,H,I,rfl,?_⟩;have e:((List.range (min its.toArray.size ([]:List Value).toArray.size)).all (fun _=>true) && its.toArray.size==([]:List Value).toArray.size)=xs.isEmpty:=by
  cases xs with
  | nil=>cases r;rfl
  | cons x xs=>cases r;simp
 rw[e];exact q
theorem KS (a b):Xn (oV a) (oV b)=decide (a=b):=by
 cases a with
 | none=>cases b with
  | none=>rfl
  | some b=>rfl
 | some a=>cases b with
  | none=>rfl
  | some b=>
   show (a==b)=_;by_cases h:a=b
   . subst h;simp
   . rw[zR (by simpa using h)];simpa using h
theorem WU (a):RT (oV a)=true:=by cases a <;> rfl
theorem aC {xs:List (Option Int)}:((List.range (min xs.length ys.length)).all (fun j=>decide (xs.getD j none=ys.getD j none)) && xs.length==ys.length)=decide (xs=ys):=by
 by_cases h:xs=ys
 . subst h;simp
 . rw[zR h];by_cases hl:xs.length=ys.length
   . have:∃j,j<xs.length/\xs.getD j none≠ys.getD j none:=by apply Ir;intro hn;refine h (List.ext_getElem hl fun j h1 h2=>?_);apply Ir;intro eB;exact hn ⟨j,h1,by simpa [zF,h1,h2] using eB⟩
     obtain⟨j,hj,eB⟩:=this;rw[Bool.and_eq_false_iff];left;rw[List.all_eq_false];exact⟨j,by rw[C0];lia,by simpa using eB⟩
   . simp[hl]
theorem Jw {xs ys:List (Option Int)}(h1:AK (xs.map oV) us)(h2:AK (ys.map oV) ws)(j)(a:j<us.toArray.size)(b:j<ws.toArray.size):SeqAt.EqAt A s us.toArray[j] ws.toArray[j] (decide (xs.getD j none=ys.getD j none)):=by
 have l1:=h1.length;have l2:=h2.length;rw[zD] at l1 l2;rw[zL] at a b;have jx:j<xs.length:=by lia
 have jy:j<ys.length:=by lia
 obtain⟨u,hu,ru⟩:=h1.get (i:=j) (x:=oV xs[j]) (by simp[jx]);obtain⟨w,hw,gW⟩:=h2.get (i:=j) (x:=oV ys[j]) (by simp[jy]);have e1:us.toArray[j]'(by rw[zL];exact a)=u:=by rw[zB a] at hu;simpa using zY hu
 have e2:ws.toArray[j]'(by rw[zL];exact b)=w:=by rw[zB b] at hw;simpa using zY hw
 have e3:xs.getD j none=xs[j]:=by rw[zF,zB jx];rfl
 have e4:ys.getD j none=ys[j]:=by rw[zF,zB jy];rfl
 rw[e1,e2,e3,e4,<-KS];exact KE ru gW (WU _) (WU _)
def Es (K:AJ)(H:Hp)(a:Addr)(M:DE):Prop:=∃rs:List Addr,AE K H a (rs.map V.ref)/\rs.length=M.length/\∀(i:Nat)r row,rs[i]?=some r->M[i]?=some row->H r=some (.lst (row.map oV))
end L2
namespace L2
open PySem PySem.Spec PySem.Calls PyProof.Rows
theorem ZS {vs:List Value}{kz:List Int}
 (ky:∀kS hd of H s(i:Nat)v(k:Int)E,Cn X pins σ H2 hd of a kS H s->vs[i]?=some v->kz[i]?=some k->wpAny (model X.prog X.w) A (call g [v]) (fun r s'=>CE X.stack X.prog X.w H s (fun v H'=>v=.int k/\AD H H') r s') E s)
 (I:AB X pins σ H2 s)(ha:s.heap.get? a=some (seqObj "list" vs.toArray n)) (fa:BB X pins H2 a)(hl:kz.length=vs.length)(gz:vs.length<64)
 (h:∀kS hd of H s'(out:List Nat)(c:Nat),Cn X pins σ H2 hd of a kS H s'->SortT.Put (O:=F2) (fun i=>kz.getD i 0) vs.length out->s'.heap.get? a=some (seqObj "list" (out.map fun i=>vs.getD i Value.none).toArray c)->P (.done (.ret .none)) s'):
 wpAny (model X.prog X.w) A (ksk_tree a g false) P E s:=by
 unfold ksk_tree;have gG:a<s.heap.objs.size:=zU ha;refine zA (listItems_at ha rfl ?_);refine zA (listUpdate_at ha rfl ?_ (by rw[zL,sizeLine_eq];lia) (zg _));obtain⟨e1,ho1⟩:∃e1,(s.heap.update a (Obj.mapSeq fun _=>#[])).get? a=some (seqObj "list" #[] e1):=⟨_,get?_update_seq ha (fun _=>#[])⟩;refine zA (seqEpoch_at ho1 rfl ?_);refine zA (wpAny_newTuple ?_ (by show vs.length<=_;rw[sizeLine_eq];lia));refine zA (GQ ?_ (zg _));refine zu ?_;generalize hh0:s.heap.update a (Obj.mapSeq fun _=>#[])=h0 at *;have z0:h0.objs.size=s.heap.objs.size:=by rw[<-hh0,Heap.size_update]
 have z1:(h0.push (seqObj "tuple" vs.toArray 0)).objs.size=s.heap.objs.size+1:=by rw[size_push',z0]
 have L0:Cn X pins σ H2 s.heap.objs.size (seqObj "tuple" vs.toArray 0) a (s.heap.objs.size+1) H2 { s with heap:=(h0.push (seqObj "tuple" vs.toArray 0)).push (seqObj "list" #[] 0) }:=by
  refine⟨I.off fa fun b o hb e=>zG _ (zG _ ?_),AD.refl _,?_,I.fpOk (zJ _) (I.hok.fresh (zJ _)),fa,I.fpOk (Bc _) (I.hok.fresh (Bc _)),Nat.ne_of_gt gG,zc (Nat.lt_succ_self _),Nat.ne_of_gt (Dv gG),⟨_,zG _ (zG _ ho1)⟩,⟨seqObj "list" #[] 0,?_⟩⟩
  . rw[<-hh0,Ds _ _ _ _ hb];exact e
  . refine zG _ ?_;rw[<-z0];exact zN _ rfl
  . rw[<-z1];exact zN _ rfl
 have a0:((h0.push (seqObj "tuple" vs.toArray 0)).push (seqObj "list" #[] 0)).get? a=some (seqObj "list" #[] e1):=zG _ (zG _ ho1);have k0:((h0.push (seqObj "tuple" vs.toArray 0)).push (seqObj "list" #[] 0)).get? (s.heap.objs.size+1)=some (seqObj "list" #[] 0):=by rw[<-z1];exact zN _ rfl
 rw[z1];generalize (h0.push (seqObj "tuple" vs.toArray 0)).push (seqObj "list" #[] 0)=h1 at *;generalize s.heap.objs.size+1=kS at *;generalize s.heap.objs.size=hd at *;generalize seqObj "tuple" vs.toArray 0=of at *;unfold ksk_rest;refine zA (Cs ?_);rw[List.forIn_toArray];refine zA (ksk_fold (fun i s'=>∃(H:Hp)(ks:List Value)(c:Nat),Cn X pins σ H2 hd of a kS H s'/\IntsAre ks (kz.take i)/\s'.heap.get? a=some (seqObj "list" #[] e1)/\s'.heap.get? kS=some (seqObj "list" ks.toArray c)) vs 0 _ ⟨H2,[],0,L0,?_,a0,k0⟩ (fun j x s' hx z=>?_) (fun s' z=>?_))
 . rw[List.take_zero];exact .nil
 . obtain⟨H,ks,c,L,hI,gq,hk1⟩:=z;rw[Nat.zero_add] at hI;have hj:j<kz.length:=by have:=(zI.mp hx).1;lia
   refine zA (F1 (A8 (ky kS hd of H s' j x kz[j] (fun _ _=>False) L hx (zB hj)) (fun r s2 hce=>?_) fun _ _ z=>z.elim));obtain⟨H',L2,rv,kI,kK⟩:=L.call hce;obtain⟨t2,rfl⟩:=rv;have hk2:=kK _ hk1;have hlk:ks.length=j:=by rw[hI.length,zd];lia
   refine zA (listUpdate_at hk2 rfl (zC ⟨rfl,?_⟩) (by rw[zL,sizeLine_eq];lia) (by rw[Array.size_push,zL,sizeLine_eq];lia));refine⟨H',ks++[.int kz[j] t2],c+1,L2.offS (t':=s2.toks) (fun b o hb e=>(Ds _ _ _ _ hb).trans e) ⟨_,zq _ hk2 rfl⟩,?_,(Ds _ _ _ _ (Ne.symm L.d3)).trans (kI _ gq),?_⟩
   . rw[Nat.zero_add,zr,zB hj];exact hI.append (.cons _ _ .nil)
   . show (s2.heap.update kS _).get? kS=_;rw[get?_update_seq hk2 (fun x=>x.push _)];simp
 . obtain⟨H,ks,c,L,hI,gq,hk1⟩:=z;rw[Nat.zero_add,<-hl,List.take_length] at hI;have hlk:ks.length=vs.length:=by rw[hI.length,hl]
   refine zA (listItems_at hk1 rfl ?_);have fin:∀(q:List Nat)(st:SortSt),SortT.Put (O:=F2) (fun i=>kz.getD i 0) vs.length q->(arrOf st).map (·.2)=(q.map fun i=>vs.getD i Value.none).toArray->q.length=vs.length->failedOf st=none->wpAny (model X.prog X.w) A (ksk_tail a false e1 (.ref kS) st) P E s':=fun q st pt hs hql hf=>by unfold ksk_tail;refine zA (listUpdate_at hk1 rfl (zA (wpAny_letGo ?_)) (by rw[zL,sizeLine_eq];lia) (zg _));have ha2:(s'.heap.update kS (Obj.mapSeq fun _=>#[])).get? a=some (seqObj "list" #[] e1):=(Ds _ _ _ _ (Ne.symm L.d3)).trans gq;refine zA (seqEpoch_at ha2 rfl ?_);refine zA (listUpdate_at ha2 rfl ?_ (zg _) (by simp only[Fy,if_false];rw[hs,zL,zD,hql,sizeLine_eq];lia));rw[hf];simp only[bne_self_eq_false,Fy,if_false];refine zC ?_;obtain⟨c2,i9⟩:∃c2,((s'.heap.update kS (Obj.mapSeq fun _=>#[])).update a (Obj.mapSeq fun _=>(arrOf st).map (·.2))).get? a=some (seqObj "list" (q.map fun i=>vs.getD i Value.none).toArray c2):=⟨_,by rw[get?_update_seq ha2 (fun _=>(arrOf st).map (·.2)),hs]⟩;refine h kS hd of H _ q c2 ((L.offS (t':=s'.toks) (fun b o hb e=>(Ds _ _ _ _ hb).trans e) ⟨_,zq _ hk1 rfl⟩).offI (t':=s'.toks) (fun b o hb e=>(Ds _ _ _ _ hb).trans e) ⟨_,zq _ ha2 rfl⟩) pt i9
   unfold ksk_end;dsimp only;rw[if_neg (by decide)];by_cases h2:vs.toArray.size<2
   . rw[if_pos h2,if_pos h2];refine zA (zC ?_);rw[StateT.run_pure];refine zA (zC ?_);have hlen:vs.length<2:=by simpa using h2
     refine fin (List.range vs.length) _ ⟨.refl _,fun i j x y eX hx hy=>?_⟩ ?_ (Bu) rfl
     . have hj:j<(List.range vs.length).length:=(zI.mp hy).1;rw[Bu] at hj;have e:i=j:=by lia
       subst e;rw[hx] at hy;cases hy;exact KeyOrd.kle_refl _
     . show (ks.toArray.zip vs.toArray).map (·.2)=_
       match ks,vs,hlk,hlen with
       | [],[],_,_=>simp
       | [k],[v],_,_=>simp
       | _::_::_,_::_::_,_,h=>exfalso;simp only[zo] at h;lia
   . rw[if_neg h2,if_neg h2];have h2':2<=vs.length:=by
      have:¬ vs.length<2:=by simpa using h2
      lia
     have K:=WG (prog:=X.prog) (w:=X.w) (A:=A) (s:=s') (a:=a) hI (by lia);refine zA (K.kind s'.heap _ _ (fun _ _ _ e=>e) ?_);obtain⟨q,eq,hp,hs⟩:=SortT.sort_ok (O:=F2) (key:=fun i=>kz.getD i 0) vs.length (by lia);have run:(PySem.W.kas_sort vs.length).kasWp (PySem.W.kas_ask X.prog X.w A oneType' ks) (fun p s2=>p=q/\s2=s') s':=
      SortT.wp_ev (lt:=SortT.lt_ (O:=F2) (fun i=>kz.getD i 0)) (n:=vs.length) (fun i j C hi hj hC=>K.less s'.heap i j C _ (fun _ _ _ e=>e) (by lia) (by lia) hC) _ (SortT.sort_win (by lia)) ⟨eq,rfl⟩
     refine zA (A8 (PySem.W.kat_run (ks:=ks) (vs:=vs) (Q:=fun fM s2=>∃p:Array Nat,p.size=vs.length/\arrOf fM=p.map (PySem.W.kas_item (ks.toArray.zip vs.toArray))/\failedOf fM=none/\p=q/\s2=s')
      hlk h2' gz (fun p' fM s2 a1 a2 a3 a4=>⟨p',a1,a2,a3,a4⟩) run) ?_ fun _ _ e=>e)
     rintro ⟨⟨⟩,fM⟩ s2 ⟨p,hsz,har,hf,rfl,rfl⟩;exact fin p.toList fM (SortT.put_of hp hs) (PySem.W.kat_snds (ks:=ks) (vs:=vs) hlk har) (by simpa using hsz) hf
theorem Cn.take (L:Cn X pins σ H2 hd of D kS H s')(ho:s'.heap.get? D=some (seqObj "list" us.toArray c)) (r:AK zs us)(hz:zs.length<=sizeLine):AB X pins σ (upd H D (.lst zs)) s':=by
 have I:=L.inv;obtain⟨f1,f2,f3,f4,f5,f6⟩:=L.fi;have nb:∀c u,H c=some u->(upd H D (.lst zs)) c=some u:=fun c u q=>by rw[zk (fun z=>by rw[z,f1] at q;cases q)];exact q
 refine I.step (g':=s'.gens) (d':=s'.drawn) (h':=s'.heap) (t':=s'.toks) (ch:=[D]) (fun b hb=>?_) (fun b o _ _ _ e _=>e) (fun b o _ _ _ e _=>⟨o.slots,e⟩) (fun b o hb _ n=>?_) (fun b o _ e=>⟨o,e⟩) (fun b xs e=>nb _ _ e) (fun b o u e=>nb _ _ e) (fun b ps e=>⟨#[],by rw[nb _ _ e];simp⟩) (fun m hm=>hm) (fun b u e=>?_) I.bare
 . obtain rfl:b=D:=zh.mp hb;exact⟨f4,f2,f5,f6⟩
 . rw[zk (fun z=>hb (by rw[z];exact zS))];exact n
 . by_cases hb:b=D
   . subst hb;rw[zK] at e;cases e;exact⟨hz,us,c,r,ho⟩
   . rw[zk hb] at e;exact (I.hok b u e).stay (fun x v _ z=>z) (fun x z=>nb _ _ z) fun x ys z=>nb _ _ z
theorem Y1 {kz:List Int}
 (ky:∀a kS hd of H s(i:Nat)v(k:Int)E,Cn X pins σ H2 hd of a kS H s->us[i]?=some v->kz[i]?=some k->wpAny (model X.prog X.w) X.A.in1.in1 (call (.ref f) [v]) (fun r s'=>CE X.stack X.prog X.w H s (fun v H'=>v=.int k/\AD H H') r s') E s)
 (I:AB X pins σ H2 s)(ht:IsTup s.heap t us.toArray)(rv:AK xs us)(hl:kz.length=us.length)(gz:us.length<64)
 (h:∀D H s'(out:List Nat),H2 D=none->AD H2 H->H D=none->SortT.Put (O:=F2) (fun i=>kz.getD i 0) us.length out->AB X pins σ (upd H D (.lst (out.map fun i=>xs.getD i .non))) s'->Q (.ref D) s'):
 wpAny (model X.prog X.w) X.A (call (.builtin "sorted") [.ref t] [(Str.ofString "key",.ref f)]) Q E s:=by
 refine PyProof.Rows.call_function_entry_kw kind_sorted plain_sorted entry_sorted (ksk_s1 _ _) ?_;unfold Builtin.«sorted»;refine zA (m:=checkCount "sorted" 1 1 _) (zC (zA (SortT.gather_tup ht (by rw[sizeLine_eq];lia) (zA (GQ ?_ (by rw[sizeLine_eq];lia))))));generalize hh1:(s.heap.push (seqObj "list" #[] 0)).update s.heap.objs.size (Obj.mapSeq (· ++ us.toArray))=h1;have hsz:h1.objs.size=s.heap.objs.size+1:=by rw[<-hh1,Heap.size_update,size_push']
 have hk:∀b o,s.heap.get? b=some o->h1.get? b=some o:=fun b o z=>by rw[<-hh1,Ds _ _ _ _ (zc (zU z)),Heap.get?_push_ne _ _ _ (zc (zU z))];exact z
 have gT:(h1.push (seqObj "list" us.toArray 0)).get? h1.objs.size=some (seqObj "list" us.toArray 0):=zN _ rfl;have I1:AB X pins σ H2 { s with heap:=h1.push (seqObj "list" us.toArray 0) }:=I.kept (t':=s.toks) fun b o e=>zG _ (hk b o e);have fD:BB X pins H2 h1.objs.size:=I.fpOk (by rw[hsz];exact Bc _) (I.hok.fresh (by rw[hsz];exact Bc _));refine zA (zu (PyProof.Rows.wpAny_call_entry_kw slot_list_sort ⟨_,gT,rfl⟩ entry_list_sort (wpAny_of_eq (ksk_t1 f _) (ZS (fun kS hd of H s i v k E=>ky _ kS hd of H s i v k E) I1 gT fD hl gz fun kS hd of H s' out c L pt ho=>⟨_,rfl,?_⟩)) (ksk_l1 _ _)));refine zC ⟨_,rfl,?_⟩;refine h _ H s' out fD.1 L.sm L.fi.1 pt (L.take ho ?_ ?_)
 . have hx:=rv.length;have pm:=pt.perm;have hb:∀i∈out,i<us.length:=fun i hi=>C0.mp (pm.mem_iff.mp hi);clear pt ho pm
   induction out with
   | nil=>exact .nil
   | cons i out ih=>obtain⟨u,hu,ru⟩:=rv.get (i:=i) (x:=xs[i]'(by rw[hx];exact hb i zS)) (zB _);refine .cons ?_ (ih fun j hj=>hb j (zZ _ hj));show AQ (xs.getD i .non) (us.getD i .none);rw[zF,zF,hu,zB (by rw[hx];exact hb i zS)];exact ru
 . rw[zD,pt.perm.length_eq,Bu];rw[sizeLine_eq];lia
def KJ (sp:Sp)(E:XK)(t:TA):TE:=fun σ H Q=>t σ H fun vs H1=>∃p xs,∃(kz:List Int),vs=[.ref p]/\H1 p=some (.tup xs)/\kz.length=xs.length/\xs.length<64 /\
 (∀(i:Nat)x(k:Int),xs[i]?=some x->kz[i]?=some k->∀H2,AD H1 H2->sp [x] H2 (fun v H3=>v=.int k/\AD H2 H3) E) /\
 ∀D(out:List Nat)H2,SortT.Put (O:=F2) (fun i=>kz.getD i 0) xs.length out->H1 D=none->AD H1 H2->H2 D=none->Q (.ref D) (upd H2 D (.lst (out.map fun i=>xs.getD i .non)))
theorem aA (F:AL X.prog X.w X.K X.mg X.base AU k f fd ps sp)(hr:A0 (k+2) X.A)(hg:Gl X "sorted") (hm:X.mg "sorted"=none) (hgf:Gl X x)(hmf:X.mg x=some (.ref f))(hb:DA X.K fd ps [])
 (he:PA X [e] t)(gk:(x==("__debug__" : Str))=false:=by decide)
 (hs1:backTo pos (starEach [e] X.env)=(false,eval e X.env)::backTo pos (starEach [] X.env):=by rfl)(iH:(backTo pos (starEach [e] X.env)).any (·.1)=false:=by rfl):
 PE X (.Call (.Name "sorted" np) [e] [⟨some "key",.Name x kp,kpos⟩] pos) (KJ sp E0 t):=by
 intro pins s σ H Q I h;refine Gb (EJ I hg hm (by decide +kernel:bootBuiltins "sorted"=some (.builtin "sorted")) ?_);refine PyProof.Rows.callWith_kw (AI (he pos pins s σ H _ I h) fun us s1 ⟨vs,H1,I1,r,q1⟩=>?_) hs1 iH;obtain⟨p,xs,kz,rfl,hp,hl,gz,q1,q⟩:=q1;obtain⟨u,rfl,rx⟩:=Cb r;cases rx;show wpAny _ _ (evalAll ((do let v <-eval (.Name x kp) X.env;standAt pos;pure v)::[])) _ _ s1
 refine wpAny_evalAll_cons (zA (L4 I1 hgf hmf ?_ gk));refine zA (wpAny_standAt (zC (wpAny_evalAll_nil ?_)));show wpAny _ _ (call (.builtin "sorted") [.ref p] [(Str.ofString "key",.ref f)]) _ _ s1;obtain⟨its,r',pl,hz⟩:=I1.tuple (AC.of hp);have hx:=r'.length;refine Y1 (xs:=xs) (kz:=kz) (fun a kS hd of H2 s2 i v kk E' L hv hk=>?_) I1 pl r' (by lia) (by lia) fun D H2 s2 out d1 sm d2 pt I2=>⟨.ref D,_,I2,rfl,q D out H2 (by rw[hx];exact pt) d1 sm d2⟩;have hi:i<xs.length:=by have:=(zI.mp hv).1;lia
 obtain⟨u,hu,ru⟩:=r'.get (i:=i) (x:=xs[i]) (zB hi);rw[hv] at hu;cases hu;have e0:=L.inv.env0;have hl1:=F.len _ _ _ _ (q1 i _ kk (zB hi) hk H2 L.sm);refine Cj (codeAny_mono (F.run X.A.in1.in1 X.stack s2 H2 ⟨[v],[]⟩ [v] [xs[i]] _ E0 hr.in1.in1 ⟨e0.frames,e0.mod,e0.bs,e0.bsz,e0.funs,e0.frf,e0.hok,e0.bare⟩ (by have:=hb s2 [v] L.inv.kIn hl1;rwa [BR] at this) (.cons ru .nil) (q1 i _ kk (zB hi) hk H2 L.sm)) fun r s' hq=>?_);cases r with
 | error e=>exact False.elim hq
 | ok fl=>
  cases fl with
  | ret u=>exact hq
  | next=>exact False.elim hq
  | brk=>exact False.elim hq
  | cont=>exact False.elim hq
end L2
namespace L2
open PySem PySem.Spec PyProof.Rows
theorem ar:fillsNumberSlot (.type "tuple") "mul"=pure false:=
 PySem.fillsNumberSlot_seq (id := "tuple.__mul__") (r:=some (.builtin "tuple.__rmul__")) PySem.F.slot_tuple_mul.lookup (by decide +kernel) PySem.F.slot_tuple_rmul.lookup (by decide +kernel)
theorem X4:seqRepeat? (.type "tuple")=pure (some (.builtin "tuple.__mul__")):=by unfold seqRepeat?;rw[PySem.seqSlot_of (T := "tuple") (name := "__mul__") (id := "tuple.__mul__") PySem.F.slot_tuple_mul.lookup (by decide +kernel),PySem.seqSlot_of (T := "tuple") (name := "__rmul__") (id := "tuple.__rmul__") PySem.F.slot_tuple_rmul.lookup (by decide +kernel)];rfl
theorem aV (a)(t:Tok)(l)(items)(n)(dd)(sl):
 Meets (Builtin.«int.__rmul__» ⟨[.int a t,.ref l],[]⟩) (fun _ R s=>s.heap.get? l=some { cls:=.type "tuple",dict:=dd,data:=.seq items n,slots:=sl }/\R (.ok (.ret Value.notImplemented)) s):=
 .of_wp fun prog w A R s h=>by
  obtain⟨hp,g,d,tk,os⟩:=s;obtain⟨hl,h⟩:=h
  wp_walk using wpAny_loadPart' hl;exact⟨_,rfl,h⟩
theorem cS (l)(v)(n)(dd)(sl)(u:Tok):
 Meets (Builtin.«tuple.__mul__» ⟨[.ref l,.int 1 u],[]⟩) (fun _ R s=>s.heap.get? l=some { cls:=.type "tuple",dict:=dd,data:=.seq #[v] n,slots:=sl }/\R (.ok (.ret (Value.ref l))) s):=
 .of_wp fun prog w A R s h=>by
  obtain⟨hp,g,d,tk,os⟩:=s;obtain⟨hl,h⟩:=h;have f1:=AutoSeq1.idx_int
  wp_walk using wpAny_loadPart' hl
  exact⟨_,rfl,h⟩
theorem Uc (v:Value)(k):List.foldl (fun x1 x2=>x1++x2) #[] (List.replicate k #[v])=(List.replicate k v).toArray:=by
 have f:∀(k:Nat)(a:List Value),List.foldl (fun x1 x2=>x1++x2) a.toArray (List.replicate k #[v])=(a++List.replicate k v).toArray:=fun k=>by
  induction k with
  | zero=>intro a;simp
  | succ k ih=>intro a;rw[List.replicate_succ,List.foldl_cons,show a.toArray ++ #[v]=(a++[v]).toArray by simp,ih,List.replicate_succ,List.append_assoc];rfl
 have:=f k [];rw[List.nil_append] at this;exact this
theorem Wr (h:AQ z v):∀k:Nat,AK (List.replicate k z) (List.replicate k v)
 | 0=>.nil
 | k+1=>.cons h (Wr h k)
theorem Yv (l)(v)(n)(dd)(sl)(x)(u:Tok)(h2:2<=x)(hx:x<=1000):
 Meets (Builtin.«tuple.__mul__» ⟨[.ref l,.int x u],[]⟩) (fun _ R s=>s.heap.get? l=some { cls:=.type "tuple",dict:=dd,data:=.seq #[v] n,slots:=sl }/\R (.ok (.ret (Value.ref s.heap.objs.size))) { s with heap:=s.heap.push { cls:=Value.type "tuple",data:=Data.seq (List.foldl (fun x1 x2=>x1++x2) #[] (List.replicate x.toNat #[v])) },toks:=s.toks }):=
 .of_wp fun prog w A R s h=>by
  obtain⟨hp,g,d,tk,os⟩:=s;obtain⟨hl,h⟩:=h;have f1:=AutoSeq1.idx_int;have c0:(decide (x < -(2 ^ 63)) || decide (x ≥ 2 ^ 63))=false:=by rw[zR (by lia),zR (by lia)];rfl
  have c1:((#[v]:Array Value).isEmpty || x==1)=false:=by
   have:(x==1)=false:=by rw[Bool.eq_false_iff];intro z;have:=eq_of_beq z;lia
   rw[this];rfl
  have c2:(decide (x<=0) || (#[v]:Array Value).isEmpty)=false:=by rw[zR (by lia)];rfl
  wp_walk using wpAny_loadPart' hl
  refine wpAny_ite_false (by rw[c0];rfl) ?_
  wp_walk using wpAny_loadPart' hl
  refine wpAny_ite_false (by rw[c1];rfl) ?_
  wp_walk using wpAny_loadPart' hl
  refine wpAny_ite_false (by rw[c2];rfl) ?_
  wp_walk using wpAny_loadPart' hl
  have hs:(((#[v]:Array Value).size:Nat):Int)*x=x:=by show ((1:Nat):Int)*x=x;lia
  refine wpAny_ite_false (zR (by rw[hs];lia)) ?_;have c4:Builtin.Tuple.tupleTooMany (((#[v]:Array Value).size:Int)*x)=false:=by rw[hs];unfold Builtin.Tuple.tupleTooMany;have:((sizeLine:Nat):Int)=16777216:=rfl;exact zR (by lia)
  wp_walk using wpAny_loadPart' hl
  refine wpAny_ite_false (by rw[c4];rfl) ?_;have hz:(List.foldl (fun x1 x2=>x1++x2) #[] (List.replicate x.toNat #[v])).size<=sizeLine:=by
   rw[Uc];rw[zL,DB];have:sizeLine=16777216:=rfl
   lia
  wp_walk
  exact⟨_,rfl,h⟩
def O2:R2:=fun x y H Q=>∃a k z,x=.ref a/\y=.int k/\H a=some (.tup [z])/\1<=k/\k<=1000/\∀p H',AD H H'->H' p=some (.tup (List.replicate k.toNat z))->Q (.ref p) H'
theorem Xc:Ay X (binaryOp .Mult) O2:=by
 intro pins s σ H x y v u Q I rx ry h;obtain⟨a,k,z,rfl,rfl,ha,h1,h2,q⟩:=h;cases rx;obtain⟨t,rfl⟩:=ry;obtain⟨its,r1,p1,_⟩:=I.tuple (AC.of ha);obtain⟨w',rfl,rz⟩:=Cb r1;obtain⟨⟨cls,dd,data,sl⟩,ho,hc,n,hd⟩:=id p1;simp only at hc hd;subst hc hd;refine wpAny_binaryOp_repeat_ref (T := "tuple") (U := "int") (by decide) ⟨_,ho,rfl⟩ (fun s'=>typeIs_int s' k t) ar PySem.F.fills_int_mul PySem.F.slot_int_rmul X4 PySem.F.slot_int_index.lookup
  (call_meets PySem.F.slot_int_rmul (typeIs_int s k t) PySem.F.entry_int_rmul (PySem.F.args_int_rmul_2 _ _) (aV k t a _ n dd sl) ⟨ho,rfl,⟨_,ho,rfl⟩,?_⟩)
 by_cases c:k=1
 . subst c;exact call_meets PySem.F.slot_tuple_mul ⟨_,ho,rfl⟩ PySem.F.entry_tuple_mul (PySem.F.args_tuple_mul_2 _ _) (cS a w' n dd sl t) ⟨ho,.ref a,H,I,rfl,q a H (AD.refl _) ha⟩
 . refine call_meets PySem.F.slot_tuple_mul ⟨_,ho,rfl⟩ PySem.F.entry_tuple_mul (PySem.F.args_tuple_mul_2 _ _) (Yv a w' n dd sl k t (by lia) h2) ⟨ho,?_⟩;rw[Uc];have hz:(List.replicate k.toNat z).length<=sizeLine:=by
    rw[DB];have:sizeLine=16777216:=rfl
    lia
   have rr:AK (List.replicate k.toNat z) (List.replicate k.toNat w'):=Wr rz k.toNat
   refine⟨.ref s.heap.objs.size,_,I.laid (t':=s.toks) (o:=.tup (List.replicate k.toNat z)) (fun b ob q=>zG _ q) (zJ _) ?_,rfl,q _ _ (fun b o e=>by rw[zk (fun z=>by rw[z,I.fresh] at e;cases e)];exact e) zK⟩;exact⟨⟨hz,_,zN _ rfl,rfl⟩,_,rr,IsTup.new _ _⟩
def aP:R2:=fun x y H Q=>∃(a p:Addr)(xs:List (Option Int))(ys:List V),x=.ref a/\y=.ref p/\H a=some (.tup (xs.map oV))/\H p=some (.tup ys)/\(∀y∈ys,∃(b:Addr)(zs:List (Option Int)),y=.ref b/\H b=some (.tup (zs.map oV)))/\∀b:Bool,Q (.bl b) H
theorem RY:∀(xs ys:List (Option Int)),xs.map oV=ys.map oV->xs=ys
 | [],[],_=>rfl
 | [],_::_,h=>by cases h
 | _::_,[],h=>by cases h
 | x::xs,y::ys,h=>by
  rw[BX,BX] at h;injection h with h1 h2;have h3:x=y:=by
   cases x with
   | none=>cases y with
    | none=>rfl
    | some b=>cases h1
   | some a=>cases y with
    | none=>cases h1
    | some b=>injection h1 with h1;rw[h1]
  rw[h3,RY xs ys h2]
theorem ZI (hu:X.A.units+1<cLine):Ay X (compareOp .NotIn) aP:=by
 intro pins s σ H x y v u Q I rx ry h;obtain⟨a,p,xs,ys,rfl,rfl,ha,hp,T,q⟩:=h;cases rx;cases ry;obtain⟨its,r,pl,hz⟩:=I.tuple (AC.of (K:=X.K) hp);have dec:∀w:Value,Decidable (∃b,w=Value.ref b/\H b=some (.tup (xs.map oV))):=fun _=>Classical.propDecidable _;have e:∀w,w∈its->∃(b:Addr)(k:List (Option Int)),w=.ref b/\H b=some (.tup (k.map oV)):=fun w hw=>by
  obtain⟨i,hi,ew⟩:=zy hw;have hiy:i<ys.length:=by rw[r.length];exact hi
  obtain⟨b,k,e1,e3⟩:=T _ (Cq hiy);obtain⟨w1,hw1,rw1⟩:=r.get (i:=i) (x:=ys[i]) (zB hiy);rw[zB hi,ew] at hw1;rw[e1] at rw1;cases hw1;exact⟨b,k,rw1,e3⟩
 refine SeqAt.notIn_tupleAt (fun w=>@decide _ (dec w)) pl (fun w hw=>?_) ⟨.bl _,H,I,rfl,q _⟩;obtain⟨b,k,rfl,hb⟩:=e w (by simpa using hw);have ek:@decide _ (dec (.ref b))=decide (k=xs):=by
  by_cases c:k=xs
  . subst c;rw[zP rfl];exact @zP _ (dec _) ⟨b,rfl,hb⟩
  . rw[zR c];refine @zR _ (dec _) ?_;rintro ⟨b',e1,e2⟩;cases e1;rw[hb] at e2;injection e2 with z;injection z with z;exact c (RY _ _ z)
 rw[ek];by_cases c:b=a
 . subst c;rw[hb] at ha;injection ha with z;injection z with z;rw[RY _ _ z,zP rfl];exact SeqAt.EqAt.same _
 . obtain⟨us,rv1,t1,_⟩:=I.tuple (AC.of (K:=X.K) hb);obtain⟨ws,rv2,t2,_⟩:=I.tuple (AC.of (K:=X.K) ha);have l1:=rv1.length;have l2:=rv2.length;rw[zD] at l1 l2;have h:=SeqAt.RcAt.tuples (A:=X.A.in1) (e:=fun j=>decide (k.getD j none=xs.getD j none)) t1 t2 (show X.A.units+1<cLine from hu) (fun j a b=>Jw rv1 rv2 j a b);rw[zL,zL,<-l1,<-l2,aC] at h;exact SeqAt.EqAt.of_refs c h
structure AH (K:AJ)(mg:Bx)(x:Str)(st:Stmt)(f:Addr)(fd:FuncData)(ps:List Str):Prop where
 F:Cm K x x st f fd
 b:DA K fd ps []
 m:mg x=some (.ref f)
theorem AO {st:Stmt}(G:AL X.prog X.w X.K X.mg X.base AU k f fd ps sp)(hr:A0 k X.A)(B:AH X.K X.mg x st f fd ps)(ha:PA X (e::es) t)(hg:Gl X x:=by rfl)(gk:(x==("__debug__" : Str))=false:=by decide)(he:starEach (e::es) X.env=(false,eval e X.env)::starEach es X.env:=by rfl)(gg:(backTo pos (starEach es X.env)).any (·.1)=false:=by rfl):PE X (.Call (.Name x p) (e::es) [] pos) (IH sp [] E0 t):=Ly G hr hg B.m B.F.kp B.b .nil IY ha gk he gg
theorem Cm.okD {K:AJ}{st:Stmt}(F:Cm K x qual st f fd)(S:AX N ps (defScope st))
 (eL:∀dy A outer s H vs Q E,A0 k (A.deeper (PyProof.Rows.envOfC qual (defScope st) s.heap.objs.size f dy))->sp vs H Q E ->
  ∃t,BU (Cv AU P w K mg base N qual (defScope st) f dy A outer s H E).nox (defBody st) t/\t { nx:=fun _ H'=>Q .non H',rt:=Q } (start N vs) H)(len:∀vs H Q E,sp vs H Q E->vs.length=ps.length:=by intro _ _ _ _ h;first|(cases h;subst_vars;rfl)|repeat (first|(obtain⟨rfl,_⟩:=h;rfl)|obtain⟨_,h⟩:=h)):AL P w K mg base AU (k+1) f fd ps sp:=F.ok S len eL
abbrev AM (P:Program)(w:World)(base:Heap){K:AJ}{mg:Bx}{x:Str}{st:Stmt}{f:Addr}{fd:FuncData}{ps:List Str}(k:Nat)(_:AH K mg x st f fd ps)(sp:Sp):Prop:=AL P w K mg base AU k f fd ps sp
abbrev Fu (K:AJ)(x:Str)(st:Stmt)(f:Addr)(fd:FuncData):Prop:=Cm K x x st f fd
theorem Ae {i:Nat}(hN:X.N.Nodup)(hi:X.N[i]?=some x:=by rfl)(hx:Loc X.env.scope x:=by exact Or.inl rfl)(hf:X.fn x=true\/X.env.scope.names.lookup x=some .local:=by first | exact .inl rfl | exact .inr rfl | assumption):PG X (.Name x pos) (HE i):=B5 hN hi hx hf
theorem A7 (hi:PI X tg iter wi)(hg:PG X tg g)(hb:BU X body tb)(hp:PassesOwn (model X.prog X.w) X.A X.env X.xe:=by exact PassesOwn.never)(hc:X.calm=true:=by rfl)(hs:∀x,foldedSetIterable iter X.env x=pure x:=by intro _;rfl):PS X (.For tg iter body [] pos) (LZ wi g tb):=US hp hc hi hg hb hs
theorem As (hN:X.N.Nodup)(he:PE X e te)(hi:X.N[i]?=some x:=by rfl)(hx:Loc X.env.scope x:=by exact Or.inl rfl)(hs:swapsWith e (some (.Name x pos')) pos.line X.env=pure false:=by rfl)(hf:X.fn x=true\/X.env.scope.names.lookup x=some .local:=by first | exact .inl rfl | exact .inr rfl | assumption):PS X (.Assign [.Name x pos'] e pos) (Di te (HE i)):=HN hN hi hx he hs hf
theorem AF (hr:Hc X r)(ha:PE X a ta)(hb:PE X b tb)(hs:RP b:=by exact fun _ _=>rfl):PE X (.Subscript a b pos) (LM r ta tb):=Hd hr ha hb hs
theorem BJ (hN:X.N.Nodup:=by exact D1 rfl)(hi:X.N[0]?=some x:=by rfl)(hx:Loc X.env.scope x:=by exact Or.inl rfl)(hf:X.fn x=true\/X.env.scope.names.lookup x=some .local:=by first | exact .inl rfl | exact .inr rfl | assumption):PG X (.Name x pos) (HE 0):=B5 hN hi hx hf
end L2
namespace K31
open PySem L2 WM
inductive F8 {α0 α1:Type}(p:α0->α1->Prop):Prop
 | mk:∀a0 a1,p a0 a1->F8 p
inductive IV {α0 α1 α2:Type}(p:α0->α1->α2->Prop):Prop
 | mk:∀a0 a1 a2,p a0 a1 a2->IV p
inductive Qp {α0 α1 α2 α3:Type}(p:α0->α1->α2->α3->Prop):Prop
 | mk:∀a0 a1 a2 a3,p a0 a1 a2 a3->Qp p
inductive Qo {α0 α1 α2 α3 α4:Type}(p:α0->α1->α2->α3->α4->Prop):Prop
 | mk:∀a0 a1 a2 a3 a4,p a0 a1 a2 a3 a4->Qo p
inductive Ql {α0 α1 α2 α3 α4 α5:Type}(p:α0->α1->α2->α3->α4->α5->Prop):Prop
 | mk:∀a0 a1 a2 a3 a4 a5,p a0 a1 a2 a3 a4 a5->Ql p
inductive Xv {α0 α1 α2 α3 α4 α5 α6 α7 α8:Type}(p:α0->α1->α2->α3->α4->α5->α6->α7->α8->Prop):Prop
 | mk:∀a0 a1 a2 a3 a4 a5 a6 a7 a8,p a0 a1 a2 a3 a4 a5 a6 a7 a8->Xv p
inductive ON {α0 α1 α2 α3 α4 α5 α6 α7 α8 α9:Type}(p:α0->α1->α2->α3->α4->α5->α6->α7->α8->α9->Prop):Prop
 | mk:∀a0 a1 a2 a3 a4 a5 a6 a7 a8 a9,p a0 a1 a2 a3 a4 a5 a6 a7 a8 a9->ON p
noncomputable abbrev QT:Stmt:=top 43
noncomputable abbrev HY:Stmt:=top 44
noncomputable abbrev Dd:Stmt:=top 45
noncomputable abbrev JP:Stmt:=top 15
noncomputable abbrev Nu:Stmt:=top 16
noncomputable abbrev Dk:Stmt:=top 17
noncomputable abbrev E9:Stmt:=top 18
noncomputable abbrev O1:Stmt:=top 19
noncomputable abbrev NM:Stmt:=top 21
noncomputable abbrev NF:Stmt:=top 22
noncomputable abbrev Me:Stmt:=top 23
noncomputable abbrev Lz:Stmt:=top 28
noncomputable abbrev MB:Stmt:=top 30
noncomputable abbrev ME:Stmt:=top 31
noncomputable abbrev Et:Stmt:=top 24
noncomputable abbrev Fc:Stmt:=top 26
noncomputable abbrev MC:Stmt:=top 25
noncomputable abbrev E6:Stmt:=top 27
noncomputable abbrev NK:Stmt:=top 33
noncomputable abbrev NH:Stmt:=top 34
noncomputable abbrev OB:Stmt:=top 35
noncomputable abbrev N5:Stmt:=top 36
noncomputable abbrev N6:Stmt:=top 37
noncomputable abbrev PX:Stmt:=top 38
noncomputable abbrev O3:Stmt:=top 39
noncomputable abbrev O0:Stmt:=top 40
noncomputable abbrev OP:Stmt:=top 41
noncomputable abbrev Dc:Stmt:=top 46
noncomputable abbrev FY:Stmt:=top 47
noncomputable abbrev FV:Stmt:=top 48
noncomputable abbrev Oj:Stmt:=top 49
noncomputable abbrev Da:Stmt:=top 50
noncomputable abbrev E4:Stmt:=top 51
noncomputable abbrev P7:Stmt:=top 52
noncomputable abbrev NL:Stmt:=top 53
noncomputable abbrev QH:Stmt:=top 54
noncomputable abbrev Ms:Stmt:=top 55
noncomputable abbrev Mr:Stmt:=top 56
noncomputable abbrev NQ:Stmt:=top 57
noncomputable abbrev Mi:Stmt:=top 58
noncomputable abbrev Eu:Stmt:=top 59
noncomputable abbrev Mj:Stmt:=top 60
noncomputable abbrev E2:Stmt:=top 61
noncomputable abbrev E7:Stmt:=top 62
noncomputable abbrev Ey:Stmt:=top 63
noncomputable abbrev NC:Stmt:=top 64
noncomputable abbrev Qi:Stmt:=top 65
noncomputable abbrev Qd:Stmt:=top 66
noncomputable abbrev Qg:Stmt:=mth 2 0
noncomputable abbrev Do:Stmt:=top 67
def GK (H:Hp)(t p:Addr)(N:Nat):Prop:=∃(ns:List Int)(dq rest:Int),H t=some (.lst [.ref p,.int dq,.int rest])/\H p=some (.lst (ns.map V.int))/\p≠t/\0<=dq/\dq<=N/\0<=rest/\ns.length<=63
def AY (H:Hp)(t:Addr)(N:Nat):Prop:=∃p:Addr,GK H t p N
theorem AY.mono (h:AY H t N)(l:N<=M):AY H t M:=by obtain⟨p,ns,dq,rest,a,b,c,d,e,f⟩:=h;exact⟨p,ns,dq,rest,a,b,c,d,by lia,f⟩
def Sm (t:Addr)(H H':Hp):Prop:=∀b o,b≠t->H b=some o->H' b=some o
theorem Sm.trans (a:Sm t H H1)(b:Sm t H1 H2):Sm t H H2:=fun c o n e=>b c o n (a c o n e)
theorem Sm.of (h:AD H H'):Sm t H H':=fun b o _ e=>h b o e
theorem Sm.laid (h:H l=none):Sm t H (upd H l o):=fun b u _ e=>by rw[zk (zt e h)];exact e
theorem Sm.chg (s:Sm t H H')(h:H l=none):Sm t H (upd H' l o):=fun b u n e=>by rw[zk (zt e h)];exact s b u n e
theorem zH (h:H l=none):AD H (upd H l o):=fun b u e=>by rw[zk (zt e h)];exact e
theorem A9 (s:AD H H')(h:H l=none):AD H (upd H' l o):=fun b u e=>by rw[zk (zt e h)];exact s b u e
theorem AY.keep (h:AY H t N)(k:AD H H'):AY H' t N:=by obtain⟨p,ns,dq,rest,a,b,c⟩:=h;exact⟨p,ns,dq,rest,k _ _ a,k _ _ b,c⟩
theorem AY.laid (h:AY H t N)(hl:H l=none):AY (upd H l o) t N:=h.keep (zH hl)
theorem AY.ne (h:AY H t N)(hb:H b=none):b≠t:=by obtain⟨p,ns,dq,rest,a,_⟩:=h;exact (zt a hb).symm
theorem AY.chg (h:AY H t N)(hl:H l=some u)(hu:∀xs,u ≠ .lst xs):AY (upd H l o) t N:=by obtain⟨p,ns,dq,rest,a,b,c⟩:=h;exact⟨p,ns,dq,rest,by rw[zk (Bn a hl fun z=>hu _ z.symm)];exact a,by rw[zk (Bn b hl fun z=>hu _ z.symm)];exact b,c⟩
theorem GK.keepF (h:GK H t p N)(k1:∀o,H t=some o->H' t=some o)(k2:∀o,H p=some o->H' p=some o)(l:N<=M):GK H' t p M:=by obtain⟨ns,dq,rest,a,b,c,d,e,f⟩:=h;exact⟨ns,dq,rest,k1 _ a,k2 _ b,c,d,by lia,f⟩
def Qq:Sp:=fun vs H Q _=>∃t p N many,vs=[.ref t,.int many]/\GK H t p N/\N<1000000/\0<many/\many<1000000 /\
 ∀r H',0<=r->r<many->GK H' t p (N+1)->(∀b,b≠t->H' b=H b)->Q (.int r) H'
def ND:Sp:=fun vs H Q _=>∃t N many,vs=[.ref t,.int many]/\AY H t N/\N<1000000/\0<many/\many<1000000 /\
 ∀r H',0<=r->r<many->AY H' t (N+1)->(∀b,b≠t->H' b=H b)->Q (.int r) H'
def Wi (K:AJ):Sp:=fun vs H Q _=>∃a,∃(ns:List Int),vs=[.ref a]/\AE K H a (ns.map V.int)/\ns.length<=63/\∀t H',H t=none->AY H' t 0->AD H H'->Q (.ref t) H'
theorem LQ:AX G6 G6 (defScope QT):=Ad
theorem aD {fd:FuncData}(F:Fu K "_law_tape" QT f fd):AL P w K mg base AU 1 f fd G6 (Wi K):=by
 refine F.okD LQ fun _ A _ _ H vs Q E hr h=>?_;obtain⟨a,ns,rfl,hS,hl,k⟩:=h;refine⟨_,ze (AN (CJ (zE (Ef Zm (pv 0) Eo (EZ zi)) (ED (ED zQ))))),?_⟩;refine⟨_,rfl,_,rfl,a,_,rfl,hS,fun p hp=>⟨Gz,fun t ht=>?_⟩⟩;have npt:p≠t:=fun e=>by rw[e,zK] at ht;cases ht
 have e1:Bq (ns.map V.int) none (some 63)=(ns.take 63).map V.int:=by unfold Bq;rw[HT.sIx_none,HF,Nat.sub_zero,zD,show (63:Int)=((63:Nat):Int) from rfl,HT.sIx_nat,List.map_take];rw[show min 63 ns.length=ns.length by lia,zW (by rw[zD];exact zJ _),zW (by rw[zD];exact hl)]
 have ht0:H t=none:=by rw[zk npt.symm] at ht;exact ht
 refine k t _ ht0 ⟨p,ns.take 63,0,0,zK,?_,npt,Dx _,Dx _,Dx _,by rw[zd];lia⟩ ?_
 . rw[zk npt,zK,e1]
 . exact A9 (zH hp) ht0
theorem Mw:AX ["_law_tape_here","_law_many","_law_found_here","_law_spot","_law_cell","_law_mixed"] IT (defScope HY):=Ad
theorem Ip {m:Int}(h:0<m):0<=a%m/\a%m<m:=⟨Int.emod_nonneg _ (by lia),Int.emod_lt_of_pos _ h⟩
theorem RJ {fd:FuncData}(F:Fu K "_law_draw" HY f fd) (dY:mg "len"=none):AL P w K mg base AU 1 f fd IT Qq:=by
 refine F.okD Mw fun _ A _ _ H vs Q E hr h=>?_;obtain⟨t,p,N,many,rfl,T,hN,iw,hm1,k⟩:=h;obtain⟨ns,dq,rest,ht,hp,eB,hs0,hs1,hr0,hl⟩:=T;refine⟨_,za (Aq (Ak JI (AF Ab (pv 0) zi) zi (AS _))
  (za (As (i:=2) Mw.nd (AV JH (AF Ab (pv 0) zi) (pv 1)))
  (za (JU (AV Pu (AF Ab (pv 0) zi) (pv 1)) (L5 (pv 0) zi Lp))
  (ze (AN (pv 2))))) Ao)
  (za (As (i:=3) Mw.nd (AF Ab (pv 0) zi))
  (za (JU (AV CK (pv 3) zi) (L5 (pv 0) zi Lp))
  (za (As (i:=4) Mw.nd (Lq (Ak JI (Ar D6 dY (zE (AF Ab (pv 0) zi) zQ)) zi (AS _))
   (AF Ab (AF Ab (pv 0) zi) (AV JH (pv 3) (Ar D6 dY (zE (AF Ab (pv 0) zi) zQ)))) zi))
  (za (Aq (HG (Ak OD (pv 4) (AV Xa zi zi) (AS _)) (Lx (Ak Pw (pv 3) (Ar D6 dY (zE (AF Ab (pv 0) zi) zQ)) (AS _)))).pt
   (za (JU (AV Pu (pv 4) (pv 1)) (L5 (pv 0) zi Lp)) (ze (AN (AV JH (pv 4) (pv 1))))) Ao)
  (za (As (i:=5) Mw.nd (AV JH (AV M7 (AV CK (AV JH (pv 4) zi) zi) (AV CK zi (AV M7 zi (pv 3)))) zi))
  (ze (AN (AV JH (AV Pu (AV JH (AV M7 (AV CK (pv 5) (AV M7 (AV M7 zi (pv 3)) (pv 3))) zi) zi) zi) (pv 1))))))))),?_⟩
 have cd:Pe 0 many:=⟨iw,by lia⟩;refine⟨_,rfl,t,_,_,_,rfl,rfl,AE.of ht,rfl,_,_,rfl,rfl,_,rfl,?_⟩;refine Cg (fun hc=>?_) (fun hc=>?_)
 . have hpos:0<rest:=of_decide_eq_true hc;refine⟨_,rfl,t,_,_,_,rfl,rfl,AE.of ht,rfl,_,rfl,_,_,rfl,rfl,iw,?_⟩;refine⟨_,rfl,t,_,_,_,rfl,rfl,AE.of ht,rfl,_,rfl,_,_,rfl,rfl,cd,?_⟩;refine⟨_,rfl,t,_,_,2,rfl,rfl,ht,rfl,?_⟩;refine⟨_,rfl,?_⟩;refine k _ _ (Ip iw).1 (Ip iw).2 ⟨ns,dq,rest/many,zK,by rw[zk eB];exact hp,eB,hs0,by lia,Int.ediv_nonneg hr0 (by lia),hl⟩ fun b hb=>zk hb
 . -- dq=tape[1];tape[1]=dq+1
   refine⟨_,rfl,t,_,_,_,rfl,rfl,AE.of ht,rfl,?_⟩;refine⟨_,rfl,_,_,rfl,rfl,_,rfl,t,_,_,1,rfl,rfl,ht,rfl,?_⟩;have ht1:(upd H t (.lst [.ref p,.int (dq+1),.int rest])) t=some (.lst [.ref p,.int (dq+1),.int rest]):=zK;have iI:(upd H t (.lst [.ref p,.int (dq+1),.int rest])) p=some (.lst (ns.map V.int)):=by rw[zk eB];exact hp
   have ex:0<((ns.map V.int).length:Int)->∃c,B9 (ns.map V.int) (dq%((ns.map V.int).length:Int))=some (.int c):=fun h=>by
    have hb:=Ip (a:=dq) h;obtain⟨j,hj⟩:=Int.eq_ofNat_of_zero_le hb.1;have dW:j<ns.length:=by
     have h2:=hb.2;rw[hj,zD] at h2
     lia
    refine⟨ns[j],?_⟩;rw[hj];exact DS (by simp[dW])
   refine⟨_,rfl,t,_,_,_,rfl,rfl,AE.of ht1,rfl,p,_,rfl,.inl (AE.of iI),_,_,rfl,rfl,_,rfl,?_⟩;refine Cg (fun h2=>?a) (fun h2=>?b)
   case' a=>
    obtain⟨c,hc⟩:=ex (of_decide_eq_true h2);refine⟨_,rfl,t,_,_,_,rfl,rfl,AE.of ht1,rfl,_,rfl,_,rfl,t,_,_,_,rfl,rfl,AE.of ht1,rfl,p,_,rfl,.inl (AE.of iI),_,_,rfl,rfl,of_decide_eq_true h2,p,_,_,_,rfl,rfl,AE.of iI,hc,?_⟩
   all_goals
    refine⟨_,rfl,_,_,rfl,rfl,⟨by decide,by decide,by decide⟩,_,_,rfl,rfl,_,rfl,?_⟩;refine Cg (fun h3=>?_) (fun h3=>?_)
   all_goals first
    | (refine⟨_,rfl,_,rfl,t,_,_,_,rfl,rfl,AE.of ht1,rfl,p,_,rfl,.inl (AE.of iI),_,_,rfl,rfl,_,rfl,?_⟩;refine Cg (fun h4=>?_) (fun h4=>?_))
    | refine Aj ?_
   all_goals first
    | (refine⟨_,rfl,_,rfl,_,_,rfl,rfl,⟨iw,by lia⟩,_,rfl,t,_,_,2,rfl,rfl,ht1,rfl,?_⟩
       refine⟨_,rfl,_,rfl,_,_,rfl,rfl,iw,?_⟩;refine k _ _ (Ip iw).1 (Ip iw).2 ⟨ns,dq+1,_,zK,by rw[zk eB];exact iI,eB,by lia,by lia,Int.ediv_nonneg (Int.le_trans (show (0:Int)<=10 ^ (18:Int).toNat by decide) (of_decide_eq_true h3)) (by lia),hl⟩ fun b hb=>by rw[zk hb,zk hb])
    | (refine⟨_,rfl,_,_,rfl,rfl,(by first | decide | (dsimp only;decide)),_,_,rfl,rfl,_,rfl,_,_,rfl,rfl,.inl ⟨by decide,by decide⟩,_,_,rfl,rfl,_,_,rfl,rfl,.inl ⟨by lia,by lia⟩,_,_,rfl,rfl,(by first | decide | (dsimp only;decide)),?_⟩
       refine⟨_,rfl,_,rfl,_,_,rfl,rfl,.inl ⟨by decide,by decide⟩,_,rfl,_,_,rfl,rfl,.inr ⟨by lia,by lia⟩,_,_,rfl,rfl,_,_,rfl,rfl,.inr ⟨by decide,by decide⟩,_,_,rfl,rfl,(by first | decide | (dsimp only;decide)),_,_,rfl,rfl,⟨by decide,by decide⟩,_,rfl,_,_,rfl,rfl,iw,?_⟩;refine k _ _ (Ip iw).1 (Ip iw).2 ⟨ns,dq+1,rest,ht1,iI,eB,by lia,by lia,hr0,hl⟩ fun b hb=>zk hb)
theorem R6 {fd:FuncData}(F:Fu K "_law_draw" HY f fd) (dY:mg "len"=none):AL P w K mg base AU 1 f fd IT ND:=
 (RJ F dY).imp fun vs H Q E ⟨t,N,many,e,⟨p,T⟩,a,b,c,k⟩=>⟨t,p,N,many,e,T,a,b,c,fun r H' h0 h1 T' he=>k r H' h0 h1 ⟨p,T'⟩ he⟩
theorem YV {L:List Int}{r:Int}(h0:0<=r)(h1:r<L.length):∃n,n∈L/\B9 (L.map V.int) r=some (.int n):=by
 obtain⟨j,rfl⟩:=Int.eq_ofNat_of_zero_le h0;have hj:j<L.length:=by lia
 exact⟨L[j],Cq hj,DS (by simp[hj])⟩
def BP (H:Hp)(wa:Addr)(n:Int)(ts:List T3):Prop:=∃ta tys,H wa=some (.tup [.int n,.ref ta])/\H ta=some (.tup tys)/\A3 H tys (ts.map tl)/\GW n ts
theorem BP.keepT (h:BP H wa n ts)(k:∀b ys,H b=some (.tup ys)->H' b=some (.tup ys)):BP H' wa n ts:=by obtain⟨ta,tys,a,b,c,d⟩:=h;exact⟨ta,tys,k _ _ a,k _ _ b,c.keep k,d⟩
theorem BP.keep (h:BP H wa n ts)(k:AD H H'):BP H' wa n ts:=h.keepT fun b _ e=>k b _ e
theorem BP.sm (h:BP H wa n ts)(T:AY H t N)(k:Sm t H H'):BP H' wa n ts:=h.keepT fun b _ e=>by obtain⟨p,ns,dq,rest,a,_⟩:=T;exact k b _ (Bn e a (by intro z;cases z)) e
def Ii:Sp:=fun vs H Q _=>∃t N n,vs=[.ref t,.int n]/\AY H t N/\N<900000/\1<=n/\n<=24 /\
 ∀wa ts H',H wa=none->BP H' wa n ts->AY H' t (N+200)->Sm t H H'->Q (.ref wa) H'
def JD (n:Int)(dQ:List (List AR×V)):Prop:=(∀kv∈dQ,∃a b l:Int,kv=([Sum.inl a,Sum.inl b],V.int l)/\0<=a/\a<b/\b<n/\1<=l/\l<=99)/\(dQ.map (·.1)).Nodup
theorem JD.nil (n):JD n []:=⟨fun _ h=>by simp at h,List.nodup_nil⟩
theorem JD.put (h:JD n dQ)(h0:0<=a)(h1:a<b)(h2:b<n)(h3:1<=l)(h4:l<=99):JD n (BC dQ [Sum.inl a,Sum.inl b] (.int l)):=by
 cases e:Af dQ [Sum.inl a,Sum.inl b] with
 | none=>
  refine⟨fun kv i0=>?_,Y7 _ h.2 e⟩;rw[UJ _ e] at i0;rcases zj.mp i0 with q | q
  . exact h.1 kv q
  . rw[zh.mp q];exact⟨a,b,l,rfl,h0,h1,h2,h3,h4⟩
 | some v=>
  have ha:(dQ.any fun kv=>decide (kv.1=[Sum.inl a,Sum.inl b]))=true:=by rw[HA,e];rfl
  unfold BC;rw[if_pos ha];refine⟨fun kv i0=>?_,?_⟩
  . obtain⟨q,hq,e2⟩:=Be.mp i0;by_cases hk:q.1=[Sum.inl a,Sum.inl b]
    . rw[if_pos hk,hk] at e2;rw[<-e2];exact⟨a,b,l,rfl,h0,h1,h2,h3,h4⟩
    . rw[if_neg hk] at e2;rw[<-e2];exact h.1 q hq
  . have e3:(dQ.map fun kv=>if kv.1=[Sum.inl a,Sum.inl b] then (kv.1,V.int l) else kv).map (·.1)=dQ.map (·.1):=by
     rw[List.map_map];refine List.map_congr_left fun kv _=>?_;show (if kv.1=[Sum.inl a,Sum.inl b] then (kv.1,V.int l) else kv).1=kv.1
     split <;> rfl
    rw[e3];exact h.2
noncomputable def cx:AR->Int
 | .inl i=>i
 | .inr _=>0
noncomputable def Fx (dQ:List (List AR×V)):List (List Int):=dQ.map fun kv=>kv.1.map cx
theorem JD.keys (h:JD n dQ):dQ.map (·.1)=(Fx dQ).map (List.map Sum.inl):=by unfold Fx;rw[List.map_map];refine List.map_congr_left fun kv i0=>?_;obtain⟨a,b,l,e,_⟩:=h.1 kv i0;rw[e];rfl
theorem JD.ne (h:JD n dQ):∀k∈Fx dQ,k≠[]:=fun k hk=>by obtain⟨kv,i0,e⟩:=Be.mp hk;obtain⟨a,b,l,e2,_⟩:=h.1 kv i0;rw[<-e,e2];simp[List.map]
theorem JD.nd (h:JD n dQ):(Fx dQ).Nodup:=by have e:=h.2;rw[h.keys] at e;rw[List.Nodup,G9] at e;exact e.imp fun h e'=>h (by rw[e'])
theorem JD.val (h:JD n dQ)(hk:k∈Fx dQ):∃a b l,k=[a,b]/\Af dQ [Sum.inl a,Sum.inl b]=some (.int l)/\0<=a/\a<b/\b<n/\1<=l/\l<=99:=by
 obtain⟨kv,i0,e⟩:=Be.mp hk;obtain⟨a,b,l,e2,h0,h1,h2,h3,h4⟩:=h.1 kv i0;have ek:k=[a,b]:=by rw[<-e,e2];rfl
 have hm:(dQ.any fun kv=>decide (kv.1=[Sum.inl a,Sum.inl b]))=true:=List.any_eq_true.mpr ⟨kv,i0,zP (by rw[e2])⟩;rw[HA] at hm;cases hv:Af dQ [Sum.inl a,Sum.inl b] with
 | none=>rw[hv] at hm;cases hm
 | some v=>
  have hv0:=hv;unfold Af at hv;cases hf:dQ.find? fun kv=>decide (kv.1=[Sum.inl a,Sum.inl b]) with
  | none=>rw[hf] at hv;cases hv
  | some q=>
   rw[hf] at hv;obtain⟨a',b',l',e3,_,_,_,g3,g4⟩:=h.1 q (List.mem_of_find?_eq_some hf);have ev:v=.int l':=by rw[e3] at hv;exact (zY hv).symm
   exact⟨a,b,l',ek,by rw[hv0,ev],h0,h1,h2,g3,g4⟩
structure WI (H:Hp)(t d la:Addr)(n:Int)(N m:Nat)(H2:Hp):Prop where
 sm:Sm t H H2
 tp:AY H2 t N
 dc:∃dQ,H2 d=some (.dT dQ)/\JD n dQ/\dQ.length<=m
 lg:∃l0 l1 l2:Int,H2 la=some (.lst [.int l0,.int l1,.int l2])/\(∀l∈[l0,l1,l2],1<=l/\l<=99)
theorem WI.draw (h:WI H t d la n N m H2)(hd:d≠t)(hl:la≠t)(T:AY H3 t (N+1))(he:∀b,b≠t->H3 b=H2 b):WI H t d la n (N+1) m H3:=by
 refine⟨fun b o nb e=>by rw[he b nb];exact h.sm b o nb e,T,?_,?_⟩
 . rw[he d hd];exact h.dc
 . rw[he la hl];exact h.lg
theorem WI.laid (h:WI H t d la n N m H2)(hl:H2 l=none):WI H t d la n N m (upd H2 l o):=by obtain⟨dQ,a,b⟩:=h.dc;obtain⟨l0,l1,l2,c,e⟩:=h.lg;exact⟨h.sm.trans (Sm.laid hl),h.tp.laid hl,⟨dQ,by rw[zk (zt a hl)];exact a,b⟩,⟨l0,l1,l2,by rw[zk (zt c hl)];exact c,e⟩⟩
theorem WI.put (h:WI H t d la n N m H2)(hd0:H d=none)(hd:H2 d=some (.dT dQ))(h0:0<=a)(h1:a<b)(h2:b<n)(h3:1<=l)(h4:l<=99):
 WI H t d la n N (m+1) (upd H2 d (.dT (BC dQ [Sum.inl a,Sum.inl b] (.int l)))):=by
 obtain⟨kvs',e,j,hm⟩:=h.dc;rw[hd] at e;cases e;obtain⟨l0,l1,l2,c,e⟩:=h.lg;refine⟨h.sm.chg hd0,h.tp.chg hd (by intro xs z;cases z),⟨_,zK,j.put h0 h1 h2 h3 h4,?_⟩,⟨l0,l1,l2,by rw[zk (Bn c hd (by intro z;cases z))];exact c,e⟩⟩;have:=JQ dQ [Sum.inl a,Sum.inl b] (V.int l)
 lia
theorem WI.up (h:WI H t d la n N m H2)(hN:N<=N')(hm:m<=m'):WI H t d la n N' m' H2:=by obtain⟨dQ,a,b,c⟩:=h.dc;exact⟨h.sm,h.tp.mono hN,⟨dQ,a,b,by lia⟩,h.lg⟩
theorem Xg (h:∀l∈[l0,l1,l2],1<=l/\l<=99)(h0:0<=r)(h1:r<3):∃l,B9 [V.int l0,V.int l1,V.int l2] r=some (.int l)/\1<=l/\l<=99:=by obtain⟨l,hl,ha⟩:=YV (L:=[l0,l1,l2]) h0 h1;exact⟨l,ha,h l hl⟩
theorem BS (h:n<=100000):n<sizeLine:=CG h (by decide)
theorem Yd (h:JD n dQ)(hp:ms.Perm (Fx dQ))(hl:dQ.length<64)(hn:1<=n)(hn2:n<=24)(e:ts.map (fun t=>[t.1,t.2.1])=ms)(hr:∀t∈ts,0<=t.1/\t.1<t.2.1/\t.2.1<n/\1<=t.2.2/\t.2.2<=99):GW n ts:=by
 have hlen:ts.length=dQ.length:=by have:=hp.length_eq;rw[<-e] at this;simpa [Fx] using this
 refine⟨hn,hn2,by lia,hr,?_⟩;have nd:(ts.map fun t:T3=>[t.1,t.2.1]).Nodup:=by rw[e];exact hp.nodup_iff.mpr h.nd
 rw[List.Nodup,G9] at nd;exact nd.imp fun eB hc=>eB (by rw[hc.1,hc.2])
theorem JV:AX ["_law_tape_here","_law_n","_law_longs","_law_joined_here","_law_b","_law_k","_law_a"] Hj (defScope Dd):=Ad
theorem J7 {fd:FuncData}(F:Fu K "_law_web" Dd f fd) (FD:AH K mg "_law_draw" HY fD fdD IT) (dY:mg "len"=none)
 (dR:mg "range"=none) (dS:mg "tuple"=none) (da:mg "sorted"=none):AL P w K mg base AU 2 f fd Hj Ii:=by
 have GD:AM P w base 1 FD ND:=R6 FD.F dY;refine F.okD JV fun _ A _ _ H vs Q E hr h=>?_;obtain⟨t,N,n,rfl,T,hN,iu,hn2,k⟩:=h;have hu:=Ge hr;obtain⟨es,q0,q1,q2,j3,q3,q4,p1,p2,p3,hbd,er⟩:∃es q0 q1 q2 j3 q3 q4 p1 p2 p3,defBody Dd=.Assign [.Name "_law_longs" q0] (.Subscript (.List es p1) (.Call (.Name "_law_draw" q1) [.Name "_law_tape_here" q2,.Constant (.int 4) j3 q3] [] q4) p2) p3::(defBody Dd).drop 1 /\
  NP es [[1,1,1],[1,2,1],[1,2,3],[5,99,7]]:=⟨_,_,_,_,_,_,_,_,_,_,rfl,.cons (.cons (.cons (.cons .nil))) Gz (.cons (.cons (.cons (.cons .nil))) Gz (.cons (.cons (.cons (.cons .nil))) Gz (.cons (.cons (.cons (.cons .nil))) Gz (.nil))))⟩
 rw[hbd];refine⟨_,za (As (i:=2) JV.nd (AF Ab (CJ (YR er))
  (AO GD hr FD (zE (pv 0) (ED zQ)))))
  (za (HN (i:=3) JV.nd rfl (Or.inr rfl) WY)
  (za (Aq (Ak JI (AO GD hr FD (zE (pv 0) (ED zQ))) zi (AS _))
   (ze (A7 (Wd rfl dR (ED (zE (pv 1) zQ))) (Ae (i:=4) JV.nd)
    (ze (QL hu (pv 3) (AZ (zE (AO GD hr FD (zE (pv 0) (zE (pv 4) zQ))) (zE (pv 4) zQ)))
     (AF Ab (pv 2) (AO GD hr FD (zE (pv 0) (ED zQ)))) rfl)))) Ao)
  (za (A7 (B8 rfl dR (zE (AO GD hr FD (zE (pv 0) (zE (AV CK (AV CK zi (pv 1)) (AV Pu (pv 1) zi)) zQ))) zQ)) (Ae (i:=5) JV.nd)
   (za (As (i:=6) JV.nd (AO GD hr FD (zE (pv 0) (zE (pv 1) zQ))))
   (za (As (i:=4) JV.nd (AO GD hr FD (zE (pv 0) (zE (pv 1) zQ))))
   (ze (Aq (Ak Pw (pv 6) (pv 4) (AS _)) (ze (QL hu (pv 3) (AZ (zE (pv 6) (zE (pv 4) zQ)))
    (AF Ab (pv 2) (AO GD hr FD (zE (pv 0) (ED zQ)))) rfl)) Ao)))))
  (ze (AN (AZ (zE (pv 1) (zE (DH Lm dS (zE
   (B0 (own:=["_law_pair"]) (cn:=["_law_joined_here"]) (ci:=[3]) rfl (BK rfl rfl) ⟨rfl,rfl,rfl,trivial⟩ rfl
    (F3 (Ar (Yk rfl) da (zE (pv 3) zQ))) (fun _ _ _ _=>BJ) (fun _ _ _ _=>CD)
    (fun _ _ _ _=>AZ (zE (AF Cy (pv 0) zi) (zE (AF Cy (pv 0) zi) (zE (JE hu (pv 1) (pv 0) (fun _ _=>rfl)) zQ))))) zQ)) zQ)))))))),?_⟩
 intro a1 e1 a2 e2 a3 e3 a4 e4;refine⟨MY,fun al el=>?_⟩;have T5:=((((T.laid (o:=.lst [.int 1,.int 1,.int 1]) e1).laid (o:=.lst [.int 1,.int 2,.int 1]) e2).laid (o:=.lst [.int 1,.int 2,.int 3]) e3).laid (o:=.lst [.int 5,.int 99,.int 7]) e4).laid (o:=.lst [.ref a1,.ref a2,.ref a3,.ref a4]) el;refine⟨_,rfl,t,N,4,rfl,T5,by lia,by decide,by decide,fun r H1 h0 h1 T1 he1=>?_⟩;have nel:al≠t:=((((T.laid (o:=.lst [.int 1,.int 1,.int 1]) e1).laid (o:=.lst [.int 1,.int 2,.int 1]) e2).laid (o:=.lst [.int 1,.int 2,.int 3]) e3).laid (o:=.lst [.int 5,.int 99,.int 7]) e4).ne el;obtain⟨la,l0,l1,l2,hat,hV,hb,nla⟩:∃(la:Addr)(l0 l1 l2:Int),B9 [V.ref a1,V.ref a2,V.ref a3,V.ref a4] r=some (.ref la)/\H1 la=some (.lst [.int l0,.int l1,.int l2])/\(∀l∈[l0,l1,l2],1<=l/\l<=99)/\la≠t:=by
  have n1:a1≠t:=T.ne e1;have n2:a2≠t:=(T.laid (o:=.lst [.int 1,.int 1,.int 1]) e1).ne e2;have n3:a3≠t:=((T.laid (o:=.lst [.int 1,.int 1,.int 1]) e1).laid (o:=.lst [.int 1,.int 2,.int 1]) e2).ne e3;have n4:a4≠t:=(((T.laid (o:=.lst [.int 1,.int 1,.int 1]) e1).laid (o:=.lst [.int 1,.int 2,.int 1]) e2).laid (o:=.lst [.int 1,.int 2,.int 3]) e3).ne e4;have g1:H1 a1=some (.lst [.int 1,.int 1,.int 1]):=by rw[he1 a1 n1];exact zH el _ _ (zH e4 _ _ (zH e3 _ _ (zH e2 _ _ zK)))
  have g2:H1 a2=some (.lst [.int 1,.int 2,.int 1]):=by rw[he1 a2 n2];exact zH el _ _ (zH e4 _ _ (zH e3 _ _ zK))
  have g3:H1 a3=some (.lst [.int 1,.int 2,.int 3]):=by rw[he1 a3 n3];exact zH el _ _ (zH e4 _ _ zK)
  have g4:H1 a4=some (.lst [.int 5,.int 99,.int 7]):=by rw[he1 a4 n4];exact zH el _ _ zK
  have hr4:r=0\/r=1\/r=2\/r=3:=by lia
  rcases hr4 with rfl | rfl | rfl | rfl
  . exact⟨a1,1,1,1,rfl,g1,by decide,n1⟩
  . exact⟨a2,1,2,1,rfl,g2,by decide,n2⟩
  . exact⟨a3,1,2,3,rfl,g3,by decide,n3⟩
  . exact⟨a4,5,99,7,rfl,g4,by decide,n4⟩
 refine⟨al,_,_,_,rfl,rfl,AE.of (by rw[he1 al nel];exact zK),hat,?_⟩;have sm1:Sm t H H1:=fun b o nb e=>by rw[he1 b nb];exact zH el _ _ (zH e4 _ _ (zH e3 _ _ (zH e2 _ _ (zH e1 _ _ e))))
 intro d hd;have nd:d≠t:=T1.ne hd;have hd0:H d=none:=by
  cases q:H d with
  | none=>rfl
  | some o=>have:=sm1 d o nd q;rw[hd] at this;cases this
 have W0:WI H t d la n (N+1) 0 (upd H1 d (.dT [])):=⟨sm1.chg hd0,T1.laid hd,⟨[],zK,JD.nil n,zJ _⟩,⟨l0,l1,l2,by rw[zk (zt hV hd)];exact hV,hb⟩⟩;refine⟨_,rfl,t,N+1,3,rfl,W0.tp,by lia,by decide,by decide,fun r1 H2 _ _ T2 he2=>?_⟩;have W2:=W0.draw nd nla T2 he2;refine⟨_,_,rfl,rfl,_,rfl,?_⟩;refine Cg (fun _=>?a) (fun _=>?b)
 case' a=>
  refine⟨_,rfl,1,n,rfl,⟨by decide,by decide,by lia,by lia⟩,CS (lo:=1) (n:=(n-1).toNat) (fun i σ H3=>∃vb:Option V,σ=[some (.ref t),some (.int n),some (.ref la),some (.ref d),vb,none,none]/\WI H t d la n (N+2+2*i) i H3) ⟨none,rfl,W2⟩ ?turn ?after⟩
  case turn=>
   rintro i σ H3 hi ⟨vb,rfl,W⟩;obtain⟨m0,m1,m2,hm,hmb⟩:=W.lg;refine⟨_,rfl,_,rfl,t,N+2+2*i,3,rfl,W.tp,by lia,by decide,by decide,fun r3 H4 g0 g1 T4 he4=>?_⟩;have W4:=W.draw nd nla T4 he4;obtain⟨lg,hlg,hg1,hg2⟩:=Xg hmb g0 g1;refine⟨la,_,_,_,rfl,rfl,AE.of (by rw[he4 la nla];exact hm),hlg,?_⟩;refine⟨_,rfl,_,rfl,_,rfl,t,N+2+2*i+1,1+i,rfl,W4.tp,by lia,by lia,by lia,fun r5 H5 q0 q1 T5 he5=>?_⟩;have W5:=W4.draw nd nla T5 he5;refine⟨_,rfl,Au,fun p hp=>?_⟩;have W6:=W5.laid (o:=.tup [.int r5,.int (1+i)]) hp;obtain⟨dQ,hk,J,hkl⟩:=W6.dc;refine⟨d,_,rfl,HJ.t (k:=[Sum.inl r5,Sum.inl (1+(i:Int))]) hk zK (BS (by lia)),?_⟩;exact⟨_,rfl,(W6.put hd0 hk q0 q1 (by lia) hg1 hg2).up (by lia) (by lia)⟩
  case' after=>
   rintro σ H3 ⟨vb,rfl,W⟩;have W3:WI H t d la n (N+50) 23 H3:=W.up (by lia) (by lia)
 case' b=>
  have W3:WI H t d la n (N+50) 23 H2:=W2.up (by lia) (by lia)
 all_goals
  refine⟨_,rfl,_,rfl,_,_,rfl,rfl,_,rfl,_,_,rfl,rfl,⟨by decide,by decide⟩,_,_,rfl,rfl,t,N+50,_,rfl,W3.tp,by lia,by lia,by lia,fun r4 H4 p0 p1 T4 he4=>?_⟩;have W4:=W3.draw nd nla T4 he4;refine⟨r4,rfl,by lia,by lia,CS (lo:=0) (n:=r4.toNat) (fun i σ H5=>IV fun (vb vk va:Option V)=>σ=[some (.ref t),some (.int n),some (.ref la),some (.ref d),vb,vk,va]/\WI H t d la n (N+51+3*i) (23+i) H5) ⟨_,_,_,rfl,W4⟩ ?turn2 ?after2⟩
  case turn2=>
   rintro i σ H5 hi ⟨vb,vk,va,rfl,W⟩;refine⟨_,rfl,_,rfl,t,N+51+3*i,n,rfl,W.tp,by lia,by lia,by lia,fun a H6 a0 a1 T6 he6=>?_⟩;have W6:=W.draw nd nla T6 he6;refine⟨_,rfl,_,rfl,t,N+51+3*i+1,n,rfl,W6.tp,by lia,by lia,by lia,fun b H7 b0 b1 T7 he7=>?_⟩;have W7:=W6.draw nd nla T7 he7;refine⟨_,rfl,_,rfl,_,_,rfl,rfl,_,rfl,?_⟩;refine Cg (fun hc=>?_) (fun hc=>?_)
   . have iW:a<b:=of_decide_eq_true hc;obtain⟨m0,m1,m2,hm,hmb⟩:=W7.lg;refine⟨_,rfl,_,rfl,t,N+51+3*i+1+1,3,rfl,W7.tp,by lia,by decide,by decide,fun r3 H8 g0 g1 T8 he8=>?_⟩;have W8:=W7.draw nd nla T8 he8;obtain⟨lg,hlg,hg1,hg2⟩:=Xg hmb g0 g1;refine⟨la,_,_,_,rfl,rfl,AE.of (by rw[he8 la nla];exact hm),hlg,?_⟩;refine⟨_,rfl,_,rfl,_,rfl,Au,fun p hp=>?_⟩;have W9:=W8.laid (o:=.tup [.int a,.int b]) hp;obtain⟨dQ,hk,J,hkl⟩:=W9.dc;refine⟨d,_,rfl,HJ.t (k:=[Sum.inl a,Sum.inl b]) hk zK (BS (by lia)),?_⟩;exact⟨_,_,_,rfl,(W9.put hd0 hk a0 iW b1 hg1 hg2).up (by lia) (by lia)⟩
   . exact⟨_,_,_,rfl,W7.up (by lia) (by lia)⟩
  case after2=>
   rintro σ H5 ⟨vb,vk,va,rfl,W⟩;obtain⟨dQ,hk,J,hkl⟩:=W.dc;have hk64:dQ.length<64:=by lia
   refine⟨_,rfl,_,rfl,d,dQ,Fx dQ,rfl,hk,J.keys,J.ne,by rw[Fx,zD];exact hk64,fun l zs ms hl TA hp _=>?_⟩;refine⟨l,rfl,⟨_,AE.of zK⟩,[.ref d],rfl,fun D hD=>?_⟩;have hlz:=TA.length;have hlm:ms.length=dQ.length:=by rw[hp.length_eq,Fx,zD]
   have nlD:l≠D:=fun e=>by rw[<-e,zK] at hD;cases hD
   have hk1:(upd H5 l (.lst zs)) d=some (.dT dQ):=zH hl _ _ hk;have gO:H5 D=none:=by rw[zk nlD.symm] at hD;exact hD
   refine Wk (a:=l) (xs:=zs) (fun i ys H6=>∃ts:List T3,ts.length=i/\ts.map (fun t:T3=>[t.1,t.2.1])=ms.take i/\(∀t∈ts,0<=t.1/\t.1<t.2.1/\t.2.1<n/\1<=t.2.2/\t.2.2<=99)/\H6 D=some (.lst ys)/\A3 H6 ys (ts.map tl)/\AD (upd H5 l (.lst zs)) H6)
    ⟨[],rfl,rfl,fun _ h=>by simp at h,zK,trivial,zH hD⟩ (fun i ys H6 h=>?_) (fun i ys H6 h=>?_) (fun i x ys H6 hx h=>?_) (fun ys H6 h=>?_)
   . obtain⟨_,_,_,_,_,_,s6⟩:=h;exact AE.of (s6 _ _ zK)
   . obtain⟨ts,e1,e2,_,_,T6,_⟩:=h;have e3:=T6.length;rw[zD] at e3;have e4:=congrArg List.length e2;rw[zD,zd] at e4;exact BS (by lia)
   . obtain⟨ts,e1,e2,hts,gH,T6,s6⟩:=h;obtain⟨pa,kx,ex,hkx,hpa,_⟩:=TA.get hx;subst ex;have hpa6:H6 pa=some (.tup (kx.map V.int)):=s6 _ _ (zH hl _ _ hpa);obtain⟨a,b,lg,ek,hv,a0,ab,bn,lg1,lg2⟩:=J.val (hp.mem_iff.mp (zV hkx));subst ek;refine⟨⟨rfl,rfl⟩,?_⟩;refine CC ?_;refine⟨_,rfl,pa,_,_,_,rfl,rfl,AC.of hpa6,rfl,_,rfl,pa,_,_,_,rfl,rfl,AC.of hpa6,rfl,_,rfl,_,rfl,d,_,rfl,hv ▸ BG.t (k:=[Sum.inl a,Sum.inl b]) (s6 _ _ hk1) hpa6,Gz,fun p hp6=>?_⟩;have nDp:D≠p:=zt gH hp6;refine⟨by rw[zk nDp];exact gH,ts++[(a,b,lg)],by rw[zM,e1];rfl,?_,?_,zK,?_,?_⟩
     . rw[zf,e2,zr,hkx];rfl
     . intro t ht;rcases zj.mp ht with q | q
       . exact hts t q
       . rw[zh.mp q];exact⟨a0,ab,bn,lg1,lg2⟩
     . rw[zf];refine (T6.keep fun c xs e=>?_).snoc ⟨p,rfl,by rw[zk nDp.symm,zK];rfl,by simp[tl]⟩;rw[zk (Bn e gH (by intro z;cases z)),zk (zt e hp6)];exact e
     . exact A9 (s6.trans (zH hp6)) hD
   . obtain⟨ts,e1,e2,hts,gH,T6,s6⟩:=h;refine⟨D,ys,rfl,.inl ⟨AE.of gH,fun ta iG=>?_⟩⟩;refine⟨Au,fun wa eS=>?_⟩;rw[hlz,zW (zJ _)] at e2;have G:GW n ts:=Yd J hp hk64 iu hn2 e2 hts;have nwt:wa≠ta:=fun e=>by rw[e,zK] at eS;cases eS
     have h6wa:H6 wa=none:=by rw[zk nwt] at eS;exact eS
     have s7:AD H6 (upd (upd H6 ta (.tup ys)) wa (.tup [.int n,.ref ta])):=A9 (zH iG) h6wa;have T7:AY (upd (upd H6 ta (.tup ys)) wa (.tup [.int n,.ref ta])) t (N+200):=((W.tp.mono (by lia)).keep ((zH hl).trans (s6.trans s7)));have nwa:wa≠t:=((W.tp.keep ((zH hl).trans s6)).ne h6wa);have sm7:Sm t H (upd (upd H6 ta (.tup ys)) wa (.tup [.int n,.ref ta])):=W.sm.trans (Sm.of ((zH hl).trans (s6.trans s7)));refine k wa ts _ ?_ ⟨ta,ys,zK,by rw[zk nwt.symm,zK],T6.keep fun c xs e=>s7 _ _ e,G⟩ T7 sm7;cases q:H wa with
     | none=>rfl
     | some o=>have:=(W.sm.trans (Sm.of ((zH hl).trans s6))) wa o nwa q;rw[h6wa] at this;cases this
theorem VO :decide (V.int i=V.int j)=decide (i=j):=by
 by_cases h:i=j
 . subst h;simp
 . rw[zR h,zR fun e=>h (by injection e)]
theorem Ag {q:Prop}(h:c=true)(hp:p):(if c=true then p else q):=by rw[if_pos h];exact hp
theorem Am {q:Prop}(h:c=false)(hq:q):(if c=true then p else q):=by rw[if_neg (by simp[h])];exact hq
section
open PySem.Spec PyProof.Rows
structure Fn (n p:Nat)(d:PyData):Prop where
 wt:d.weight<=n
 dp:d.depth<=p
 cl:d.canLay0=true
 sh:d.intsShort 50=true
 sw:d.showable=true
theorem Fn.mono (h:Fn n p d)(hn:n<=n')(hp:p<=p'):Fn n' p' d:=⟨zp h.wt hn,zp h.dp hp,h.cl,h.sh,h.sw⟩
theorem Rt:Fn 0 0 .none:=⟨zJ _,zJ _,rfl,rfl,rfl⟩
theorem Rx (b:Bool):Fn 0 0 (.bool b):=⟨zJ _,zJ _,rfl,rfl,rfl⟩
theorem GM (h:i.natAbs<10 ^ 40):Fn 140 0 (.int i):=by
 have hl:i.natAbs.log2<134:=by
  by_cases h0:i.natAbs=0
  . rw[h0];decide
  . exact (Nat.log2_lt h0).mpr (by lia)
 have ht:=Uk h;refine⟨?_,zJ _,rfl,?_,?_⟩
 . simp only[PyData.weight];split <;> lia
 . simp only[PyData.intsShort,PyData.shown];exact zP (by lia)
 . simp only[PyData.showable];exact zP (by lia)
theorem Ra :∀{ds:List PyData},(∀d∈ds,Fn n p d)->PyData.weightAll ds<=ds.length*(n+1)/\PyData.depthAll ds<=p/\PyData.canLayAll0 ds=true/\PyData.intsShortAll 50 ds=true/\PyData.showableAll ds=true
 | [],_=>⟨by simp[PyData.weightAll],by simp[PyData.depthAll],by simp[PyData.canLayAll0],by simp[PyData.intsShortAll],by simp[PyData.showableAll]⟩
 | d::ds,h=>by
  obtain⟨a,b,c,e,f⟩:=Ra (ds:=ds) fun x hx=>h x (zZ _ hx);have g:=h d zS;refine⟨?_,?_,?_,?_,?_⟩
  . simp only[PyData.weightAll,zo];have:=g.wt;rw[Nat.add_mul]
    lia
  . simp only[PyData.depthAll];have:=g.dp
    lia
  . simp only[PyData.canLayAll0,g.cl,c,Bool.and_self]
  . simp only[PyData.intsShortAll,g.sh,e,Bool.and_self]
  . simp only[PyData.showableAll,g.sw,f,Bool.and_self]
theorem Iv (h:∀d∈ds,Fn n p d)(hl:ds.length<=L):Fn (L*(n+1)) (p+1) (.tuple ds):=by
 obtain⟨a,b,c,e,f⟩:=Ra h;refine⟨?_,?_,?_,?_,?_⟩
 . simp only[PyData.weight];exact zp a (Nat.mul_le_mul_right _ hl)
 . simp only[PyData.depth];lia
 . simp only[PyData.canLay0];exact c
 . simp only[PyData.intsShort];exact e
 . simp only[PyData.showable];exact f
theorem Fn.len (h:Fn n p d)(hn:n<=300000)(hp:p<=60):d.shown.length<=sizeLine/\d.hasDict=false:=by
 have hl:PyData.layable0 d=true:=by show (PyData.canLay0 d && decide (PyData.depth d<=64) && decide (PyData.weight d<=2 ^ 20))=true;rw[h.cl,zP (show PyData.depth d<=64 by have:=h.dp;lia),zP (show PyData.weight d<=2 ^ 20 by have:=h.wt;lia)];rfl
 have e:=PyData.shown_le 50 (by decide) d (PyData.leavesShort_of_canLay0 50 d h.cl h.sh);have:sizeLine=16777216:=rfl;have:=h.wt;exact⟨by lia,PyData.hasDict_of_layable hl⟩
inductive IG (xs:List V)(H:Hp)(Q:VK):Prop
 | mk:∀x d,(xs=[x])->(AW H x d)->(Fn 300000 50 d)->(Q (.str d.shown) H)->IG xs H Q
theorem Pt (hr:A0 k X.A):B3 X (.builtin "repr") IG:=by
 intro pins s σ H xs us Q I r h;obtain⟨x,d,rfl,sh,f,q⟩:=h;obtain⟨u,rfl,rx⟩:=Cb r;obtain⟨hz,hnd⟩:=f.len (zJ _) (by decide);have hu:=hr.units;cases sh with
 | non=>cases (show u=Value.none from rx);exact PySem.P.repr_of_none ⟨.str _,H,I.tok _,⟨_,rfl⟩,by simpa only [PyData.shown] using q⟩
 | bl b=>cases (show u=Value.bool b from rx);exact PySem.P.repr_of_bool ⟨.str _,H,I.tok _,⟨_,rfl⟩,by simpa only [PyData.shown] using q⟩
 | int i=>obtain⟨t,rfl⟩:=rx;exact PySem.P.repr_of_int (by have:=f.sw;simpa only [PyData.showable,decide_eq_true_eq] using this) ⟨.str _,H,I.tok _,⟨_,rfl⟩,by simpa only [PyData.shown] using q⟩
 | str z=>obtain⟨t,rfl⟩:=rx;exact PySem.P.repr_of_str ⟨.str _,H,I.tok _,⟨_,rfl⟩,by simpa only [PyData.shown] using q⟩ (by simpa only [PyData.shown] using hz)
 | tup e al=>cases (show u=Value.ref _ from rx);obtain⟨as,rd⟩:=AW.reads I.hok (.tup e al) (u:=.ref _) rfl;exact repr_of_reads' rd f.sw (PyData.noDict_hsm hnd) hr.gd (by have:=f.dp;lia) (fun _ _ e=>e) (fun h' u tk hk=>⟨.str _,H,I.kept hk,⟨u,rfl⟩,q⟩) hz
 | lst e al=>cases (show u=Value.ref _ from rx);obtain⟨as,rd⟩:=AW.reads I.hok (.lst e al) (u:=.ref _) rfl;exact repr_of_reads' rd f.sw (PyData.noDict_hsm hnd) hr.gd (by have:=f.dp;lia) (fun _ _ e=>e) (fun h' u tk hk=>⟨.str _,H,I.kept hk,⟨u,rfl⟩,q⟩) hz
end
noncomputable def GV:PyData->Bool
 | .int _=>true
 | _=>false
noncomputable def B2 (d:PyData)(a b:Int):Bool:=match d with
 | .int i=>decide (a<=i) && decide (i<=b)
 | _=>false
noncomputable def HP (d:PyData):Bool:=match d with
 | .tuple _=>true
 | _=>false
noncomputable def DZ (d:PyData)(n:Int):Bool:=match d with
 | .tuple ds=>decide ((ds.length:Int)=n)
 | _=>false
theorem Ct (h:Aw H xs ds):xs.length=ds.length:=by
 induction xs generalizing ds with
 | nil=>cases h;rfl
 | cons x xs ih=>
  cases h with
  | cons a b=>rw[zo,zo,ih b]
theorem Iy {i:Nat}(h:Aw H xs ds)(e:ds[i]?=some d):∃x,xs[i]?=some x/\AW H x d:=by
 induction xs generalizing ds i with
 | nil=>cases h;simp at e
 | cons x xs ih=>
  cases h with
  | cons a b=>
   cases i with
   | zero=>simp at e;subst e;exact⟨x,rfl,a⟩
   | succ i=>exact ih b (by simpa using e)
theorem Bj (k:AD H H')(s:AW H v d):AW H' v d:=
 AW.rec (motive_1:=fun v d _=>AW H' v d) (motive_2:=fun xs ds _=>Aw H' xs ds) .non (fun b=>.bl b) (fun i=>.int i) (fun x=>.str x) (fun e _ ih=>.tup (k _ _ e) ih) (fun e _ ih=>.lst (k _ _ e) ih) .nil (fun _ _ i1 i2=>.cons i1 i2) s
theorem EY (s:AW H v d):∃t bi bb bt:_,DC K H v t/\PySem.W.kitOne K t (.type "int")=some bi/\PySem.W.kitOne K t (.type "bool")=some bb/\PySem.W.kitOne K t (.type "tuple")=some bt/\(bi && !bb)=GV d/\bt=HP d/\(GV d=true->∃i,v=.int i/\d=.int i)/\(HP d=true->∃a xs ds,v=.ref a/\H a=some (.tup xs)/\d=.tuple ds/\Aw H xs ds):=by
 cases s with
 | non=>exact⟨_,_,_,_,.non,rfl,rfl,rfl,rfl,rfl,(fun z=>by cases z),(fun z=>by cases z)⟩
 | bl b=>exact⟨_,_,_,_,.bl b,rfl,rfl,rfl,rfl,rfl,(fun z=>by cases z),(fun z=>by cases z)⟩
 | int i=>exact⟨_,_,_,_,.int i,rfl,rfl,rfl,rfl,rfl,(fun z=>⟨i,rfl,rfl⟩),(fun z=>by cases z)⟩
 | str x=>exact⟨_,_,_,_,.str x,rfl,rfl,rfl,rfl,rfl,(fun z=>by cases z),(fun z=>by cases z)⟩
 | tup e al=>exact⟨_,_,_,_,.tup e,rfl,rfl,rfl,rfl,rfl,(fun z=>by cases z),(fun z=>⟨_,_,_,rfl,e,rfl,al⟩)⟩
 | lst e al=>exact⟨_,_,_,_,.lst e,rfl,rfl,rfl,rfl,rfl,(fun z=>by cases z),(fun z=>by cases z)⟩
def RZ:Sp:=fun vs H Q _=>∃v d,vs=[v]/\AW H v d/\Q (.bl (GV d)) H
def G4:Sp:=fun vs H Q _=>∃v d a b,vs=[v,.int a,.int b]/\AW H v d/\Q (.bl (B2 d a b)) H
def QO:Sp:=fun vs H Q _=>∃v d n,vs=[v,.int n]/\AW H v d/\Q (.bl (DZ d n)) H
theorem N9:AX ["thing"] ["thing"] (defScope JP):=Ad
theorem WJ (F:Fu K "is_number" JP f dU) (dX:mg "isinstance"=none) (d8:mg "int"=none) (dh:mg "bool"=none):AL P w K mg base AU 1 f dU ["thing"] RZ:=by
 refine F.okD N9 fun _ A _ _ H vs Q E hr h=>?_;obtain⟨v,d,rfl,S,k⟩:=h;obtain⟨t,bi,bb,bt,ty,e1,e2,_,e4,_⟩:=EY (K:=K) S;refine⟨_,ze (AN (Bs (Ar DL dX (zE (pv 0) (zE (C9 (T := "int") d8) zQ)))
  (CM (Vt (Ar DL dX (zE (pv 0) (zE (C9 (T := "bool") dh) zQ))))))),?_⟩
 refine⟨_,rfl,_,_,t,bi,rfl,ty,e1,bi,rfl,?_⟩;rw[<-e4] at k;cases bi with
 | false=>exact Aj k
 | true=>exact Aa ⟨_,rfl,_,_,t,bb,rfl,ty,e2,bb,rfl,k⟩
theorem UD:AX MW MW (defScope Nu):=Ad
theorem PN (F:Fu K "is_within" Nu f dU) (FN:AH K mg "is_number" JP fN fdN ["thing"]) (dX:mg "isinstance"=none) (d8:mg "int"=none) (dh:mg "bool"=none):
 AL P w K mg base AU 2 f dU MW G4:=by
 have GN:AM P w base 1 FN RZ:=WJ FN.F dX d8 dh;refine F.okD UD fun _ A _ _ H vs Q E hr h=>?_;obtain⟨v,d,a,b,rfl,S,k⟩:=h;refine⟨_,ze (AN (Bs (AO GN hr FN (zE (pv 0) zQ)) (Bs (BN Pk (pv 1) (pv 0) (AS _)) (CM (BN Pk (pv 0) (pv 2) (AS _)))))),?_⟩;refine⟨_,rfl,v,d,rfl,S,GV d,rfl,?_⟩;obtain⟨_,_,_,_,_,_,_,_,_,_,hi,_⟩:=EY (K:=K) S;cases hn:GV d with
 | false=>
  refine Aj ?_;have:B2 d a b=false:=by cases d <;> first | rfl | cases hn
  rw[this] at k;exact k
 | true=>
  refine Aa ?_;obtain⟨i,rfl,rfl⟩:=hi hn;have k':Q (.bl (decide (a<=i) && decide (i<=b))) H:=k;refine⟨_,rfl,_,rfl,_,_,rfl,rfl,_,rfl,?_⟩;by_cases c:a<=i
  . rw[zP c,CZ] at k';exact Ag (zP c) ⟨_,rfl,_,rfl,_,_,rfl,rfl,k'⟩
  . rw[zR c,Bt] at k';exact Am (zR c) k'
theorem Ot:AX Ku Ku (defScope Dk):=Ad
theorem Ko (F:Fu K "is_tuple_of" Dk f dU) (dX:mg "isinstance"=none) (dS:mg "tuple"=none) (dY:mg "len"=none):AL P w K mg base AU 1 f dU Ku QO:=by
 refine F.okD Ot fun _ A _ _ H vs Q E hr h=>?_;obtain⟨v,d,n,rfl,S,k⟩:=h;obtain⟨t,bi,bb,bt,ty,_,_,e3,_,e5,_,ht⟩:=EY (K:=K) S;refine⟨_,ze (AN (Bs (Ar DL dX (zE (pv 0) (zE (C9 (T := "tuple") dS) zQ)))
  (CM (BN Bh (Ar D6 dY (zE (pv 0) zQ)) (pv 1) (AS _))))),?_⟩
 refine⟨_,rfl,_,_,t,bt,rfl,ty,e3,bt,rfl,?_⟩;rw[e5];cases hn:HP d with
 | false=>
  refine Aj ?_;have:DZ d n=false:=by cases d <;> first | rfl | cases hn
  rw[this] at k;exact k
 | true=>refine Aa ?_;obtain⟨a,xs,ds,rfl,ha,rfl,al⟩:=ht hn;refine⟨_,rfl,a,xs,rfl,.inr (AC.of ha),_,rfl,rfl,?_⟩;rw[VO,Ct al];exact k
theorem Eb:∀xs ys,PyData.weightAll (xs++ys)=PyData.weightAll xs+PyData.weightAll ys
 | [],ys=>by simp[PyData.weightAll]
 | x::xs,ys=>by
  rw[List.cons_append];simp only[PyData.weightAll];rw[Eb xs ys]
  lia
theorem Zx (n)(xs):PyData.weightAll (xs.take n)<=PyData.weightAll xs:=by
 have:=Eb (xs.take n) (xs.drop n);rw[MJ] at this
 lia
theorem cF (n)(xs):PyData.weightAll (xs.drop n)<=PyData.weightAll xs:=by
 have:=Eb (xs.take n) (xs.drop n);rw[MJ] at this
 lia
theorem U2:∀xs,PyData.weightAll xs.reverse=PyData.weightAll xs
 | []=>rfl
 | x::xs=>by
  rw[List.reverse_cons,Eb,U2 xs];simp only[PyData.weightAll]
  lia
theorem Xd:∀{ds:List PyData},PyData.canLayAll0 ds=true->PyData.intsShortAll 50 ds=true->PyData.showableAll ds=true->∀d∈ds,d.canLay0=true/\d.intsShort 50=true/\d.showable=true
 | [],_,_,_,d,hd=>by simp at hd
 | x::xs,h1,h2,h3,d,hd=>by
  simp only[PyData.canLayAll0,PyData.intsShortAll,PyData.showableAll,zx] at h1 h2 h3;rcases zT.mp hd with rfl | hd
  . exact⟨h1.1,h2.1,h3.1⟩
  . exact Xd h1.2 h2.2 h3.2 d hd
theorem Wq:∀{ds:List PyData}{d:PyData},d∈ds->d.weight+1<=PyData.weightAll ds
 | x::xs,d,hd=>by
  simp only[PyData.weightAll];rcases zT.mp hd with rfl | hd
  . lia
  . have:=Wq hd;lia
theorem Uz:∀{ds:List PyData}{d:PyData},d∈ds->d.depth<=PyData.depthAll ds
 | x::xs,d,hd=>by
  simp only[PyData.depthAll];rcases zT.mp hd with rfl | hd
  . lia
  . have:=Uz hd;lia
theorem QD (h:Fn n (p+1) (.tuple ds))(hd:d∈ds):Fn n p d:=by obtain⟨a,b,c,e,f⟩:=h;simp only[PyData.weight] at a;simp only[PyData.depth] at b;simp only[PyData.canLay0] at c;simp only[PyData.intsShort] at e;simp only[PyData.showable] at f;obtain⟨f1,f2,f3⟩:=Xd c e f d hd;have:=Wq hd;have:=Uz hd;exact⟨by lia,by lia,f1,f2,f3⟩
theorem SB:∀{ds:List PyData}{p:Nat},(∀d∈ds,∃n,Fn n p d)->PyData.depthAll ds<=p/\PyData.canLayAll0 ds=true/\PyData.intsShortAll 50 ds=true/\PyData.showableAll ds=true
 | [],p,_=>⟨by simp[PyData.depthAll],by simp[PyData.canLayAll0],by simp[PyData.intsShortAll],by simp[PyData.showableAll]⟩
 | d::ds,p,h=>by
  obtain⟨b,c,e,f⟩:=SB (ds:=ds) (p:=p) fun x hx=>h x (zZ _ hx);obtain⟨n,g⟩:=h d zS;refine⟨?_,?_,?_,?_⟩
  . simp only[PyData.depthAll];have:=g.dp;lia
  . simp only[PyData.canLayAll0,g.cl,c,Bool.and_self]
  . simp only[PyData.intsShortAll,g.sh,e,Bool.and_self]
  . simp only[PyData.showableAll,g.sw,f,Bool.and_self]
theorem Lg {w:Nat}(h:∀d∈ds,∃n,Fn n p d)(hw:PyData.weightAll ds<=w):Fn w (p+1) (.tuple ds):=by obtain⟨b,c,e,f⟩:=SB h;exact⟨by simp only[PyData.weight];exact hw,by simp only[PyData.depth];lia,by simp only[PyData.canLay0];exact c,by simp only[PyData.intsShort];exact e,by simp only[PyData.showable];exact f⟩
theorem Js {w:Nat}(h:∀d∈ds,∃n,Fn n p d)(hw:PyData.weightAll ds<=w):Fn w (p+1) (.list ds):=by obtain⟨b,c,e,f⟩:=SB h;exact⟨by simp only[PyData.weight];exact hw,by simp only[PyData.depth];lia,by simp only[PyData.canLay0];exact c,by simp only[PyData.intsShort];exact e,by simp only[PyData.showable];exact f⟩
noncomputable def Ax (t:Addr)(H:Hp):Hp:=fun b=>if b=t then none else H b
theorem Bg (h:Ax t H b=some o):b≠t/\H b=some o:=by
 unfold Ax at h;by_cases e:b=t
 . rw[if_pos e] at h;cases h
 . rw[if_neg e] at h;exact⟨e,h⟩
theorem Fh (n:b≠t)(h:H b=some o):Ax t H b=some o:=by unfold Ax;rw[if_neg n];exact h
theorem Vo (t)(H):AD (Ax t H) H:=fun b o e=>(Bg e).2
theorem Q4 (s:Sm t H H'):AD (Ax t H) (Ax t H'):=fun b o e=>by obtain⟨n,h⟩:=Bg e;exact Fh n (s b o n h)
def Sh (t:Addr)(H:Hp)(v:V)(d:PyData):Prop:=AW (Ax t H) v d
def Cw (t:Addr)(H:Hp)(vs:List V)(ds:List PyData):Prop:=Aw (Ax t H) vs ds
theorem cU (k:AD H H'):∀{vs:List V}{ds:List PyData},Aw H vs ds->Aw H' vs ds:=by
 intro vs
 induction vs with
 | nil=>intro ds h;cases h;exact .nil
 | cons v vs ih=>
  intro ds h;cases h with
  | cons a b=>exact .cons (Bj k a) (ih b)
theorem Mt (s:AD H H'):AD (Ax t H) (Ax t H'):=Q4 (Sm.of s)
theorem Sh.same (h:Sh t H v d)(s:AD H H'):Sh t H' v d:=Bj (Mt s) h
theorem Sh.sm (h:Sh t H v d)(s:Sm t H H'):Sh t H' v d:=Bj (Q4 s) h
theorem Sh.shows (h:Sh t H v d):AW H v d:=Bj (Vo t H) h
theorem Cw.same (h:Cw t H v d)(s:AD H H'):Cw t H' v d:=cU (Mt s) h
def Br (t:Addr)(H:Hp):Prop:=∃o,H t=some o
theorem Br.ne (h:Br t H)(hp:H p=none):p≠t:=by obtain⟨o,e⟩:=h;exact (zt e hp).symm
theorem Br.same (h:Br t H)(s:AD H H'):Br t H':=by obtain⟨o,e⟩:=h;exact⟨o,s _ _ e⟩
theorem Gq (h:Br t H)(a:Cw t H vs ds)(hp:H p=none):Sh t (upd H p (.tup vs)) (.ref p) (.tuple ds):=
 .tup (Fh (h.ne hp) zK) (Cw.same a (zH hp))
theorem Rr (h:Br t H)(a:Cw t H vs ds)(hp:H p=none):Sh t (upd H p (.lst vs)) (.ref p) (.list ds):=
 .lst (Fh (h.ne hp) zK) (Cw.same a (zH hp))
def tD (t:Addr)(pre:St->Hp->Prop)(d:St->PyData):TE:=fun σ H Q=>pre σ H/\∀v H',AD H H'->Sh t H' v (d σ)->Q v H'
def Ja (t:Addr)(pre:St->Hp->Prop)(ds:St->List PyData):TA:=fun σ H Q=>pre σ H/\∀vs H',AD H H'->Cw t H' vs (ds σ)->Q vs H'
structure EM (t:Addr)(pre:St->Hp->Prop):Prop where
 keep:∀ σ H H',pre σ H->AD H H'->pre σ H'
 has:∀ σ H,pre σ H->Br t H
theorem BD (h:PE X e te)(m:∀ σ H Q,te' σ H Q->te σ H Q):PE X e te':=fun pins s σ H Q I q=>h pins s σ H Q I (m σ H Q q)
theorem P9 (h:PA X e te)(m:∀ σ H Q,te' σ H Q->te σ H Q):PA X e te':=fun pos pins s σ H Q I q=>h pos pins s σ H Q I (m σ H Q q)
theorem Vz {j pos}:PE X (.Constant .none j pos) (tD t pre fun _=>.none):=BD An fun σ H Q q=>q.2 _ H (AD.refl _) .non
theorem Jy {b j pos}:PE X (.Constant (.bool b) j pos) (tD t pre fun _=>.bool b):=BD Dw fun σ H Q q=>q.2 _ H (AD.refl _) (.bl b)
theorem Lf {i j pos}:PE X (.Constant (.int i) j pos) (tD t pre fun _=>.int i):=BD zi fun σ H Q q=>q.2 _ H (AD.refl _) (.int i)
theorem aS {x j pos}:PE X (.Constant (.str x) j pos) (tD t pre fun _=>.str x):=BD DQ fun σ H Q q=>q.2 _ H (AD.refl _) (.str x)
theorem WT:PA X [] (Ja t pre fun _=>[]):=P9 zQ fun σ H Q q=>q.2 [] H (AD.refl _) .nil
theorem Wl (hP:EM t pre)(h:PE X e (tD t pre d))(hs:PA X es (Ja t pre ds))(gY:starEach (e::es) X.env=(false,eval e X.env)::starEach es X.env:=by rfl):PA X (e::es) (Ja t pre fun σ=>d σ::ds σ):=
 P9 (zE h hs gY) fun σ H Q q=>⟨q.1,fun v H1 s1 h1=>⟨hP.keep _ _ _ q.1 s1,fun vs H2 s2 h2=>q.2 (v::vs) H2 (s1.trans s2) (.cons (Sh.same h1 s2) h2)⟩⟩
theorem aR {x1 pos} (hP:EM t pre)(hl:∀ σ,(ds σ).length<=1000)(h:PA X es (Ja t pre ds)):PE X (.Tuple es x1 pos) (tD t pre fun σ=>.tuple (ds σ)):=
 BD (AZ h) fun σ H Q q=>⟨q.1,fun vs H1 s1 h1=>⟨by have:=Ct h1;have:=hl σ;have:sizeLine=16777216:=rfl;lia,fun p hp=>q.2 _ _ (s1.trans (zH hp)) (Gq ((hP.has _ _ q.1).same s1) h1 hp)⟩⟩
theorem XB {pos} (hP:EM t pre)(hl:∀ σ,(ds σ).length<=1000)(h:PA X es (Ja t pre ds)):PE X (.List es pos) (tD t pre fun σ=>.list (ds σ)):=
 BD (CJ h) fun σ H Q q=>⟨q.1,fun vs H1 s1 h1=>⟨by have:=Ct h1;have:=hl σ;have:sizeLine=16777216:=rfl;lia,fun p hp=>q.2 _ _ (s1.trans (zH hp)) (Rr ((hP.has _ _ q.1).same s1) h1 hp)⟩⟩
def Nl (t:Addr):R2:=fun x y H Q=>∃ds es,Br t H/\Sh t H x (.tuple ds)/\Sh t H y (.tuple es)/\ds.length+es.length<=1000000/\∀v H',AD H H'->Sh t H' v (.tuple (ds++es))->Q v H'
theorem Mv :∀{vs ws:List V}{ds es:List PyData},Aw H vs ds->Aw H ws es->Aw H (vs++ws) (ds++es):=by
 intro vs
 induction vs with
 | nil=>intro ws ds es h g;cases h;exact g
 | cons v vs ih=>
  intro ws ds es h g;cases h with
  | cons a b=>exact .cons a (ih b g)
theorem NI:Ay X (binaryOp .Add) (Nl t):=by
 intro pins s σ H x y v u Q I rx ry h;obtain⟨ds,es,hT,sx,sy,hz,q⟩:=h;cases sx with
 | tup ex ax=>
  cases sy with
  | tup ey ay=>
   have lx:=Ct ax;have ly:=Ct ay;refine U5 pins s σ H _ _ v u Q I rx ry ⟨_,_,_,_,rfl,rfl,AC.of (Bg ex).2,AC.of (Bg ey).2,by have:sizeLine=16777216:=rfl;lia,fun e=>?_,fun n e=>?_,fun n m p hp=>?_⟩
   . subst e;cases ax;exact q _ H (AD.refl _) (.tup ey ay)
   . subst e;cases ay;rw[BR] at q;exact q _ H (AD.refl _) (.tup ex ax)
   . exact q _ _ (zH hp) (Gq hT (Mv ax ay) hp)
mutual
inductive DW:Expr->PyData->Prop
 | non {j pos}:DW (.Constant .none j pos) .none
 | bl {b j pos}:DW (.Constant (.bool b) j pos) (.bool b)
 | int {i j pos}:DW (.Constant (.int i) j pos) (.int i)
 | str {x j pos}:DW (.Constant (.str x) j pos) (.str x)
 | tup {es ds x1 pos}:Mm es ds->ds.length<=1000->DW (.Tuple es x1 pos) (.tuple ds)
 | lst {es ds pos}:Mm es ds->ds.length<=1000->DW (.List es pos) (.list ds)
inductive Mm:List Expr->List PyData->Prop
 | nil:Mm [] []
 | cons {e es d ds}:DW e d->Mm es ds->Mm (e::es) (d::ds)
end
theorem DW.star (h:DW e d)(es)(env:Env):starEach (e::es) env=(false,eval e env)::starEach es env:=by cases h <;> rfl
theorem Ud (hP:EM t pre)(h:DW e d):PE X e (tD t pre fun _=>d):=
 DW.rec (motive_1:=fun e d _=>PE X e (tD t pre fun _=>d)) (motive_2:=fun es ds _=>PA X es (Ja t pre fun _=>ds))
  Vz Jy Lf aS (fun _ hl ih=>aR hP (fun _=>hl) ih) (fun _ hl ih=>XB hP (fun _=>hl) ih) WT (fun hd _ i1 i2=>Wl hP i1 i2 (hd.star _ _)) h
inductive MR (X:Cx)(t:Addr)(pre:St->Hp->Prop):List Expr->List (St->PyData)->Prop
 | nil:MR X t pre [] []
 | cons {e es d ds}:PE X e (tD t pre d)->starEach (e::es) X.env=(false,eval e X.env)::starEach es X.env->MR X t pre es ds->MR X t pre (e::es) (d::ds)
theorem Ph (hP:EM t pre)(h:MR X t pre es ds):PA X es (Ja t pre fun σ=>ds.map fun d=>d σ):=by
 induction h with
 | nil=>exact WT
 | cons a b _ ih=>exact Wl hP a ih b
theorem Kl (hP:EM t pre)(hl:ds.length<=1000)(h:MR X t pre es ds):PE X (.List es pos) (tD t pre fun σ=>.list (ds.map fun d=>d σ)):=
 XB hP (fun σ=>by rw[zD];exact hl) (Ph hP h)
inductive IB (k l:Nat):PyData->Prop
 | non:IB k l .none
 | bl (b:Bool):IB k l (.bool b)
 | int (i:Int)(h:i.natAbs<=k):IB k l (.int i)
 | str (x:Str):IB k l (.str x)
 | tup (ds:List PyData)(hl:ds.length<=l)(h:∀d∈ds,IB k l d):IB k l (.tuple ds)
 | lst (ds:List PyData)(hl:ds.length<=l)(h:∀d∈ds,IB k l d):IB k l (.list ds)
theorem IB.mono (h:IB k l d)(hk:k<=k')(hl:l<=l'):IB k' l' d:=by
 induction h with
 | non=>exact .non
 | bl b=>exact .bl b
 | int i h=>exact .int i (zp h hk)
 | str x=>exact .str x
 | tup ds h2 _ ih=>exact .tup ds (zp h2 hl) ih
 | lst ds h2 _ ih=>exact .lst ds (zp h2 hl) ih
theorem IB.elem (h:IB k l (.tuple ds)):∀d∈ds,IB k l d:=by cases h;assumption
theorem IB.len (h:IB k l (.tuple ds)):ds.length<=l:=by cases h;assumption
noncomputable def BA (xs:List PyData)(lo hi:Option Int):List PyData:=(xs.drop (HT.sIx xs.length 0 lo)).take (HT.sIx xs.length xs.length hi-HT.sIx xs.length 0 lo)
theorem Qz :∀(n:Nat){vs:List V}{ds:List PyData},Aw H vs ds->Aw H (vs.drop n) (ds.drop n)
 | 0,_,_,h=>h
 | n+1,vs,ds,h=>by
  cases h with
  | nil=>exact .nil
  | cons a b=>exact Qz n b
theorem Rv :∀(n:Nat){vs:List V}{ds:List PyData},Aw H vs ds->Aw H (vs.take n) (ds.take n)
 | 0,_,_,h=>.nil
 | n+1,vs,ds,h=>by
  cases h with
  | nil=>exact .nil
  | cons a b=>exact .cons a (Rv n b)
theorem Ww (h:Aw H vs ds):Aw H vs.reverse ds.reverse:=by
 induction vs generalizing ds with
 | nil=>cases h;exact .nil
 | cons v vs ih=>
  cases h with
  | cons a b=>rw[List.reverse_cons,List.reverse_cons];exact Mv (ih b) (.cons a .nil)
theorem QW (h:Aw H vs ds):Aw H (Bq vs lo hi) (BA ds lo hi):=by unfold Bq BA;rw[Ct h];exact Rv _ (Qz _ h)
theorem bU (h:HT.sIx ds.length 0 lo=0/\HT.sIx ds.length ds.length hi=ds.length):BA ds lo hi=ds:=by unfold BA;rw[h.1,h.2,HF,Nat.sub_zero,zW (zJ _)]
theorem Mb (h:d∈BA ds lo hi):d∈ds:=List.mem_of_mem_drop (MK h)
theorem SL (ds)(lo hi):PyData.weightAll (BA ds lo hi)<=PyData.weightAll ds:=zp (Zx _ _) (cF _ _)
theorem K2 (ds):ds.length<=PyData.weightAll ds:=PySem.PyData.length_le_weightAll ds
def TN (t:Addr):V->Option Int->Option Int->Hp->VK->Prop:=fun x lo hi H Q=>∃ds,Br t H/\Sh t H x (.tuple ds)/\∀v H',AD H H'->Sh t H' v (.tuple (BA ds lo hi))->Q v H'
theorem Mg:MN X (TN t):=by
 intro pins s σ H x v vl vu lo hi sl Q I rx hs pl pu h;obtain⟨ds,hT,sx,q⟩:=h;cases sx with
 | tup ex ax=>
  have lx:=Ct ax;refine Re pins s σ H _ v vl vu lo hi sl Q I rx hs pl pu ⟨_,_,rfl,AC.of (Bg ex).2,fun c=>?_,fun _ p hp=>?_⟩
  . rw[lx] at c;refine q _ H (AD.refl _) ?_;rw[bU c];exact .tup ex ax
  . exact q _ _ (zH hp) (Gq hT (QW ax) hp)
def Xo:Nat->Sp
 | 0=>fun _ _ _ _=>False
 | m+1=>fun vs H Q _=>∃(t:Addr)(N:Nat)(v:V)(d:PyData)(k l n p:Nat),vs=[.ref t,v]/\AY H t N/\N+3*(m+1)<900000/\Sh t H v d/\IB k l d/\Fn n p d/\p<=m/\k<=10000000000000000000000000000000/\n<=140000 /\
  ∀(v':V)(d':PyData)(H':Hp),Sh t H' v' d'->IB (k+100) (l+1) d'->Fn (2*n+1000) (p+1) d'->AY H' t (N+3*(m+1))->Sm t H H'->Q v' H'
theorem Us (h:Fn n p (.tuple ds)):1<=p:=by
 have:=h.dp;simp only[PyData.depth] at this
 lia
theorem XA (h:x.length<=60)(ok:PyData.strOk x=true):Fn 100 0 (.str x):=by
 refine⟨?_,zJ _,?_,rfl,rfl⟩
 . simp only[PyData.weight];have:x.cps.size=x.length:=rfl
   lia
 . simp only[PyData.canLay0];exact ok
theorem Zh (s:String):PyData.strOk (Str.ofString s)=true:=by
 rw[Str.ofString_eq_toList];unfold PyData.strOk;rw[Array.all_eq_true'];intro x hx;have dZ:x∈s.toList.map Char.toNat:=by simpa using hx
 obtain⟨c,_,rfl⟩:=Be.mp dZ;refine zP ?_;have:=c.valid;show c.val.toNat<_;rcases this with h | h
 . have:c.val.toNat<0xd800:=h
   lia
 . exact h.2
noncomputable def C5 (d:PyData):List PyData:=match d with
 | .tuple ds=>ds
 | _=>[]
noncomputable def K9 (σ:St):Int:=match σ[2]? with
 | some (some (V.int a))=>a
 | _=>0
noncomputable def MU (σ:St):Int:=match σ[1]? with
 | some (some (V.int a))=>a
 | _=>0
def G1 (t:Addr)(v:V)(d:PyData)(σ:St)(H:Hp):Prop:=Br t H/\σ[1]?=some (some v)/\Sh t H v (.tuple (C5 d))/\σ[2]?=some (some (.int (K9 σ)))/\2*(C5 d).length+2<=1000000
def Tn (t:Addr)(σ:St)(H:Hp):Prop:=Br t H/\σ[1]?=some (some (.int (MU σ)))/\(MU σ).natAbs<2*10000000000000000000000000000000
def So (t:Addr)(_:St)(H:Hp):Prop:=Br t H
theorem Tw :EM t (G1 t v d):=⟨fun σ H H' h s=>⟨h.1.same s,h.2.1,h.2.2.1.same s,h.2.2.2⟩,fun σ H h=>h.1⟩
theorem Td :EM t (Tn t):=⟨fun σ H H' h s=>⟨h.1.same s,h.2⟩,fun σ H h=>h.1⟩
theorem Tv :EM t (So t):=⟨fun σ H H' h s=>Br.same h s,fun σ H h=>h⟩
theorem Lw (ds)(lo hi):(BA ds lo hi).length<=ds.length:=by
 unfold BA;rw[zd,Fd]
 lia
theorem b1 (h:PE X e te)(m:∀ σ H Q,(∃a xs,σ[1]?=some (some (.ref a))/\AC X.K H a xs/\∀l,H l=none->Q (.ref l) (upd H l (.lst xs)))->te σ H Q):PE X e (tD t (G1 t v d) fun _=>.list (C5 d)):=BD h fun σ H Q q=>by
 obtain⟨⟨hT,h1,S,_⟩,q⟩:=q;cases S with
 | tup ex ax=>exact m σ H Q ⟨_,_,h1,AC.of (Bg ex).2,fun l hl=>q _ _ (zH hl) (Rr hT ax hl)⟩
section
open PySem.Spec PyProof.Rows
inductive Hl (xs:List V)(H:Hp)(Q:VK):Prop
 | mk:∀i:Int,(xs=[.int i])->(i.natAbs<10 ^ 40)->(Q (.str (Str.ofString (toString i))) H)->Hl xs H Q
theorem Z1:B3 X (.type "str") Hl:=by
 intro pins s σ H xs us Q I r h;obtain⟨i,rfl,hi,q⟩:=h;obtain⟨u,rfl,rx⟩:=Cb r;obtain⟨t,rfl⟩:=rx;have hl:i.natAbs.log2<134:=by
  by_cases h0:i.natAbs=0
  . rw[h0];decide
  . exact (Nat.log2_lt h0).mpr (by lia)
 exact PySem.P.str_of_int (by lia) ⟨.str _,H,I.tok _,⟨_,rfl⟩,q⟩
end
structure WP (p:Prop):Prop where
 out:p
theorem D8 (a:WP (PS X st t))(b:WP (BU X rest u)):WP (BU X (st::rest) (NT t u)):=a.rec fun a=>b.rec fun b=>.mk (za a b)
theorem Ti (a:WP (PS X st t)):WP (BU X [st] t):=a.rec fun a=>.mk (ze a)
theorem Gu (hN:X.N.Nodup)(hi:X.N[i]?=some x)(hx:L2.Loc X.env.scope x)(he:WP (PE X e te))(hs:swapsWith e (some (.Name x pos')) pos.line X.env=pure false:=by rfl)(hf:X.fn x=true\/X.env.scope.names.lookup x=some .local:=by first | exact .inl rfl | exact .inr rfl | assumption):
 WP (PS X (.Assign [.Name x pos'] e pos) (Di te (HE i))):=he.rec fun he=>.mk (HN hN hi hx he hs hf)
theorem Xk (hc:WP (PT X c tc))(ha:WP (BU X a t))(hb:WP (BU X b u)):WP (PS X (.If c a b pos) (Ov tc t u)):=hc.rec fun hc=>ha.rec fun ha=>hb.rec fun hb=>.mk (Aq hc ha hb)
theorem S9 (he:WP (PE X e te)):WP (PS X (.Return (some e) pos) (Nr te)):=he.rec fun he=>.mk (AN he)
theorem dF (hr:Hc X r)(ha:WP (PE X a ta))(hb:WP (PE X b tb))(hp:RP b):WP (PE X (.Subscript a b pos) (LM r ta tb)):=ha.rec fun ha=>hb.rec fun hb=>.mk (Hd hr ha hb hp)
theorem dB (hr:Ay X (binaryOp op) r)(ha:WP (PE X a ta))(hb:WP (PE X b tb)):WP (PE X (.BinOp a op b pos) (LM r ta tb)):=ha.rec fun ha=>hb.rec fun hb=>.mk (AV hr ha hb)
theorem Tz (hp:PassesOwn (model X.prog X.w) X.A X.env X.xe)(hc:X.calm=true)(hi:WP (PI X tg iter wi))(hg:PG X tg g)(hb:WP (BU X body tb))
 (hs:∀x,foldedSetIterable iter X.env x=pure x:=by intro _;rfl):WP (PS X (.For tg iter body [] pos) (LZ wi g tb)):=hi.rec fun hi=>hb.rec fun hb=>.mk (US hp hc hi hg hb hs)
theorem Xq (hP:EM t pre)(hl:ds.length<=1000)(h:MR X t pre es ds):WP (PE X (.List es pos) (tD t pre fun σ=>.list (ds.map fun d=>d σ))):=.mk (Kl hP hl h)
theorem Sl (hP:EM t pre)(h:DW e d):WP (PE X e (tD t pre fun _=>d)):=.mk (Ud hP h)
theorem Xi {fd:FuncData}(F:Cm K x qual st f fd)(S:AX N ps (defScope st))(len:∀vs H Q E,sp vs H Q E->vs.length=ps.length)
 (eL:∀dy A outer s H vs Q E,A0 k (A.deeper (PyProof.Rows.envOfC qual (defScope st) s.heap.objs.size f dy))->sp vs H Q E ->
  ∃t,WP (BU (Cv AU P w K mg base N qual (defScope st) f dy A outer s H E).nox (defBody st) t)/\t { nx:=fun _ H'=>Q .non H',rt:=Q } (start N vs) H):AL P w K mg base AU (k+1) f fd ps sp:=
 F.ok S len fun dy A outer s H vs Q E hr h=>by obtain⟨t,⟨hp⟩,q⟩:=eL dy A outer s H vs Q E hr h;exact⟨t,hp,q⟩
theorem b2 (h:PE X e te)(m:∀ σ H Q,G1 t v d σ H->(∀v' H',AD H H'->Sh t H' v' (.tuple (BA (C5 d) none (some (K9 σ))++BA (C5 d) (some (K9 σ+1)) none))->Q v' H')->te σ H Q):
 PE X e (tD t (G1 t v d) fun σ=>.tuple (BA (C5 d) none (some (K9 σ))++BA (C5 d) (some (K9 σ+1)) none)):=BD h fun σ H Q q=>m σ H Q q.1 q.2
theorem SZ (d):PyData.weightAll [d]=d.weight+1:=by simp[PyData.weightAll]
theorem X2 (h:Fn n p d):Fn d.weight p d:=⟨zJ _,h.dp,h.cl,h.sh,h.sw⟩
theorem P2 (h0:0<=a)(h1:a<=ds.length):BA ds none (some a)=ds.take a.toNat/\BA ds (some (a+1)) none=ds.drop (a.toNat+1):=by
 obtain⟨k,rfl⟩:∃k:Nat,a=k:=⟨a.toNat,by lia⟩;constructor
 . unfold BA;rw[HT.sIx_none,HF,Nat.sub_zero,HT.sIx_nat,show min k ds.length=k by lia];rfl
 . unfold BA;rw[HT.sIx_none,show ((k:Int)+1)=((k+1:Nat):Int) by lia,HT.sIx_nat];show (ds.drop (min (k+1) ds.length)).take (ds.length-min (k+1) ds.length)=ds.drop (k+1);by_cases c:k+1<=ds.length
   . rw[show min (k+1) ds.length=k+1 by lia,zW (by rw[Fd];exact zJ _)]
   . rw[show min (k+1) ds.length=ds.length by lia,Eg,List.take_zero,List.drop_of_length_le (by lia)]
theorem Fv (h:∀b,b≠t->H' b=H b):Sm t H H':=fun b o n e=>by rw[h b n];exact e
theorem pick {i:Int}(S:Sh t H v (.list ds))(T:AY H t N)(hN:N<1000000)(hi:i=ds.length)(h0:0<i)(h1:i<1000000)
 (k:∀x d H',d∈ds->Sh t H' x d->AY H' t (N+1)->Sm t H H'->Q x H'):ND [.ref t,.int i] H (fun y H'=>Jd K v y H' Q) E:=by
 cases S with
 | lst ex ax=>
  refine⟨t,N,i,rfl,T,hN,h0,h1,fun r H1 r0 r1 T1 e1=>?_⟩;have s1:Sm t H H1:=Fv e1;obtain⟨j,rfl⟩:∃j:Nat,r=j:=⟨r.toNat,by lia⟩;have hj:j<ds.length:=by lia
  obtain⟨x,hx,sx⟩:=Iy ax (zB hj);exact⟨_,_,_,x,rfl,rfl,AE.of (s1 _ _ (Bg ex).1 (Bg ex).2),DS hx,k x _ H1 (Cq hj) (Sh.sm sx s1) T1 s1⟩
theorem Fz (h1:Nat.ble d.weight 1000=true:=by decide +kernel)(h2:Nat.ble d.depth 1=true:=by decide +kernel)(h3:d.canLay0=true:=by decide +kernel)(h4:d.intsShort 50=true:=by decide +kernel)(h5:d.showable=true:=by decide +kernel):Fn (2*n+1000) (p+1) d:=
 ⟨by have:=Fg h1;lia,by have:=Fg h2;lia,h3,h4,h5⟩
theorem OV (h:d∈[PyData.none,.bool true,.bool false,.int 0,.int 1,.str (Str.ofString "a"),.tuple [],.list [],.tuple [.int 0]]):IB (k+100) (l+1) d/\Fn (2*n+1000) (p+1) d:=by
 simp only[zT,F0,or_false] at h;rcases h with rfl | rfl | rfl | rfl | rfl | rfl | rfl | rfl | rfl
 . exact⟨.non,Fz⟩
 . exact⟨.bl _,Fz⟩
 . exact⟨.bl _,Fz⟩
 . exact⟨.int _ (by show (0:Int).natAbs<=_;simp),Fz⟩
 . exact⟨.int _ (by show 1<=_;lia),Fz⟩
 . exact⟨.str _,Fz⟩
 . exact⟨.tup _ (zg _) (fun d hd=>by simp at hd),Fz⟩
 . exact⟨.lst _ (zg _) (fun d hd=>by simp at hd),Fz⟩
 . refine⟨.tup _ (by show 1<=l+1;lia) (fun d hd=>?_),Fz⟩;simp at hd;subst hd;exact .int _ (by simp)
theorem Nq (hi:i.natAbs<=k)(hk:k<=10000000000000000000000000000000)(h:d∈[PyData.int (i+1),.int (i-1),.bool (decide (i=1)),.none,.int 0,.int 24,.int 25,.int 99,.int 100,.str (Str.ofString (toString i))]):IB (k+100) (l+1) d/\Fn (2*n+1000) (p+1) d:=by
 have fi:∀j:Int,j.natAbs<=k+100->IB (k+100) (l+1) (.int j)/\Fn (2*n+1000) (p+1) (.int j):=fun j hj=>⟨.int _ hj,(GM (by lia)).mono (by lia) (by lia)⟩;simp only[zT,F0,or_false] at h;rcases h with rfl | rfl | rfl | rfl | rfl | rfl | rfl | rfl | rfl | rfl
 . exact fi _ (by lia)
 . exact fi _ (by lia)
 . exact⟨.bl _,(Rx _).mono (by lia) (by lia)⟩
 . exact⟨.non,Fz⟩
 . exact fi _ (by lia)
 . exact fi _ (by lia)
 . exact fi _ (by lia)
 . exact fi _ (by lia)
 . exact fi _ (by lia)
 . exact⟨.str _,(XA (zp (Uk (by lia)) (by decide)) (Zh _)).mono (by lia) (by lia)⟩
theorem XS (ds):(BA ds none (some 1)).length<=1:=by
 have:=(P2 (ds:=ds) (a:=1));unfold BA;rw[HT.sIx_none,HF,Nat.sub_zero,show (1:Int)=((1:Nat):Int) from rfl,HT.sIx_nat,zd]
 lia
theorem OU (ha:0<=a)(ha2:a<=ds.length)(hb:IB k l (.tuple ds))(hf:Fn n p (.tuple ds))
 (h:d∈[PyData.list ds,.tuple (BA ds none (some a)++BA ds (some (a+1)) none),.tuple (ds++BA ds none (some 1)),.tuple ds.reverse,.tuple (ds++[.int 0])]):IB (k+100) (l+1) d/\Fn (2*n+1000) (p+1) d:=by
 have hp:=Us hf;obtain⟨p',rfl⟩:∃p',p=p'+1:=⟨p-1,by lia⟩;have be:=hb.elem;have b0:∀d∈ds,IB (k+100) (l+1) d:=fun d hd=>(be d hd).mono (by lia) (by lia);have f0:∀d∈ds,∃n,Fn n p' d:=fun d hd=>⟨n,QD hf hd⟩;have hw:PyData.weightAll ds<=n:=by have:=hf.wt;simpa only [PyData.weight] using this
 have hln:=hb.len;have w1:=SL ds none (some a);have w2:=SL ds (some (a+1)) none;have w3:=SL ds none (some 1);simp only[zT,F0,or_false] at h;rcases h with rfl | rfl | rfl | rfl | rfl
 . exact⟨.lst _ (by lia) b0,(Js f0 hw).mono (by lia) (by lia)⟩
 . have mm:∀d∈BA ds none (some a)++BA ds (some (a+1)) none,d∈ds:=fun d hd=>(zj.mp hd).elim Mb Mb;exact⟨.tup _ (by rw[zM];rw[(P2 ha ha2).1,(P2 ha ha2).2,zd,Fd];lia) fun d hd=>b0 d (mm d hd),(Lg (w:=2*n) (fun d hd=>f0 d (mm d hd)) (by rw[Eb];lia)).mono (by lia) (by lia)⟩
 . have mm:∀d∈ds++BA ds none (some 1),d∈ds:=fun d hd=>(zj.mp hd).elim id Mb;exact⟨.tup _ (by rw[zM];have:=XS ds;lia) fun d hd=>b0 d (mm d hd),(Lg (w:=2*n) (fun d hd=>f0 d (mm d hd)) (by rw[Eb];lia)).mono (by lia) (by lia)⟩
 . have mm:∀d∈ds.reverse,d∈ds:=fun d hd=>List.mem_reverse.mp hd;exact⟨.tup _ (by rw[List.length_reverse];lia) fun d hd=>b0 d (mm d hd),(Lg (w:=n) (fun d hd=>f0 d (mm d hd)) (by rw[U2];lia)).mono (by lia) (by lia)⟩
 . have f1:=GM (i:=0) (by decide);have w5:=f1.wt;refine⟨.tup _ (by rw[zM];show _+1<=_;lia) fun d hd=>(zj.mp hd).elim (b0 d) (fun h=>?_),(Lg (w:=2*n+1000) (fun d hd=>(zj.mp hd).elim (f0 d) (fun h=>?_)) (by rw[Eb,SZ];lia)).mono (by lia) (by lia)⟩
   . simp at h;subst h;exact .int _ (by simp)
   . simp at h;subst h;exact⟨_,f1.mono (zJ _) (by lia)⟩
theorem aJ:∀{ds:List PyData}{j:Nat}(h:j<ds.length),PyData.weightAll ds=PyData.weightAll (ds.take j)+(ds[j].weight+1)+PyData.weightAll (ds.drop (j+1)):=by
 intro ds j h;have e:ds=ds.take j++([ds[j]]++ds.drop (j+1)):=by simp
 have:=congrArg PyData.weightAll e;rw[Eb,Eb,SZ] at this
 lia
theorem N4 (hj:j<ds.length)(hb:IB k l (.tuple ds))(hf:Fn n (p+1) (.tuple ds))(gb:IB (k+100) (l+1) d)(gf:Fn (2*ds[j].weight+1000) (p+1) d):
 IB (k+100) (l+1) (.tuple (BA ds none (some (j:Int))++[d]++BA ds (some ((j:Int)+1)) none))/\Fn (2*n+1000) (p+1+1) (.tuple (BA ds none (some (j:Int))++[d]++BA ds (some ((j:Int)+1)) none)):=by
 have b0:∀d∈ds,IB (k+100) (l+1) d:=fun d hd=>(hb.elem d hd).mono (by lia) (by lia);have f0:∀d∈ds,∃n,Fn n (p+1) d:=fun d hd=>⟨n,(QD hf hd).mono (zJ _) (by lia)⟩;have hw:PyData.weightAll ds<=n:=by have:=hf.wt;simpa only [PyData.weight] using this
 have hln:=hb.len;have sp:=aJ hj;have gw:=gf.wt;obtain⟨c1,c2⟩:=P2 (ds:=ds) (a:=j) (by lia) (by lia);rw[c1,c2,zv];have m1:∀x∈ds.take j,x∈ds:=fun x hx=>MK hx;have m2:∀x∈ds.drop (j+1),x∈ds:=fun x hx=>List.mem_of_mem_drop hx;refine⟨.tup _ (by rw[zM,zM,zd,Fd];show _+1+_<=_;lia) fun x hx=>?_,Lg (fun x hx=>?_) (by rw[Eb,Eb,SZ];lia)⟩
 . rcases zj.mp hx with hx | hx
   . rcases zj.mp hx with hx | hx
     . exact b0 x (m1 x hx)
     . cases zh.mp hx;exact gb
   . exact b0 x (m2 x hx)
 . rcases zj.mp hx with hx | hx
   . rcases zj.mp hx with hx | hx
     . exact f0 x (m1 x hx)
     . cases zh.mp hx;exact⟨_,gf⟩
   . exact f0 x (m2 x hx)
theorem Ll:AX ["_law_tape_here","_law_thing","_law_at","_law_some"] Ou (defScope NC):=Ad
theorem VF (F:Fu K "_law_bent" NC f dU) (bB:DA K dU Ou []) (mB:mg "_law_bent"=some (.ref f)) (FD:AH K mg "_law_draw" HY fD fdD IT)
 (dX:mg "isinstance"=none) (d8:mg "int"=none) (dh:mg "bool"=none) (dS:mg "tuple"=none) (eD:mg "list"=none) (mStr:mg "str"=none) (dY:mg "len"=none):∀m:Nat,AL P w K mg base AU (m+1) f dU Ou (Xo m)
 | 0=>F.ok Ll (fun vs H Q E h=>h.elim) (fun dy A outer s H vs Q E hr h=>h.elim)
 | m+1=>by
  have GB:=VF (P:=P) (w:=w) (base:=base) F bB mB FD dX d8 dh dS eD mStr dY m;have GD:AM P w base (m+1) FD ND:=(R6 FD.F dY).mono (by lia);refine Xi F Ll (fun vs H Q E h=>?_) (fun dy A outer s H vs Q E hr h=>?_)
  . obtain⟨t,N,v,d,k,wd,n,p,rfl,_⟩:=h;rfl
  . obtain⟨t,N,v,d,k,wd,n,p,rfl,TT,hN,S,ib,fn,hp,hk,hn,kk⟩:=h;have iS:=hr.units0;have hT:Br t H:=by obtain⟨_,_,_,_,a,_⟩:=id TT;exact⟨_,a⟩
    refine⟨_,D8 (.mk (Aq (PW.pt (HG (BL (Ar DL dX (zE (pv 1) (zE (C9 (T := "tuple") dS) zQ))))
     (HG (Ak (ZU iS) (pv 1) (AZ zQ) (AS _)) (Lx (Ak JI (AO GD hr FD (zE (pv 0) (zE zi zQ))) zi (AS _))))))
     (za (As (i:=2) Ll.nd (AO GD hr FD (zE (pv 0) (zE (Ar D6 dY (zE (pv 1) zQ)) zQ))))
     (ze (AN (AV (NI (t:=t)) (AV (NI (t:=t)) (Ef (Mg (t:=t)) (pv 1) Eo (EZ (pv 2))) (AZ (zE (Ly GB hr rfl mB F.kp bB .nil IY (zE (pv 0) (zE (AF Ac (pv 1) (pv 2)) zQ))) zQ)))
      (Ef (Mg (t:=t)) (pv 1) (EZ (AV CK (pv 2) zi)) Eo))))) Ao))
     (D8 (Xk (.mk (BL (Ar DL dX (zE (pv 1) (zE (C9 (T := "tuple") dS) zQ)))))
      (D8 (.mk (As (i:=2) Ll.nd (AO GD hr FD (zE (pv 0) (zE (AV CK (Ar D6 dY (zE (pv 1) zQ)) zi) zQ)))))
      (D8 (Gu (i:=3) Ll.nd rfl (Or.inl rfl) (Xq (Tw (t:=t) (v:=v) (d:=d)) (Fg rfl) (.cons (b1 (DH Rb eD (zE (pv 1) zQ)) (fun σ H Q ⟨a,xs,e1,e2,q⟩=>⟨_,e1,a,xs,rfl,.inr e2,q⟩)) rfl
       (.cons (b2 (AV (NI (t:=t)) (Ef (Mg (t:=t)) (pv 1) Eo (EZ (pv 2))) (Ef (Mg (t:=t)) (pv 1) (EZ (AV CK (pv 2) zi)) Eo)) (fun σ H Q pr q=>by obtain⟨hT,h1,S,h2,hl⟩:=pr;refine⟨_,h1,_,h2,_,rfl,_,hT,S,fun v1 H1 s1 c1=>?_⟩;refine⟨_,h1,_,h2,_,_,rfl,rfl,_,rfl,_,hT.same s1,S.same s1,fun v2 H2 s2 c2=>?_⟩;have:=Lw (C5 d) none (some (K9 σ));have:=Lw (C5 d) (some (K9 σ+1)) none;exact⟨_,_,(hT.same s1).same s2,c1.same s2,c2,by lia,fun v3 H3 s3 c3=>q v3 H3 (s1.trans (s2.trans s3)) c3⟩)) rfl
       (.cons (d:=fun _=>.tuple (C5 d++BA (C5 d) none (some 1))) (BD (AV (NI (t:=t)) (pv 1) (Ef (Mg (t:=t)) (pv 1) Eo (EZ zi))) (fun σ H Q q=>by obtain⟨⟨hT,h1,S,h2,hl⟩,q⟩:=q;refine⟨_,h1,_,h1,_,rfl,_,hT,S,fun v2 H2 s2 c2=>?_⟩;have:=Lw (C5 d) none (some 1);exact⟨_,_,hT.same s2,S.same s2,c2,by lia,fun v3 H3 s3 c3=>q v3 H3 (s2.trans s3) c3⟩)) rfl
       (.cons (d:=fun _=>.tuple (C5 d).reverse) (BD (Xe (ops:=fun a d=>[a,d]) (pv 1) (BD (Rc Qv zi) (fun σ H Q q=>⟨1,rfl,q⟩)) (fun _ _=>by with_unfolding_all rfl)) (fun σ H Q q=>by
        obtain⟨⟨hT,h1,S,h2,hl⟩,q⟩:=q;cases S with
        | tup ex ax=>exact⟨_,h1,_,_,rfl,AC.of (Bg ex).2,fun l hl=>q _ _ (zH hl) (Gq hT (Ww ax) hl)⟩)) rfl
       (.cons (d:=fun _=>.tuple (C5 d++[.int 0])) (BD (AV (NI (t:=t)) (pv 1) (AZ (zE zi zQ))) (fun σ H Q q=>by obtain⟨⟨hT,h1,S,h2,hl⟩,q⟩:=q;refine⟨_,h1,F7,fun l eO=>?_⟩;exact⟨_,_,hT.same (zH eO),S.same (zH eO),Gq hT (.cons (.int 0) .nil) eO,by show _+1<=_;lia,fun v3 H3 s3 c3=>q v3 H3 ((zH eO).trans s3) c3⟩)) rfl .nil)))))))
      (.mk (ze (AN (AF Ab (pv 3) (AO GD hr FD (zE (pv 0) (zE zi zQ))))))))) (.mk Ao))
     (D8 (Xk (.mk (PW.pt (HG (BL (Ar DL dX (zE (pv 1) (zE (C9 (T := "int") d8) zQ)))) (Lx (B7 (BL (Ar DL dX (zE (pv 1) (zE (C9 (T := "bool") dh) zQ)))))))))
      (D8 (Gu (i:=3) Ll.nd rfl (Or.inl rfl) (Xq (Td (t:=t)) (Fg rfl) (.cons (d:=fun σ=>.int (MU σ+1)) (BD (AV CK (pv 1) zi) (fun σ H Q q=>⟨_,q.1.2.1,_,_,rfl,rfl,q.2 _ H (AD.refl _) (.int _)⟩)) rfl
       (.cons (d:=fun σ=>.int (MU σ-1)) (BD (AV Fe (pv 1) zi) (fun σ H Q q=>⟨_,q.1.2.1,_,_,rfl,rfl,q.2 _ H (AD.refl _) (.int _)⟩)) rfl
       (.cons (d:=fun σ=>.bool (decide (MU σ=1))) (BD (BN Bh (pv 1) zi (AS _)) (fun σ H Q q=>⟨_,q.1.2.1,rfl,by rw[VO];exact q.2 _ H (AD.refl _) (.bl _)⟩)) rfl
       (.cons Vz rfl (.cons Lf rfl (.cons Lf rfl (.cons Lf rfl (.cons Lf rfl (.cons Lf rfl
       (.cons (d:=fun σ=>.str (Str.ofString (toString (MU σ)))) (BD (DH Z1 mStr (zE (pv 1) zQ)) (fun σ H Q q=>⟨_,q.1.2.1,_,rfl,by have:=q.1.2.2;lia,q.2 _ H (AD.refl _) (.str _)⟩)) rfl .nil))))))))))))
      (.mk (ze (AN (AF Ab (pv 3) (AO GD hr FD (zE (pv 0) (zE zi zQ)))))))) (.mk Ao))
     (Ti (S9 (dF Ab (Sl (Tv (t:=t)) (.lst (.cons .non (.cons .bl (.cons .bl (.cons .int (.cons .int (.cons .str (.cons (.tup .nil (zg _)) (.cons (.lst .nil (zg _)) (.cons (.tup (.cons .int .nil) (Fg rfl)) .nil))))))))) (Fg rfl)))
      (.mk (AO GD hr FD (zE (pv 0) (zE zi zQ)))) (fun _ _=>rfl)))))),?_⟩
    have Sv:=S.shows;obtain⟨ty,bi,bb,bt,hty,e1,e2,e3,e4,e5,nD,tD'⟩:=EY (K:=K) Sv;by_cases c1:HP d=true
    . have iX:bt=true:=by rw[e5];exact c1
      cases S with
      | non=>cases c1
      | bl=>cases c1
      | int=>cases c1
      | str=>cases c1
      | lst=>cases c1
      | tup ex ax=>
       rename_i a xs ds
       have lx:=Ct ax;have lw:ds.length<=n:=zp (K2 ds) (by have:=fn.wt;simpa only [PyData.weight] using this);refine⟨_,rfl,_,_,ty,bt,rfl,hty,e3,bt,rfl,Ag iX ?_⟩;refine⟨_,rfl,E5,fun l hl=>?_⟩;have s0:AD H (upd H l (.tup [])):=zH hl;have S0:=(show Sh t H (.ref a) (.tuple ds) from .tup ex ax).same s0;have T0:=TT.keep s0;have hT0:=hT.same s0;have e0:AC (Cv AU P w K mg base [Str.ofString "_law_tape_here",Str.ofString "_law_thing",Str.ofString "_law_at",Str.ofString "_law_some"] (Str.ofString "_law_bent") (defScope NC) f dy A outer s H E).nox.K (upd H l (.tup [])) l []:=AC.of zK;generalize upd H l (.tup [])=H0 at s0 S0 T0 hT0 e0 ⊢;refine⟨a,l,xs,rfl,rfl,AC.of (s0 _ _ (Bg ex).2),e0,?_⟩;refine⟨_,rfl,?_⟩;by_cases c3:(!xs.isEmpty)=true
       . refine Ag c3 ?_;refine⟨_,rfl,t,N,4,rfl,T0,by lia,by decide,by decide,fun r H1 r0 r1 T1 e1'=>?_⟩;have s1:Sm t H H1:=(Sm.of s0).trans (Fv e1');have S1:Sh t H1 (.ref a) (.tuple ds):=S0.sm (Fv e1');refine⟨_,_,rfl,rfl,_,rfl,?_⟩;by_cases c4:(decide ((0:Int)<r))=true
         . refine Ag c4 ?_;have gK:0<ds.length:=by
            rw[<-lx];cases xs with
            | nil=>cases c3
            | cons x xs=>exact Nat.succ_pos _
           have hd1:=Us fn;obtain⟨p',rfl⟩:∃p',p=p'+1:=⟨p-1,by lia⟩;refine⟨_,rfl,_,rfl,a,xs,rfl,.inr (AC.of (s1 _ _ (Bg ex).1 (Bg ex).2)),?_⟩;refine⟨t,N+1,_,rfl,T1,by lia,by lia,by lia,fun at' H2 r20 r21 T2 e2'=>?_⟩;obtain⟨j,rfl⟩:∃j:Nat,at'=j:=⟨at'.toNat,by lia⟩;have hj:j<ds.length:=by lia
           have s2:Sm t H H2:=s1.trans (Fv e2');have S2:Sh t H2 (.ref a) (.tuple ds):=S1.sm (Fv e2');have hT2:Br t H2:=by obtain⟨_,_,_,_,q,_⟩:=id T2;exact⟨_,q⟩
           refine⟨_,rfl,_,rfl,_,rfl,_,hT2,S2,fun v3 H3 s3 S3=>?_⟩;obtain⟨x,hx,sx⟩:=Iy ax (zB hj);have iD:Sm t H H3:=s2.trans (Sm.of s3);refine⟨_,rfl,_,rfl,_,rfl,a,xs,_,x,rfl,rfl,AC.of (iD _ _ (Bg ex).1 (Bg ex).2),DS hx,?_⟩;cases m with
           | zero=>lia
           | succ m=>
            refine⟨t,N+2,x,ds[j],k,wd,ds[j].weight,p',rfl,T2.keep s3,by lia,Sh.sm sx iD,ib.elem _ (Cq hj),X2 (QD fn (Cq hj)),by lia,hk,by have:=(QD fn (Cq hj)).wt;lia,fun v4 d4 H4 S4 g1 g2 T4 s4=>?_⟩;have hT4:Br t H4:=by obtain⟨_,_,_,_,q,_⟩:=id T4;exact⟨_,q⟩
            refine⟨F7,fun l5 hl5=>?_⟩;have s5:=zH (o:=.tup [v4]) hl5;have S5:=Gq (t:=t) hT4 (.cons S4 .nil) hl5;have l1:=Lw ds none (some (j:Int));have l2:=Lw ds (some ((j:Int)+1)) none;refine⟨_,_,hT4.same s5,(S3.sm s4).same s5,S5,by show _+1<=_;lia,fun v6 H6 s6 S6=>?_⟩;have s36:Sm t H3 H6:=s4.trans ((Sm.of s5).trans (Sm.of s6));have hT6:=(hT4.same s5).same s6;refine⟨_,rfl,_,rfl,_,_,rfl,rfl,_,rfl,_,hT6,(S2.same s3).sm s36,fun v7 H7 s7 S7=>?_⟩;refine⟨_,_,hT6.same s7,S6.same s7,S7,by rw[zM];show _+1+_<=_;lia,fun v8 H8 s8 S8=>?_⟩;obtain⟨q1,q2⟩:=N4 hj ib fn g1 g2;exact kk v8 _ H8 S8 q1 q2 ((T4.keep (s5.trans (s6.trans (s7.trans s8)))).mono (by lia)) (iD.trans (s36.trans (Sm.of (s7.trans s8))))
         . have c4':(decide ((0:Int)<r))=false:=by simpa using c4
           rw[c4'];obtain⟨N1,hN1,T1⟩:∃N1,N1<=N+1/\AY H1 t N1:=⟨_,zJ _,T1⟩;obtain⟨ty',bi',bb',bt',hty',_,_,e3',_,e5',_,_⟩:=EY (K:=K) S1.shows;refine Am rfl ?_;refine⟨_,rfl,_,_,ty',bt',rfl,hty',e3',bt',rfl,Ag e5' ?_⟩;refine⟨_,rfl,_,rfl,a,xs,rfl,.inr (AC.of (s1 _ _ (Bg ex).1 (Bg ex).2)),_,_,rfl,rfl,t,N1,_,rfl,T1,by lia,by lia,by lia,fun r2 H2 r20 r21 T2 e2=>?_⟩;have S2:Sh t H2 (.ref a) (.tuple ds):=S1.sm (Fv e2);have hT2:Br t H2:=by obtain⟨_,_,_,_,q,_⟩:=id T2;exact⟨_,q⟩
           refine⟨⟨hT2,rfl,S2,rfl,by show 2*ds.length+2<=1000000;lia⟩,fun v3 H3 s3 S3=>?_⟩;refine⟨_,rfl,_,rfl,pick (E:=E0) S3 (T2.keep s3) (by lia) rfl (by decide) (by decide) fun x d' H4 hd S4 T4 s4=>?_⟩;obtain⟨g1,g2⟩:=OU r20 (by lia) ib fn hd;exact kk x d' H4 S4 g1 g2 (T4.mono (by lia)) (s1.trans ((Fv e2).trans ((Sm.of s3).trans s4)))
       . refine Am (by simpa using c3) ?_;have s1:Sm t H H0:=Sm.of s0;obtain⟨H1,rfl⟩:∃H1,H1=H0:=⟨_,rfl⟩;have S1:=S0;obtain⟨N1,hN1,T1⟩:∃N1,N1<=N+1/\AY H1 t N1:=⟨_,Bc _,T0⟩;obtain⟨ty',bi',bb',bt',hty',_,_,e3',_,e5',_,_⟩:=EY (K:=K) S1.shows;refine Am rfl ?_;refine⟨_,rfl,_,_,ty',bt',rfl,hty',e3',bt',rfl,Ag e5' ?_⟩;refine⟨_,rfl,_,rfl,a,xs,rfl,.inr (AC.of (s1 _ _ (Bg ex).1 (Bg ex).2)),_,_,rfl,rfl,t,N1,_,rfl,T1,by lia,by lia,by lia,fun r2 H2 r20 r21 T2 e2=>?_⟩;have S2:Sh t H2 (.ref a) (.tuple ds):=S1.sm (Fv e2);have hT2:Br t H2:=by obtain⟨_,_,_,_,q,_⟩:=id T2;exact⟨_,q⟩
         refine⟨⟨hT2,rfl,S2,rfl,by show 2*ds.length+2<=1000000;lia⟩,fun v3 H3 s3 S3=>?_⟩;refine⟨_,rfl,_,rfl,pick (E:=E0) S3 (T2.keep s3) (by lia) rfl (by decide) (by decide) fun x d' H4 hd S4 T4 s4=>?_⟩;obtain⟨g1,g2⟩:=OU r20 (by lia) ib fn hd;exact kk x d' H4 S4 g1 g2 (T4.mono (by lia)) (s1.trans ((Fv e2).trans ((Sm.of s3).trans s4)))
    have iX:bt=false:=by rw[e5];simpa using c1
    refine⟨_,rfl,_,_,ty,bt,rfl,hty,e3,bt,rfl,Am iX ?_⟩;refine Am rfl ?_;refine⟨_,rfl,_,_,ty,bt,rfl,hty,e3,bt,rfl,Am iX ?_⟩;refine⟨_,rfl,_,_,ty,bi,rfl,hty,e1,bi,rfl,?_⟩;by_cases c2:GV d=true
    . obtain⟨i,rfl,rfl⟩:=nD c2;rw[c2] at e4;have hi:i.natAbs<=k:=by cases ib;assumption
      refine Ag (by cases bi with | true=>rfl | false=>cases e4) ?_;refine⟨_,rfl,_,_,ty,bb,rfl,hty,e2,bb,rfl,Ag (by cases bi with | true=>exact e4 | false=>cases e4) ?_⟩;refine⟨⟨hT,rfl,by show i.natAbs<_;lia⟩,fun v1 H1 s1 S1=>?_⟩;refine⟨_,rfl,_,rfl,pick (E:=E0) S1 (TT.keep s1) (by lia) rfl (by decide) (by decide) fun x d' H2 hd S2 T2 s2=>?_⟩;obtain⟨g1,g2⟩:=Nq (n:=n) (p:=p) hi hk hd;exact kk x d' H2 S2 g1 g2 (T2.mono (by lia)) ((Sm.of s1).trans s2)
    have c2':(bi && !bb)=false:=by rw[e4];simpa using c2
    cases bi with
    | false=>refine Am rfl (Am rfl ?_);refine⟨hT,fun v1 H1 s1 S1=>⟨_,rfl,pick (E:=E0) S1 (TT.keep s1) (by lia) rfl (by decide) (by decide) fun x d' H2 hd S2 T2 s2=>?_⟩⟩;obtain⟨g1,g2⟩:=OV (k:=k) (n:=n) (p:=p) hd;exact kk x d' H2 S2 g1 g2 (T2.mono (by lia)) ((Sm.of s1).trans s2)
    | true=>refine Ag rfl ⟨_,rfl,_,_,ty,bb,rfl,hty,e2,bb,rfl,Am c2' ?_⟩;refine⟨hT,fun v1 H1 s1 S1=>⟨_,rfl,pick (E:=E0) S1 (TT.keep s1) (by lia) rfl (by decide) (by decide) fun x d' H2 hd S2 T2 s2=>?_⟩⟩;obtain⟨g1,g2⟩:=OV (k:=k) (n:=n) (p:=p) hd;exact kk x d' H2 S2 g1 g2 (T2.mono (by lia)) ((Sm.of s1).trans s2)
theorem P4 (h:B2 d a b=true):∃i,d=.int i/\a<=i/\i<=b:=by
 cases d with
 | int i=>have h':(decide (a<=i) && decide (i<=b))=true:=h;rw[zx,Gr,Gr] at h';exact⟨i,rfl,h'.1,h'.2⟩
 | _=>cases h
def Jn:Sp:=fun vs H Q _=>∃n v d,vs=[.int n,v]/\AW H v d/\Q (.bl (B2 d 0 (n-1))) H
noncomputable def My (d:PyData):Bool:=match d with
 | .none=>true
 | _=>false
theorem QV (s:AW H v d):decide (v=.non)=My d:=by
 cases s <;> first
  | rfl
  | exact zR (by intro z;cases z)
noncomputable def HZ (n l:Int)(u w:PyData):Bool:=if l=0 then My u && My w else B2 u 0 (n-1) && B2 w 0 (n-1)
noncomputable def Al (n:Int)(d:PyData):Bool:=match d with
 | .tuple [h,.int l,u,w]=>B2 h 0 (n-1) && (decide (0<=l) && HZ n l u w)
 | _=>false
noncomputable def BO (d:PyData):Int:=match d with
 | .tuple (.int h::_)=>h
 | _=>0
noncomputable def Bv (d:PyData):Int:=match d with
 | .tuple (_ :: .int l::_)=>l
 | _=>0
noncomputable def CU:List Int->Bool
 | a::b::r=>decide (a<b) && CU (b::r)
 | _=>true
noncomputable def Gm (ds:List PyData):Bool:=decide (((ds.map Bv).countP fun x=>x==0)=1)
noncomputable def BW (n:Int)(d:PyData):Bool:=match d with
 | .tuple ds=>decide ((ds.length:Int)<=n) && (ds.all (Al n) && (Gm ds && CU (ds.map BO)))
 | _=>false
noncomputable def Fq (n:Int)(d:PyData):Bool:=match d with
 | .tuple ds=>decide ((ds.length:Int)=n) && ds.all (BW n)
 | _=>false
theorem VE (h:Al n d=true):∃x l u w,d=.tuple [.int x,.int l,u,w]/\0<=x/\x<=n-1/\0<=l:=by
 unfold Al at h;split at h
 . rw[zx,zx] at h;obtain⟨i,rfl,a1,a2⟩:=P4 h.1;exact⟨i,_,_,_,rfl,a1,a2,of_decide_eq_true h.2.1⟩
 . cases h
theorem Ur:∀ms,CU ms=(List.range (ms.length-1)).all fun k=>decide (ms.getD k 0<ms.getD (k+1) 0)
 | []=>rfl
 | [_]=>rfl
 | a::b::r=>by show (decide (a<b) && CU (b::r))=_;rw[Ur (b::r)];show _=(List.range (r.length+1)).all _;rw[List.range_succ_eq_map,List.all_cons,List.all_map];rfl
theorem P8:∀ms,CU ms=true↔ms.Pairwise (· < ·)
 | []=>by simp[CU]
 | [_]=>by simp[CU]
 | a::b::r=>by
  have ih:=P8 (b::r);show (decide (a<b) && CU (b::r))=true↔_;rw[zx,ih,Gr,HH (a:=a)];constructor
  . rintro ⟨h1,h2⟩;refine⟨fun x hx=>?_,h2⟩;rcases zT.mp hx with rfl | hx
    . exact h1
    . have:=(HH.mp h2).1 x hx
      lia
  . rintro ⟨h1,h2⟩;exact⟨h1 b zS,h2⟩
def Ie:Sp:=fun vs H Q _=>∃p xs,vs=[.ref p]/\H p=some (.lst (xs.map V.int))/\xs.length<=1000/\∀H',AD H H'->Q (.bl (CU xs)) H'
def RL:Sp:=fun vs H Q _=>∃n v d,vs=[.int n,v]/\AW H v d/\Q (.bl (Al n d)) H
def Rf:Sp:=fun vs H Q _=>∃n v d,vs=[.int n,v]/\n<=1000/\AW H v d/\∀H',AD H H'->Q (.bl (BW n d)) H'
def SJ:Sp:=fun vs H Q _=>∃n v d,vs=[.int n,v]/\n<=1000/\AW H v d/\∀H',AD H H'->Q (.bl (Fq n d)) H'
theorem Fi :decide (V.int a=V.int b)=decide (a=b):=by
 by_cases h:a=b
 . rw[zP h,zP (congrArg V.int h)]
 . rw[zR h,zR fun z=>h (V.int.inj z)]
theorem Tq:AX Ba Ba (defScope O1):=Ad
theorem Oo (F:Fu K "is_place" O1 f dU) (FW:AH K mg "is_within" Nu fW fdW MW) (FN:AH K mg "is_number" JP fN fdN ["thing"]) (dX:mg "isinstance"=none) (d8:mg "int"=none) (dh:mg "bool"=none):
 AL P w K mg base AU 3 f dU Ba Jn:=by
 have GW':AM P w base 2 FW G4:=PN FW.F FN dX d8 dh;refine F.okD Tq fun _ A _ _ H vs Q E hr h=>?_;obtain⟨n,v,d,rfl,S,k⟩:=h;refine⟨_,ze (AN (AO GW' hr FW (zE (pv 1) (zE zi (zE (AV Fe (pv 0) zi) zQ))))),?_⟩;exact⟨_,rfl,_,rfl,_,_,rfl,rfl,v,d,0,n-1,rfl,S,k⟩
theorem Oh:AX ["things"] ["things"] (defScope E9):=Ad
theorem KL (F:Fu K "is_rising" E9 f dU) (dY:mg "len"=none) (dR:mg "range"=none) (fu:mg "all"=none):AL P w K mg base AU 1 f dU ["things"] Ie:=by
 refine F.okD Oh fun _ A _ _ H vs Q E hr h=>?_;obtain⟨p,xs,rfl,hp,hl,k⟩:=h;refine⟨_,ze (AN (Ar (RG rfl) fu (zE (B0 (own:=["k"]) (cn:=["things"]) (ci:=[0]) rfl (BK rfl rfl) ⟨rfl,rfl,rfl,trivial⟩ rfl
  (Wd rfl dR (zE zi (zE (Ar D6 dY (zE (pv 0) zQ)) zQ))) (fun _ _ _ _=>BJ) (fun _ _ _ _=>CD)
  (fun _ _ _ _=>BN Pw (AF QR (pv 1) (AV Fe (pv 0) zi)) (AF QR (pv 1) (pv 0)) (AS _))) zQ))),?_⟩
 refine⟨_,rfl,p,_,rfl,.inl (AE.of hp),1,_,rfl,⟨by decide,by decide,by rw[zD];lia,by rw[zD];lia⟩,[.ref p],rfl,fun D hD=>?_⟩;refine QG (lo:=1) (n:=(((xs.map V.int).length:Int)-1).toNat) (fun q ys H4=>q<=(((xs.map V.int).length:Int)-1).toNat/\ys=((List.range q).map fun k=>decide (xs.getD k 0<xs.getD (k+1) 0)).map V.bl/\H4=upd H D (.lst ys)) ⟨zg _,rfl,rfl⟩ (fun q ys H4 z=>?_) (fun q ys H4 hq z=>?_) (fun ys H4 z=>?_)
 . obtain⟨hq,rfl,_⟩:=z;rw[zD] at hq;rw[zD,zD,Bu];exact BS (by lia)
 . obtain⟨_,rfl,rfl⟩:=z;rw[zD] at hq;have iT:=zH (o:=.lst (((List.range q).map fun k=>decide (xs.getD k 0<xs.getD (k+1) 0)).map V.bl)) hD _ _ hp;have h1:q<xs.length:=by lia
   have h2:q+1<xs.length:=by lia
   refine⟨⟨rfl,rfl⟩,?_⟩;refine CC ?_;refine⟨_,rfl,_,rfl,_,_,rfl,rfl,p,_,_,.int xs[q],rfl,rfl,AE.of iT,Cr (by lia) (by rw[show ((1:Int)+q-1).toNat=q by lia,zO,zB h1];rfl),_,rfl,_,rfl,p,_,_,.int xs[q+1],rfl,rfl,AE.of iT,Cr (by lia) (by rw[show ((1:Int)+q).toNat=q+1 by lia,zO,zB h2];rfl),_,_,rfl,rfl,zK,by rw[zD];lia,?_,Gj⟩;have d1:xs.getD q 0=xs[q]:=by rw[zF,zB h1];rfl
   have d2:xs.getD (q+1) 0=xs[q+1]:=by rw[zF,zB h2];rfl
   rw[List.range_succ,zf,zf];show _=_++[V.bl (decide (xs.getD q 0<xs.getD (q+1) 0))];rw[d1,d2]
 . obtain⟨_,rfl,rfl⟩:=z;refine⟨D,_,rfl,AE.of zK,?_⟩;have e:(((List.range (((xs.map V.int).length:Int)-1).toNat).map fun k=>decide (xs.getD k 0<xs.getD (k+1) 0)).all id)=CU xs:=by rw[Ur,List.all_map,zD,show ((xs.length:Int)-1).toNat=xs.length-1 by lia];rfl
   rw[e];exact k _ (zH hD)
theorem Kr:AX Ba Ba (defScope NF):=Ad
theorem Yh {fT:Addr}(F:Fu K "is_entry" NF f dU) (FT:AH K mg "is_tuple_of" Dk fT fdT Ku) (GT:AM P w base 3 FT QO)
 (FP:AH K mg "is_place" O1 fP fdP Ba) (GP:AM P w base 3 FP Jn)
 (FN:AH K mg "is_number" JP fN fdN ["thing"]) (GN:AM P w base 3 FN RZ):AL P w K mg base AU 4 f dU Ba RL:=by
 refine F.okD Kr fun _ A _ _ H vs Q E hr h=>?_;obtain⟨n,v,d,rfl,S,k⟩:=h;refine⟨_,za (Aq (PW.pt (Dy (B7 (BL (AO GT hr FT (zE (pv 1) (zE zi zQ))))) (D4 (B7 (BL (AO GP hr FP (zE (pv 0) (zE (AF Ac (pv 1) zi) zQ)))))))) (ze (AN Dw)) Ao)
  (za (Aq (PW.pt (Dy (B7 (BL (AO GN hr FN (zE (AF Ac (pv 1) zi) zQ)))) (D4 (Ak Pw (AF Ac (pv 1) zi) zi (AS _))))) (ze (AN Dw)) Ao)
  (za (Aq (Ak Bh (AF Ac (pv 1) zi) zi (AS _)) (ze (AN (Bs (BN DP (AF Ac (pv 1) zi) An (AS _)) (CM (BN DP (AF Ac (pv 1) zi) An (AS _)))))) Ao)
  (ze (AN (Bs (AO GP hr FP (zE (pv 0) (zE (AF Ac (pv 1) zi) zQ))) (CM (AO GP hr FP (zE (pv 0) (zE (AF Ac (pv 1) zi) zQ))))))))),?_⟩
 refine⟨_,rfl,v,d,4,rfl,S,DZ d 4,rfl,?_⟩;cases hn:DZ d 4 with
 | false=>
  refine Aa (Aa ?_);have:Al n d=false:=by
   unfold Al;split
   . cases hn
   . rfl
  rw[this] at k;exact k
 | true=>
  refine Aj ?_;obtain⟨x,y,z,u,rfl⟩:∃x y z u,d=.tuple [x,y,z,u]:=by
   cases d with
   | tuple ds=>
    have iK:decide ((ds.length:Int)=4)=true:=hn;have hl:ds.length=4:=by have:=of_decide_eq_true iK;lia
    match ds,hl with
    | [x,y,z,u],_=>exact⟨x,y,z,u,rfl⟩
   | _=>cases hn
  cases S with
  | tup e al=>
   cases al with
   | cons s1 al=>cases al with
    | cons s2 al=>cases al with
     | cons s3 al=>cases al with
      | cons s4 al=>
       cases al;have ht:=AC.of (K:=K) e;refine⟨_,rfl,_,rfl,_,_,_,_,rfl,rfl,ht,rfl,n,_,x,rfl,s1,B2 x 0 (n-1),rfl,?_⟩;cases h1:B2 x 0 (n-1) with
       | false=>
        have:Al n (.tuple [x,y,z,u])=false:=by
         unfold Al;split
         . rename_i hh;cases hh;rw[h1,Bt]
         . rfl
        rw[this] at k;exact Aa k
       | true=>
        refine Aj ?_;refine⟨_,rfl,_,_,_,_,rfl,rfl,ht,rfl,_,y,rfl,s2,GV y,rfl,?_⟩;cases h2:GV y with
        | false=>
         have:Al n (.tuple [x,y,z,u])=false:=by
          unfold Al;split
          . rename_i hh;cases hh;cases h2
          . rfl
         rw[this] at k;exact Aa (Aa k)
        | true=>
         refine Aj ?_;obtain⟨l,rfl⟩:∃l,y=.int l:=by cases y <;> first | exact⟨_,rfl⟩ | cases h2
         cases s2;have k':Q (.bl (decide (0<=l) && HZ n l z u)) H:=by have:Al n (.tuple [x,.int l,z,u])=(B2 x 0 (n-1) && (decide (0<=l) && HZ n l z u)):=rfl;rw[this,h1,CZ] at k;exact k
         refine⟨_,rfl,_,_,_,_,rfl,rfl,ht,rfl,_,_,rfl,rfl,_,rfl,?_⟩;by_cases c0:l<0
         . rw[zR (by lia:¬ 0<=l),Bt] at k';exact Ag (zP c0) k'
         . rw[zP (by lia:0<=l),CZ] at k';refine Am (zR c0) ?_;refine⟨_,rfl,_,_,_,_,rfl,rfl,ht,rfl,rfl,_,rfl,?_⟩;rw[Fi];unfold HZ at k';by_cases c1:l=0
           . rw[if_pos c1] at k';refine Ag (zP c1) ?_;refine⟨_,rfl,_,_,_,_,rfl,rfl,ht,rfl,rfl,_,rfl,?_⟩;rw[QV s3];cases h3:My z with
             | false=>rw[h3,Bt] at k';exact Aj k'
             | true=>rw[h3,CZ] at k';refine Aa ?_;refine⟨_,rfl,_,_,_,_,rfl,rfl,ht,rfl,rfl,?_⟩;rw[QV s4];exact k'
           . rw[if_neg c1] at k';refine Am (zR c1) ?_;refine⟨_,rfl,_,rfl,_,_,_,_,rfl,rfl,ht,rfl,n,_,z,rfl,s3,B2 z 0 (n-1),rfl,?_⟩;cases h3:B2 z 0 (n-1) with
             | false=>rw[h3,Bt] at k';exact Aj k'
             | true=>rw[h3,CZ] at k';refine Aa ?_;exact⟨_,rfl,_,rfl,_,_,_,_,rfl,rfl,ht,rfl,n,_,u,rfl,s4,k'⟩
theorem QK (al:Aw H xs ds)(du:ds.all (Al n)=true){i:Nat}(hx:xs[i]?=some x):
 ∃b vu vw d,x=.ref b/\H b=some (.tup [.int (BO d),.int (Bv d),vu,vw])/\ds[i]?=some d/\Al n d=true:=by
 have hi:i<ds.length:=by have:=(zI.mp hx).1;have:=Ct al;lia
 obtain⟨x',dZ,Sx⟩:=Iy al (zB hi);rw[hx] at dZ;cases dZ;have he:=List.all_eq_true.mp du _ (Cq hi);have hg:ds[i]?=some ds[i]:=zB hi;generalize ds[i]=d at Sx he hg;obtain⟨h,l,u,w',rfl,_⟩:=VE he;cases Sx with
 | tup e ax=>
  cases ax with
  | cons s1 ax=>cases ax with
   | cons s2 ax=>cases ax with
    | cons s3 ax=>cases ax with
     | cons s4 ax=>cases ax;cases s1;cases s2;exact⟨_,_,_,.tuple [.int h,.int l,u,w'],rfl,e,hg,he⟩
theorem Uu:AX ["n","thing","longs"] Ba (defScope NM):=Ad
theorem cM (F:Fu K "is_label" NM f dU) (FE:AH K mg "is_entry" NF fE fdE Ba) (GE:AM P w base 4 FE RL)
 (FR:AH K mg "is_rising" E9 fR fdR ["things"]) (GR:AM P w base 4 FR Ie) (dX:mg "isinstance"=none) (dS:mg "tuple"=none) (dY:mg "len"=none) (fu:mg "all"=none):
 AL P w K mg base AU 5 f dU Ba Rf:=by
 refine F.okD Uu fun _ A _ _ H vs Q E hr h=>?_;obtain⟨n,v,d,rfl,hnn,S,k⟩:=h;obtain⟨t,bi,bb,bt,ty,_,_,e3,_,e5,_,ht⟩:=EY (K:=K) S;refine⟨_,za (Aq (PW.pt (Dy (B7 (BL (Ar DL dX (zE (pv 1) (zE (C9 (T := "tuple") dS) zQ))))) (D4 (Ak JI (Ar D6 dY (zE (pv 1) zQ)) (pv 0) (AS _))))) (ze (AN Dw)) Ao)
  (za (Aq (B7 (BL (Ar (RG rfl) fu (zE (B0 (own:=["entry"]) (cn:=["n"]) (ci:=[0]) rfl (BK rfl rfl) ⟨rfl,rfl,rfl,trivial⟩ rfl (BH (pv 1)) (fun _ _ _ _=>BJ) (fun _ _ _ _=>CD)
   (fun _ _ _ _=>AO GE hr FE (zE (pv 1) (zE (pv 0) zQ)))) zQ)))) (ze (AN Dw)) Ao)
  (za (HL (i:=2) (own:=["entry"]) (cn:=[]) (ci:=[]) Uu.nd rfl (Or.inl rfl) rfl (BK rfl rfl) trivial rfl (BH (pv 1)) (fun _ _ _ _=>BJ) (fun _ _ _ _=>CD) (fun _ _ _ _=>AF Cy (pv 0) zi))
  (ze (AN (Bs (BN Bh (Em PySem.F.plainAttrs_list PySem.F.slot_list_count PySem.F.type_list_count Vq (pv 2) (zE zi zQ)) zi (AS _)) (CM (AO GR hr FR
   (zE (B0 (own:=["entry"]) (cn:=[]) (ci:=[]) rfl (BK rfl rfl) trivial rfl (BH (pv 1)) (fun _ _ _ _=>BJ) (fun _ _ _ _=>CD) (fun _ _ _ _=>AF Cy (pv 0) zi)) zQ)))))))),?_⟩
 refine⟨_,rfl,_,_,t,bt,rfl,ty,e3,bt,rfl,?_⟩;rw[e5];cases hn:HP d with
 | false=>
  refine Aa (Aa ?_);have:BW n d=false:=by cases d <;> first | rfl | cases hn
  rw[<-this];exact k H (AD.refl _)
 | true=>
  refine Aj ?_;obtain⟨a,xs,ds,rfl,ha,rfl,al⟩:=ht hn;have iE:=Ct al;have k':∀(H':Hp),AD H H'->Q (.bl (decide ((ds.length:Int)<=n) && (ds.all (Al n) && (Gm ds && CU (ds.map BO))))) H':=k;refine⟨_,rfl,a,xs,rfl,.inr (AC.of ha),_,rfl,_,_,rfl,rfl,_,rfl,?_⟩;by_cases c:(ds.length:Int)<=n
  case neg=>
   rw[zR c,Bt] at k';exact Ag (zP (by lia)) (k' H (AD.refl _))
  rw[zP c,CZ] at k';refine Am (zR (by lia)) ?_;have hl:ds.length<=1000:=by lia
  refine⟨_,rfl,a,rfl,⟨_,AC.of ha⟩,[.int n],rfl,fun D hD=>?_⟩;refine BV (a:=a) (xs:=xs) (fun i ys H4=>ys=((ds.take i).map (Al n)).map V.bl/\H4=upd H D (.lst ys)) ⟨rfl,rfl⟩ (fun i ys H4 z=>?_) (fun i ys H4 z=>?_) (fun i x ys H4 hx z=>?_) (fun ys H4 z=>?_)
  . obtain⟨_,rfl⟩:=z;exact AC.of (zH hD _ _ ha)
  . obtain⟨rfl,_⟩:=z;rw[zD,zD,zd];exact BS (by lia)
  . obtain⟨rfl,rfl⟩:=z;have hi:i<ds.length:=by have:=(zI.mp hx).1;lia
    obtain⟨x',dZ,Sx⟩:=Iy al (zB hi);rw[hx] at dZ;cases dZ;refine⟨⟨rfl,rfl⟩,?_⟩;refine CC ?_;refine⟨_,rfl,_,rfl,n,x,ds[i],rfl,Bj (zH hD) Sx,zK,?_,Gj⟩;rw[zr,zB hi,zf,zf];rfl
  . obtain⟨rfl,rfl⟩:=z;rw[iE,zW (zJ _)];refine⟨D,_,rfl,AE.of zK,(ds.map (Al n)).all id,rfl,?_⟩;have ea:(ds.map (Al n)).all id=ds.all (Al n):=by rw[List.all_map];rfl
    rw[ea];have s1:=zH (o:=.lst ((ds.map (Al n)).map V.bl)) hD;generalize upd H D (.lst ((ds.map (Al n)).map V.bl))=H1 at s1 ⊢;cases du:ds.all (Al n) with
    | false=>rw[du,Bt] at k';exact Aa (k' _ s1)
    | true=>
     rw[du,CZ] at k';refine Aj ?_;have gq:=s1 _ _ ha;refine⟨_,rfl,a,rfl,⟨_,AC.of gq⟩,[],rfl,fun D2 dg=>?_⟩;refine BV (a:=a) (xs:=xs) (fun i ys H4=>ys=((ds.take i).map Bv).map V.int/\H4=upd H1 D2 (.lst ys)) ⟨rfl,rfl⟩ (fun i ys H4 z=>?_) (fun i ys H4 z=>?_) (fun i v ys H4 hv z=>?_) (fun ys H4 z=>?_)
     . obtain⟨_,rfl⟩:=z;exact AC.of (zH dg _ _ gq)
     . obtain⟨rfl,_⟩:=z;rw[zD,zD,zd];exact BS (by lia)
     . obtain⟨rfl,rfl⟩:=z;obtain⟨b,vu,vw,d,rfl,hb,hd,_⟩:=QK al du hv;refine⟨⟨rfl,rfl⟩,?_⟩;refine CC ?_;refine⟨_,rfl,b,_,_,.int (Bv d),rfl,rfl,AC.of (zH dg _ _ (s1 _ _ hb)),rfl,zK,?_,Gj⟩;rw[zr,hd,zf,zf];rfl
     . obtain⟨rfl,rfl⟩:=z;rw[iE,zW (zJ _)];have s2:=s1.trans (zH (o:=.lst ((ds.map Bv).map V.int)) dg);have gA:(upd H1 D2 (.lst ((ds.map Bv).map V.int))) D2=some (.lst ((ds.map Bv).map V.int)):=zK;generalize upd H1 D2 (.lst ((ds.map Bv).map V.int))=H2 at s2 gA ⊢;refine⟨_,rfl,.inl ⟨rfl,_,AE.of gA⟩,D2,ds.map Bv,0,rfl,rfl,AE.of gA,rfl,_,rfl,?_⟩;rw[Fi];have eo:decide ((((ds.map Bv).countP fun x=>x==0:Nat):Int)=1)=Gm ds:=by
        unfold Gm;rw[HI,Gr,Gr]
        lia
       rw[eo];cases ho:Gm ds with
       | false=>rw[ho,Bt] at k';exact Aj (k' _ s2)
       | true=>
        rw[ho,CZ] at k';refine Aa ?_;refine⟨_,rfl,a,rfl,⟨_,AC.of (s2 _ _ ha)⟩,[],rfl,fun D3 eU=>?_⟩;refine BV (a:=a) (xs:=xs) (fun i ys H4=>ys=((ds.take i).map BO).map V.int/\H4=upd H2 D3 (.lst ys)) ⟨rfl,rfl⟩ (fun i ys H4 z=>?_) (fun i ys H4 z=>?_) (fun i v ys H4 hv z=>?_) (fun ys H4 z=>?_)
        . obtain⟨_,rfl⟩:=z;exact AC.of (zH eU _ _ (s2 _ _ ha))
        . obtain⟨rfl,_⟩:=z;rw[zD,zD,zd];exact BS (by lia)
        . obtain⟨rfl,rfl⟩:=z;obtain⟨b,vu,vw,d,rfl,hb,hd,_⟩:=QK al du hv;refine⟨⟨rfl,rfl⟩,?_⟩;refine CC ?_;refine⟨_,rfl,b,_,_,.int (BO d),rfl,rfl,AC.of (zH eU _ _ (s2 _ _ hb)),rfl,zK,?_,Gj⟩;rw[zr,hd,zf,zf];rfl
        . obtain⟨rfl,rfl⟩:=z;rw[iE,zW (zJ _)];have s3:=s2.trans (zH (o:=.lst ((ds.map BO).map V.int)) eU);exact⟨D3,ds.map BO,rfl,zK,by rw[zD];exact hl,fun H' s'=>k' _ (s3.trans s')⟩
theorem aT:AX Ba Ba (defScope Me):=Ad
theorem Z6 {fT:Addr}(F:Fu K "are_labels" Me f dU) (FT:AH K mg "is_tuple_of" Dk fT fdT Ku) (GT:AM P w base 5 FT QO)
 (FL:AH K mg "is_label" NM fL fdL Ba) (GL:AM P w base 5 FL Rf) (fu:mg "all"=none):
 AL P w K mg base AU 6 f dU Ba SJ:=by
 refine F.okD aT fun _ A _ _ H vs Q E hr h=>?_;obtain⟨n,v,d,rfl,hnn,S,k⟩:=h;refine⟨_,ze (AN (Bs (AO GT hr FT (zE (pv 1) (zE (pv 0) zQ))) (CM (Ar (RG rfl) fu (zE (B0 (own:=["label"]) (cn:=["n"]) (ci:=[0]) rfl (BK rfl rfl) ⟨rfl,rfl,rfl,trivial⟩ rfl (BH (pv 1)) (fun _ _ _ _=>BJ) (fun _ _ _ _=>CD)
  (fun _ _ _ _=>AO GL hr FL (zE (pv 1) (zE (pv 0) zQ)))) zQ))))),?_⟩
 refine⟨_,rfl,_,rfl,v,d,n,rfl,S,DZ d n,rfl,?_⟩;cases hn:DZ d n with
 | false=>
  refine Aj ?_;have:Fq n d=false:=by
   cases d with
   | tuple ds=>have iK:decide ((ds.length:Int)=n)=false:=hn;show (decide ((ds.length:Int)=n) && _)=false;rw[iK,Bt]
   | _=>rfl
  rw[<-this];exact k H (AD.refl _)
 | true=>
  refine Aa ?_;cases S with
  | @tup a xs ds e al=>
   have iK:decide ((ds.length:Int)=n)=true:=hn;have hlen:(ds.length:Int)=n:=of_decide_eq_true iK;have iE:=Ct al;have k':∀(H':Hp),AD H H'->Q (.bl (decide ((ds.length:Int)=n) && ds.all (BW n))) H':=k;rw[iK,CZ] at k';refine⟨_,rfl,a,rfl,⟨_,AC.of e⟩,[.int n],rfl,fun D hD=>?_⟩;refine BV (a:=a) (xs:=xs) (fun i ys H4=>ys=((ds.take i).map (BW n)).map V.bl/\AD H H4/\H4 D=some (.lst ys)) ⟨rfl,zH hD,zK⟩ (fun i ys H4 z=>?_) (fun i ys H4 z=>?_) (fun i x ys H4 hx z=>?_) (fun ys H4 z=>?_)
   . obtain⟨_,s4,_⟩:=z;exact AC.of (s4 _ _ e)
   . obtain⟨rfl,_⟩:=z;rw[zD,zD,zd];exact BS (by lia)
   . obtain⟨rfl,s4,h4⟩:=z;have hi:i<ds.length:=by have:=(zI.mp hx).1;lia
     obtain⟨x',dZ,Sx⟩:=Iy al (zB hi);rw[hx] at dZ;cases dZ;refine⟨⟨rfl,rfl⟩,?_⟩;refine CC ?_;refine⟨_,rfl,_,rfl,n,x,ds[i],rfl,hnn,Bj s4 Sx,fun H5 s5=>⟨s5 _ _ h4,?_,A9 (s4.trans s5) hD,zK⟩⟩;rw[zr,zB hi,zf,zf];rfl
   . obtain⟨rfl,s4,h4⟩:=z;rw[iE,zW (zJ _)] at h4;refine⟨D,(ds.map (BW n)),rfl,AE.of h4,?_⟩;have ea:(ds.map (BW n)).all id=ds.all (BW n):=by rw[List.all_map];rfl
     rw[ea];exact k' _ s4
  | _=>cases hn
theorem KC:AX MP MP (defScope Ms):=Ad
theorem aK (F:Fu K "_law_is_number" Ms f dU) (dX:mg "isinstance"=none) (d8:mg "int"=none) (dh:mg "bool"=none):
 AL P w K mg base AU 1 f dU MP G4:=by
 refine F.okD KC fun _ A _ _ H vs Q E hr h=>?_;obtain⟨v,d,a,b,rfl,S,k⟩:=h;obtain⟨t,bi,bb,bt,ty,e1,e2,_,e4,_,hi,_⟩:=EY (K:=K) S;refine⟨_,ze (AN (Bs (Ar DL dX (zE (pv 0) (zE (C9 (T := "int") d8) zQ)))
  (Bs (Vt (Ar DL dX (zE (pv 0) (zE (C9 (T := "bool") dh) zQ)))) (CM (Ys Pk Pk (pv 1) (pv 0) (pv 2)))))),?_⟩
 refine⟨_,rfl,_,_,t,bi,rfl,ty,e1,bi,rfl,?_⟩;cases hn:GV d with
 | false=>
  rw[hn] at e4;have kf:Q (.bl false) H:=by
   have:B2 d a b=false:=by cases d <;> first | rfl | cases hn
   rw[this] at k;exact k
  cases bi with
  | false=>exact Am rfl kf
  | true=>refine Ag rfl ⟨_,rfl,_,_,t,bb,rfl,ty,e2,bb,rfl,!bb,rfl,Am e4 kf⟩
 | true=>
  rw[hn] at e4;obtain⟨i,rfl,rfl⟩:=hi hn;have k':Q (.bl (decide (a<=i) && decide (i<=b))) H:=k;cases bi with
  | false=>cases e4
  | true=>
   refine Ag rfl ⟨_,rfl,_,_,t,bb,rfl,ty,e2,bb,rfl,!bb,rfl,Ag e4 ?_⟩;refine⟨_,rfl,_,rfl,_,_,rfl,rfl,_,rfl,?_⟩;by_cases c:a<=i
   . rw[zP c,CZ] at k';exact Ag (zP c) ⟨_,rfl,_,_,rfl,rfl,k'⟩
   . rw[zR c,Bt] at k';exact Am (zR c) k'
def TY (K:AJ):R2:=fun x y H Q=>∃a b,∃(xs ys:List Int),x=.ref a/\y=.ref b/\AE K H a (xs.map V.int)/\AE K H b (ys.map V.int)/\Q (.bl (decide (xs=ys))) H
theorem La (hu:X.A.units<cLine):Ay X (compareOp .Eq) (TY X.K):=by
 intro pins s σ H x y v u Q I rx ry h;obtain⟨a,b,xs,ys,rfl,rfl,ha,hb,q⟩:=h;cases rx;cases ry;obtain⟨its,r,pl,hz⟩:=I.list ha;obtain⟨d7,r2,gX,hz2⟩:=I.list hb;have h1:=Dz r;have h2:=Dz r2;have l1:=h1.length;have l2:=h2.length;by_cases hl:its.length=d7.length
 . refine SeqAt.eq_listAt (e:=fun j=>xs.getD j 0==ys.getD j 0) pl.isList gX.isList (by rw[zL,zL];exact hl) hu (fun j a b=>IX h1 h2 j a b) ⟨.bl _,H,I,rfl,?_⟩;rw[zL];have e:=XW (xs:=xs) (ys:=ys);rw[show min xs.length ys.length=its.length by lia,show (xs.length==ys.length)=true by simpa using (by lia),Bool.and_true] at e;rw[e];exact q
 . refine SeqAt.eq_list_lengthsAt pl.isList gX.isList (by rw[zL,zL];simpa using hl) hu ⟨.bl _,H,I,rfl,?_⟩;have eB:xs≠ys:=fun e=>hl (by rw[l1,l2,e]);rw[zR eB] at q;exact q
theorem ZD (h:Al n d=true):0<=BO d/\BO d<n:=by obtain⟨x,l,u,w,rfl,h1,h2,_⟩:=VE h;exact⟨h1,by show x<n;lia⟩
theorem YC {ds:List PyData}(h:ds.all (Al n)=true)(hr:CU (ds.map BO)=true)(n0:0<=n):(ds.length:Int)<=n:=by
 have h1:=(P8 _).mp hr;have h2:(ds.map BO).Nodup:=h1.imp fun h=>by lia
 have:=Ru (n:=n.toNat) h2 (fun x hx=>by
  obtain⟨d,hd,rfl⟩:=Be.mp hx;have:=ZD (List.all_eq_true.mp h d hd)
  lia)
 rw[zD] at this
 lia
theorem Zy (n0:0<=n):BW n (.tuple ds)=(ds.all (Al n) && (CU (ds.map BO) && Gm ds)):=by
 show (decide ((ds.length:Int)<=n) && (ds.all (Al n) && (Gm ds && CU (ds.map BO))))=_;cases h1:ds.all (Al n) with
 | false=>simp
 | true=>
  cases h2:CU (ds.map BO) with
  | false=>simp
  | true=>rw[zP (YC h1 h2 n0)];simp
theorem ai (hr:ms.Pairwise (· < ·))(hm:∀z:Int,z∈ms↔z∈xs):decide (xs=ms)=CU xs:=by
 rw[HI,Gr,P8];constructor
 . rintro rfl;exact hr
 . intro h;exact Uh h hr fun z=>(hm z).symm
noncomputable def big:Nat:=10 ^ 32
def Q2:Sp:=fun vs H Q _=>∃n v d k l,vs=[.int n,v]/\AW H v d/\IB k l d/\k<=big/\Q (.bl (Al n d)) H
def SN:Sp:=fun vs H Q _=>∃n v d k l,vs=[.int n,v]/\0<=n/\AW H v d/\IB k l d/\k<=big/\l<64/\∀H',AD H H'->Q (.bl (BW n d)) H'
def Q8:Sp:=fun vs H Q _=>∃n v d k l,vs=[.int n,v]/\0<=n/\AW H v d/\IB k l d/\k<=big/\l<64/\∀H',AD H H'->Q (.bl (Fq n d)) H'
theorem Yo (h:IB k l d)(hk:k<=big):B2 d 0 (10 ^ (60:Int).toNat)=(match d with | .int i=>decide (0<=i) | _=>false):=by
 cases h with
 | int i hi=>
  show (decide (0<=i) && decide (i<=10 ^ (60:Int).toNat))=decide (0<=i);have hb:(big:Int)<=10 ^ (60:Int).toNat:=by decide
  rw[zP (show i<=10 ^ (60:Int).toNat by lia),Bool.and_true]
 | _=>rfl
theorem Jr:AX Cc Cc (defScope Mr):=Ad
theorem Zc (F:Fu K "_law_is_entry" Mr f dU) (FL:AH K mg "_law_is_number" Ms fL fdL MP)
 (dX:mg "isinstance"=none) (d8:mg "int"=none) (dh:mg "bool"=none) (dS:mg "tuple"=none) (dY:mg "len"=none):AL P w K mg base AU 2 f dU Cc Q2:=by
 have GL:AM P w base 1 FL G4:=aK FL.F dX d8 dh;refine F.okD Jr fun _ A _ _ H vs Q E hr h=>?_;obtain⟨n,v,d,kb,lb,rfl,S,ib,hkb,k⟩:=h;refine⟨_,za (Aq (PW.pt (Dy (B7 (BL (Ar DL dX (zE (pv 1) (zE (C9 (T := "tuple") dS) zQ))))) (D4 (JT (KA (Ar D6 dY (zE (pv 1) zQ)) zi))))) (ze (AN Dw)) Ao)
  (za (Aq (PW.pt (Dy (B7 (BL (AO GL hr FL (zE (AF Ac (pv 1) zi) (zE zi (zE (AV Fe (pv 0) zi) zQ)))))) (D4 (B7 (BL (AO GL hr FL (zE (AF Ac (pv 1) zi) (zE zi (zE (AV Xa zi zi) zQ))))))))) (ze (AN Dw)) Ao)
  (za (Aq (Ak Bh (AF Ac (pv 1) zi) zi (AS _)) (ze (AN (Bs (BN DP (AF Ac (pv 1) zi) An (AS _)) (CM (BN DP (AF Ac (pv 1) zi) An (AS _)))))) Ao)
  (ze (AN (Bs (AO GL hr FL (zE (AF Ac (pv 1) zi) (zE zi (zE (AV Fe (pv 0) zi) zQ)))) (CM (AO GL hr FL (zE (AF Ac (pv 1) zi) (zE zi (zE (AV Fe (pv 0) zi) zQ)))))))))),?_⟩
 obtain⟨t,bi,bb,bt,ty,_,_,e3,_,e5,_,ht⟩:=EY (K:=K) S;refine⟨_,rfl,_,_,t,bt,rfl,ty,e3,bt,rfl,?_⟩;rw[e5];cases hn:HP d with
 | false=>
  refine Aa (Aa ?_);have:Al n d=false:=by cases d <;> first | rfl | cases hn
  rw[<-this];exact k
 | true=>
  refine Aj ?_;obtain⟨a,xs,ds,rfl,ha,rfl,al⟩:=ht hn;have iE:=Ct al;refine⟨_,rfl,a,xs,rfl,.inr (AC.of ha),_,_,rfl,rfl,_,rfl,?_⟩;by_cases c:ds.length=4
  case neg=>
   refine Ag (by simp;lia) ?_;have:Al n (.tuple ds)=false:=by
    unfold Al;split
    . rename_i h;cases h;exact absurd rfl c
    . rfl
   rw[<-this];exact k
  refine Am (by simp;lia) ?_;have be:=ib.elem;obtain⟨x,y,z,u,rfl⟩:∃x y z u,ds=[x,y,z,u]:=by
   match ds,c with
   | [x,y,z,u],_=>exact⟨x,y,z,u,rfl⟩
  have iy:IB kb lb y:=be y (by simp);cases al with
  | cons s1 al=>cases al with
   | cons s2 al=>cases al with
    | cons s3 al=>cases al with
     | cons s4 al=>
      cases al;have ht:=AC.of (K:=K) ha;refine⟨_,rfl,a,_,_,_,rfl,rfl,ht,rfl,_,rfl,_,_,rfl,rfl,_,x,0,n-1,rfl,s1,B2 x 0 (n-1),rfl,?_⟩;cases h1:B2 x 0 (n-1) with
      | false=>
       have:Al n (.tuple [x,y,z,u])=false:=by
        unfold Al;split
        . rename_i hh;cases hh;rw[h1,Bt]
        . rfl
       rw[this] at k;exact Aa (Aa k)
      | true=>
       refine Aj ?_;refine⟨_,rfl,a,_,_,_,rfl,rfl,ht,rfl,_,_,rfl,rfl,⟨by decide,by decide,by decide⟩,_,y,0,_,rfl,s2,_,rfl,?_⟩;rw[Yo iy hkb];cases y with
       | int l=>
        have k':Q (.bl (decide (0<=l) && HZ n l z u)) H:=by have:Al n (.tuple [x,.int l,z,u])=(B2 x 0 (n-1) && (decide (0<=l) && HZ n l z u)):=rfl;rw[this,h1,CZ] at k;exact k
        cases s2;show (if (!decide (0<=l))=true then _ else _)
        by_cases c0:0<=l
        . rw[zP c0,CZ] at k';rw[zP c0];refine Aj ?_;refine⟨_,rfl,_,_,_,_,rfl,rfl,ht,rfl,rfl,_,rfl,?_⟩;rw[Fi];unfold HZ at k';by_cases c1:l=0
          . rw[if_pos c1] at k';refine Ag (zP c1) ?_;refine⟨_,rfl,_,_,_,_,rfl,rfl,ht,rfl,rfl,_,rfl,?_⟩;rw[QV s3];cases h3:My z with
            | false=>rw[h3,Bt] at k';exact Aj k'
            | true=>rw[h3,CZ] at k';refine Aa ?_;refine⟨_,rfl,_,_,_,_,rfl,rfl,ht,rfl,rfl,?_⟩;rw[QV s4];exact k'
          . rw[if_neg c1] at k';refine Am (zR c1) ?_;refine⟨_,rfl,_,_,_,_,rfl,rfl,ht,rfl,_,rfl,_,_,rfl,rfl,_,z,0,n-1,rfl,s3,B2 z 0 (n-1),rfl,?_⟩;cases h3:B2 z 0 (n-1) with
            | false=>rw[h3,Bt] at k';exact Aj k'
            | true=>rw[h3,CZ] at k';refine Aa ?_;exact⟨_,rfl,_,_,_,_,rfl,rfl,ht,rfl,_,rfl,_,_,rfl,rfl,_,u,0,n-1,rfl,s4,k'⟩
        . rw[zR c0,Bt] at k';rw[zR c0];exact Aa k'
       | _=>refine Aa ?_;have:∀b,b=false->Q (.bl b) H->Q (.bl false) H:=fun b h q=>h ▸ q;exact this _ rfl k
theorem XC:AX ["_law_n","_law_thing","_law_hubs"] Cc (defScope NQ):=Ad
theorem ZW (F:Fu K "_law_is_label" NQ f dU) (FE:AH K mg "_law_is_entry" Mr fE fdE Cc) (GE:AM P w base 2 FE Q2)
 (dX:mg "isinstance"=none) (dS:mg "tuple"=none) (da:mg "sorted"=none) (mSet:mg "set"=none):
 AL P w K mg base AU 3 f dU Cc SN:=by
 refine F.okD XC fun _ A _ _ H vs Q E hr h=>?_;obtain⟨n,v,d,kb,lb,rfl,n0,S,ib,hkb,hlb,k⟩:=h;have iS:=hr.units0;obtain⟨t,bi,bb,bt,ty,_,_,e3,_,e5,_,ht⟩:=EY (K:=K) S;refine⟨_,za (Aq (PW.pt (Dy (B7 (BL (Ar DL dX (zE (pv 1) (zE (C9 (T := "tuple") dS) zQ)))))
  (D4 (Ak (K5 iS) (B0 (own:=De) (cn:=["_law_n"]) (ci:=[0]) rfl (BK rfl rfl) ⟨rfl,rfl,rfl,trivial⟩ rfl (BH (pv 1)) (fun _ _ _ _=>BJ)
   (fun _ _ _ _=>El (B7 (BL (AO GE hr FE (zE (pv 1) (zE (pv 0) zQ)))))) (fun _ _ _ _=>pv 0)) (CJ zQ) (AS _))))) (ze (AN Dw)) Ao)
  (za (HL (i:=2) (own:=De) (cn:=[]) (ci:=[]) XC.nd rfl (Or.inl rfl) rfl (BK rfl rfl) trivial rfl (BH (pv 1)) (fun _ _ _ _=>BJ) (fun _ _ _ _=>CD) (fun _ _ _ _=>AF Cy (pv 0) zi))
  (ze (AN (Bs (BN (La iS) (pv 2) (cT rfl rfl da rfl mSet (zE (pv 2) zQ)) (AS _))
   (CM (BN Bh (Em PySem.F.plainAttrs_list PySem.F.slot_list_count PySem.F.type_list_count Vq (B0 (own:=De) (cn:=[]) (ci:=[]) rfl (BK rfl rfl) trivial rfl (BH (pv 1)) (fun _ _ _ _=>BJ) (fun _ _ _ _=>CD) (fun _ _ _ _=>AF Cy (pv 0) zi)) (zE zi zQ)) zi (AS _))))))),?_⟩
 refine⟨_,rfl,_,_,t,bt,rfl,ty,e3,bt,rfl,?_⟩;rw[e5];cases hn:HP d with
 | false=>
  refine Aa (Aa ?_);have:BW n d=false:=by cases d <;> first | rfl | cases hn
  rw[<-this];exact k H (AD.refl _)
 | true=>
  refine Aj ?_;obtain⟨a,xs,ds,rfl,ha,rfl,al⟩:=ht hn;have iE:=Ct al;have hl64:ds.length<64:=CG ib.len hlb;rw[Zy n0] at k;refine⟨_,rfl,a,rfl,⟨_,AC.of ha⟩,[.int n],rfl,fun D hD=>?_⟩;refine BV (a:=a) (xs:=xs) (fun i ys H4=>(ys=[]↔(ds.take i).all (Al n)=true)/\ys.length<=(ds.take i).length/\H4=upd H D (.lst ys)) ⟨⟨fun _=>rfl,fun _=>rfl⟩,zg _,rfl⟩ (fun i ys H4 z=>?_) (fun i ys H4 z=>?_) (fun i x ys H4 hx z=>?_) (fun ys H4 z=>?_)
  . obtain⟨_,_,rfl⟩:=z;exact AC.of (zH hD _ _ ha)
  . obtain⟨_,hl,_⟩:=z;rw[zd] at hl;exact BS (by lia)
  . obtain⟨hy,hl,rfl⟩:=z;have hi:i<ds.length:=by have:=(zI.mp hx).1;lia
    obtain⟨x',dZ,Sx⟩:=Iy al (zB hi);rw[hx] at dZ;cases dZ;have Sx1:=Bj (zH (o:=.lst ys) hD) Sx;have et:(ds.take (i+1)).all (Al n)=((ds.take i).all (Al n) && Al n ds[i]):=by rw[zr,zB hi,List.all_append];show ((ds.take i).all (Al n) && (Al n ds[i] && true))=_;rw[Bool.and_true]
    refine⟨⟨rfl,rfl⟩,?_⟩;refine⟨_,rfl,_,rfl,n,x,ds[i],kb,lb,rfl,Sx1,ib.elem _ (Cq hi),hkb,Al n ds[i],rfl,?_⟩;cases he:Al n ds[i] with
    | true=>refine Aj ?_;exact⟨by rw[et,he,Bool.and_true];exact hy,by rw[zd] at hl ⊢;lia,rfl⟩
    | false=>refine Aa ?_;exact⟨_,rfl,zK,by rw[et,he,Bool.and_false];simp,by rw[zM,zd];rw[zd] at hl;show ys.length+1<=_;lia,Gj⟩
  . obtain⟨hy,hl,rfl⟩:=z;rw[iE,zW (zJ _)] at hy;refine⟨zg _,fun b hb=>?_⟩;have sb:=(zH (o:=.lst ys) hD).trans (zH (o:=.lst []) hb);have dg:(upd (upd H D (.lst ys)) b (.lst [])) D=some (.lst ys):=zH hb _ _ zK;refine⟨D,b,ys,rfl,rfl,AE.of dg,AE.of zK,_,rfl,?_⟩;generalize upd (upd H D (.lst ys)) b (.lst [])=H1 at sb ⊢;cases du:ds.all (Al n) with
    | false=>
     have eB:ys≠[]:=fun z=>by have:=hy.mp z;rw[du] at this;cases this
     have e0:(!ys.isEmpty)=true:=by cases ys with
      | nil=>exact absurd rfl eB
      | cons _ _=>rfl
     rw[du,Bt] at k;exact Ag e0 (k _ sb)
    | true=>
     have he:ys=[]:=hy.mpr du;subst he;rw[du,CZ] at k;refine Am rfl ?_;have gq:=sb _ _ ha;refine⟨_,rfl,a,rfl,⟨_,AC.of gq⟩,[],rfl,fun D2 gB=>?_⟩;refine BV (a:=a) (xs:=xs) (fun i ys H4=>ys=((ds.take i).map BO).map V.int/\H4=upd H1 D2 (.lst ys)) ⟨rfl,rfl⟩ (fun i ys H4 z=>?_) (fun i ys H4 z=>?_) (fun i v ys H4 hv z=>?_) (fun ys H4 z=>?_)
     . obtain⟨_,rfl⟩:=z;exact AC.of (zH gB _ _ gq)
     . obtain⟨rfl,_⟩:=z;rw[zD,zD,zd];exact BS (by lia)
     . obtain⟨rfl,rfl⟩:=z;obtain⟨b',vu,vw,d,rfl,eQ,hd,_⟩:=QK al du hv;refine⟨⟨rfl,rfl⟩,?_⟩;refine CC ?_;refine⟨_,rfl,b',_,_,.int (BO d),rfl,rfl,AC.of (zH gB _ _ (sb _ _ eQ)),rfl,zK,?_,Gj⟩;rw[zr,hd,zf,zf];rfl
     . obtain⟨rfl,rfl⟩:=z;rw[iE,zW (zJ _)];have s2:=sb.trans (zH (o:=.lst ((ds.map BO).map V.int)) gB);have gA:(upd H1 D2 (.lst ((ds.map BO).map V.int))) D2=some (.lst ((ds.map BO).map V.int)):=zK;generalize upd H1 D2 (.lst ((ds.map BO).map V.int))=H2 at s2 gA ⊢;refine⟨_,rfl,_,rfl,D2,ds.map BO,rfl,.inl (AE.of gA),by rw[zD];exact hl64,fun l ms hl3 hr3 hm3=>?_⟩;have s3:=zH (o:=.lst (ms.map V.int)) hl3;refine⟨D2,l,ds.map BO,ms,rfl,rfl,AE.of (s3 _ _ gA),AE.of zK,_,rfl,?_⟩;rw[ai hr3 hm3];have s23:=s2.trans s3;generalize upd H2 l (.lst (ms.map V.int))=H3 at s23 ⊢;cases hr4:CU (ds.map BO) with
       | false=>rw[hr4,Bt] at k;exact Aj (k _ s23)
       | true=>
        rw[hr4,CZ] at k;refine Aa ?_;refine⟨_,rfl,a,rfl,⟨_,AC.of (s23 _ _ ha)⟩,[],rfl,fun D3 eU=>?_⟩;refine BV (a:=a) (xs:=xs) (fun i ys H4=>ys=((ds.take i).map Bv).map V.int/\H4=upd H3 D3 (.lst ys)) ⟨rfl,rfl⟩ (fun i ys H4 z=>?_) (fun i ys H4 z=>?_) (fun i v ys H4 hv z=>?_) (fun ys H4 z=>?_)
        . obtain⟨_,rfl⟩:=z;exact AC.of (zH eU _ _ (s23 _ _ ha))
        . obtain⟨rfl,_⟩:=z;rw[zD,zD,zd];exact BS (by lia)
        . obtain⟨rfl,rfl⟩:=z;obtain⟨b',vu,vw,d,rfl,eQ,hd,_⟩:=QK al du hv;refine⟨⟨rfl,rfl⟩,?_⟩;refine CC ?_;refine⟨_,rfl,b',_,_,.int (Bv d),rfl,rfl,AC.of (zH eU _ _ (s23 _ _ eQ)),rfl,zK,?_,Gj⟩;rw[zr,hd,zf,zf];rfl
        . obtain⟨rfl,rfl⟩:=z;rw[iE,zW (zJ _)];have s4:=s23.trans (zH (o:=.lst ((ds.map Bv).map V.int)) eU);have hD33:(upd H3 D3 (.lst ((ds.map Bv).map V.int))) D3=some (.lst ((ds.map Bv).map V.int)):=zK;generalize upd H3 D3 (.lst ((ds.map Bv).map V.int))=H4 at s4 hD33 ⊢;refine⟨.inl ⟨rfl,_,AE.of hD33⟩,D3,ds.map Bv,0,rfl,rfl,AE.of hD33,rfl,?_⟩;rw[Fi];have eo:decide ((((ds.map Bv).countP fun x=>x==0:Nat):Int)=1)=Gm ds:=by
           unfold Gm;rw[HI,Gr,Gr]
           lia
          rw[eo];exact k _ s4
theorem ZY:AX Cc Cc (defScope Mi):=Ad
theorem aM (F:Fu K "_law_are_labels" Mi f dU) (FL:AH K mg "_law_is_label" NQ fL fdL Cc) (GL:AM P w base 3 FL SN)
 (dX:mg "isinstance"=none) (dS:mg "tuple"=none) (dY:mg "len"=none):AL P w K mg base AU 4 f dU Cc Q8:=by
 refine F.okD ZY fun _ A _ _ H vs Q E hr h=>?_;obtain⟨n,v,d,kb,lb,rfl,n0,S,ib,hkb,hlb,k⟩:=h;have iS:=hr.units0;obtain⟨t,bi,bb,bt,ty,_,_,e3,_,e5,_,ht⟩:=EY (K:=K) S;refine⟨_,ze (AN (Bs (Ar DL dX (zE (pv 1) (zE (C9 (T := "tuple") dS) zQ)))
  (Bs (BN Bh (Ar D6 dY (zE (pv 1) zQ)) (pv 0) (AS _))
   (CM (BN (RC iS) (B0 (own:=["_law_one"]) (cn:=["_law_n"]) (ci:=[0]) rfl (BK rfl rfl) ⟨rfl,rfl,rfl,trivial⟩ rfl (BH (pv 1)) (fun _ _ _ _=>BJ)
    (fun _ _ _ _=>El (B7 (BL (AO GL hr FL (zE (pv 1) (zE (pv 0) zQ)))))) (fun _ _ _ _=>pv 0)) (CJ zQ) (AS _)))))),?_⟩
 refine⟨_,rfl,_,_,t,bt,rfl,ty,e3,bt,rfl,?_⟩;rw[e5];cases hn:HP d with
 | false=>
  refine Aj ?_;have:Fq n d=false:=by cases d <;> first | rfl | cases hn
  rw[<-this];exact k H (AD.refl _)
 | true=>
  refine Aa ?_;obtain⟨a,xs,ds,rfl,ha,rfl,al⟩:=ht hn;have iE:=Ct al;have hl64:ds.length<64:=CG ib.len hlb;have k':∀(H':Hp),AD H H'->Q (.bl (decide ((ds.length:Int)=n) && ds.all (BW n))) H':=k;refine⟨_,rfl,a,xs,rfl,.inr (AC.of ha),_,rfl,rfl,_,rfl,?_⟩;rw[Fi,iE];by_cases c:(ds.length:Int)=n
  case neg=>
   rw[zR c,Bt] at k';exact Am (zR c) (k' H (AD.refl _))
  rw[zP c,CZ] at k';refine Ag (zP c) ?_;refine⟨_,rfl,a,rfl,⟨_,AC.of ha⟩,[.int n],rfl,fun D hD=>?_⟩;refine BV (a:=a) (xs:=xs) (fun i ys H4=>ys.isEmpty=(ds.take i).all (BW n)/\ys.length<=(ds.take i).length/\AD H H4/\H4 D=some (.lst ys)) ⟨rfl,zg _,zH hD,zK⟩ (fun i ys H4 z=>?_) (fun i ys H4 z=>?_) (fun i x ys H4 hx z=>?_) (fun ys H4 z=>?_)
  . obtain⟨_,_,s4,_⟩:=z;exact AC.of (s4 _ _ ha)
  . obtain⟨_,hl,_⟩:=z;rw[zd] at hl;exact BS (by lia)
  . obtain⟨hy,hl,s4,h4⟩:=z;have hi:i<ds.length:=by have:=(zI.mp hx).1;lia
    obtain⟨x',dZ,Sx⟩:=Iy al (zB hi);rw[hx] at dZ;cases dZ;have et:(ds.take (i+1)).all (BW n)=((ds.take i).all (BW n) && BW n ds[i]):=by rw[zr,zB hi,List.all_append];show ((ds.take i).all (BW n) && (BW n ds[i] && true))=_;rw[Bool.and_true]
    refine⟨⟨rfl,rfl⟩,?_⟩;refine⟨_,rfl,_,rfl,n,x,ds[i],kb,lb,rfl,n0,Bj s4 Sx,ib.elem _ (Cq hi),hkb,hlb,fun H5 s5=>⟨BW n ds[i],rfl,?_⟩⟩;cases he:BW n ds[i] with
    | true=>refine Aj ?_;exact⟨by rw[et,he,Bool.and_true];exact hy,by rw[zd] at hl ⊢;lia,s4.trans s5,s5 _ _ h4⟩
    | false=>refine Aa ?_;exact⟨_,rfl,s5 _ _ h4,by rw[et,he,Bool.and_false];simp,by rw[zM,zd];rw[zd] at hl;show ys.length+1<=_;lia,A9 (s4.trans s5) hD,zK⟩
  . obtain⟨hy,hl,s4,h4⟩:=z;rw[iE,zW (zJ _)] at hy;refine⟨zg _,fun b hb=>?_⟩;have sb:=s4.trans (zH (o:=.lst []) hb);refine⟨D,b,ys,rfl,rfl,AE.of (zH hb _ _ h4),AE.of zK,?_⟩;rw[hy];exact k' _ sb
def Rk:Sp:=fun vs H Q _=>∃wa n ts p,vs=[.ref wa,.int p]/\BP H wa n ts /\
 ∀l zs ms H',AD H H'->H l=none->H' l=some (.lst zs)->A3 H' zs ms->ms.Perm (fd p ts)->P3 ms->Q (.ref l) H'
theorem NA:AX ["web","place","found","a","b","long"] MV (defScope MB):=Ad
theorem Wg (F:Fu K "ties_at" MB f dU) (da:mg "sorted"=none):AL P w K mg base AU 1 f dU MV Rk:=by
 refine F.okD NA fun _ A _ _ H vs Q E hr h=>?_;obtain⟨wa,n,ts,p,rfl,⟨ta,tys,eS,iG,TA,G⟩,k⟩:=h;refine⟨_,za (As (i:=2) NA.nd (CJ zQ))
  (za (A7 (BH (AF Ac (pv 0) zi)) (C6 rfl (Ai (Ae (i:=3) NA.nd) (Ai (Ae (i:=4) NA.nd) (Ai (Ae (i:=5) NA.nd) Ci))))
   (za (Aq (Ak Bh (pv 3) (pv 1) (AS _)) (ze (D7 (Em PySem.F.plainAttrs_list PySem.F.slot_list_append PySem.F.type_list_append HW (pv 2) (zE (AZ (zE (pv 4) (zE (pv 5) zQ))) zQ)))) Ao)
   (ze (Aq (Ak Bh (pv 4) (pv 1) (AS _)) (ze (D7 (Em PySem.F.plainAttrs_list PySem.F.slot_list_append PySem.F.type_list_append HW (pv 2) (zE (AZ (zE (pv 3) (zE (pv 5) zQ))) zQ)))) Ao))))
  (ze (AN (Ar ZO da (zE (pv 2) zQ))))),?_⟩
 refine⟨zg _,fun l hl=>?_⟩;have hwl:wa≠l:=zt eS hl;have htl:ta≠l:=zt iG hl;have dW:tys.length=ts.length:=by rw[TA.length,zD]
 refine⟨_,rfl,wa,_,_,_,rfl,rfl,AC.of (by rw[zk hwl];exact eS),rfl,ta,rfl,⟨_,AC.of (by rw[zk htl];exact iG)⟩,Pn (K:=K) (a:=ta) (xs:=tys)
  (fun i σ H2=>Qp fun (va vb vl:Option V)(xs:List V)=>σ=[some (.ref wa),some (.int p),some (.ref l),va,vb,vl]/\AD H H2/\H2 l=some (.lst xs)/\A3 H2 xs (fd p (ts.take i)))
  ⟨none,none,none,[],rfl,zH hl,zK,trivial⟩ (fun i σ H2 _ ⟨_,_,_,_,_,s2,_⟩=>AC.of (s2 _ _ iG)) ?turn ?after⟩
 case turn=>
  rintro i y σ H2 hi ⟨va,vb,vl,xs,rfl,s2,fZ,T2⟩;obtain⟨ya,ky,rfl,eM,hya,_⟩:=TA.get hi;rw[zO] at eM;obtain⟨⟨a,b,c⟩,hti,rfl⟩:∃t:T3,ts[i]?=some t/\tl t=ky:=by
   cases e:ts[i]? with
   | none=>rw[e] at eM;cases eM
   | some t=>rw[e] at eM;exact⟨t,rfl,zY eM⟩
  have iL:i<ts.length:=(zI.mp hti).1;have hlen:∀{xs':List V}{H3:Hp},A3 H3 xs' (fd p (ts.take i))->xs'.length<sizeLine:=fun T=>by have e1:=T.length;have e2:=Rz (n:=n) p (ts:=ts.take i) fun t ht=>(G.rng t (MK ht)).2.1;rw[zd] at e2;exact BS (by have:=G.len;lia)
  have hfd:fd p (ts.take (i+1))=fd p (ts.take i)++((if a=p then [[b,c]] else [])++(if b=p then [[a,c]] else [])):=by
   rw[zr,hti,Wb];show _++((if a=p then [[b,c]] else [])++(if b=p then [[a,c]] else [])++[])=_
   rw[BR]
  have iW:a<b:=(G.rng _ (zV hti)).2.1;refine⟨ya,_,rfl,AC.of (s2 _ _ hya),rfl,_,_,rfl,_,_,rfl,_,_,rfl,rfl,?_⟩;have app:∀{x:Int},∀q,H2 q=none->∃xs',(upd (upd H2 q (.tup [.int x,.int c])) l (.lst (xs++[.ref q]))) l=some (.lst xs')/\AD H (upd (upd H2 q (.tup [.int x,.int c])) l (.lst (xs++[.ref q])))/\A3 (upd (upd H2 q (.tup [.int x,.int c])) l (.lst (xs++[.ref q]))) xs' (fd p (ts.take i)++[[x,c]]):=by intro x q hq;have nlq:l≠q:=zt fZ hq;refine⟨_,zK,A9 (s2.trans (zH hq)) hl,(T2.keep fun e ys he=>?_).snoc ⟨q,rfl,by rw[zk nlq.symm,zK];rfl,by simp⟩⟩;rw[zk (Bn he fZ (by intro z;cases z)),zk (zt he hq)];exact he
  refine⟨_,rfl,_,rfl,rfl,_,rfl,?_⟩;refine Cg (fun h1=>?_) (fun h1=>?_)
  . have e1:a=p:=by have:=of_decide_eq_true h1;injection this
    have n2:¬ b=p:=by lia
    refine⟨_,rfl,.inl ⟨rfl,_,AE.of fZ⟩,_,rfl,_,rfl,Au,fun q hq=>?_⟩;have nlq:l≠q:=zt fZ hq;refine⟨l,_,_,rfl,rfl,by rw[zk nlq];exact fZ,hlen T2,?_⟩;refine⟨_,rfl,_,rfl,rfl,_,rfl,?_⟩;rw[show decide (V.int b=V.int p)=false from zR fun e=>n2 (by injection e)];refine Aj ?_;obtain⟨xs',g1,g2,g3⟩:=app (x:=b) q hq;refine⟨_,_,_,xs',rfl,g2,g1,?_⟩;rw[hfd,if_pos e1,if_neg n2];exact g3
  . have n1:¬ a=p:=fun e=>by have:=h1;rw[e] at this;exact this (zP rfl)
    refine⟨_,rfl,_,rfl,rfl,_,rfl,?_⟩;refine Cg (fun h2=>?_) (fun h2=>?_)
    . have e2:b=p:=by have:=of_decide_eq_true h2;injection this
      refine⟨_,rfl,.inl ⟨rfl,_,AE.of fZ⟩,_,rfl,_,rfl,Au,fun q hq=>?_⟩;have nlq:l≠q:=zt fZ hq;refine⟨l,_,_,rfl,rfl,by rw[zk nlq];exact fZ,hlen T2,?_⟩;obtain⟨xs',g1,g2,g3⟩:=app (x:=a) q hq;refine⟨_,_,_,xs',rfl,g2,g1,?_⟩;rw[hfd,if_neg n1,if_pos e2];exact g3
    . have n2:¬ b=p:=fun e=>by have:=h2;rw[e] at this;exact this (zP rfl)
      refine⟨_,_,_,xs,rfl,s2,fZ,?_⟩;rw[hfd,if_neg n1,if_neg n2,BR,BR];exact T2
 case after=>
  rintro σ H2 ⟨va,vb,vl,xs,rfl,s2,fZ,T2⟩;rw[dW,zW (zJ _)] at T2;have e2:=Rz (n:=n) p (ts:=ts) fun t ht=>(G.rng t ht).2.1;refine⟨_,rfl,l,xs,fd p ts,rfl,AE.of fZ,T2,by have:=G.len;lia,fun l' zs ms eO T3 hp hrs=>?_⟩;have nll:l'≠l:=fun e=>by rw[e,fZ] at eO;cases eO
  have hl0:H l'=none:=by
   cases q:H l' with
   | none=>rfl
   | some o=>have:=s2 l' o q;rw[eO] at this;cases this
  exact k l' zs ms _ (s2.trans (zH eO)) hl0 zK (T3.keep fun e ys he=>zH eO _ _ he) hp hrs
def QA:Sp:=fun vs H Q _=>∃wa n ts one other,vs=[.ref wa,.int one,.int other]/\BP H wa n ts /\
 ∀r H',AD H H'->((∃l,Ah ts one other l/\r=.int l)\/((∀l,¬ Ah ts one other l)/\r=.non))->Q r H'
theorem SS:AX ["web","one","other","place","long"] MQ (defScope ME):=Ad
theorem Xy {fT:Addr}(F:Fu K "long_of" ME f dU) (FT:AH K mg "ties_at" MB fT fdT MV) (da:mg "sorted"=none):
 AL P w K mg base AU 2 f dU MQ QA:=by
 have GT:AM P w base 1 FT Rk:=Wg FT.F da;refine F.okD SS fun _ A _ _ H vs Q E hr h=>?_;obtain⟨wa,n,ts,one,other,rfl,W,k⟩:=h;refine⟨_,za (A7 (F3 (AO GT hr FT (zE (pv 0) (zE (pv 1) zQ)))) (C6 rfl (Ai (Ae (i:=3) SS.nd) (Ai (Ae (i:=4) SS.nd) Ci)))
  (ze (Aq (Ak Bh (pv 3) (pv 2) (AS _)) (ze (AN (pv 4))) Ao)))
  (ze (AN An)),?_⟩
 refine⟨_,rfl,_,rfl,wa,n,ts,one,rfl,W,fun l zs ms H1 s1 hl0 hl1 T1 hp _=>?_⟩;refine⟨l,rfl,⟨_,AE.of hl1⟩,HM (K:=K) (a:=l) (xs:=zs) (fun i σ H2=>F8 fun (va vb:Option V)=>σ=[some (.ref wa),some (.int one),some (.int other),va,vb]/\H2=H1/\∀j k,j<i->ms[j]?=some k->hd k≠other)
  ⟨none,none,rfl,rfl,fun j _ h=>by lia⟩ (fun i σ H2 _ ⟨_,_,_,e,_⟩=>e ▸ AE.of hl1) ?turn ?after⟩
 case turn=>
  rintro i y σ H2 hi ⟨va,vb,rfl,rfl,ft⟩;obtain⟨ya,ky,rfl,eM,hya,_⟩:=T1.get hi;have hm:ky∈fd one ts:=hp.mem_iff.mp (zV eM);obtain⟨z,c,rfl,ha⟩:=MI.mp hm;refine⟨ya,_,rfl,AC.of hya,rfl,_,_,rfl,_,_,rfl,rfl,?_⟩;refine⟨_,rfl,_,rfl,rfl,_,rfl,?_⟩;refine Cg (fun h1=>?_) (fun h1=>?_)
  . have e1:z=other:=by have:=of_decide_eq_true h1;injection this
    subst e1;exact⟨_,rfl,k _ _ s1 (.inl ⟨c,ha,rfl⟩)⟩
  . have n1:z≠other:=fun e=>by have:=h1;rw[e] at this;exact this (zP rfl)
    refine⟨_,_,rfl,rfl,fun j kj hj hkj=>?_⟩;by_cases hji:j<i
    . exact ft j kj hji hkj
    . have e:j=i:=by lia
      subst e;rw[eM] at hkj;cases hkj;exact n1
 case after=>
  rintro σ H2 ⟨va,vb,rfl,rfl,ft⟩;refine k _ _ s1 (.inr ⟨fun c ha=>?_,rfl⟩);have hm:[other,c]∈ms:=hp.mem_iff.mpr (MI.mpr ⟨other,c,rfl,ha⟩);obtain⟨j,hj,e⟩:=zy hm;exact ft j _ (by have:=T1.length;lia) (by rw[zB hj,e]) rfl
noncomputable def eV (e:En):List V:=[.int e.h,.int e.l,oV e.u,oV e.d]
def B4 (H:Hp)(as:List Addr)(es:List En):Prop:=as.length=es.length/\∀(i:Nat)a,as[i]?=some a->∃e,es[i]?=some e/\H a=some (.tup (eV e))
def Bz (H:Hp)(p:Addr)(es:List En):Prop:=∃as:List Addr,H p=some (.tup (as.map V.ref))/\B4 H as es/\es.length<=1000
theorem B4.keep (h:B4 H as es)(k:∀b ys,H b=some (.tup ys)->H' b=some (.tup ys)):B4 H' as es:=
 ⟨h.1,fun i a ha=>let ⟨e,h1,h2⟩:=h.2 i a ha;⟨e,h1,k _ _ h2⟩⟩
theorem B4.snoc (h:B4 H as es)(ha:H a=some (.tup (eV e))):B4 H (as++[a]) (es++[e]):=by
 refine⟨by rw[zM,zM,h.1];rfl,fun i b hb=>?_⟩;by_cases c:i<as.length
 . rw[zb c] at hb;obtain⟨e',h1,h2⟩:=h.2 i b hb;exact⟨e',by rw[zb (by rw[<-h.1];exact c)];exact h1,h2⟩
 . rw[zX (by lia)] at hb;have hi:i-as.length=0:=by
    cases z:i-as.length with
    | zero=>rfl
    | succ m=>rw[z] at hb;simp at hb
   rw[hi] at hb;have:a=b:=by simpa using hb
   subst this;exact⟨e,by rw[zX (by rw[<-h.1];lia),<-h.1,hi];rfl,ha⟩
theorem Bz.keep (h:Bz H p es)(k:∀b ys,H b=some (.tup ys)->H' b=some (.tup ys)):Bz H' p es:=
 let ⟨as,h1,h2,h3⟩:=h;⟨as,k _ _ h1,h2.keep k,h3⟩
theorem Bz.same (h:Bz H p es)(k:AD H H'):Bz H' p es:=h.keep fun b ys e=>k _ _ e
theorem B4.at (h:B4 H as es){i:Nat}(hv:(as.map V.ref)[i]?=some v):∃a e,v=.ref a/\es[i]?=some e/\H a=some (.tup (eV e)):=by
 rw[zO] at hv;cases z:as[i]? with
 | none=>rw[z] at hv;cases hv
 | some a=>rw[z] at hv;obtain⟨e,h1,h2⟩:=h.2 i a z;exact⟨a,e,(zY hv).symm,h1,h2⟩
def Hm:Sp:=fun vs H Q _=>∃p es e r,vs=[.ref p]/\Bz H p es/\es.filter (fun e=>decide (e.l=0))=e::r/\∀H',AD H H'->Q (.int e.h) H'
def Ij:Sp:=fun vs H Q _=>∃p q es fs,vs=[.ref p,.ref q]/\Bz H p es/\Bz H q fs/\C3 fs /\
 ∀r lm H',AD H H'->Cf (Cd es fs) lm->H' r=some (.tup [oV (lm.map (·.1)),oV (lm.map (·.2))])->Q (.ref r) H'
def QI:Sp:=fun vs H Q _=>∃p q es fs,vs=[.ref p,.ref q]/\Bz H p es/\Bz H q fs/\C3 fs /\
 ∀lm H',AD H H'->Cf (Cd es fs) lm->Q (oV (lm.map (·.1))) H'
def IL:Sp:=fun vs H Q _=>∃p es x,vs=[.ref p,.int x]/\Bz H p es /\
 (BY es x=none->Q .non H)/\(∀e a,BY es x=some e->H a=some (.tup (eV e))->Q (.ref a) H)
theorem Bk (h:n<=1000):n<sizeLine:=CG h (by decide)
theorem PR:AX ["label"] ["label"] (defScope Et):=Ad
theorem Km (F:Fu K "own_place" Et f dU):AL P w K mg base AU 1 f dU ["label"] Hm:=by
 refine F.okD PR fun _ A _ _ H vs Q E hr h=>?_;obtain⟨p,es,e,r,rfl,L,hf,k⟩:=h;obtain⟨as,hp,EA,hl⟩:=id L;refine⟨_,ze (AN (AF Ab (B0 (own:=TC) (cn:=[]) (ci:=[]) rfl (BK rfl rfl) trivial rfl (BH (pv 0))
  (fun _ _ _ _=>RH (n:=4) rfl (Ai (BJ) (Ai (B5 (i:=1) (D1 rfl) rfl (Or.inl rfl)) (Ai (B5 (i:=2) (D1 rfl) rfl (Or.inl rfl)) (Ai (B5 (i:=3) (D1 rfl) rfl (Or.inl rfl)) Ci)))))
  (fun _ _ _ _=>El (Ak Bh (pv 1) zi (AS _))) (fun _ _ _ _=>pv 0)) zi)),?_⟩
 refine⟨_,rfl,p,rfl,⟨_,AC.of hp⟩,[],rfl,fun D hD=>?_⟩;refine BV (a:=p) (xs:=as.map V.ref) (fun i ys H4=>ys=((es.take i).filter fun e=>decide (e.l=0)).map (fun e=>V.int e.h)/\H4=upd H D (.lst ys)) ⟨rfl,rfl⟩ (fun i ys H4 h=>?_) (fun i ys H4 h=>?_) (fun i v ys H4 hv h=>?_) (fun ys H4 h=>?_)
 . obtain⟨_,rfl⟩:=h;exact AC.of (by rw[zk (zt hp hD)];exact hp)
 . obtain⟨rfl,_⟩:=h;rw[zD];exact CG (EH _ _) (Bk (by rw[zd];lia))
 . obtain⟨rfl,rfl⟩:=h;obtain⟨a,x,rfl,hx,ha⟩:=EA.at hv;refine⟨a,_,rfl,AC.of (by rw[zk (zt ha hD)];exact ha),rfl,_,_,rfl,_,_,rfl,_,_,rfl,_,_,rfl,rfl,⟨rfl,rfl⟩,?_⟩;refine⟨_,rfl,rfl,_,rfl,?_⟩;rw[Fi];have st:=Pq (fun e:En=>decide (e.l=0)) hx;refine Cg (fun c=>?_) (fun c=>?_)
   . refine⟨_,rfl,zK,?_,Gj⟩;rw[st,if_pos c,zf];rfl
   . refine⟨?_,rfl⟩;rw[st,if_neg c,BR]
 . obtain⟨rfl,rfl⟩:=h;rw[zD,EA.1,zW (zJ _),hf];exact⟨D,_,_,.int e.h,rfl,rfl,AE.of zK,Cr (by decide) rfl,k _ (zH hD)⟩
theorem Hk:AX ["label","hub","entry"] O9 (defScope E6):=Ad
theorem K7 (F:Fu K "entry_of" E6 f dU):AL P w K mg base AU 1 f dU O9 IL:=by
 refine F.okD Hk fun _ A _ _ H vs Q E hr h=>?_;obtain⟨p,es,x,rfl,L,kn,ks⟩:=h;obtain⟨as,hp,EA,hl⟩:=id L;refine⟨_,za (A7 (BH (pv 0)) (Ae (i:=2) Hk.nd)
  (ze (Aq (Ak Bh (AF Ac (pv 2) zi) (pv 1) (AS _)) (ze (AN (pv 2))) Ao)))
  (ze (AN An)),?_⟩
 refine⟨_,rfl,p,rfl,⟨_,AC.of hp⟩,Pn (K:=K) (a:=p) (xs:=as.map V.ref) (fun i σ H2=>∃va:Option V,σ=[some (.ref p),some (.int x),va]/\H2=H/\∀e∈es.take i,e.h≠x)
  ⟨none,rfl,rfl,fun e he=>by simp at he⟩ (fun i σ H2 _ ⟨_,_,e,_⟩=>e ▸ AC.of hp) ?turn ?after⟩
 case turn=>
  rintro i y σ H2 hi ⟨va,rfl,rfl,ft⟩;obtain⟨a,e,rfl,he,ha⟩:=EA.at hi;refine⟨_,rfl,a,_,_,.int e.h,rfl,rfl,AC.of ha,rfl,_,rfl,rfl,_,rfl,?_⟩;rw[Fi];refine Cg (fun c=>?_) (fun c=>?_)
  . have c':e.h=x:=of_decide_eq_true c;refine⟨_,rfl,ks e a ?_ ha⟩;unfold BY;have dW:=(zI.mp he).1;rw[<-MJ i es,List.find?_append,List.find?_eq_none.mpr (fun f hf=>by simpa using ft f hf)];rw[List.drop_eq_getElem_cons dW,(zI.mp he).2,HV,zP c'];rfl
  . refine⟨_,rfl,rfl,fun f hf=>?_⟩;rw[zr,he] at hf;rcases zj.mp hf with z | z
    . exact ft f z
    . have:f=e:=by simpa using z
      subst this;exact fun q=>c (zP q)
 case after=>
  rintro σ H2 ⟨va,rfl,rfl,ft⟩;refine kn (Vk.mpr fun e he=>ft e ?_);rw[zD,EA.1,zW (zJ _)];exact he
theorem SQ:AX ["one","other","longs","sums"] EN (defScope Fc):=Ad
theorem Jq (F:Fu K "least_sum" Fc f dU) (d9:mg "dict"=none) (eN:mg "min"=none):AL P w K mg base AU 1 f dU EN Ij:=by
 refine F.okD SQ fun _ A _ _ H vs Q E hr h=>?_;obtain⟨p,q,es,fs,rfl,L1,L2',hF,k⟩:=h;obtain⟨as,hp,EA,hl⟩:=id L1;obtain⟨bs,hq,EB,fZ⟩:=id L2';have hu:=Ge hr;refine⟨_,za (HN (i:=2) SQ.nd rfl (Or.inr rfl) (DH (RF rfl) d9 (zE
  (B0 (own:=TC) (cn:=[]) (ci:=[]) rfl (BK rfl rfl) trivial rfl (BH (pv 1))
   (fun _ _ _ _=>RH (n:=4) rfl (Ai (BJ) (Ai (B5 (i:=1) (D1 rfl) rfl (Or.inl rfl)) (Ai (B5 (i:=2) (D1 rfl) rfl (Or.inl rfl)) (Ai (B5 (i:=3) (D1 rfl) rfl (Or.inl rfl)) Ci)))))
   (fun _ _ _ _=>CD) (fun _ _ _ _=>AZ (zE (pv 0) (zE (pv 1) zQ)))) zQ)))
  (za (HL (i:=3) (own:=TC) (cn:=["longs"]) (ci:=[2]) SQ.nd rfl (Or.inl rfl) rfl (BK rfl rfl) ⟨rfl,rfl,rfl,trivial⟩ rfl (BH (pv 0))
   (fun _ _ _ _=>RH (n:=4) rfl (Ai (BJ) (Ai (B5 (i:=1) (D1 rfl) rfl (Or.inl rfl)) (Ai (B5 (i:=2) (D1 rfl) rfl (Or.inl rfl)) (Ai (B5 (i:=3) (D1 rfl) rfl (Or.inl rfl)) Ci)))))
   (fun _ _ _ _=>El (JT (Pj hu (pv 0) (pv 4)))) (fun _ _ _ _=>AZ (zE (AV CK (pv 1) (JE hu (pv 4) (pv 0) (fun _ _=>rfl))) (zE (pv 0) zQ))))
  (ze (AN (ZA rfl hu (by rfl) eN (zE (pv 3) zQ) (AZ (zE An (zE An zQ))))))),?_⟩
 refine⟨_,rfl,q,rfl,⟨_,AC.of hq⟩,[],rfl,fun D hD=>?_⟩;refine BV (a:=q) (xs:=bs.map V.ref) (fun i ys H4=>i<=fs.length/\ys.length=i/\(∀(j:Nat)(y:V),ys[j]?=some y->∃c e,y=.ref c/\fs[j]?=some e/\H4 c=some (.tup [.int e.h,.int e.l]))/\AD H H4/\H4 D=some (.lst ys)) ⟨zg _,rfl,fun j y z=>by simp at z,zH hD,zK⟩ (fun i ys H4 h=>?_) (fun i ys H4 h=>?_) (fun i v ys H4 hv h=>?_) (fun ys H4 h=>?_)
 . exact AC.of (h.2.2.2.1 _ _ hq)
 . exact Bk (by have:=h.1;have:=h.2.1;lia)
 . obtain⟨hi,fm,il,s4,eR⟩:=h;obtain⟨a,x,rfl,hx,ha⟩:=EB.at hv;refine⟨a,_,rfl,AC.of (s4 _ _ ha),rfl,_,_,rfl,_,_,rfl,_,_,rfl,_,_,rfl,rfl,⟨rfl,rfl⟩,?_⟩;refine CC ?_;refine⟨_,rfl,_,rfl,Au,fun c hc=>?_⟩;have nDc:D≠c:=zt eR hc;refine⟨zH hc _ _ eR,(zI.mp hx).1,by rw[zM,fm];rfl,fun j y hy=>?_,A9 (s4.trans (zH hc)) hD,zK⟩;by_cases cj:j<i
   . rw[zb (by lia)] at hy;obtain⟨c',e,h1,h2,h3⟩:=il j y hy;refine⟨c',e,h1,h2,?_⟩;rw[zk (Bn h3 eR (by intro z;cases z))];exact zH hc _ _ h3
   . have ej:j=i:=by have:=(zI.mp hy).1;rw[zM,fm] at this;simp at this;lia
     subst ej;rw[zX (by lia),fm,Eg] at hy;have ey:V.ref c=y:=by simpa using hy
     subst ey;exact⟨c,x,rfl,hx,by rw[zk (Ne.symm nDc)];exact zK⟩
 . obtain⟨_,fm,il,s4,eR⟩:=h;rw[zD,EB.1] at fm;refine⟨D,ys,fs.map fun e=>(Sum.inl e.h,V.int e.l),rfl,AE.of eR,⟨by rw[zD,fm],fun j y hy=>?_⟩,fun dd iA=>?_⟩
   . obtain⟨c,e,h1,h2,h3⟩:=il j y hy;exact⟨c,Sum.inl e.h,.int e.l,h1,h3,by rw[zO,h2];rfl⟩
   have hnd:((fs.map fun e=>((Sum.inl e.h:AR),V.int e.l)).map (·.1)).Nodup:=by rw[List.map_map,List.Nodup,G9];exact hF.imp fun h z=>by injection z with z;lia
   rw[Qu hnd];have eG:∀x:Int,Af (fs.map fun e=>((Sum.inl e.h:AR),V.int e.l)) (Sum.inl x)=(BY fs x).map fun e=>V.int e.l:=fun x=>by
    unfold Af BY;rw[List.find?_map,Option.map_map];have:((fun kv:AR×V=>decide (kv.1=Sum.inl x))∘fun e:En=>((Sum.inl e.h:AR),V.int e.l))=fun e:En=>decide (e.h=x):=by
     funext e;show decide ((Sum.inl e.h:AR)=Sum.inl x)=_;by_cases c:e.h=x
     . rw[zP c,zP (by rw[c])]
     . rw[zR c,zR (by intro z;injection z with z;exact c z)]
    rw[this];rfl
   have s5:AD H (upd H4 dd (.dK (fs.map fun e=>(Sum.inl e.h,V.int e.l)))):=s4.trans (zH iA);have iO:(upd H4 dd (.dK (fs.map fun e=>((Sum.inl e.h:AR),V.int e.l)))) dd=some (.dK (fs.map fun e=>(Sum.inl e.h,V.int e.l))):=zK;generalize upd H4 dd (.dK (fs.map fun e=>((Sum.inl e.h:AR),V.int e.l)))=H5 at s5 iO ⊢;generalize (fs.map fun e=>((Sum.inl e.h:AR),V.int e.l))=dQ at eG iO;refine⟨_,rfl,p,rfl,⟨_,AC.of (s5 _ _ hp)⟩,[.ref dd],rfl,fun D2 dg=>?_⟩;refine BV (a:=p) (xs:=as.map V.ref) (fun i ys H6=>A3 H6 ys (((es.take i).filterMap (CA fs)).map fun c=>[c.1,c.2])/\AD H5 H6/\H6 D2=some (.lst ys)) ⟨trivial,zH dg,zK⟩ (fun i ys H6 h=>?_) (fun i ys H6 h=>?_) (fun i v ys H6 hv h=>?_) (fun ys H6 h=>?_)
   . exact AC.of (h.2.1 _ _ (s5 _ _ hp))
   . have:=h.1.length;rw[this,zD];exact CG (List.length_filterMap_le _ _) (Bk (by rw[zd];lia))
   . obtain⟨T6,s6,gH⟩:=h;obtain⟨a,x,rfl,hx,ha⟩:=EA.at hv;refine⟨a,_,rfl,AC.of (s6 _ _ (s5 _ _ ha)),rfl,_,_,rfl,_,_,rfl,_,_,rfl,_,_,rfl,rfl,⟨rfl,rfl⟩,?_⟩;refine⟨_,rfl,_,rfl,dd,_,rfl,BG.k (k:=Sum.inl x.h) (s6 _ _ iO),_,rfl,?_⟩;have st:=VB (CA fs) hx;have gQ:=eG x.h;cases e:BY fs x.h with
     | none=>
      rw[e] at gQ;rw[gQ];refine Aj ?_;have ec:CA fs x=none:=by unfold CA;rw[e];rfl
      refine⟨?_,s6,gH⟩;rw[st,ec];simpa using T6
     | some g=>
      rw[e] at gQ;have hv3:Af dQ (Sum.inl x.h)=some (.int g.l):=gQ;rw[hv3];refine Aa ?_;have ec:CA fs x=some (x.l+g.l,x.h):=by unfold CA;rw[e];rfl
      refine⟨_,rfl,_,rfl,_,rfl,dd,.int g.l,rfl,hv3 ▸ BG.k (k:=Sum.inl x.h) (s6 _ _ iO),_,_,rfl,rfl,_,rfl,Au,fun c hc=>?_⟩;refine⟨zH hc _ _ gH,?_,A9 (s6.trans (zH hc)) dg,zK⟩;rw[st,ec,zf];refine A3.snoc (T6.keep fun b zs e=>?_) ⟨c,rfl,?_,by intro z;cases z⟩
      . rw[zk (Bn e gH (by intro z;cases z))];exact zH hc _ _ e
      . rw[zk (Ne.symm (zt gH hc))];exact zK
   . obtain⟨T6,s6,gH⟩:=h;rw[zD,EA.1,zW (zJ _)] at T6;have hmem:=fun c=>JR (es:=es) hF c;generalize es.filterMap (CA fs)=cs at T6 hmem;refine⟨_,rfl,_,rfl,Au,fun n hn=>?_⟩;have s7:AD H (upd H6 n (.tup [.non,.non])):=(s5.trans s6).trans (zH hn);refine⟨D2,ys,rfl,.inl (AE.of (zH hn _ _ gH)),fun e0=>?_,.inl ⟨_,T6.keep fun b zs e=>zH hn _ _ e,fun i y kk hy hk fY=>?_⟩⟩
     . refine k n none _ s7 (fun c z=>?_) zK;have:cs=[]:=by have:=T6.length;rw[e0,zD] at this;exact Ld.mp this.symm
       rw[<-hmem,this] at z;simp at z
     . obtain⟨a,k',e1,e2,e3,_⟩:=T6.get hy;rw[hk] at e2;cases e2;rw[zO] at hk;cases ec:cs[i]? with
       | none=>rw[ec] at hk;cases hk
       | some c=>
        rw[ec] at hk;have ek:[c.1,c.2]=kk:=zY hk;subst ek e1;refine k a (some c) _ s7 ⟨(hmem c).mp (zV ec),fun c' gF=>?_⟩ (zH hn _ _ e3);have:=fY [c'.1,c'.2] (Be.mpr ⟨c',(hmem c').mpr gF,rfl⟩);rw[HT.lexLt_cons] at this;by_cases q:c'.1=c.1
        . rw[if_pos q,HT.lexLt_cons] at this;by_cases q2:c'.2=c.2
          . exact .inr ⟨q.symm,by lia⟩
          . rw[if_neg q2] at this;have:=of_decide_eq_false this;exact .inr ⟨q.symm,by lia⟩
        . rw[if_neg q] at this;have:=of_decide_eq_false this;exact .inl (by lia)
theorem JZ:AX EN EN (defScope MC):=Ad
theorem Zw (F:Fu K "told" MC f dU) (FS:AH K mg "least_sum" Fc fS fdS EN) (d9:mg "dict"=none) (eN:mg "min"=none):AL P w K mg base AU 2 f dU EN QI:=by have GS:AM P w base 1 FS Ij:=Jq FS.F d9 eN;refine F.okD JZ fun _ A _ _ H vs Q E hr h=>?_;obtain⟨p,q,es,fs,rfl,L1,L2',hF,k⟩:=h;refine⟨_,ze (AN (AF Ac (AO GS hr FS (zE (pv 0) (zE (pv 1) zQ))) zi)),?_⟩;refine⟨_,rfl,_,rfl,p,q,es,fs,rfl,L1,L2',hF,fun r lm H' s1 hm f9=>?_⟩;exact⟨r,_,_,_,rfl,rfl,AC.of f9,rfl,k lm H' s1 hm⟩
def Gn (ts:List T3)(rk:Int->Int)(h v:Int):Prop:=(∃d,WM.IsD ts h v d)/\∀p,Xj ts h v p->rk h<=rk p
def Df (P:Int->Prop):Option Int->Prop
 | none=>∀p,¬ P p
 | some m=>P m/\∀p,P p->m<=p
structure Pm (ts:List T3)(n:Int)(rk:Int->Int)(v:Int)(e:En):Prop where
 rng:0<=e.h/\e.h<n
 hub:Gn ts rk e.h v
 len:WM.IsD ts v e.h e.l
 up:Df (Cp ts v e.h) e.u
 dn:Df (Cp ts e.h v) e.d
structure Ht (ts:List T3)(n:Int)(rk:Int->Int)(v:Int)(es:List En):Prop where
 hub:C3 es
 ent:∀e∈es,Pm ts n rk v e
 all:∀h,0<=h->h<n->Gn ts rk h v->∃e∈es,e.h=h
 len:es.length<=24
def Bp (H:Hp)(l:Addr)(dP:List (List En)):Prop:=∃as:List Addr,H l=some (.tup (as.map V.ref))/\as.length=dP.length/\∀(i:Nat)a,as[i]?=some a->∃es,dP[i]?=some es/\Bz H a es
theorem Bp.keep (h:Bp H l dP)(k:∀b ys,H b=some (.tup ys)->H' b=some (.tup ys)):Bp H' l dP:=
 let ⟨as,h1,h2,h3⟩:=h;⟨as,k _ _ h1,h2,fun i a ha=>let ⟨es,e1,e2⟩:=h3 i a ha;⟨es,e1,e2.keep k⟩⟩
theorem cX (R:Rows ts n M)(x0:0<=x)(x1:x<n)(y0:0<=y)(y1:y<n)(h:WM.IsD ts x y d):0<=d/\d<=2376:=by
 have L:=R.2 x x0 x1;have l:=L.len y y0 y1;cases e:A6 (M.getD x.toNat []) y with
 | none=>rw[e] at l;exact absurd h.1 (l d)
 | some d'=>
  rw[e] at l;have ed:d'=d:=WM.IsD.uniq l h;subst ed;refine L.bd (some d') ?_ d' rfl;unfold A6 at e;rw[if_pos y0,zF] at e;cases e2:(M.getD x.toNat [])[y.toNat]? with
  | none=>rw[e2] at e;cases e
  | some o=>rw[e2] at e;have eo:o=some d':=e;rw[<-eo];exact zV e2
structure Iu (n:Int)(os:List Int):Prop where
 ln:os.length=n.toNat
 nd:os.Nodup
 rng:∀p∈os,0<=p/\p<n
def DY (n:Int)(os:List Int)(rk:Int->Int):Prop:=∀p,0<=p->p<n->0<=rk p/\os[(rk p).toNat]?=some p
def R9 (ts:List T3)(n:Int)(rk:Int->Int)(dP:List (List En)):Prop:=dP.length=n.toNat/\∀(i:Nat)es,dP[i]?=some es->Ht ts n rk i es
theorem Iu.mem {os:List Int}(O:Iu n os)(h0:0<=p)(h1:p<n):p∈os:=by
 apply Ir;intro hn;have:=Ru (n:=n.toNat) (l:=p::os) (F6.mpr ⟨hn,O.nd⟩) fun x hx=>by
  rcases zT.mp hx with rfl | hx
  . lia
  . have:=O.rng x hx;lia
 rw[zo,O.ln] at this
 lia
theorem VA (q):lowTo (q+1)=lowTo q++[(q:Int)]:=by unfold lowTo;rw[List.range_succ,zf];rfl
theorem UW (q):(lowTo q).length=q:=by unfold lowTo;rw[zD,Bu]
theorem VI:∀(l:List Int)(k:Nat),(l.map V.int).eraseIdx k=(l.eraseIdx k).map V.int
 | [],_=>rfl
 | _::_,0=>rfl
 | x::r,k+1=>by show V.int x::(r.map V.int).eraseIdx k=V.int x::(r.eraseIdx k).map V.int;rw[VI r k]
theorem UN:∀{l:List Int}{k:Nat}(h:k<l.length),(l[k]::l.eraseIdx k).Perm l
 | [],_,h=>absurd h (C1 _)
 | _::_,0,_=>List.Perm.refl _
 | x::r,k+1,h=>by
  have hk:k<r.length:=by simpa using h
  show (r[k]::x::r.eraseIdx k).Perm (x::r);exact (List.Perm.swap x r[k] _).trans ((UN hk).cons x)
def UT:Sp:=fun vs H Q _=>∃t N n,vs=[.ref t,.int n]/\AY H t N/\N<900000/\1<=n/\n<=24 /\
 ∀l os H',H' l=some (.tup (os.map V.int))->Iu n os->AY H' t (N+24)->Sm t H H'->Q (.ref l) H'
theorem QS:AX ["_law_tape_here","_law_n","_law_left","_law_found_here","_law_k"] Hj (defScope P7):=Ad
theorem aL (F:Fu K "_law_order" P7 f dU) (FD:AH K mg "_law_draw" HY fD fdD IT)
 (dY:mg "len"=none) (dR:mg "range"=none) (dS:mg "tuple"=none) (eD:mg "list"=none):AL P w K mg base AU 2 f dU Hj UT:=by
 have GD:AM P w base 1 FD Qq:=RJ FD.F dY;refine F.okD QS fun _ A _ _ H vs Q E hr h=>?_;obtain⟨t,N,n,rfl,TT,hN,iu,iJ,k⟩:=h;obtain⟨tp,TP⟩:=TT;refine⟨_,za (As (i:=2) QS.nd (cN rfl rfl eD rfl dR (zE (pv 1) zQ)))
  (za (As (i:=3) QS.nd (CJ zQ))
  (za (A7 (B8 rfl dR (zE (pv 1) zQ)) (Ae (i:=4) QS.nd)
   (ze (D7 (Em PySem.F.plainAttrs_list PySem.F.slot_list_append PySem.F.type_list_append HW (pv 3)
    (zE (Em PySem.F.plainAttrs_list PySem.F.slot_list_pop PySem.F.type_list_pop X3 (pv 2)
     (zE (AO GD hr FD (zE (pv 0) (zE (Ar D6 dY (zE (pv 2) zQ)) zQ))) zQ)) zQ)))))
  (ze (AN (DH Lm dS (zE (pv 3) zQ)))))),?_⟩
 refine⟨_,rfl,n,rfl,by lia,by lia,fun lf hlf=>?_⟩;obtain⟨ns0,sp0,re0,ht0,hp0,_⟩:=id TP;have nlt:lf≠t:=(zt ht0 hlf).symm;have nlp:lf≠tp:=(zt hp0 hlf).symm;refine⟨zg _,fun D hD=>?_⟩;have nDl:D≠lf:=fun z=>by rw[z,zK] at hD;cases hD
 have hD0:H D=none:=by rw[zk nDl] at hD;exact hD
 have nDt:D≠t:=(zt ht0 hD0).symm;have nDp:D≠tp:=(zt hp0 hD0).symm;refine⟨_,rfl,n,rfl,by lia,by lia,CS (lo:=0) (n:=n.toNat) (fun q σ H2=>IV fun (v4:Option V)(row left:List Int)=>σ=[some (.ref t),some (.int n),some (.ref lf),some (.ref D),v4]/\row.length=q/\(row++left).Perm (lowTo n.toNat)/\H2 lf=some (.lst (left.map V.int))/\H2 D=some (.lst (row.map V.int))/\GK H2 t tp (N+q)/\Sm t H H2)
  ⟨none,[],lowTo n.toNat,rfl,rfl,List.Perm.refl _,by rw[zk nDl.symm,zK],zK,TP.keepF (fun o e=>by rw[zk nDt.symm,zk nlt.symm];exact e) (fun o e=>by rw[zk nDp.symm,zk nlp.symm];exact e) (by lia),(Sm.laid hlf).chg hD0⟩ ?turn ?after⟩
 case after=>
  rintro σ H2 ⟨v4,row,left,rfl,hl,hp,hlf2,dg,TP2,s2⟩;have hleft:left=[]:=by have:=hp.length_eq;rw[zM,UW,hl] at this;exact Ld.mp (by lia)
  subst hleft;rw[BR] at hp;have nd:row.Nodup:=hp.nodup_iff.mpr ((XJ _).imp fun h=>by lia);refine⟨_,rfl,D,_,rfl,.inl ⟨AE.of dg,fun l eO=>?_⟩⟩;refine k l row _ zK ⟨hl,nd,fun p hJ=>?_⟩ (AY.mono (AY.laid ⟨tp,TP2⟩ eO) (by lia)) (s2.trans (Sm.laid eO));have:=R8.mp (hp.mem_iff.mp hJ)
  lia
 case turn=>
  rintro q σ H2 hq ⟨v4,row,left,rfl,hl,hp,hlf2,dg,TP2,s2⟩;have hll:row.length+left.length=n.toNat:=by have:=hp.length_eq;rw[zM,UW] at this;exact this
  refine⟨_,rfl,.inl ⟨rfl,_,AE.of dg⟩,_,rfl,.inl ⟨rfl,_,AE.of hlf2⟩,?_⟩;refine⟨_,rfl,_,rfl,lf,_,rfl,.inl (AE.of hlf2),t,tp,N+q,_,rfl,TP2,by lia,by rw[zD];lia,by rw[zD];lia,fun rr H3 h0 h1 TP3 e3=>?_⟩;rw[zD] at h1;have dW:rr.toNat<left.length:=by lia
  refine⟨lf,left.map V.int,rr,rr.toNat,.int left[rr.toNat],rfl,rfl,by rw[e3 lf nlt];exact hlf2,by lia,by lia,PySem.StrLaws.seqIndex_nonneg h0 (by rw[zD];lia),by rw[zO,zB dW];rfl,?_⟩;rw[VI left rr.toNat];have s3:Sm t H H3:=fun b o nb e=>by rw[e3 b nb];exact s2 b o nb e
  have hlf0:H lf=none:=hlf;refine⟨D,_,_,rfl,rfl,by rw[zk nDl,e3 D nDt];exact dg,by rw[zD];exact BS (by lia),?_⟩;refine⟨_,row++[left[rr.toNat]],left.eraseIdx rr.toNat,rfl,by rw[zM,hl];rfl,?_,by rw[zk nDl.symm,zK],by rw[zf];exact zK,TP3.keepF (fun o e=>by rw[zk nDt.symm,zk nlt.symm];exact e) (fun o e=>by rw[zk nDp.symm,zk nlp.symm];exact e) (by lia),(s3.chg hlf0).chg hD0⟩;refine List.Perm.trans ?_ hp;rw[List.append_assoc];exact (UN dW).append_left row
theorem HX (a):decide (oV (some a)=V.non)=false:=zR (by intro z;cases z)
def Q7:Sp:=fun vs H Q _=>∃a b:Option Int,vs=[oV a,oV b]/\Q (oV (DX a b)) H
def He:Sp:=fun vs H Q _=>∃a b:Option Int,vs=[oV a,oV b]/\Q (oV (Dg a b)) H
def CY (H:Hp)(rs:List Addr)(M:DE):Prop:=rs.length=M.length/\rs.Nodup/\∀(i:Nat)r row,rs[i]?=some r->M[i]?=some row->H r=some (.lst (row.map oV))
theorem CY.keep (h:CY H rs M)(k:∀b ys,H b=some (.lst ys)->b∈rs->H' b=some (.lst ys)):CY H' rs M:=⟨h.1,h.2.1,fun i r row a b=>k r _ (h.2.2 i r row a b) (zV a)⟩
theorem CY.get (h:CY H rs M)(S:Ck n M)(ha:0<=a)(gN:a<n):∃r row,rs[a.toNat]?=some r/\M[a.toNat]?=some row/\M.getD a.toNat []=row/\row.length=n.toNat/\H r=some (.lst (row.map oV))/\∀y,A6 row y=A4 M a y:=by
 obtain⟨row,h1,h2,h3⟩:=S.row ha gN;have hl:a.toNat<rs.length:=by rw[h.1,S.ln];lia
 exact⟨rs[a.toNat],row,zB hl,h1,h2,h3,h.2.2 _ _ _ (zB hl) h1,fun y=>by unfold A4;rw[if_pos ha,h2]⟩
theorem CY.set (h:CY H rs M)(S:Ck n M)(ha:0<=a)(gN:a<n)(h1:rs[a.toNat]?=some r)(h2:M[a.toNat]?=some row):
 CY (upd H r (.lst ((row.map oV).set b.toNat (oV v)))) rs (D5 M a b v):=by
 refine⟨by unfold D5;rw[List.length_set];exact h.1,h.2.1,fun i r' row' a1 a2=>?_⟩;unfold D5 at a2;rw[List.getElem?_set] at a2;have dW:a.toNat<M.length:=(zI.mp h2).1;by_cases e:a.toNat=i
 . subst e;rw[if_pos rfl,if_pos dW] at a2;rw[h1] at a1;cases a1;cases a2;rw[zK,zF,h2,Option.getD_some,List.map_set]
 . rw[if_neg e] at a2;have eB:r'≠r:=fun z=>by subst z;exact e ((List.getElem?_inj ((zI.mp h1).1) h.2.1).mp (h1.trans a1.symm))
   rw[zk eB];exact h.2.2 i r' row' a1 a2
theorem Qc (hl:row.length=n.toNat)(h0:0<=y)(h1:y<n):B9 (row.map oV) y=some (oV (A6 row y)):=by
 have dW:y.toNat<row.length:=by lia
 refine Cr h0 ?_;rw[zO,zB dW];unfold A6;rw[if_pos h0,zF,zB dW];rfl
noncomputable def Ed (a:Int)(j:Nat):List (Option Int):=(List.range j).map fun (b:Nat)=>if a=(b:Int) then some 0 else none
theorem WQ (a)(j):Ed a (j+1)=Ed a j++[if a=(j:Int) then some 0 else none]:=by unfold Ed;rw[List.range_succ,zf];rfl
theorem UO (a)(j):(Ed a j).length=j:=by unfold Ed;rw[zD,Bu]
theorem ZJ {j:Nat}{y:Int}(h0:0<=y)(h1:y<j):A6 (Ed a j) y=if a=y then some 0 else none:=by
 unfold A6 Ed;rw[if_pos h0,zF,zO,MD (by lia)];show (if a=((y.toNat:Nat):Int) then some 0 else none)=_
 rw[show ((y.toNat:Nat):Int)=y by lia]
def Rh:Sp:=fun vs H Q _=>∃wa n ts,vs=[.ref wa]/\BP H wa n ts /\
 ∀fl rs M H',AD H H'->H' fl=some (.lst (rs.map V.ref))->CY H' rs M->Rows ts n M->Q (.ref fl) H'
theorem OH:AX CO CO (defScope Dc):=Ad
theorem UQ (F:Fu K "_law_added" Dc f dU):AL P w K mg base AU 1 f dU CO Q7:=by
 refine F.okD OH fun _ A _ _ H vs Q E hr h=>?_;obtain⟨a,b,rfl,k⟩:=h;refine⟨_,ze (AN (Lq (PW.pt (Dy (Ak DP (pv 0) An (AS _)) (D4 (Ak DP (pv 1) An (AS _))))) An (AV CK (pv 0) (pv 1)))),?_⟩;cases a with
 | none=>exact⟨_,rfl,rfl,_,rfl,Ag (zP rfl) (Ag rfl k)⟩
 | some a=>
  refine⟨_,rfl,rfl,_,rfl,Am (HX a) ?_⟩;cases b with
  | none=>exact⟨_,rfl,rfl,_,rfl,Ag (zP rfl) k⟩
  | some b=>exact⟨_,rfl,rfl,_,rfl,Am (HX b) ⟨_,rfl,_,rfl,a,b,rfl,rfl,k⟩⟩
theorem O4:AX CO CO (defScope FY):=Ad
theorem Jj (F:Fu K "_law_lesser" FY f dU) (eN:mg "min"=none):AL P w K mg base AU 1 f dU CO He:=by
 refine F.okD O4 fun _ A _ _ H vs Q E hr h=>?_;obtain⟨a,b,rfl,k⟩:=h;refine⟨_,za (Aq (PW.pt (Dy (Ak DP (pv 0) An (AS _)) (D4 (Ak DP (pv 1) An (AS _))))) (ze (AN (Lq (Ak DP (pv 0) An (AS _)) (pv 1) (pv 0)))) Ao)
  (ze (AN (Ar (X8 rfl) eN (zE (pv 0) (zE (pv 1) zQ))))),?_⟩
 cases a with
 | none=>exact⟨_,rfl,rfl,_,rfl,Ag (zP rfl) (Ag rfl ⟨_,rfl,rfl,_,rfl,Ag (zP rfl) ⟨_,rfl,k⟩⟩)⟩
 | some a=>
  refine⟨_,rfl,rfl,_,rfl,Am (HX a) ?_⟩;cases b with
  | none=>exact⟨_,rfl,rfl,_,rfl,Ag (zP rfl) ⟨_,rfl,rfl,_,rfl,Am (HX a) ⟨_,rfl,k⟩⟩⟩
  | some b=>exact⟨_,rfl,rfl,_,rfl,Am (HX b) ⟨_,rfl,_,rfl,a,b,rfl,k⟩⟩
theorem Ee:AX ["_law_web_here","_law_n","_law_ties","_law_far_here","_law_a","_law_b","_law_long","_law_k","_law_way"] Ex (defScope FV):=Ad
theorem KN (F:Fu K "_law_far" FV f dU) (FA:AH K mg "_law_added" Dc fA fdA CO)
 (FL:AH K mg "_law_lesser" FY fL fdL CO) (dR:mg "range"=none) (eN:mg "min"=none):AL P w K mg base AU 2 f dU Ex Rh:=by
 have GA:AM P w base 1 FA Q7:=UQ FA.F;have GL:AM P w base 1 FL He:=Jj FL.F eN;refine F.okD Ee fun _ A _ _ H vs Q E hr h=>?_;obtain⟨wa,n,ts,rfl,W,k⟩:=h;obtain⟨ta,tys,eS,iG,TA,G⟩:=id W;have iu:=G.n1;have iJ:=G.n24;refine⟨_,za (JU (pv 0) (C6 rfl (Ai (B5 (i:=1) Ee.nd rfl (Or.inr rfl)) (Ai (Ae (i:=2) Ee.nd) Ci))))
  (za (V3 (yc := "_law_a") (i:=3) (own:=["_law_a"]) (cn:=["_law_n"]) (ci:=[1]) Ee.nd rfl (Or.inl rfl) rfl (Nw rfl (fun _ _=>rfl) rfl rfl) ⟨rfl,rfl,rfl,trivial⟩ rfl
   (B8 rfl dR (zE (pv 1) zQ)) (fun _ _ _ _=>B5 (i:=0) (D1 rfl) rfl (Or.inr rfl)) (fun _ _ _ _=>CD)
   (fun _ _ _ _=>B0 (own:=["_law_b"]) (cn:=["_law_a"]) (ci:=[0]) rfl (BK rfl rfl) ⟨rfl,rfl,rfl,trivial⟩ rfl
    (B8 rfl dR (zE (pv 1) zQ)) (fun _ _ _ _=>BJ) (fun _ _ _ _=>CD)
    (fun _ _ _ _=>Lq (Ak Bh (pv 1) (pv 0) (AS _)) zi An)))
  (za (A7 (BH (pv 2)) (C6 rfl (Ai (Ae (i:=4) Ee.nd) (Ai (Ae (i:=5) Ee.nd) (Ai (Ae (i:=6) Ee.nd) Ci))))
   (za (JU (pv 6) (L5 (AF Ab (pv 3) (pv 4)) (pv 5) Lp))
   (ze (JU (pv 6) (L5 (AF Ab (pv 3) (pv 5)) (pv 4) Lp)))))
  (za (A7 (B8 rfl dR (zE (pv 1) zQ)) (Ae (i:=7) Ee.nd)
   (ze (A7 (B8 rfl dR (zE (pv 1) zQ)) (Ae (i:=4) Ee.nd)
    (ze (A7 (B8 rfl dR (zE (pv 1) zQ)) (Ae (i:=5) Ee.nd)
     (za (As (i:=8) Ee.nd (AO GA hr FA (zE (AF Ab (AF Ab (pv 3) (pv 4)) (pv 7)) (zE (AF Ab (AF Ab (pv 3) (pv 7)) (pv 5)) zQ))))
     (ze (JU (AO GL hr FL (zE (AF Ab (AF Ab (pv 3) (pv 4)) (pv 5)) (zE (pv 8) zQ))) (L5 (AF Ab (pv 3) (pv 4)) (pv 5) Lp)))))))))
  (ze (AN (pv 3)))))),?_⟩
 refine⟨_,rfl,wa,_,rfl,AC.of eS,rfl,_,_,rfl,_,_,rfl,rfl,?_⟩;refine⟨_,rfl,n,rfl,by lia,by lia,[.int n],rfl,fun D hD=>?_⟩;refine QG (lo:=0) (n:=n.toNat) (fun q ys H1=>q<=n.toNat/\F8 fun (rs:List Addr)(M:DE)=>ys=rs.map V.ref/\rs.length=q/\CY H1 rs M/\(∀x:Nat,x<q->M[x]?=some (Ed x n.toNat))/\(∀r∈rs,H r=none/\r≠D)/\AD H H1/\H1 D=some (.lst ys))
  ⟨zg _,[],[],rfl,rfl,⟨rfl,List.nodup_nil,fun i r row h=>by simp at h⟩,fun x hx=>absurd hx (C1 _),fun r h=>by simp at h,zH hD,zK⟩ (fun q ys H1 h=>?_) (fun q ys H1 hq h=>?_) (fun ys H1 h=>?_)
 . obtain⟨hq,rs,M,rfl,hl,_⟩:=h;rw[zD,hl];exact BS (by lia)
 . obtain⟨_,rs,M,rfl,hl,R,L,fr,sm,gC⟩:=h;rw[CI];refine⟨⟨rfl,rfl⟩,?_⟩;refine CC ?_;refine⟨_,rfl,n,rfl,by lia,by lia,[.int q],rfl,fun D2 dg=>?_⟩;have nD2:D2≠D:=fun z=>by rw[z,gC] at dg;cases dg
   refine QG (lo:=0) (n:=n.toNat) (fun j ys H2=>j<=n.toNat/\ys=(Ed q j).map oV/\AD H1 H2/\H2 D2=some (.lst ys))
    ⟨zg _,rfl,zH dg,zK⟩ (fun j ys H2 h=>?_) (fun j ys H2 hj h=>?_) (fun ys H2 h=>?_)
   . obtain⟨hj,rfl,_⟩:=h;rw[zD,UO];exact BS (by lia)
   . obtain⟨_,rfl,s2,h2⟩:=h;rw[CI];refine⟨⟨rfl,rfl⟩,?_⟩;refine CC ?_;refine⟨_,rfl,_,rfl,rfl,_,rfl,?_⟩;by_cases e:(q:Int)=(j:Int)
     . refine Ag (zP (congrArg V.int e)) ?_;refine⟨h2,hj,?_,A9 s2 dg,zK⟩;rw[WQ,if_pos e,zf];rfl
     . refine Am (zR fun z=>e (V.int.inj z)) ?_;refine⟨h2,hj,?_,A9 s2 dg,zK⟩;rw[WQ,if_neg e,zf];rfl
   . obtain⟨_,rfl,s2,h2⟩:=h;have gA:H2 D=some (.lst (rs.map V.ref)):=s2 _ _ gC;have frD2:H D2=none:=by
      cases z:H D2 with
      | none=>rfl
      | some o=>rw[sm _ _ z] at dg;cases dg
     have nin:D2∉rs:=fun z=>by
      obtain⟨i,hi,e⟩:=zy z;have hM:i<M.length:=by rw[<-R.1];exact hi
      have:=R.2.2 i D2 M[i] (by rw[zB hi,e]) (zB hM);rw[dg] at this;cases this
     refine⟨gA,hq,rs++[D2],M++[Ed q n.toNat],by rw[zf];rfl,by rw[zM,hl];rfl,⟨by rw[zM,zM,R.1];rfl,?_,fun i r row h1 h3=>?_⟩,fun x hx=>?_,fun r f9=>?_,A9 (sm.trans s2) hD,zK⟩
     . exact List.nodup_append.mpr ⟨R.2.1,by simp,fun a ha b hb=>by
        have e:b=D2:=by simpa using hb
        rw[e];exact fun z=>nin (z ▸ ha)⟩
     . have key:H2 r=some (.lst (row.map oV))/\r≠D:=by
        by_cases hi:i<rs.length
        . rw[zb hi] at h1;rw[zb (by rw[<-R.1];exact hi)] at h3;exact⟨s2 _ _ (R.2.2 i r row h1 h3),(fr r (zV h1)).2⟩
        . rw[zX (by lia)] at h1;rw[zX (by rw[<-R.1];lia),<-R.1] at h3;cases hz:i-rs.length with
          | zero=>
           rw[hz] at h1 h3;have e1:D2=r:=by simpa using h1
           have e2:Ed q n.toNat=row:=by simpa using h3
           subst e1 e2;exact⟨h2,nD2⟩
          | succ k=>rw[hz] at h1;simp at h1
       rw[zk key.2];exact key.1
     . by_cases dZ:x<q
       . rw[zb (by rw[<-R.1,hl];exact dZ)];exact L x dZ
       . have e:x=q:=by lia
         subst e;rw[zX (by rw[<-R.1,hl];exact zJ _),<-R.1,hl];simp
     . rcases zj.mp f9 with z | z
       . exact fr r z
       . have e:r=D2:=by simpa using z
         rw[e];exact⟨frD2,nD2⟩
 . obtain⟨_,rs,M,rfl,hl,R,L,fr,sm,gC⟩:=h;have hML:M.length=n.toNat:=by rw[<-R.1,hl]
   have S0:Ck n M:=⟨hML,fun r f9=>by obtain⟨i,hi,e⟩:=zy f9;have:=L i (by lia);rw[zB hi,e] at this;rw[zY this,UO]⟩
   have M0:∀x y,0<=x->x<n->0<=y->y<n->A4 M x y=if x=y then some 0 else none:=fun x y hx dZ hy dw=>by
    unfold A4
    rw[if_pos hx,zF,L x.toNat (by lia),Option.getD_some,ZJ hy (by lia),show ((x.toNat:Nat):Int)=x by lia]
   have wr:∀{H2:Hp}{r:Addr}{o:HO},r∈rs->AD H H2->AD H (upd H2 r o):=fun {H2 r o} f9 s2=>A9 s2 (fr r f9).1;have wD:∀{H2:Hp}{r:Addr}{o:HO},r∈rs->H2 D=some (.lst (rs.map V.ref))->(upd H2 r o) D=some (.lst (rs.map V.ref)):=fun {H2 r o} f9 e=>by rw[zk (fr r f9).2.symm];exact e
   refine⟨_,rfl,ta,rfl,⟨_,AC.of (sm _ _ iG)⟩,Pn (K:=K) (a:=ta) (xs:=tys)
    (fun i σ H2=>Ql fun (v4 v5 v6 v7 v8:Option V)(M:DE)=>σ=[some (.ref wa),some (.int n),some (.ref ta),some (.ref D),v4,v5,v6,v7,v8]/\AD H H2/\H2 D=some (.lst (rs.map V.ref))/\CY H2 rs M/\Ck n M/\Ft (ts.take i) n (A4 M))
    ⟨_,_,_,_,_,M,rfl,sm,gC,R,S0,by rw[List.take_zero];exact Ft.nil n M0⟩ (fun i σ H2 _ ⟨_,_,_,_,_,_,_,s,_⟩=>AC.of (s _ _ iG)) ?turn1 ?after1⟩
   case turn1=>
    rintro i y σ H2 hi ⟨v4,v5,v6,v7,v8,M2,rfl,s2,dg,R2,S2,T2⟩;obtain⟨ya,ky,rfl,eM,hya,_⟩:=TA.get hi;rw[zO] at eM;obtain⟨⟨a,b,c⟩,hti,rfl⟩:∃t:T3,ts[i]?=some t/\tl t=ky:=by
     cases e:ts[i]? with
     | none=>rw[e] at eM;cases eM
     | some t=>rw[e] at eM;exact⟨t,rfl,zY eM⟩
    have hm:=zV hti;have hr3:=G.rng _ hm;simp only at hr3;obtain⟨ra,ig,a1,a2,a3,a4,a5,_⟩:=R2.get S2 (a:=a) (by lia) (by lia);have ma:=zV a1;refine⟨ya,_,rfl,AC.of (s2 _ _ hya),rfl,_,_,rfl,_,_,rfl,_,_,rfl,rfl,?_⟩;refine⟨_,rfl,_,rfl,_,rfl,D,_,_,.ref ra,rfl,rfl,AE.of dg,Cr (by lia) (by rw[zO,a1];rfl),_,rfl,ra,_,b,b.toNat,rfl,rfl,a5,SD (by lia) (by rw[zD,a4];lia),?_⟩;have R3:CY (upd H2 ra (.lst ((ig.map oV).set b.toNat (.int c)))) rs (D5 M2 a b (some c)):=R2.set S2 (v:=some c) (by lia) (by lia) a1 a2;have S3:Ck n (D5 M2 a b (some c)):=S2.set (by lia) (by lia);have s3:=wr (o:=.lst ((ig.map oV).set b.toNat (.int c))) ma s2;have eU:=wD (o:=.lst ((ig.map oV).set b.toNat (.int c))) ma dg;generalize upd H2 ra (.lst ((ig.map oV).set b.toNat (.int c)))=H3 at R3 s3 eU ⊢;obtain⟨rb,rowb,b1,b2,b3,b4,b5,_⟩:=R3.get S3 (a:=b) (by lia) (by lia);have mb:=zV b1;refine⟨_,rfl,_,rfl,_,rfl,D,_,_,.ref rb,rfl,rfl,AE.of eU,Cr (show 0<=b by lia) (by rw[zO,b1];rfl),_,rfl,rb,_,a,a.toNat,rfl,rfl,b5,SD (by lia) (by rw[zD,b4];lia),?_⟩;have R4:CY (upd H3 rb (.lst ((rowb.map oV).set a.toNat (.int c)))) rs (D5 (D5 M2 a b (some c)) b a (some c)):=R3.set S3 (v:=some c) (by lia) (by lia) b1 b2;refine⟨_,_,_,_,_,_,rfl,wr mb s3,wD mb eU,R4,S3.set (by lia) (by lia),?_⟩;have fv:ts=ts.take i++(a,b,c)::ts.drop (i+1):=by
     have iL:=(zI.mp hti)
     conv=>lhs;rw[<-MJ i ts,List.drop_eq_getElem_cons iL.1,iL.2]
    have htk:ts.take (i+1)=ts.take i++[(a,b,c)]:=by rw[zr,hti];rfl
    rw[htk];refine (Ft.put (post:=ts.drop (i+1)) (by rw[<-fv];exact G) T2).congr fun x y hx dZ hy dw=>?_;rw[RM S3 (by lia) (by lia) (by lia) (by lia) hx dZ,RM S2 (by lia) (by lia) (by lia) (by lia) hx dZ]
   case after1=>
    rintro σ H2 ⟨v4,v5,v6,v7,v8,M2,rfl,s2,dg,R2,S2,T2⟩;have dW:tys.length=ts.length:=by rw[TA.length,zD]
    rw[dW,List.take_length] at T2;have FC:=T2.fw G;refine⟨_,rfl,n,rfl,by lia,by lia,CS (lo:=0) (n:=n.toNat)
     (fun kk σ H3=>Ql fun (v4 v5 v6 v7 v8:Option V)(M:DE)=>σ=[some (.ref wa),some (.int n),some (.ref ta),some (.ref D),v4,v5,v6,v7,v8]/\AD H H3/\H3 D=some (.lst (rs.map V.ref))/\CY H3 rs M/\Ck n M/\Fw ts n (A4 M)/\KH ts n (kk:Int) (A4 M))
     ⟨_,_,_,_,_,M2,rfl,s2,dg,R2,S2,FC.1,FC.2⟩ ?turn2 ?after2⟩
    case after2=>
     rintro σ H3 ⟨v4,v5,v6,v7,v8,M3,rfl,s3,eU,R3,S3,f3,c3⟩;rw[show ((n.toNat:Nat):Int)=n by lia] at c3;exact⟨_,rfl,k D rs M3 H3 s3 eU R3 (Zb G S3 f3 c3)⟩
    case turn2=>
     rintro kk σ H3 hkk ⟨v4,v5,v6,v7,v8,M3,rfl,s3,eU,R3,S3,f3,c3⟩;rw[CI];refine⟨_,rfl,n,rfl,by lia,by lia,CS (lo:=0) (n:=n.toNat)
      (fun aa σ H4=>Qo fun (v4 v5 v6 v8:Option V)(M:DE)=>σ=[some (.ref wa),some (.int n),some (.ref ta),some (.ref D),v4,v5,v6,some (.int (kk:Int)),v8]/\AD H H4/\H4 D=some (.lst (rs.map V.ref))/\CY H4 rs M/\Ck n M/\Fm ts n (kk:Int) (A4 M) (fun x _=>x<(aa:Int)))
      ⟨_,_,_,_,M3,rfl,s3,eU,R3,S3,(Fm.enter f3 c3).congr (fun _ _ _ _ _ _=>rfl) fun x y hx _ _ _ z=>by lia⟩ ?turn3 ?after3⟩
     case after3=>
      rintro σ H4 ⟨v4,v5,v6,v8,M4,rfl,s4,eR,R4,S4,F4⟩;have fc:=F4.leave fun x y _ dZ _ _=>by lia
      exact⟨_,_,_,_,_,M4,rfl,s4,eR,R4,S4,fc.1,fc.2⟩
     case turn3=>
      rintro aa σ H4 haa ⟨v4,v5,v6,v8,M4,rfl,s4,eR,R4,S4,F4⟩;rw[CI];refine⟨_,rfl,n,rfl,by lia,by lia,CS (lo:=0) (n:=n.toNat)
       (fun bb σ H5=>Qp fun (v5 v6 v8:Option V)(M:DE)=>σ=[some (.ref wa),some (.int n),some (.ref ta),some (.ref D),some (.int (aa:Int)),v5,v6,some (.int (kk:Int)),v8]/\AD H H5/\H5 D=some (.lst (rs.map V.ref))/\CY H5 rs M/\Ck n M/\Fm ts n (kk:Int) (A4 M) (fun x y=>x<(aa:Int)\/(x=(aa:Int)/\y<(bb:Int))))
       ⟨_,_,_,M4,rfl,s4,eR,R4,S4,F4.congr (fun _ _ _ _ _ _=>rfl) fun x y _ _ hy _ z=>by lia⟩ ?turn4 ?after4⟩
      case after4=>
       rintro σ H5 ⟨v5,v6,v8,M5,rfl,s5,gO,R5,S5,F5⟩;exact⟨_,_,_,_,M5,rfl,s5,gO,R5,S5,F5.congr (fun _ _ _ _ _ _=>rfl) fun x y _ _ _ dw z=>by lia⟩
      case turn4=>
       rintro bb σ H5 hbb ⟨v5,v6,v8,M5,rfl,s5,gO,R5,S5,F5⟩;rw[CI];obtain⟨ra,ig,a1,a2,a3,a4,a5,a6⟩:=R5.get S5 (a:=(aa:Int)) (by lia) (by lia);obtain⟨rk,rowk,k1,k2,k3,k4,k5,k6⟩:=R5.get S5 (a:=(kk:Int)) (by lia) (by lia);have ma:=zV a1;refine⟨_,rfl,_,rfl,D,_,_,.ref ra,rfl,rfl,AE.of gO,Cr (by lia) (by rw[zO,a1];rfl),_,rfl,ra,_,_,_,rfl,rfl,AE.of a5,Qc a4 (by lia) (by lia),?_⟩;refine⟨_,rfl,_,rfl,D,_,_,.ref rk,rfl,rfl,AE.of gO,Cr (by lia) (by rw[zO,k1];rfl),_,rfl,rk,_,_,_,rfl,rfl,AE.of k5,Qc k4 (by lia) (by lia),?_⟩;refine⟨_,_,rfl,?_⟩;refine⟨_,rfl,_,rfl,D,_,_,.ref ra,rfl,rfl,AE.of gO,Cr (by lia) (by rw[zO,a1];rfl),_,rfl,ra,_,_,_,rfl,rfl,AE.of a5,Qc a4 (by lia) (by lia),?_⟩;refine⟨_,rfl,_,_,rfl,?_⟩;refine⟨_,rfl,_,rfl,D,_,_,.ref ra,rfl,rfl,AE.of gO,Cr (by lia) (by rw[zO,a1];rfl),_,rfl,ra,_,_,(bb:Int).toNat,rfl,rfl,a5,SD (by lia) (by rw[zD,a4];lia),?_⟩;refine⟨_,_,_,_,rfl,wr ma s5,wD ma gO,R5.set S5 (by lia) (by lia) a1 a2,S5.set (by lia) (by lia),?_⟩;refine (Fm.step G F5 (a:=(aa:Int)) (b:=(bb:Int)) (by lia) (by lia) (by lia) (by lia) (by lia) (by lia)).congr (fun x y hx dZ hy dw=>?_) fun x y _ _ _ _ z=>by lia
       rw[RM S5 (by lia) (by lia) (by lia) (by lia) hx dZ,a6,a6,k6]
def PD (ts:List T3)(dQ:List (List AR×V)):Prop:=∀x y:Int,(∀l,Af dQ [Sum.inl x,Sum.inl y]=some (.int l)↔Ah ts x y l)/\∀v,Af dQ [Sum.inl x,Sum.inl y]=some v->∃l,v=.int l
theorem PD.nil:PD [] []:=fun x y=>⟨fun l=>by simp[Vl,Ah],fun v h=>by simp[Vl] at h⟩
theorem Vc :([Sum.inl x,Sum.inl y]:List AR)=[Sum.inl a,Sum.inl b]↔x=a/\y=b:=by simp
theorem PD.put (g:GW n ts)(e:ts=pre++(a,b,c)::post)(h:PD pre dQ):PD (pre++[(a,b,c)]) (BC (BC dQ [Sum.inl a,Sum.inl b] (.int c)) [Sum.inl b,Sum.inl a] (.int c)):=by
 have hin:(a,b,c)∈ts:=by rw[e];simp
 have iW:=(g.rng _ hin).2.1;simp only at iW;have sub:∀ {x y l},Ah (pre++[(a,b,c)]) x y l->Ah ts x y l:=fun h=>by
  rw[e];rcases h with h | h
  . refine .inl ?_;rcases zj.mp h with q | q
    . exact C8 _ q
    . rw[zh.mp q];simp
  . refine .inr ?_;rcases zj.mp h with q | q
    . exact C8 _ q
    . rw[zh.mp q];simp
 have new:Ah (pre++[(a,b,c)]) a b c:=.inl (by simp);intro x y;rw[UF,UF];by_cases h1:x=b/\y=a
 . obtain⟨rfl,rfl⟩:=h1;rw[if_pos rfl];refine⟨fun l=>⟨fun hl=>?_,fun ha=>?_⟩,fun v hv=>⟨c,(zY hv).symm⟩⟩
   . have:c=l:=by have:=zY hl;injection this
     subst this;exact new.symm
   . rw[g.uniq (sub ha) (sub new.symm)]
 . rw[if_neg (fun z=>h1 (Vc.mp z))];by_cases h2:x=a/\y=b
   . obtain⟨rfl,rfl⟩:=h2;rw[if_pos rfl];refine⟨fun l=>⟨fun hl=>?_,fun ha=>?_⟩,fun v hv=>⟨c,(zY hv).symm⟩⟩
     . have:c=l:=by have:=zY hl;injection this
       subst this;exact new
     . rw[g.uniq (sub ha) (sub new)]
   . rw[if_neg (fun z=>h2 (Vc.mp z))];refine⟨fun l=>?_,(h x y).2⟩;rw[(h x y).1 l];constructor
     . rintro (q | q)
       . exact .inl (C8 _ q)
       . exact .inr (C8 _ q)
     . rintro (q | q)
       . rcases zj.mp q with q | q
         . exact .inl q
         . exfalso;have:=zh.mp q;injection this with q1 q2;injection q2 with q2 q3;exact h2 ⟨q1,q2⟩
       . rcases zj.mp q with q | q
         . exact .inr q
         . exfalso;have:=zh.mp q;injection this with q1 q2;injection q2 with q2 q3;exact h1 ⟨q2,q1⟩
theorem PD.some (h:PD ts dQ)(x y):(Af dQ [Sum.inl x,Sum.inl y]).isSome=true↔∃l,Ah ts x y l:=by
 constructor
 . intro hs;obtain⟨v,hv⟩:=Lv.mp hs;obtain⟨l,rfl⟩:=(h x y).2 v hv;exact⟨l,((h x y).1 l).mp hv⟩
 . rintro ⟨l,ha⟩;rw[((h x y).1 l).mpr ha];rfl
theorem Ro (a b):Kk (oV a) (oV b)=true:=by cases a <;> cases b <;> rfl
theorem Rq:decide (oV none=V.non)=true:=zP rfl
theorem SC (a b):decide (oV a=oV b)=decide (a=b):=decide_eq_decide.mpr ⟨fun h=>by
 cases a with
 | none=>
  cases b with
  | none=>rfl
  | some b=>cases h
 | some a=>
  cases b with
  | none=>cases h
  | some b=>rw[V.int.inj h],fun h=>by rw[h]⟩
def DJ (H:Hp)(fl:Addr)(n:Int)(ts:List T3)(M:DE):Prop:=∃rs:List Addr,H fl=some (.lst (rs.map V.ref))/\CY H rs M/\Rows ts n M
theorem bY (R:Rows ts n M):Ck n M:=⟨R.1,fun r hr=>by obtain⟨i,hi,e⟩:=zy hr;have h1:=R.1;have:=(R.2 (i:Int) (by lia) (by lia)).ln;rw[zv,zF,zB hi,Option.getD_some,e] at this;exact this⟩
theorem DJ.keep (h:DJ H fl n ts M)(k:∀b ys,H b=some (.lst ys)->H' b=some (.lst ys)):DJ H' fl n ts M:=by obtain⟨rs,a,b,c⟩:=h;exact⟨rs,k _ _ a,b.keep fun b ys e _=>k b ys e,c⟩
theorem DJ.get (h:DJ H fl n ts M)(hx:0<=x)(dZ:x<n)(hy:0<=y)(dw:y<n):
 ∃rs r row,H fl=some (.lst rs)/\B9 rs x=some (.ref r)/\H r=some (.lst row)/\B9 row y=some (oV (A4 M x y))/\Ce ts x y (A4 M x y):=by
 obtain⟨rs,a,b,c⟩:=h;obtain⟨r,row,e1,e2,e3,e4,e5,e6⟩:=b.get (bY c) hx dZ;have L:=c.2 x hx dZ;rw[e3] at L;refine⟨_,r,_,a,Cr hx (by rw[zO,e1];rfl),e5,?_,?_⟩
 . rw[<-e6];exact Qc e4 hy dw
 . rw[<-e6];exact L.len y hy dw
noncomputable def CP (M:DE)(p x y:Int):Bool:=match A4 M x y with
 | none=>false
 | some d=>decide (DX (A4 M x p) (A4 M p y)=some d)
theorem V1 (h:DJ H fl n ts M)(hp:0<=p)(hJ:p<n)(hx:0<=x)(dZ:x<n)(hy:0<=y)(dw:y<n):CP M p x y=true↔Xj ts x y p:=by
 obtain⟨_,_,_,_,_,_,_,l1⟩:=h.get hx dZ hy dw;obtain⟨_,_,_,_,_,_,_,l2⟩:=h.get hx dZ hp hJ;obtain⟨_,_,_,_,_,_,_,l3⟩:=h.get hp hJ hy dw;unfold CP;constructor
 . intro z;cases e:A4 M x y with
   | none=>rw[e] at z;cases z
   | some d=>rw[e] at z l1;obtain⟨a,b,e1,e2,e3⟩:=Xf (of_decide_eq_true z);rw[e1] at l2;rw[e2] at l3;exact⟨a,b,l2,l3,by rw[e3];exact l1⟩
 . rintro ⟨a,b,h1,h2,h3⟩;have e1:=Ce.uniq l1 (show Ce ts x y (some (a+b)) from h3);have e2:=Ce.uniq l2 (show Ce ts x p (some a) from h1);have e3:=Ce.uniq l3 (show Ce ts p y (some b) from h2);rw[e1,e2,e3];exact zP rfl
def Jm:Sp:=fun vs H Q _=>∃fl n ts M p x y,vs=[.ref fl,.int p,.int x,.int y]/\DJ H fl n ts M/\0<=p/\p<n/\0<=x/\x<n/\0<=y/\y<n/\Q (.bl (CP M p x y)) H
def Qa:Sp:=fun vs H Q _=>∃wa n ts,vs=[.ref wa]/\BP H wa n ts/\∀d dQ H',AD H H'->H' d=some (.dT dQ)->PD ts dQ->Q (.ref d) H'
def Hr:Sp:=fun vs H Q _=>∃wa fl,∃(n:Int),∃ts M,∃(x y:Int),vs=[.ref wa,.ref fl,.int x,.int y]/\BP H wa n ts/\DJ H fl n ts M/\0<=x/\x<n/\0<=y/\y<n /\
 ∀l(xs:List Int)H',AD H H'->H' l=some (.lst (xs.map V.int))->xs.Pairwise (· < ·)->(∀p,p∈xs↔Cp ts x y p)->Q (.ref l) H'
theorem Nk:AX ["_law_far_here","_law_place","_law_one","_law_other","_law_due"] OY (defScope Oj):=Ad
theorem Ny (F:Fu K "_law_on" Oj f dU) (FA:AH K mg "_law_added" Dc fA fdA CO):AL P w K mg base AU 2 f dU OY Jm:=by
 have GA:AM P w base 1 FA Q7:=UQ FA.F;refine F.okD Nk fun _ A _ _ H vs Q E hr h=>?_;obtain⟨fl,n,ts,M,p,x,y,rfl,FR,hp,hJ,hx,dZ,hy,dw,k⟩:=h;refine⟨_,za (As (i:=4) Nk.nd (AF Ab (AF Ab (pv 0) (pv 2)) (pv 3)))
  (ze (AN (Bs (BN HQ (pv 4) An (AS _)) (CM (BN Bh (AO GA hr FA (zE (AF Ab (AF Ab (pv 0) (pv 2)) (pv 1)) (zE (AF Ab (AF Ab (pv 0) (pv 1)) (pv 3)) zQ))) (pv 4) (AS _)))))),?_⟩
 obtain⟨r1,a1,w1,f1,g1,i1,j1,_⟩:=FR.get hx dZ hy dw;obtain⟨r2,a2,w2,f2,g2,i2,j2,_⟩:=FR.get hx dZ hp hJ;obtain⟨r3,a3,w3,f3,g3,i3,j3,_⟩:=FR.get hp hJ hy dw;refine⟨_,rfl,_,rfl,fl,_,_,.ref a1,rfl,rfl,AE.of f1,g1,_,rfl,a1,_,_,_,rfl,rfl,AE.of i1,j1,?_⟩;refine⟨_,rfl,rfl,_,rfl,?_⟩;unfold CP at k;cases e:A4 M x y with
 | none=>rw[e] at k;exact Am (by rw[Rq];rfl) k
 | some d=>rw[e] at k;refine Ag (by rw[HX];rfl) ?_;refine⟨_,rfl,_,rfl,fl,_,_,.ref a2,rfl,rfl,AE.of f2,g2,_,rfl,a2,_,_,_,rfl,rfl,AE.of i2,j2,?_⟩;refine⟨_,rfl,_,rfl,fl,_,_,.ref a3,rfl,rfl,AE.of f3,g3,_,rfl,a3,_,_,_,rfl,rfl,AE.of i3,j3,?_⟩;refine⟨_,_,rfl,_,rfl,Ro _ (some d),?_⟩;rw[SC];exact k
theorem Ml:AX ["_law_web_here","_law_found_here","_law_a","_law_b","_law_long"] Ex (defScope Da):=Ad
theorem VW (F:Fu K "_law_joined" Da f dU):AL P w K mg base AU 1 f dU Ex Qa:=by
 refine F.okD Ml fun _ A _ _ H vs Q E hr h=>?_;obtain⟨wa,n,ts,rfl,W,k⟩:=h;obtain⟨ta,tys,eS,iG,TA,G⟩:=id W;have dW:tys.length=ts.length:=by rw[TA.length,zD]
 have hu:=Ge hr;refine⟨_,za (As (i:=1) Ml.nd WY)
  (za (A7 (BH (AF Ac (pv 0) zi)) (C6 rfl (Ai (Ae (i:=2) Ml.nd) (Ai (Ae (i:=3) Ml.nd) (Ai (Ae (i:=4) Ml.nd) Ci))))
   (za (QL hu (pv 1) (AZ (zE (pv 2) (zE (pv 3) zQ))) (pv 4) rfl) (ze (QL hu (pv 1) (AZ (zE (pv 3) (zE (pv 2) zQ))) (pv 4) rfl))))
  (ze (AN (pv 1)))),?_⟩
 intro d hd;refine⟨_,rfl,wa,_,_,_,rfl,rfl,AC.of (zH hd _ _ eS),rfl,ta,rfl,⟨_,AC.of (zH hd _ _ iG)⟩,Pn (K:=K) (a:=ta) (xs:=tys)
  (fun j σ H5=>Qp fun (v2 v3 v4:Option V)(dQ:List (List AR×V))=>σ=[some (.ref wa),some (.ref d),v2,v3,v4]/\AD H H5/\H5 d=some (.dT dQ)/\dQ.length<=2*j/\PD (ts.take j) dQ)
  ⟨_,_,_,[],rfl,zH hd,zK,zJ _,PD.nil⟩ (fun j σ H5 _ ⟨_,_,_,_,_,s5,_⟩=>AC.of (s5 _ _ iG)) ?turn1 ?after1⟩
 case turn1=>
  rintro j y σ H5 hj ⟨v2,v3,v4,dQ,rfl,s5,iO,hkl,pd⟩;obtain⟨ya,ky,rfl,eM,hya,_⟩:=TA.get hj;rw[zO] at eM;obtain⟨⟨x,z,c⟩,htj,rfl⟩:∃t:T3,ts[j]?=some t/\tl t=ky:=by
   cases e:ts[j]? with
   | none=>rw[e] at eM;cases eM
   | some t=>rw[e] at eM;exact⟨t,rfl,zY eM⟩
  have hjl:j<ts.length:=(zI.mp htj).1;have gz:=G.len;refine⟨ya,_,rfl,AC.of (s5 _ _ hya),rfl,_,_,rfl,_,_,rfl,_,_,rfl,rfl,?_⟩;refine⟨_,rfl,_,rfl,_,rfl,_,rfl,Au,fun p hp=>?_⟩;refine⟨d,_,rfl,HJ.t (k:=[Sum.inl x,Sum.inl z]) (zH hp _ _ iO) zK (BS (by lia)),?_⟩;refine⟨_,rfl,_,rfl,_,rfl,_,rfl,Au,fun p2 eT=>?_⟩;refine⟨d,_,rfl,HJ.t (k:=[Sum.inl z,Sum.inl x]) (zH eT _ _ zK) zK (BS (zp (JQ _ _ _) (by lia))),?_⟩;refine⟨_,_,_,_,rfl,?_,zK,zp (JQ _ _ _) (zp (Nat.succ_le_succ (JQ _ _ _)) (by lia)),?_⟩
  . have a1:AD H (upd (upd H5 p (.tup [.int x,.int z])) d (.dT (BC dQ [Sum.inl x,Sum.inl z] (.int c)))):=A9 (s5.trans (zH hp)) hd;exact A9 (a1.trans (zH eT)) hd
  . rw[zr,htj];refine PD.put G (post:=ts.drop (j+1)) ?_ pd;have e1:ts.drop j=(x,z,c)::ts.drop (j+1):=by rw[List.drop_eq_getElem_cons hjl];rw[zB hjl] at htj;rw[zY htj]
    rw[<-e1,MJ]
 case after1=>
  rintro σ H5 ⟨v2,v3,v4,dQ,rfl,s5,iO,hkl,pd⟩;rw[dW,zW (zJ _)] at pd;exact⟨_,rfl,k d dQ H5 s5 iO pd⟩
noncomputable def nb (dQ:List (List AR×V))(M:DE)(x y d p:Int):Bool:=match Af dQ [Sum.inl x,Sum.inl p],A4 M p y with
 | some (.int l),some b=>decide (l+b=d)
 | _,_=>false
theorem Py:AX ["_law_web_here","_law_far_here","_law_one","_law_other","_law_due","_law_pairs","_law_some"] Pf (defScope E4):=Ad
theorem LN (F:Fu K "_law_nexts" E4 f dU) (FJ:AH K mg "_law_joined" Da fJ fdJ Ex) (dR:mg "range"=none):AL P w K mg base AU 2 f dU Pf Hr:=by
 have GJ:AM P w base 1 FJ Qa:=VW FJ.F;refine F.okD Py fun _ A _ _ H vs Q E hr h=>?_;obtain⟨wa,fl,n,ts,M,x,y,rfl,W,FR,hx,dZ,hy,dw,k⟩:=h;obtain⟨ta,tys,eS,iG,TA,G⟩:=id W;have hu:=Ge hr;have iu:=G.n1;have iJ:=G.n24;refine⟨_,za (HN (i:=4) Py.nd rfl (Or.inr rfl) (AF Ab (AF Ab (pv 1) (pv 2)) (pv 3)))
  (za (Aq (PW.pt (Dy (Ak Bh (pv 2) (pv 3) (AS _)) (D4 (Ak DP (pv 4) An (AS _))))) (ze (AN (CJ zQ))) Ao)
  (za (HN (i:=5) Py.nd rfl (Or.inr rfl) (AO GJ hr FJ (zE (pv 0) zQ)))
  (za (HL (i:=6) (own:=["_law_place"]) (cn:=["_law_one","_law_pairs"]) (ci:=[2,5]) Py.nd rfl (Or.inl rfl) rfl (BK rfl rfl) ⟨rfl,rfl,rfl,rfl,rfl,rfl,trivial⟩ rfl
   (B8 rfl dR (zE (AF Ac (pv 0) zi) zQ)) (fun _ _ _ _=>BJ)
   (fun _ _ _ _=>El (JT (Pj hu (AZ (zE (pv 1) (zE (pv 0) zQ))) (pv 2)))) (fun _ _ _ _=>pv 0))
  (ze (AN (B0 (own:=["_law_place"]) (cn:=["_law_pairs","_law_one","_law_far_here","_law_other","_law_due"]) (ci:=[5,2,1,3,4]) rfl (BK rfl rfl) ⟨rfl,rfl,rfl,rfl,rfl,rfl,rfl,rfl,rfl,rfl,rfl,rfl,rfl,rfl,rfl,trivial⟩ rfl
   (F3 (pv 6)) (fun _ _ _ _=>BJ)
   (fun _ _ _ _=>El (Ak Bh (AV CK (JE hu (pv 1) (AZ (zE (pv 2) (zE (pv 0) zQ))) (fun _ _=>rfl)) (AF QR (AF QR (pv 3) (pv 0)) (pv 4))) (pv 5) (AS _)))
   (fun _ _ _ _=>pv 0))))))),?_⟩
 obtain⟨r1,a1,w1,f1,g1,i1,j1,l1⟩:=FR.get hx dZ hy dw;refine⟨_,rfl,_,rfl,fl,_,_,.ref a1,rfl,rfl,AE.of f1,g1,_,rfl,a1,_,_,_,rfl,rfl,AE.of i1,j1,?_⟩;refine⟨_,rfl,_,rfl,rfl,_,rfl,?_⟩;by_cases hxy:x=y
 . refine Ag (zP (congrArg V.int hxy)) (Ag rfl ?_);exact⟨zg _,fun l hl=>k l [] _ (zH hl) zK Io fun p=>⟨fun z=>by simp at z,fun z=>absurd hxy (Cp.ne G z)⟩⟩
 refine Am (zR fun z=>hxy (V.int.inj z)) ?_;refine⟨_,rfl,rfl,_,rfl,?_⟩;cases e:A4 M x y with
 | none=>rw[e] at l1;refine Ag Rq ?_;exact⟨zg _,fun l hl=>k l [] _ (zH hl) zK Io fun p=>⟨fun z=>by simp at z,fun ⟨l,b,_,_,z⟩=>absurd z.1 (l1 _)⟩⟩
 | some d=>
  rw[e] at l1;have hxy':WM.IsD ts x y d:=l1;refine Am (HX d) ?_;refine⟨_,rfl,wa,n,ts,rfl,W,fun dd dQ H1 s1 hd1 pd=>?_⟩;refine⟨_,rfl,wa,_,_,_,rfl,rfl,AC.of (s1 _ _ eS),rfl,n,rfl,by lia,by lia,[.int x,.ref dd],rfl,fun D hD=>?_⟩;refine QG (lo:=0) (n:=n.toNat) (fun q ys H7=>q<=n.toNat/\ys=((lowTo q).filter fun o=>(Af dQ [Sum.inl x,Sum.inl o]).isSome).map V.int/\AD H1 H7/\H7 D=some (.lst ys)) ⟨zg _,rfl,zH hD,zK⟩ (fun q ys H7 h=>?_) (fun q ys H7 hq h=>?_) (fun ys H7 h=>?_)
  . obtain⟨hq,rfl,_⟩:=h;rw[zD];refine CG (EH _ _) (BS ?_);rw[lowTo,zD,Bu]
    lia
  . obtain⟨_,rfl,s7,hD7⟩:=h;rw[CI];refine⟨⟨rfl,rfl⟩,?_⟩;refine⟨_,rfl,_,rfl,Au,fun p hp=>?_⟩;refine⟨_,rfl,dd,_,rfl,BG.t (k:=[Sum.inl x,Sum.inl (q:Int)]) (zH hp _ _ (s7 _ _ hd1)) zK,_,rfl,?_⟩;refine Cg (fun hc=>?_) (fun hc=>?_)
    . refine⟨_,rfl,zH hp _ _ hD7,hq,?_,A9 (s7.trans (zH hp)) hD,zK⟩;rw[VA,List.filter_append,NN (p:=fun o=>(Af dQ [Sum.inl x,Sum.inl o]).isSome) hc,List.filter_nil,zf];rfl
    . refine⟨hq,?_,s7.trans (zH hp),zH hp _ _ ?_⟩
      . rw[VA,List.filter_append,M8 (p:=fun o=>(Af dQ [Sum.inl x,Sum.inl o]).isSome) hc,List.filter_nil,BR]
      . exact hD7
  . obtain⟨_,rfl,s7,hD7⟩:=h;generalize hsm:((lowTo n.toNat).filter fun o=>(Af dQ [Sum.inl x,Sum.inl o]).isSome)=sm at hD7 ⊢;have sm_rise:sm.Pairwise (· < ·):=by rw[<-hsm];exact (XJ _).sublist List.filter_sublist
    have sm_mem:∀p,p∈sm↔∃l,Ah ts x p l:=fun p=>by
     rw[<-hsm,List.mem_filter,pd.some];refine⟨fun h=>h.2,fun h=>⟨R8.mpr ?_,h⟩⟩;obtain⟨c,ha⟩:=h;have:=G.adj ha
     lia
    have sm_len:sm.length<=24:=by
     rw[<-hsm];refine zp (EH _ _) ?_;rw[lowTo,zD,Bu]
     lia
    have nb_iff:∀p,p∈sm.filter (nb dQ M x y d)↔Cp ts x y p:=fun p=>by
     rw[List.mem_filter,sm_mem];constructor
     . rintro ⟨⟨l,ha⟩,hb⟩;have gM:=G.adj ha;obtain⟨_,_,_,_,_,_,_,l3⟩:=FR.get (x:=p) (y:=y) (by lia) (by lia) hy dw;unfold nb at hb;rw[((pd x p).1 l).mpr ha] at hb;cases e2:A4 M p y with
       | none=>rw[e2] at hb;cases hb
       | some b=>rw[e2] at hb l3;have hs:l+b=d:=of_decide_eq_true hb;exact⟨l,b,ha,l3,by rw[hs];exact hxy'⟩
     . rintro ⟨l,b,ha,h2,h3⟩;have gM:=G.adj ha;obtain⟨_,_,_,_,_,_,_,l3⟩:=FR.get (x:=p) (y:=y) (by lia) (by lia) hy dw;refine⟨⟨l,ha⟩,?_⟩;unfold nb;rw[((pd x p).1 l).mpr ha,Ce.uniq l3 (show Ce ts p y (some b) from h2)];exact zP (WM.IsD.uniq h3 hxy')
    refine⟨_,rfl,D,rfl,⟨_,AE.of hD7⟩,[.ref dd,.int x,.ref fl,.int y,.int d],rfl,fun D2 dg=>?_⟩;have nDD:D≠D2:=zt hD7 dg;refine Wk (a:=D) (xs:=sm.map V.int) (fun i ys H8=>ys=((sm.take i).filter (nb dQ M x y d)).map V.int/\AD H7 H8/\H8 D2=some (.lst ys)) ⟨rfl,zH dg,zK⟩ (fun i ys H8 h=>?_) (fun i ys H8 h=>?_) (fun i v ys H8 hv h=>?_) (fun ys H8 h=>?_)
    . exact AE.of (h.2.1 _ _ hD7)
    . rw[h.1,zD];refine CG (EH _ _) (BS ?_);rw[zd];lia
    . obtain⟨rfl,s8,hD8⟩:=h;obtain⟨p,hp,rfl⟩:∃p,sm[i]?=some p/\V.int p=v:=by
       rw[zO] at hv;cases e:sm[i]? with
       | none=>rw[e] at hv;cases hv
       | some p=>rw[e] at hv;exact⟨p,rfl,zY hv⟩
      obtain⟨l,ha⟩:=(sm_mem p).mp (zV hp);have gM:=G.adj ha;have eG:=((pd x p).1 l).mpr ha;have s18:AD H H8:=s1.trans (s7.trans s8);refine⟨⟨rfl,rfl⟩,?_⟩;refine⟨_,rfl,_,rfl,_,rfl,Au,fun q hq=>?_⟩;have sq:AD H (upd H8 q (.tup [.int x,.int p])):=s18.trans (zH hq);obtain⟨r3,a3,w3,f3,g3,i3,j3,l3⟩:=(FR.keep fun b ys e=>sq _ _ e).get (x:=p) (y:=y) (by lia) (by lia) hy dw;obtain⟨b,eb⟩:∃b,A4 M p y=some b:=by
       cases e2:A4 M p y with
       | none=>rw[e2] at l3;exact absurd ((WM.Way.one ha).symm.trans hxy'.1) (l3 _)
       | some b=>exact⟨b,rfl⟩
      rw[eb] at j3;refine⟨dd,_,rfl,eG ▸ BG.t (k:=[Sum.inl x,Sum.inl p]) (zH hq _ _ (s8 _ _ (s7 _ _ hd1))) zK,?_⟩;refine⟨_,rfl,_,rfl,fl,_,_,.ref a3,rfl,rfl,AE.of f3,g3,_,rfl,a3,_,_,_,rfl,rfl,AE.of i3,j3,l,b,rfl,rfl,?_⟩;refine⟨_,rfl,rfl,_,rfl,?_⟩;have ek:sm.take (i+1)=sm.take i++[p]:=by rw[zr,hp];rfl
      have enb:nb dQ M x y d p=decide (l+b=d):=by unfold nb;rw[eG,eb]
      by_cases hs:l+b=d
      . refine Ag (zP (congrArg V.int hs)) ?_;refine⟨_,rfl,zH hq _ _ hD8,?_,A9 (s8.trans (zH hq)) dg,zK⟩;rw[ek,List.filter_append,NN (by rw[enb];exact zP hs),List.filter_nil,zf];rfl
      . refine Am (zR fun z=>hs (V.int.inj z)) ?_;refine⟨?_,s8.trans (zH hq),zH hq _ _ hD8⟩;rw[ek,List.filter_append,M8 (by rw[enb,zR hs];decide),List.filter_nil,BR]
    . obtain⟨rfl,s8,hD8⟩:=h;rw[zD,List.take_length] at hD8;exact k D2 _ H8 (s1.trans (s7.trans s8)) hD8 (sm_rise.sublist List.filter_sublist) nb_iff
def RU:Sp:=fun vs H Q _=>∃wa fl n ts M v h,vs=[.ref wa,.ref fl,.int v,.int h]/\BP H wa n ts/\DJ H fl n ts M/\0<=v/\v<n/\0<=h/\h<n/\(∃d,WM.IsD ts h v d) /\
 ∀a e H',AD H H'->H' a=some (.tup (eV e))->e.h=h->WM.IsD ts v h e.l->Df (Cp ts v h) e.u->Df (Cp ts h v) e.d->Q (.ref a) H'
theorem Ox :B9 ((x::l).map V.int) 0=some (.int x):=DS (j:=0) rfl
theorem Wu {P:Int->Prop}(r:xs.Pairwise (· < ·))(m:∀p,p∈xs↔P p)(ne:∃p,P p):∃x r,xs=x::r/\Df P (some x):=by
 obtain⟨p,hp⟩:=ne;cases xs with
 | nil=>exact absurd ((m p).mpr hp) (by simp)
 | cons x l=>
  refine⟨x,l,rfl,(m x).mp zS,fun q hq=>?_⟩;rcases zT.mp ((m q).mpr hq) with e | e
  . lia
  . have:=(HH.mp r).1 q e
    lia
theorem KI:AX MT MT (defScope NL):=Ad
theorem Z8 (F:Fu K "_law_entry" NL f dU) (FN:AH K mg "_law_nexts" E4 fN fdN Pf) (GN:AM P w base 2 FN Hr):
 AL P w K mg base AU 3 f dU MT RU:=by
 refine F.okD KI fun _ A _ _ H vs Q E hr h=>?_;obtain⟨wa,fl,n,ts,M,v,h,rfl,W,FR,v0,v1,h0,h1,⟨d,hd⟩,k⟩:=h;obtain⟨_,_,_,_,_,G⟩:=id W;refine⟨_,za (Aq (Ak Bh (pv 2) (pv 3) (AS _)) (ze (AN (AZ (zE (pv 3) (zE zi (zE An (zE An zQ))))))) Ao)
  (ze (AN (AZ (zE (pv 3) (zE (AF Ab (AF Ab (pv 1) (pv 2)) (pv 3))
   (zE (AF Ab (AO GN hr FN (zE (pv 0) (zE (pv 1) (zE (pv 2) (zE (pv 3) zQ))))) zi)
   (zE (AF Ab (AO GN hr FN (zE (pv 0) (zE (pv 1) (zE (pv 3) (zE (pv 2) zQ))))) zi) zQ))))))),?_⟩
 refine⟨_,rfl,_,rfl,rfl,_,rfl,?_⟩;by_cases c:v=h
 . subst c;refine Ag (zP rfl) ?_;refine⟨_,rfl,MY,fun p hp=>?_⟩;have hz:Df (Cp ts v v) none:=fun p hp=>Cp.ne G hp rfl;exact k p ⟨v,0,none,none⟩ _ (zH hp) zK rfl (RA G v) hz hz
 . refine Am (zR fun z=>c (V.int.inj z)) ?_;obtain⟨rs,r,row,f1,f2,f3,f4,f5⟩:=FR.get v0 v1 h0 h1;have hv:WM.IsD ts v h d:=hd.symm;obtain⟨d',em⟩:∃d',A4 M v h=some d':=by
    cases e:A4 M v h with
    | some d'=>exact⟨d',rfl⟩
    | none=>rw[e] at f5;exact absurd hv.1 (f5 d)
   rw[em] at f4 f5;refine⟨_,rfl,_,rfl,_,rfl,fl,_,_,.ref r,rfl,rfl,AE.of f1,f2,_,rfl,r,_,_,_,rfl,rfl,AE.of f3,f4,?_⟩;refine⟨_,rfl,_,rfl,_,rfl,_,rfl,wa,fl,n,ts,M,v,h,rfl,W,FR,v0,v1,h0,h1,fun l xs H1 s1 hl rise mem=>?_⟩;obtain⟨u,ur,rfl,mu⟩:=Wu rise mem (Cp.exists G hv c);refine⟨l,_,0,.int u,rfl,rfl,AE.of hl,Ox,?_⟩;refine⟨_,rfl,_,rfl,_,rfl,_,rfl,wa,fl,n,ts,M,h,v,rfl,W.keep s1,FR.keep fun b ys e=>s1 _ _ e,h0,h1,v0,v1,fun l2 xs2 H2 s2 fZ rise2 mem2=>?_⟩;obtain⟨dn,dr,rfl,md⟩:=Wu rise2 mem2 (Cp.exists G hd fun z=>c z.symm);refine⟨l2,_,0,.int dn,rfl,rfl,AE.of fZ,Ox,?_⟩;refine⟨MY,fun p hp=>?_⟩;exact k p ⟨h,d',some u,some dn⟩ _ ((s1.trans s2).trans (zH hp)) zK rfl f5 mu md
def XD:Sp:=fun vs H Q _=>∃wa p n ts os,vs=[.ref wa,.ref p]/\BP H wa n ts/\H p=some (.tup (os.map V.int))/\Iu n os /\
 ∀l dP rk H',AD H H'->Bp H' l dP->DY n os rk->R9 ts n rk dP->(∀es∈dP,∀e∈es,0<=e.l/\e.l<=2376)->Q (.ref l) H'
theorem DY.ex {os:List Int}(O:Iu n os):∃rk,DY n os rk:=by
 classical
 refine⟨fun p=>if h:∃i:Nat,os[i]?=some p then ((Classical.choose h:Nat):Int) else 0,fun p h0 h1=>?_⟩
 obtain⟨i,hi,ei⟩:=zy (O.mem (p:=p) h0 h1);have hex:∃i:Nat,os[i]?=some p:=⟨i,by rw[zB hi,ei]⟩;simp only[hex,dif_pos];exact⟨by lia,by rw[zv];exact Classical.choose_spec hex⟩
theorem UV {os:List Int}(O:Iu n os)(R:DY n os rk)(h0:0<=h)(h1:h<n)(x0:0<=x)(x1:x<n):x∈os.take (rk h).toNat↔rk x<rk h:=by
 obtain⟨a0,a1⟩:=R h h0 h1;obtain⟨b0,b1⟩:=R x x0 x1;obtain⟨i1,e1⟩:=zI.mp a1;obtain⟨i2,e2⟩:=zI.mp b1;constructor
 . intro m;obtain⟨j,hj,ej⟩:=zy m;rw[zd] at hj;rw[List.getElem_take] at ej;have:=(List.getElem_inj O.nd).mp (ej.trans e2.symm)
   lia
 . intro l;rw[<-e2];exact List.mem_take_iff_getElem.mpr ⟨(rk x).toNat,by lia,rfl⟩
theorem ck {os:List Int}(G:GW n ts)(FR:DJ H fl n ts M)(O:Iu n os)(R:DY n os rk)(h0:0<=h)(h1:h<n)(v0:0<=v)(v1:v<n):
 Gn ts rk h v↔(A4 M h v).isSome=true/\((os.take (rk h).toNat).filter fun x=>CP M x h v)=[]:=by
 obtain⟨_,_,_,_,_,_,_,l1⟩:=FR.get h0 h1 v0 v1;constructor
 . rintro ⟨⟨d,hd⟩,z⟩;refine⟨?_,List.filter_eq_nil_iff.mpr fun x hx c=>?_⟩
   . cases e:A4 M h v with
     | none=>rw[e] at l1;exact absurd hd.1 (l1 d)
     | some _=>rfl
   . have xr:=O.rng x (MK hx);have:=z x ((V1 FR xr.1 xr.2 h0 h1 v0 v1).mp c);have:=(UV O R h0 h1 xr.1 xr.2).mp hx
     lia
 . rintro ⟨z1,z2⟩;refine⟨?_,fun x hx=>?_⟩
   . cases e:A4 M h v with
     | none=>rw[e] at z1;cases z1
     | some d=>rw[e] at l1;exact⟨d,l1⟩
   . obtain⟨a,b,ia,_⟩:=id hx;have xr:=ia.1.in_ G h0 h1;by_cases c:rk x<rk h
     . exact absurd ((V1 FR xr.1 xr.2 h0 h1 v0 v1).mpr hx) (List.filter_eq_nil_iff.mp z2 x ((UV O R h0 h1 xr.1 xr.2).mpr c))
     . lia
theorem int_at {l:List Int}{i:Nat}(h:(l.map V.int)[i]?=some x):∃y,l[i]?=some y/\V.int y=x:=by
 rw[zO] at h;cases e:l[i]? with
 | none=>rw[e] at h;cases h
 | some y=>rw[e] at h;exact⟨y,rfl,zY h⟩
theorem Iw:AX ["_law_web_here","_law_order_here","_law_far_here","_law_labels_here","_law_place","_law_entries","_law_hub_here","_law_sooner"] Qm (defScope QH):=Ad
theorem aE (F:Fu K "_law_labels" QH f dU) (FF:AH K mg "_law_far" FV fF fdF Ex) (GF:AM P w base 3 FF Rh)
 (FO:AH K mg "_law_on" Oj fO fdO OY) (GO:AM P w base 3 FO Jm)
 (FE:AH K mg "_law_entry" NL fE fdE MT) (GE:AM P w base 3 FE RU)
 (dR:mg "range"=none) (dS:mg "tuple"=none):AL P w K mg base AU 4 f dU Qm XD:=by
 refine F.okD Iw fun _ A _ _ H vs Q E hr h=>?_;obtain⟨wa,p,n,ts,os,rfl,W,hp,O,k⟩:=h;obtain⟨ta,tys,eS,_,_,G⟩:=id W;have iu:=G.n1;have iJ:=G.n24;have iS:=hr.units0;refine⟨_,za (HN (i:=2) Iw.nd rfl (Or.inr rfl) (AO GF hr FF (zE (pv 0) zQ)))
  (za (As (i:=3) Iw.nd (CJ zQ))
  (za (A7 (B8 rfl dR (zE (AF Ac (pv 0) zi) zQ)) (B5 (i:=4) Iw.nd rfl (Or.inr rfl))
   (za (As (i:=5) Iw.nd (CJ zQ))
   (za (A7 (B8 rfl dR (zE (AF Ac (pv 0) zi) zQ)) (B5 (i:=6) Iw.nd rfl (Or.inr rfl))
    (za (HL (i:=7) (own:=["_law_one"]) (cn:=["_law_far_here","_law_hub_here","_law_place"]) (ci:=[2,6,4]) Iw.nd rfl (Or.inl rfl) rfl (BK rfl rfl) ⟨rfl,rfl,rfl,rfl,rfl,rfl,rfl,rfl,rfl,trivial⟩ rfl
     (BH (Ef Re (pv 1) Eo (EZ (Ki PySem.F.slot_tuple_index PySem.F.type_tuple_index bK (pv 1) (zE (pv 6) zQ))))) (fun _ _ _ _=>BJ)
     (fun _ _ _ _=>El (BL (AO GO hr FO (zE (pv 1) (zE (pv 0) (zE (pv 2) (zE (pv 3) zQ))))))) (fun _ _ _ _=>pv 0))
    (ze (Aq (PW.pt (HG (Ak HQ (AF Ab (AF Ab (pv 2) (pv 6)) (pv 4)) An (AS _)) (Lx (Ak (RC iS) (pv 7) (CJ zQ) (AS _)))))
     (ze (D7 (Em PySem.F.plainAttrs_list PySem.F.slot_list_append PySem.F.type_list_append HW (pv 5) (zE (AO GE hr FE (zE (pv 0) (zE (pv 2) (zE (pv 4) (zE (pv 6) zQ))))) zQ)))) Ao))))
   (ze (D7 (Em PySem.F.plainAttrs_list PySem.F.slot_list_append PySem.F.type_list_append HW (pv 3) (zE (DH Lm dS (zE (pv 5) zQ)) zQ)))))))
  (ze (AN (DH Lm dS (zE (pv 3) zQ)))))),?_⟩
 refine⟨_,rfl,wa,n,ts,rfl,W,fun fl Az FM H0 s0 hfl FLR FRR=>?_⟩;have FR0:DJ H0 fl n ts FM:=⟨Az,hfl,FLR,FRR⟩;have W0:=W.keep s0;have hwa0:=s0 _ _ eS;have hp0:=s0 _ _ hp;obtain⟨rk,R⟩:=DY.ex O;refine⟨zg _,fun D hD=>?_⟩;refine⟨_,rfl,wa,_,_,_,rfl,rfl,AC.of (zH hD _ _ hwa0),rfl,n,rfl,by lia,by lia,CS (lo:=0) (n:=n.toNat) (fun q σ H1=>∃(v4 v5 v6 v7:Option V)(bs:List Addr)(dP:List (List En)),σ=[some (.ref wa),some (.ref p),some (.ref fl),some (.ref D),v4,v5,v6,v7]/\bs.length=q/\dP.length=q/\H1 D=some (.lst (bs.map V.ref))/\(∀(i:Nat)(b:Addr),bs[i]?=some b->∃es,dP[i]?=some es/\Bz H1 b es)/\(∀(i:Nat)(es:List En),dP[i]?=some es->Ht ts n rk i es)/\AD H0 H1)
  ⟨none,none,none,none,[],[],rfl,rfl,rfl,zK,(fun i b z=>by simp at z),(fun i b z=>by simp at z),zH hD⟩ ?turn ?after⟩
 case after=>
  rintro σ H1 ⟨v4,v5,v6,v7,bs,dP,rfl,hbl,hel,gC,hlab,du,s1⟩;refine⟨_,rfl,D,_,rfl,.inl ⟨AE.of gC,fun l hl=>?_⟩⟩;refine k l dP rk _ (s0.trans (s1.trans (zH hl))) ⟨bs,zK,by lia,fun i b hb=>?_⟩ R ⟨hel,du⟩ ?bound
  case bound=>
   intro es er e he;obtain⟨i,hi,ei⟩:=zy er;have EO:=(du i es (by rw[zB hi,ei])).ent e he;exact cX FRR (by lia) (by lia) EO.rng.1 EO.rng.2 EO.len
  obtain⟨es,e1,e2⟩:=hlab i b hb;exact⟨es,e1,e2.same (zH hl)⟩
 case turn=>
  rintro q σ H1 hq ⟨v4,v5,v6,v7,bs,dP,rfl,hbl,hel,gC,hlab,du,s1⟩;rw[CI];have q0:(0:Int)<=q:=by lia
  have qn:(q:Int)<n:=by lia
  refine⟨zg _,fun E' hE=>?_⟩;have nED:D≠E':=zt gC hE;refine⟨_,rfl,wa,_,_,_,rfl,rfl,AC.of (zH hE _ _ (s1 _ _ hwa0)),rfl,n,rfl,by lia,by lia,CS (lo:=0) (n:=n.toNat) (fun j σ H2=>∃(v6 v7:Option V)(as:List Addr)(es:List En),σ=[some (.ref wa),some (.ref p),some (.ref fl),some (.ref D),some (.int q),some (.ref E'),v6,v7]/\H2 E'=some (.lst (as.map V.ref))/\B4 H2 as es/\C3 es/\(∀e∈es,Pm ts n rk q e/\e.h<j)/\(∀h:Int,0<=h->h<j->Gn ts rk h q->∃e∈es,e.h=h)/\es.length<=j/\AD H1 H2)
   ⟨v6,v7,[],[],rfl,zK,⟨rfl,fun i a z=>by simp at z⟩,Io,(fun e z=>by simp at z),(fun h a b=>by lia),zJ _,zH hE⟩ ?turn2 ?after2⟩
  case after2=>
   rintro σ H2 ⟨v6,v7,as,es,rfl,hE2,EA,hub,ent,alh,hln,s2⟩;refine⟨_,rfl,.inl ⟨rfl,_,AE.of (s2 _ _ gC)⟩,?_⟩;refine⟨_,rfl,E',_,rfl,.inl ⟨AE.of hE2,fun l hl=>?_⟩⟩;have sl:=zH (o:=.tup (as.map V.ref)) hl;refine⟨D,_,.ref l,rfl,rfl,sl _ _ (s2 _ _ gC),?_,?_⟩
   . rw[zD];exact BS (by lia)
   . have kT:∀b ys,H1 b=some (.tup ys)->(upd (upd H2 l (.tup (as.map V.ref))) D (.lst (bs.map V.ref++[.ref l]))) b=some (.tup ys):=fun b ys e=>by
      have hb:b≠D:=fun z=>by rw[z,gC] at e;cases e
      rw[zk hb];exact sl _ _ (s2 _ _ e)
     have nlD:l≠D:=fun z=>by rw[z,s2 _ _ gC] at hl;cases hl
     have eO:(upd (upd H2 l (.tup (as.map V.ref))) D (.lst (bs.map V.ref++[.ref l]))) l=some (.tup (as.map V.ref)):=by rw[zk nlD];exact zK
     refine⟨_,_,_,_,bs++[l],dP++[es],rfl,by rw[zM,hbl];rfl,by rw[zM,hel];rfl,by rw[zK,zf];rfl,fun i b hb=>?_,fun i gD he=>?_,A9 ((s1.trans s2).trans sl) hD⟩
     . by_cases c:i<bs.length
       . rw[zb c] at hb;obtain⟨gD,e1,e2⟩:=hlab i b hb;exact⟨gD,by rw[zb (by lia)];exact e1,e2.keep kT⟩
       . have hi:i=bs.length:=by have:=(zI.mp hb).1;rw[zM] at this;simp at this;lia
         subst hi;rw[zX (zJ _),Eg] at hb;have eb:l=b:=by simpa using hb
         subst eb;refine⟨es,by rw[zX (by lia),hbl,hel,Eg];rfl,as,eO,EA.keep fun b ys e=>?_,by lia⟩;have hb:b≠D:=fun z=>by rw[z,s2 _ _ gC] at e;cases e
         rw[zk hb];exact sl _ _ e
     . by_cases c:i<dP.length
       . rw[zb c] at he;exact du i gD he
       . have hi:i=dP.length:=by have:=(zI.mp he).1;rw[zM] at this;simp at this;lia
         subst hi;rw[zX (zJ _),Eg] at he;have ee:es=gD:=by simpa using he
         subst ee;rw[hel];exact⟨hub,fun e he=>(ent e he).1,fun h h0 h1 z=>alh h h0 (by lia) z,by lia⟩
  case turn2=>
   rintro j σ H2 hj ⟨v6,v7,as,es,rfl,hE2,EA,hub,ent,alh,hln,s2⟩;rw[CI];have j0:(0:Int)<=j:=by lia
   have jn:(j:Int)<n:=by lia
   obtain⟨rj0,iq⟩:=R (j:Int) j0 jn;obtain⟨iL,hie⟩:=zI.mp iq;have eT:=s2 _ _ (s1 _ _ hp0);have ft:∀m,m<(rk j).toNat->os[m]?≠some (j:Int):=fun m hm e=>by
    obtain⟨hm',em⟩:=zI.mp e;have:=(List.getElem_inj O.nd).mp (em.trans hie.symm)
    lia
   have ec:Bq (os.map V.int) none (some (((rk j).toNat:Nat):Int))=(os.take (rk j).toNat).map V.int:=by unfold Bq;rw[HT.sIx_none,HT.sIx_nat,HF,Nat.sub_zero,zD,Nat.min_eq_left (by lia),List.map_take]
   refine⟨_,rfl,_,rfl,⟨p,_,rfl,eT⟩,_,rfl,p,os,(rk j).toNat,j,rfl,rfl,AC.of eT,iq,ft,(((rk j).toNat:Nat):Int),rfl,p,_,rfl,AC.of eT,fun z=>?whole,fun _ t ht=>?_⟩
   case whole=>
    have z2:=z.2;rw[HT.sIx_nat,zD] at z2
    lia
   rw[ec];have st:=zH (o:=.tup ((os.take (rk j).toNat).map V.int)) ht;have ht3:(upd H2 t (.tup ((os.take (rk j).toNat).map V.int))) t=some (.tup ((os.take (rk j).toNat).map V.int)):=zK;generalize upd H2 t (.tup ((os.take (rk j).toNat).map V.int))=H3 at st ht3 ⊢;have FR3:DJ H3 fl n ts FM:=FR0.keep fun b ys e=>st _ _ (s2 _ _ (s1 _ _ e));refine⟨t,rfl,⟨_,AC.of ht3⟩,[.ref fl,.int j,.int q],rfl,fun D3 eU=>?_⟩;refine BV (a:=t) (xs:=(os.take (rk j).toNat).map V.int) (fun m ys H4=>ys=(((os.take (rk j).toNat).take m).filter fun x=>CP FM x j q).map V.int/\H4=upd H3 D3 (.lst ys)) ⟨rfl,rfl⟩ (fun m ys H4 z=>?_) (fun m ys H4 z=>?_) (fun m x ys H4 hx z=>?_) (fun ys H4 z=>?_)
   . obtain⟨_,rfl⟩:=z;exact AC.of (by rw[zk (zt ht3 eU)];exact ht3)
   . obtain⟨rfl,_⟩:=z;rw[zD];refine CG (EH _ _) ?_;rw[zd,zd];exact BS (by have:=O.ln;lia)
   . obtain⟨rfl,rfl⟩:=z;obtain⟨y,hy,rfl⟩:=int_at hx;have yr:=O.rng y (MK (zV hy));have sty:((os.take (rk j).toNat).take (m+1)).filter (fun x=>CP FM x j q)=((os.take (rk j).toNat).take m).filter (fun x=>CP FM x j q)++[y].filter (fun x=>CP FM x j q):=by rw[zr,hy,List.filter_append];rfl
     refine⟨⟨rfl,rfl⟩,?_⟩;refine⟨_,rfl,_,rfl,_,rfl,_,rfl,fl,n,ts,FM,y,j,q,rfl,FR3.keep fun b ys e=>zH eU _ _ e,yr.1,yr.2,j0,jn,q0,qn,?_⟩;refine⟨_,rfl,?_⟩;by_cases c:CP FM y j q=true
     . refine Ag c ?_;refine⟨_,rfl,zK,?_,Gj⟩;rw[sty,NN (p:=fun x=>CP FM x j q) c,List.filter_nil,zf];rfl
     . refine Am (Bool.not_eq_true _ ▸ c) ⟨?_,rfl⟩;rw[sty,M8 (p:=fun x=>CP FM x j q) c,List.filter_nil,BR]
   . obtain⟨rfl,rfl⟩:=z;rw[zD,zW (zJ _)];have sD3:=zH (o:=.lst (((os.take (rk j).toNat).filter fun x=>CP FM x j q).map V.int)) eU;have hDl:(upd H3 D3 (.lst (((os.take (rk j).toNat).filter fun x=>CP FM x j q).map V.int))) D3=some (.lst (((os.take (rk j).toNat).filter fun x=>CP FM x j q).map V.int)):=zK;generalize upd H3 D3 (.lst (((os.take (rk j).toNat).filter fun x=>CP FM x j q).map V.int))=H4 at sD3 hDl ⊢;have FR4:DJ H4 fl n ts FM:=FR3.keep fun b ys e=>sD3 _ _ e;have s24:AD H2 H4:=st.trans sD3;have key:=ck G FR4 O R j0 jn q0 qn;obtain⟨rs1,r1,row1,f1,g1,i1,j1,l1⟩:=FR4.get (x:=(j:Int)) (y:=(q:Int)) j0 jn q0 qn;refine⟨_,rfl,_,rfl,fl,_,_,.ref r1,rfl,rfl,AE.of f1,g1,_,rfl,r1,_,_,_,rfl,rfl,AE.of i1,j1,rfl,_,rfl,?_⟩;have stay:∀{Hx:Hp},AD H2 Hx->¬ Gn ts rk j q->∃(v6 v7:Option V)(as:List Addr)(es:List En),[some (V.ref wa),some (.ref p),some (.ref fl),some (.ref D),some (.int q),some (.ref E'),some (.int j),some (.ref D3)]=[some (.ref wa),some (.ref p),some (.ref fl),some (.ref D),some (.int q),some (.ref E'),v6,v7]/\Hx E'=some (.lst (as.map V.ref))/\B4 Hx as es/\C3 es/\(∀e∈es,Pm ts n rk q e/\e.h<((j+1:Nat):Int))/\(∀h:Int,0<=h->h<((j+1:Nat):Int)->Gn ts rk h q->∃e∈es,e.h=h)/\es.length<=j+1/\AD H1 Hx:=fun {Hx} sx nh=>
      ⟨_,_,as,es,rfl,sx _ _ hE2,EA.keep fun b ys e=>sx _ _ e,hub,fun e he=>⟨(ent e he).1,by have:=(ent e he).2;lia⟩,fun h h0 h1 z=>by
       by_cases c:h=j
       . subst c;exact absurd z nh
       . exact alh h h0 (by lia) z,by lia,s2.trans sx⟩
     cases e:A4 FM j q with
     | none=>
      have nh:¬ Gn ts rk j q:=fun z=>by have:=(key.mp z).1;rw[e] at this;cases this
      refine Am (by rw[Rq];rfl) ?_;exact Aj (stay s24 nh)
     | some d=>
      refine Ag (by rw[HX];rfl) ?_;refine⟨_,rfl,zg _,fun b hb=>?_⟩;have sb:=zH (o:=.lst []) hb;refine⟨D3,b,_,rfl,rfl,AE.of (sb _ _ hDl),AE.of zK,_,rfl,?_⟩;by_cases c:((os.take (rk j).toNat).filter fun x=>CP FM x j q)=[]
      . have yh:Gn ts rk j q:=key.mpr ⟨by rw[e];rfl,c⟩;refine Ag (by rw[c];rfl) ?_;have s25:=s24.trans sb;generalize upd H4 b (.lst [])=H5 at s25 sb ⊢;refine⟨_,rfl,.inl ⟨rfl,_,AE.of (s25 _ _ hE2)⟩,?_⟩;refine⟨_,rfl,_,rfl,_,rfl,_,rfl,wa,fl,n,ts,FM,q,j,rfl,W0.keep (s1.trans (s2.trans s25)),FR4.keep fun b ys e=>sb _ _ e,q0,qn,j0,jn,yh.1,fun a en H6 s6 ha eh el eu ed=>?_⟩;have hE6:=s6 _ _ (s25 _ _ hE2);refine⟨E',_,.ref a,rfl,rfl,hE6,?_,?_⟩
        . rw[zD,EA.1];exact BS (by lia)
        . have kT:∀b ys,H2 b=some (.tup ys)->(upd H6 E' (.lst (as.map V.ref++[.ref a]))) b=some (.tup ys):=fun b ys e=>by
           have hb:b≠E':=fun z=>by rw[z,hE2] at e;cases e
           rw[zk hb];exact s6 _ _ (s25 _ _ e)
          have naE:a≠E':=fun z=>by rw[z,hE6] at ha;cases ha
          have EO:Pm ts n rk q en:=by refine⟨by rw[eh];exact⟨j0,jn⟩,by rw[eh];exact yh,by rw[eh];exact el,by rw[eh];exact eu,by rw[eh];exact ed⟩
          refine⟨_,_,as++[a],es++[en],rfl,by rw[zK,zf];rfl,(EA.keep kT).snoc (by rw[zk naE];exact ha),?_,fun e he=>?_,fun h h0 h1 z=>?_,by rw[zM];show es.length+1<=j+1;lia,A9 ((s2.trans s25).trans s6) hE⟩
          . refine List.pairwise_append.mpr ⟨hub,List.pairwise_singleton _ _,fun x hx y hy=>?_⟩;have ey:y=en:=by simpa using hy
            rw[ey,eh];exact (ent x hx).2
          . rcases zj.mp he with m | m
            . exact⟨(ent e m).1,by have:=(ent e m).2;lia⟩
            . have ee:e=en:=by simpa using m
              rw[ee];exact⟨EO,by rw[eh];lia⟩
          . by_cases ch:h=j
            . exact⟨en,by simp,by rw[eh,ch]⟩
            . obtain⟨e',m,gJ⟩:=alh h h0 (by lia) z;exact⟨e',C8 _ m,gJ⟩
      . have nh:¬ Gn ts rk j q:=fun z=>c (key.mp z).2;refine Am ?_ (stay (s24.trans sb) nh);cases z:((os.take (rk j).toNat).filter fun x=>CP FM x j q) with
        | nil=>exact absurd z c
        | cons _ _=>rfl
theorem XN :BU X st (fun _ _ _=>False):=fun _ _ _ _ _ _ h=>h.elim
theorem cJ (s:AD H H')(h:H' p=none):H p=none:=by
 cases e:H p with
 | none=>rfl
 | some o=>rw[s p o e] at h;cases h
structure TH (n:Int)(e:En):Prop where
 rng:0<=e.h/\e.h<n
 nn:0<=e.l
 own:e.l=0->e.u=none/\e.d=none
 far:e.l≠0->∃u d,e.u=some u/\e.d=some d/\0<=u/\u<n/\0<=d/\d<n
structure JB (n:Int)(es:List En):Prop where
 ent:∀e∈es,TH n e
 hub:C3 es
 len:(es.length:Int)<=n
 one:(es.map (·.l)).countP (fun x=>x==0)=1
noncomputable def oD:Option Int->PyData
 | none=>.none
 | some i=>.int i
noncomputable def DF (e:En):PyData:=.tuple [.int e.h,.int e.l,oD e.u,oD e.d]
noncomputable def BZ (es:List En):PyData:=.tuple (es.map DF)
noncomputable def EX (dP:List (List En)):PyData:=.tuple (dP.map BZ)
theorem Wa (h:oD a=oD b):a=b:=by cases a <;> cases b <;> first | rfl | (cases h;done) | (injection h with h;rw[h])
theorem Rm {α β:Type}{f:α->β}(hf:∀a b,f a=f b->a=b):∀{xs ys:List α},xs.map f=ys.map f->xs=ys
 | [],[],_=>rfl
 | [],_::_,h=>by cases h
 | _::_,[],h=>by cases h
 | x::xs,y::ys,h=>by injection h with h1 h2;rw[hf _ _ h1,Rm hf h2]
theorem Zn (a b)(h:DF a=DF b):a=b:=by unfold DF at h;injection h with h;injection h with h1 h;injection h with h2 h;injection h with h3 h;injection h with h4 h;injection h1 with h1;injection h2 with h2;cases a;cases b;cases h1;cases h2;cases Wa h3;cases Wa h4;rfl
theorem XE (h:EX a=EX b):a=b:=by unfold EX at h;injection h with h;exact Rm (fun x y z=>by unfold BZ at z;injection z with z;exact Rm Zn z) h
theorem K8 (h:Al n d=true):∃e,d=DF e/\TH n e/\BO d=e.h/\Bv d=e.l:=by
 unfold Al at h;split at h
 . rename_i x l u w
   rw[zx,zx] at h;obtain⟨i,rfl,a1,a2⟩:=P4 h.1;have hl:=of_decide_eq_true h.2.1;have ht:=h.2.2;unfold HZ at ht;by_cases c:l=0
   . rw[if_pos c,zx] at ht;have hu:u=.none:=by cases u <;> first | rfl | (cases ht.1;done)
     have hw:w=.none:=by cases w <;> first | rfl | (cases ht.2;done)
     subst hu hw;exact⟨⟨i,l,none,none⟩,rfl,⟨⟨a1,by show i<n;lia⟩,hl,fun _=>⟨rfl,rfl⟩,fun z=>absurd c z⟩,rfl,rfl⟩
   . rw[if_neg c,zx] at ht;obtain⟨u',rfl,b1,b2⟩:=P4 ht.1;obtain⟨w',rfl,c1,c2⟩:=P4 ht.2;exact⟨⟨i,l,some u',some w'⟩,rfl,⟨⟨a1,by show i<n;lia⟩,hl,fun z=>absurd z c,fun _=>⟨u',w',rfl,rfl,b1,by lia,c1,by lia⟩⟩,rfl,rfl⟩
 . cases h
theorem XT :∀{ds:List PyData},ds.all (Al n)=true->∃es:List En,ds=es.map DF/\(∀e∈es,TH n e)/\ds.map BO=es.map (·.h)/\ds.map Bv=es.map (·.l)
 | [],_=>⟨[],rfl,fun e z=>(by cases z),rfl,rfl⟩
 | d::ds,h=>by
  rw[List.all_cons,zx] at h;obtain⟨e,h1,h2,h3,h4⟩:=K8 h.1;obtain⟨es,g1,g2,g3,g4⟩:=XT h.2;refine⟨e::es,by rw[h1,g1];rfl,fun x hx=>?_,by rw[BX,BX,h3,g3],by rw[BX,BX,h4,g4]⟩;rcases zT.mp hx with rfl | hx
  . exact h2
  . exact g2 x hx
theorem KZ (h:BW n d=true):∃es,d=BZ es/\JB n es:=by
 unfold BW at h;split at h
 . rename_i ds
   rw[zx,zx,zx] at h;obtain⟨h1,h2,h3,h4⟩:=h;obtain⟨es,g1,g2,g3,g4⟩:=XT h2;refine⟨es,by rw[g1];rfl,g2,?_,?_,?_⟩
   . rw[g3,P8,G9] at h4;exact h4
   . have:=of_decide_eq_true h1;rw[g1,zD] at this;exact this
   . have:=of_decide_eq_true h3;rw[g4] at this;exact this
 . cases h
structure Hy (n:Int)(dP:List (List En)):Prop where
 ln:dP.length=n.toNat
 kd:∀es∈dP,JB n es
theorem Vi :∀{ds:List PyData},ds.all (BW n)=true->∃dP:List (List En),ds=dP.map BZ/\∀es∈dP,JB n es
 | [],_=>⟨[],rfl,fun e z=>(by cases z)⟩
 | d::ds,h=>by
  rw[List.all_cons,zx] at h;obtain⟨e,h1,h2⟩:=KZ h.1;obtain⟨es,g1,g2⟩:=Vi h.2;refine⟨e::es,by rw[h1,g1];rfl,fun x hx=>?_⟩;rcases zT.mp hx with rfl | hx
  . exact h2
  . exact g2 x hx
theorem Rj (h:Fq n d=true):∃dP,d=EX dP/\Hy n dP:=by
 unfold Fq at h;split at h
 . rename_i ds
   rw[zx] at h;obtain⟨dP,g1,g2⟩:=Vi h.2;have:=of_decide_eq_true h.1;rw[g1,zD] at this;exact⟨dP,by rw[g1];rfl,by lia,g2⟩
 . cases h
theorem Jf (h:AW H v (DF e)):∃a,v=.ref a/\H a=some (.tup (eV e)):=by
 have ov:∀{v:V}{o:Option Int},AW H v (oD o)->v=oV o:=fun {v o} s=>by cases o <;> cases s <;> rfl
 cases h with
 | @tup a xs _ e1 ax=>
  cases ax with
  | cons s1 ax=>cases ax with
   | cons s2 ax=>cases ax with
    | cons s3 ax=>cases ax with
     | cons s4 ax=>cases ax;cases s1;cases s2;refine⟨a,rfl,?_⟩;rw[e1,ov s3,ov s4];rfl
theorem VU :∀{xs:List V}{es:List En},Aw H xs (es.map DF)->∃as:List Addr,xs=as.map V.ref/\B4 H as es
 | _,[],h=>by cases h;exact⟨[],rfl,rfl,fun i a z=>by simp at z⟩
 | _,e::es,h=>by
  cases h with
  | cons s ss=>
   obtain⟨a,rfl,ha⟩:=Jf s;obtain⟨as,rfl,E⟩:=VU ss;refine⟨a::as,rfl,by rw[zo,zo,E.1],fun i b hb=>?_⟩;cases i with
   | zero=>cases hb;exact⟨e,rfl,ha⟩
   | succ i=>exact E.2 i b hb
theorem Ug :∀{xs:List V}{dP:List (List En)},(∀es∈dP,es.length<=1000)->Aw H xs (dP.map BZ)->∃as:List Addr,xs=as.map V.ref/\as.length=dP.length/\∀(i:Nat)a,as[i]?=some a->∃es,dP[i]?=some es/\Bz H a es
 | _,[],_,h=>by cases h;exact⟨[],rfl,rfl,fun i a z=>by simp at z⟩
 | _,es::dP,hl,h=>by
  cases h with
  | cons s ss=>
   obtain⟨as,rfl,h1,h2⟩:=Ug (fun e he=>hl e (zZ _ he)) ss;cases s with
   | @tup a xs _ e1 ax=>
    obtain⟨bs,rfl,E⟩:=VU ax;refine⟨a::as,rfl,by rw[zo,zo,h1],fun i b hb=>?_⟩;cases i with
    | zero=>cases hb;exact⟨es,rfl,bs,e1,E,hl es zS⟩
    | succ i=>exact h2 i b hb
theorem XU (hl:∀es∈dP,es.length<=1000)(h:AW H v (EX dP)):∃la,v=.ref la/\Bp H la dP:=by
 cases h with
 | @tup a xs _ e1 ax=>obtain⟨as,rfl,h1,h2⟩:=Ug hl ax;exact⟨a,rfl,as,e1,h1,h2⟩
theorem Oc (n:dx≠e):upd (upd (upd H dx o1) e x) dx o2=upd (upd H dx o2) e x:=by
 funext b;by_cases h1:b=dx
 . subst h1;rw[zK,zk n,zK]
 . by_cases h2:b=e
   . subst h2;rw[zk h1,zK,zK]
   . rw[zk h1,zk h2,zk h1,zk h2,zk h1]
theorem Te:AX GC GC (defScope Qg):=Ad
theorem Nd (F:Cm K "__init__" "NoLabels.__init__" Qg f dU) (EI:Cz K C f)(mo:PySem.W.mroIn K C (.type "object")=some true) (n1:PySem.W.findIn K (.ref C) "word"=some none) (n2:PySem.W.findIn K (.ref C) "at"=some none):AL P w K mg base AU 1 f dU GC (Dh C "word" "at"):=by
 refine F.okD Te fun _ A _ _ H vs Q E hr h=>?_;obtain⟨e,t,v1,v2,rfl,he,k⟩:=h;refine⟨_,za (VH EI mo n1 (pv 0) (pv 1)) (ze (VH EI mo n2 (pv 0) (pv 2))),?_⟩;refine⟨_,rfl,_,rfl,e,t,rfl,.inl ⟨he,fun dx hZ=>?_⟩⟩;have ne:dx≠e:=fun z=>by rw[z,he] at hZ;cases hZ
 refine⟨_,rfl,_,rfl,e,t,rfl,.inr ⟨dx,_,zK,by rw[zk ne,zK],by show 1<900;decide,?_⟩⟩;show Q _ _;rw[Oc ne];exact k dx hZ ne
noncomputable def Bb (dP:List (List En)):Nat->List (Nat×En)
 | 0=>[]
 | i+1=>Bb dP i++((dP.getD i []).filter fun e=>decide (e.l≠0)).map fun e=>(i,e)
def Ei (H:Hp)(ys:List V)(fe:List (Nat×En)):Prop:=ys.length=fe.length/\∀(j:Nat)y,ys[j]?=some y->∃c a,∃(i:Nat),∃e,y=.ref c/\fe[j]?=some (i,e)/\H c=some (.tup [.int i,.ref a])/\H a=some (.tup (eV e))
theorem Ei.keep (h:Ei H ys fe)(k:∀b zs,H b=some (.tup zs)->H' b=some (.tup zs)):Ei H' ys fe:=
 ⟨h.1,fun j y e=>let ⟨c,a,i,x,h1,h2,h3,h4⟩:=h.2 j y e;⟨c,a,i,x,h1,h2,k _ _ h3,k _ _ h4⟩⟩
theorem Ei.app (h:Ei H ys fe)(g:Ei H zs ge):Ei H (ys++zs) (fe++ge):=by
 refine⟨by rw[zM,zM,h.1,g.1],fun j y e=>?_⟩;by_cases c:j<ys.length
 . rw[zb c] at e;obtain⟨a,b,i,x,h1,h2,h3⟩:=h.2 j y e;exact⟨a,b,i,x,h1,by rw[zb (by rw[<-h.1];exact c)];exact h2,h3⟩
 . rw[zX (by lia)] at e;obtain⟨a,b,i,x,h1,h2,h3⟩:=g.2 _ y e;exact⟨a,b,i,x,h1,by rw[zX (by rw[<-h.1];lia),<-h.1];exact h2,h3⟩
def P1:Sp:=fun vs H Q _=>∃l dP,vs=[.ref l]/\Bp H l dP/\dP.length<=24/\(∀es∈dP,es.length<=24) /\
 ∀a ys H',AD H H'->H a=none->H' a=some (.lst ys)->Ei H' ys (Bb dP dP.length)->Q (.ref a) H'
theorem MH :∀{n i:Nat}{e:En},(i,e)∈Bb dP n->i<n/\e∈dP.getD i []
 | 0,_,_,h=>by simp[Bb] at h
 | n+1,i,e,h=>by
  rcases zj.mp (show (i,e)∈Bb dP n++_ from h) with z | z
  . have:=MH z;exact⟨by lia,this.2⟩
  . obtain⟨x,hx,ex⟩:=Be.mp z;simp only[Prod.mk.injEq] at ex;obtain⟨rfl,rfl⟩:=ex;exact⟨by lia,(List.mem_filter.mp hx).1⟩
theorem R7 (h:∀es∈dP,es.length<=24):∀n,(Bb dP n).length<=24*n
 | 0=>zJ _
 | n+1=>by
  show (Bb dP n++_).length<=_;rw[zM,zD];have h1:=R7 h n;have h2:=EH (fun e:En=>decide (e.l≠0)) (dP.getD n []);have h3:(dP.getD n []).length<=24:=by
   rw[zF];cases e:dP[n]? with
   | none=>exact zg _
   | some x=>exact h x (zV e)
  lia
theorem Qb:AX ["labels","found","place","label"] E8 (defScope Lz):=Ad
theorem Y8 (F:Fu K "far_entries" Lz f dU) (eF:mg "enumerate"=none):AL P w K mg base AU 1 f dU E8 P1:=by
 refine F.okD Qb fun _ A _ _ H vs Q E hr h=>?_;obtain⟨l,dP,rfl,LL,hn,er,k⟩:=h;obtain⟨as,hl,gG,hA⟩:=id LL;refine⟨_,za (As (i:=1) Qb.nd (CJ zQ))
  (za (A7 (R0 (by rfl) eF (zE (pv 0) zQ)) (C6 rfl (Ai (B5 (i:=2) Qb.nd rfl (Or.inr rfl)) (Ai (Ae (i:=3) Qb.nd) Ci)))
   (ze (D7 (Em PySem.F.plainAttrs_list PySem.F.slot_list_extend PySem.F.type_list_extend Vs (pv 1) (zE
    (B0 (own:=["entry"]) (cn:=["place"]) (ci:=[2]) rfl (BK rfl rfl) ⟨rfl,rfl,rfl,trivial⟩ rfl (BH (pv 3)) (fun _ _ _ _=>BJ)
     (fun _ _ _ _=>El (Ak NJ (AF Cy (pv 0) zi) zi (AS _)))
     (fun _ _ _ _=>AZ (zE (pv 1) (zE (pv 0) zQ)))) zQ)))))
  (ze (AN (pv 1)))),?_⟩
 refine⟨E5,fun D hD=>?_⟩;have s0:=zH (o:=.lst []) hD;refine⟨_,rfl,l,rfl,⟨_,AC.of (s0 _ _ hl)⟩,Ry (K:=K) (a:=l) (xs:=as.map V.ref) (fun i σ H2=>IV fun (v2 v3:Option V)(ys:List V)=>σ=[some (.ref l),some (.ref D),v2,v3]/\AD H H2/\H2 D=some (.lst ys)/\Ei H2 ys (Bb dP i))
  ⟨_,_,[],rfl,s0,zK,rfl,fun j y e=>by simp at e⟩ (fun i σ H2 _ ⟨_,_,_,_,s2,_⟩=>AC.of (s2 _ _ hl)) ?turn ?after⟩
 case after=>
  rintro σ H2 ⟨v2,v3,ys,rfl,s2,dg,FA⟩;rw[zD,gG] at FA;exact⟨_,rfl,k D ys H2 s2 hD dg FA⟩
 case turn=>
  rintro i x σ H2 Tp hx ⟨v2,v3,ys,rfl,s2,dg,FA⟩ hTp;rw[zO] at hx;cases ha:as[i]? with
  | none=>rw[ha] at hx;cases hx
  | some a=>
  rw[ha] at hx;cases hx;have hia:=(zI.mp ha).1;obtain⟨es,i5,bs,hb,EA,hl3⟩:=hA i a ha;have eget:dP.getD i []=es:=by rw[zF,i5];rfl
  have hel:=er es (zV i5);have sT:=zH (o:=.tup [.int (i:Int),.ref a]) hTp;have s3:=s2.trans sT;refine⟨Tp,_,rfl,AC.of zK,rfl,_,_,rfl,_,_,rfl,rfl,?_⟩;refine⟨_,rfl,.inl ⟨rfl,_,AE.of (sT _ _ dg)⟩,_,rfl,a,rfl,⟨_,AC.of (s3 _ _ hb)⟩,[.int i],rfl,fun D2 gB=>?_⟩;have EA3:B4 (upd H2 Tp (.tup [.int (i:Int),.ref a])) bs es:=EA.keep fun b zs e=>s3 _ _ e;have hbl:=EA.1;refine BV (a:=a) (xs:=bs.map V.ref) (fun j zs H4=>Ei H4 zs (((es.take j).filter fun e=>decide (e.l≠0)).map fun e=>(i,e))/\AD (upd H2 Tp (.tup [.int (i:Int),.ref a])) H4/\H4 D2=some (.lst zs)) ⟨⟨rfl,fun j y e=>by simp at e⟩,zH gB,zK⟩ (fun j zs H4 h=>?_) (fun j zs H4 h=>?_) (fun j v zs H4 hv h=>?_) (fun zs H4 h=>?_)
  . exact AC.of (h.2.1 _ _ (s3 _ _ hb))
  . rw[h.1.1,zD];exact CG (EH _ _) (Bk (by rw[zd];lia))
  . obtain⟨F4,s4,eR⟩:=h;obtain⟨c,e,rfl,he,hc⟩:=EA3.at hv;have hc4:=s4 _ _ hc;refine⟨⟨rfl,rfl⟩,?_⟩;refine⟨_,rfl,c,_,_,.int e.l,rfl,rfl,AC.of hc4,rfl,rfl,_,rfl,?_⟩;rw[Fi];have st:=Pq (fun e:En=>decide (e.l≠0)) he;by_cases cc:e.l=0
    . rw[zP cc];refine Aj ⟨?_,s4,eR⟩;rw[st,if_neg (by simp[cc]),BR];exact F4
    . rw[zR cc];refine Aa ?_;refine⟨_,rfl,_,rfl,Au,fun q hq=>?_⟩;have nDq:=zt eR hq;refine⟨zH hq _ _ eR,?_,A9 (s4.trans (zH hq)) gB,zK⟩;rw[st,if_pos (by simp[cc]),zf];have kp:∀b us,H4 b=some (.tup us)->(upd (upd H4 q (.tup [.int (i:Int),.ref c])) D2 (.lst (zs++[.ref q]))) b=some (.tup us):=fun b us e=>by rw[zk (Bn e eR (by intro z;cases z))];exact zH hq _ _ e
      refine (F4.keep kp).app ⟨rfl,fun j' y' e'=>?_⟩;cases j' with
      | zero=>
       have:V.ref q=y':=by simpa using e'
       subst this;exact⟨q,c,i,e,rfl,rfl,by rw[zk nDq.symm];exact zK,kp _ _ hc4⟩
      | succ z=>simp at e'
  . obtain⟨F4,s4,eR⟩:=h;rw[zD,EA.1,zW (zJ _)] at F4;have hDD:=s4 _ _ (sT _ _ dg);have f1:=R7 er i;have f2:=FA.1;have f3:=F4.1;have f4:=EH (fun e:En=>decide (e.l≠0)) es;rw[zD] at f3;refine⟨D,D2,_,_,rfl,rfl,hDD,eR,DG (Bk (by lia)),?_⟩;have s5:=A9 (o:=.lst (ys++zs)) (s3.trans s4) hD;have kp:∀b us,H4 b=some (.tup us)->(upd H4 D (.lst (ys++zs))) b=some (.tup us):=fun b us e=>by rw[zk (Bn e hDD (by intro z;cases z))];exact e
    refine⟨_,_,ys++zs,rfl,s5,zK,?_⟩;show Ei _ _ (Bb dP i++_);rw[eget];exact ((FA.keep fun b us e=>s4 _ _ (sT _ _ e)).keep kp).app (F4.keep kp)
structure TR (dP:List (List En))(i:Nat)(e:En):Prop where
 hi:i<dP.length
 mem:e∈dP.getD i []
 far:e.l≠0
def Gx (ts:List T3)(dP:List (List En))(i:Nat)(e:En):Prop:=∃u t f,e.u=some u/\Ah ts i u t/\f∈dP.getD u.toNat []/\f.h=e.h/\f.l=e.l-t
def IJ (ts:List T3)(dP:List (List En))(i:Nat)(e:En):Prop:=∃d t c,e.d=some d/\Ah ts e.h d t/\Cf (Cd (dP.getD d.toNat []) (dP.getD i [])) (some c)/\c.1=e.l-t
theorem getD_some {α:Type}{l:List (List α)}(h:i<l.length):l[i]?=some (l.getD i []):=by rw[zF,zB h];rfl
theorem Hy.at (K:Hy n dP)(h:i<dP.length):JB n (dP.getD i []):=K.kd _ (zV (getD_some h))
theorem WB:∀l:List (Int×Int),∃lm,Cf (fun c=>c∈l) lm
 | []=>⟨none,fun c z=>by cases z⟩
 | a::l=>by
  obtain⟨lm,h⟩:=WB l;cases lm with
  | none=>
   refine⟨some a,zS,fun c hc=>?_⟩;rcases zT.mp hc with rfl | z
   . exact .inr ⟨rfl,Dx _⟩
   . exact absurd z (h c)
  | some b=>
   by_cases q:a.1<b.1\/(a.1=b.1/\a.2<=b.2)
   . refine⟨some a,zS,fun c hc=>?_⟩;rcases zT.mp hc with rfl | z
     . exact .inr ⟨rfl,Dx _⟩
     . have:=h.2 c z
       lia
   . refine⟨some b,zZ _ h.1,fun c hc=>?_⟩;rcases zT.mp hc with rfl | z
     . lia
     . exact h.2 c z
theorem RE (hf:C3 fs):∃lm,Cf (Cd es fs) lm:=by obtain⟨lm,h⟩:=WB (es.filterMap (CA fs));exact⟨lm,h.congr (JR hf)⟩
theorem JB.zero (K:JB n es):∃e,es.filter (fun e=>decide (e.l=0))=[e]:=by
 have h:=K.one;rw[List.countP_map,List.countP_eq_length_filter] at h;have e:(fun e:En=>decide (e.l=0))=((fun x:Int=>x==0)∘fun x:En=>x.l):=by funext x;show decide (x.l=0)=(x.l==0);rw[HI,Gr,beq_iff_eq]
 rw[<-e] at h;exact List.length_eq_one_iff.mp h
def BI {α:Type}(l:List α)(ok:α->Prop)(dat:α->PyData):Option PyData->Prop
 | none=>∀x∈l,ok x
 | some d=>∃(m:Nat)(x:α),l[m]?=some x/\¬ ok x/\d=dat x/\∀(k:Nat)(y:α),k<m->l[k]?=some y->ok y
theorem BI.uniq :∀{a b:Option PyData},BI l ok dat a->BI l ok dat b->a=b
 | none,none,_,_=>rfl
 | none,some _,h,⟨_,x,hx,no,_⟩=>absurd (h x (zV hx)) no
 | some _,none,⟨_,x,hx,no,_⟩,h=>absurd (h x (zV hx)) no
 | some _,some _,⟨m,x,hx,no,e,a⟩,⟨m',x',dZ,no',e',a'⟩=>by
  rcases Nat.lt_trichotomy m m' with z | z | z
  . exact absurd (a' m x z hx) no
  . subst z;rw[hx] at dZ;cases dZ;rw[e,e']
  . exact absurd (a m' x' z dZ) no'
def NZ (dP:List (List En))(i:Nat):Prop:=∀e r,(dP.getD i []).filter (fun e=>decide (e.l=0))=e::r->e.h=i
def JG (dP:List (List En)):Option PyData->Prop:=BI (List.range dP.length) (NZ dP) (fun i=>.int i)
noncomputable def E3 (x:Nat×En):PyData:=.tuple [.int x.1,.int x.2.h]
def Ic (ts:List T3)(dP:List (List En)):Option PyData->Prop:=BI (Bb dP dP.length) (fun x=>Gx ts dP x.1 x.2) E3
def MZ (ts:List T3)(dP:List (List En)):Option PyData->Prop:=BI (Bb dP dP.length) (fun x=>IJ ts dP x.1 x.2) E3
noncomputable def Qh:Option Int->Option Int->Int->Bool
 | none,_,_=>false
 | some _,none,_=>true
 | some d,some c,l=>decide (d+l<c)
def DU (ts:List T3)(dP:List (List En))(u v w:Nat):Prop:=∃t lv lw,Ah ts v w t/\Cf (Cd (dP.getD v []) (dP.getD u [])) lv/\Cf (Cd (dP.getD w []) (dP.getD u [])) lw/\Qh (lv.map (·.1)) (lw.map (·.1)) t=true
def CW (ts:List T3)(dP:List (List En)):Option PyData->Prop
 | none=>∀u v w:Nat,u<dP.length->v<dP.length->w<dP.length->¬ DU ts dP u v w
 | some d=>∃u v w:Nat,u<dP.length/\v<dP.length/\w<dP.length/\DU ts dP u v w/\d=.tuple [.int u,.int v,.int w]/\∀u' v' w':Nat,(u'<u\/(u'=u/\(v'<v\/(v'=v/\w'<w))))->v'<dP.length->w'<dP.length->¬ DU ts dP u' v' w'
theorem CW.uniq :∀{a b:Option PyData},CW ts dP a->CW ts dP b->a=b
 | none,none,_,_=>rfl
 | none,some _,h,⟨u,v,w,hu,hv,hw,g,_⟩=>absurd g (h u v w hu hv hw)
 | some _,none,⟨u,v,w,hu,hv,hw,g,_⟩,h=>absurd g (h u v w hu hv hw)
 | some _,some _,⟨u,v,w,hu,hv,hw,g,e,a⟩,⟨u',v',w',hu',iF,iR,g',e',a'⟩=>by
  by_cases c:u=u'/\v=v'/\w=w'
  . obtain⟨rfl,rfl,rfl⟩:=c;rw[e,e']
  . by_cases l:u'<u\/(u'=u/\(v'<v\/(v'=v/\w'<w)))
    . exact absurd g' (a u' v' w' l iF iR)
    . exact absurd g (a' u v w (by lia) hv hw)
inductive EW (ts:List T3)(dP:List (List En)):Option (Str×PyData)->Prop
 | own (d:PyData)(h:JG dP (some d)):EW ts dP (some ("own",d))
 | up (d:PyData)(o:JG dP none)(h:Ic ts dP (some d)):EW ts dP (some ("up",d))
 | tie (d:PyData)(o:JG dP none)(u:Ic ts dP none)(h:CW ts dP (some d)):EW ts dP (some ("tie",d))
 | down (d:PyData)(o:JG dP none)(u:Ic ts dP none)(t:CW ts dP none)(h:MZ ts dP (some d)):EW ts dP (some ("down",d))
 | none (o:JG dP none)(u:Ic ts dP none)(t:CW ts dP none)(h:MZ ts dP none):EW ts dP Option.none
theorem EW.uniq (x:EW ts dP a)(y:EW ts dP b):a=b:=by
 cases x with
 | own d h=>cases y with
  | own d' h'=>cases BI.uniq h h';rfl
  | up _ o _=>cases BI.uniq h o
  | tie _ o _ _=>cases BI.uniq h o
  | down _ o _ _ _=>cases BI.uniq h o
  | none o _ _ _=>cases BI.uniq h o
 | up d o h=>cases y with
  | own d' h'=>cases BI.uniq o h'
  | up d' _ h'=>cases BI.uniq h h';rfl
  | tie _ _ u _=>cases BI.uniq h u
  | down _ _ u _ _=>cases BI.uniq h u
  | none _ u _ _=>cases BI.uniq h u
 | tie d o u h=>cases y with
  | own d' h'=>cases BI.uniq o h'
  | up d' _ h'=>cases BI.uniq u h'
  | tie d' _ _ h'=>cases CW.uniq h h';rfl
  | down _ _ _ t _=>cases CW.uniq h t
  | none _ _ t _=>cases CW.uniq h t
 | down d o u t h=>cases y with
  | own d' h'=>cases BI.uniq o h'
  | up d' _ h'=>cases BI.uniq u h'
  | tie d' _ _ h'=>cases CW.uniq t h'
  | down d' _ _ _ h'=>cases BI.uniq h h';rfl
  | none _ _ _ d'=>cases BI.uniq h d'
 | none o u t d=>cases y with
  | own d' h'=>cases BI.uniq o h'
  | up d' _ h'=>cases BI.uniq u h'
  | tie d' _ _ h'=>cases CW.uniq t h'
  | down d' _ _ _ h'=>cases BI.uniq d h'
  | none _ _ _ _=>rfl
inductive DI (n:Int)(ts:List T3)(d:PyData):Option (Str×PyData)->Prop
 | shape (h:Fq n d=false):DI n ts d (some ("shape",.none))
 | lab (dP:List (List En))(f:Option (Str×PyData))(h:Fq n d=true)(e:d=EX dP)(l:EW ts dP f):DI n ts d f
theorem DI.uniq (x:DI n ts d a)(y:DI n ts d b):a=b:=by
 cases x with
 | shape h=>cases y with
  | shape _=>rfl
  | lab _ _ h' _ _=>rw[h] at h';cases h'
 | lab dP f h e l=>cases y with
  | shape h'=>rw[h] at h';cases h'
  | lab ess' f' _ e' l'=>cases XE (e.symm.trans e');exact l.uniq l'
structure Gs (H:Hp)(wa la:Addr)(n:Int)(ts:List T3)(dP:List (List En)):Prop where
 wb:BP H wa n ts
 lb:Bp H la dP
 kd:Hy n dP
theorem Gs.same (h:Gs H wa la n ts dP)(s:AD H H'):Gs H' wa la n ts dP:=⟨h.wb.keep s,h.lb.keep fun b ys e=>s _ _ e,h.kd⟩
def Dr (R:List T3->List (List En)->Nat->En->Prop):Sp:=fun vs H Q _=>∃wa la a,∃(i:Nat)(n:Int),∃ts dP e,vs=[.ref wa,.ref la,.int i,.ref a]/\Gs H wa la n ts dP/\H a=some (.tup (eV e))/\TR dP i e/\∀(b:Bool) H',(b=true↔R ts dP i e)->AD H H'->Q (.bl b) H'
def GZ (G:List T3->List (List En)->Option PyData->Prop):Sp:=fun vs H Q _=>∃wa la n ts dP,vs=[.ref wa,.ref la]/\Gs H wa la n ts dP/\∀(o:Option PyData) v H',G ts dP o->AW H' v (o.getD .none)->AD H H'->Q v H'
def KQ:Sp:=fun vs H Q _=>∃wa la n ts dP,vs=[.ref la]/\Gs H wa la n ts dP/\∀(o:Option PyData) v H',JG dP o->AW H' v (o.getD .none)->AD H H'->Q v H'
def O5:Sp:=fun vs H Q _=>∃x y l,vs=[oV x,oV y,.int l]/\Q (.bl (Qh x y l)) H
def Q9 (C:Addr):Sp:=fun vs H Q E=>∃x v,vs=[.str x,v]/\(v=.non->Q .non H)/\(v ≠ .non->∀tt dx,H tt=none->H dx=none->tt≠dx->E (.ref C) (some dx) (upd (upd H tt (.tup [.str x,v])) dx (dO dx [("word",.str x),("at",v)])))
theorem Gs.at (h:Gs H wa la n ts dP)(p0:0<=p)(p1:p<n):∃(as:List Addr)(c:Addr),H la=some (.tup (as.map V.ref))/\(as.map V.ref)[p.toNat]?=some (.ref c)/\p.toNat<dP.length/\Bz H c (dP.getD p.toNat [])/\JB n (dP.getD p.toNat []):=by
 obtain⟨as,hl,gG,hA⟩:=h.lb;have hln:=h.kd.ln;have hp:p.toNat<as.length:=by lia
 obtain⟨es,he,L⟩:=hA p.toNat as[p.toNat] (zB hp);have e:dP.getD p.toNat []=es:=by rw[zF,he];rfl
 refine⟨as,as[p.toNat],hl,by rw[zO,zB hp];rfl,by lia,by rw[e];exact L,h.kd.at (by lia)⟩
theorem Jk:AX ["web","labels","place","entry","tie","above"] EL (defScope N6):=Ad
theorem Pa (F:Fu K "is_up_right" N6 f dU) (FL:AH K mg "long_of" ME fL fdL MQ) (GL:AM P w base 3 FL QA)
 (FE:AH K mg "entry_of" E6 fE fdE O9) (GE:AM P w base 3 FE IL):AL P w K mg base AU 4 f dU EL (Dr Gx):=by
 refine F.okD Jk fun _ A _ _ H vs Q E hr h=>?_;obtain⟨wa,la,a,i,n,ts,dP,e,rfl,I,ha,fe,k⟩:=h;obtain⟨_,_,_,_,_,G⟩:=id I.wb;obtain⟨p,d,eu,ed,p0,p1,_⟩:=((I.kd.at fe.hi).ent e fe.mem).far fe.far;have hev:eV e=[.int e.h,.int e.l,.int p,oV e.d]:=by unfold eV;rw[eu];rfl
 refine⟨_,za (As (i:=4) Jk.nd (AO GL hr FL (zE (pv 0) (zE (pv 2) (zE (AF Ac (pv 3) zi) zQ)))))
  (za (As (i:=5) Jk.nd (AO GE hr FE (zE (AF Ac (pv 1) (AF Ac (pv 3) zi)) (zE (AF Ac (pv 3) zi) zQ))))
  (ze (AN (Bs (BN HQ (pv 4) An (AS _)) (Bs (BN HQ (pv 5) An (AS _)) (CM (BN Bh (AF Ac (pv 5) zi) (AV Fe (AF Ac (pv 3) zi) (pv 4)) (AS _)))))))),?_⟩
 rw[hev] at ha;refine⟨_,rfl,_,rfl,_,rfl,a,_,_,.int p,rfl,rfl,AC.of ha,rfl,wa,n,ts,i,p,rfl,I.wb,fun r H1 s1 hr1=>?_⟩;obtain⟨as,c,h1,h2,hp,L3,K3⟩:=(I.same s1).at p0 p1;have gq:=s1 _ _ ha;refine⟨_,rfl,_,rfl,a,_,_,.int p,rfl,rfl,AC.of gq,rfl,la,_,_,.ref c,rfl,rfl,AC.of h1,Cr p0 h2,_,rfl,a,_,_,.int e.h,rfl,rfl,AC.of gq,rfl,c,_,e.h,rfl,L3,(fun z=>?_),fun g a' hg gN=>?_⟩
 . have no:¬ Gx ts dP i e:=fun ⟨u,t,f,hu,_,hf,fh,_⟩=>by rw[eu] at hu;cases hu;exact Vk.mp z f hf fh
   rcases hr1 with ⟨l,hl,rfl⟩ | ⟨nt,rfl⟩
   . refine⟨_,rfl,rfl,_,rfl,Ag (by rfl) ?_⟩;exact⟨_,rfl,rfl,_,rfl,Am (by rfl) (k false H1 ⟨(fun z=>by cases z),fun z=>absurd z no⟩ s1)⟩
   . exact⟨_,rfl,rfl,_,rfl,Am (by rfl) (k false H1 ⟨(fun z=>by cases z),fun z=>absurd z no⟩ s1)⟩
 . obtain⟨gm,gh⟩:=(MG K3.hub).mp hg;rcases hr1 with ⟨l,hl,rfl⟩ | ⟨nt,rfl⟩
   . refine⟨_,rfl,rfl,_,rfl,Ag (by rfl) ?_⟩;refine⟨_,rfl,rfl,_,rfl,Ag (by rfl) ?_⟩;refine⟨_,rfl,a',_,_,.int g.l,rfl,rfl,AC.of gN,rfl,_,rfl,a,_,_,.int e.l,rfl,rfl,AC.of gq,rfl,_,rfl,_,_,rfl,rfl,rfl,?_⟩;refine k _ H1 ⟨fun z=>?_,fun ⟨u,t,f,hu,ht,hf,fh,fl⟩=>?_⟩ s1
     . have z':=of_decide_eq_true z;injection z' with z';exact⟨p,l,g,eu,hl,gm,gh,z'⟩
     . rw[eu] at hu;cases hu;obtain rfl:=G.uniq hl ht;have:BY (dP.getD p.toNat []) e.h=some f:=(MG K3.hub).mpr ⟨hf,fh⟩;rw[hg] at this;cases this;exact zP (by rw[fl])
   . refine⟨_,rfl,rfl,_,rfl,Am (by rfl) (k false H1 ⟨(fun z=>by cases z),fun ⟨u,t,f,hu,ht,_⟩=>?_⟩ s1)⟩;rw[eu] at hu;cases hu;exact absurd ht (nt t)
theorem Oq:AX ["web","labels","place","entry","tie"] EL (defScope OP):=Ad
theorem PH {fT:Addr}(F:Fu K "is_down_right" OP f dU) (FL:AH K mg "long_of" ME fL fdL MQ) (GL:AM P w base 3 FL QA)
 (FT:AH K mg "told" MC fT fdT EN) (GT:AM P w base 3 FT QI):AL P w K mg base AU 4 f dU EL (Dr IJ):=by
 refine F.okD Oq fun _ A _ _ H vs Q E hr h=>?_;obtain⟨wa,la,a,i,n,ts,dP,e,rfl,I,ha,fe,k⟩:=h;obtain⟨_,_,_,_,_,G⟩:=id I.wb;obtain⟨u,p,eu,ed,_,_,p0,p1⟩:=((I.kd.at fe.hi).ent e fe.mem).far fe.far;have hln:=I.kd.ln;have hi:=fe.hi;have hev:eV e=[.int e.h,.int e.l,oV e.u,.int p]:=by unfold eV;rw[ed];rfl
 refine⟨_,za (As (i:=4) Oq.nd (AO GL hr FL (zE (pv 0) (zE (AF Ac (pv 3) zi) (zE (AF Ac (pv 3) zi) zQ)))))
  (ze (AN (Bs (BN HQ (pv 4) An (AS _)) (CM (BN Bh (AO GT hr FT (zE (AF Ac (pv 1) (AF Ac (pv 3) zi)) (zE (AF Ac (pv 1) (pv 2)) zQ))) (AV Fe (AF Ac (pv 3) zi) (pv 4)) (AS _)))))),?_⟩
 rw[hev] at ha;refine⟨_,rfl,_,rfl,a,_,_,.int e.h,rfl,rfl,AC.of ha,rfl,_,rfl,a,_,_,.int p,rfl,rfl,AC.of ha,rfl,wa,n,ts,e.h,p,rfl,I.wb,fun r H1 s1 hr1=>?_⟩;have gq:=s1 _ _ ha;rcases hr1 with ⟨l,hl,rfl⟩ | ⟨nt,rfl⟩
 . obtain⟨as,ax,h1,gx,hp,lx,Kx⟩:=(I.same s1).at p0 p1;obtain⟨as2,ay,h12,gy,e8,ly,Ky⟩:=(I.same s1).at (show (0:Int)<=i by lia) (show (i:Int)<n by lia);rw[show ((i:Int)).toNat=i by lia] at gy e8 ly Ky;rw[h1] at h12;have e12:as.map V.ref=as2.map V.ref:=by injection h12 with z;injection z
   rw[<-e12] at gy;refine⟨_,rfl,rfl,_,rfl,Ag (by rfl) ?_⟩;refine⟨_,rfl,_,rfl,a,_,_,.int p,rfl,rfl,AC.of gq,rfl,la,_,_,.ref ax,rfl,rfl,AC.of h1,Cr p0 gx,_,rfl,_,rfl,la,_,_,.ref ay,rfl,rfl,AC.of h1,Cr (by lia) gy,ax,ay,_,_,rfl,lx,ly,Ky.hub,fun lm H2 s2 hm=>?_⟩;have s12:=s1.trans s2;refine⟨_,rfl,a,_,_,.int e.l,rfl,rfl,AC.of (s12 _ _ ha),rfl,_,rfl,_,_,rfl,rfl,by cases lm <;> rfl,?_⟩;refine k _ H2 ⟨fun z=>?_,fun ⟨d,t,c,hd,ht,hm',hc⟩=>?_⟩ s12
   . have z':=of_decide_eq_true z;cases lm with
     | none=>cases z'
     | some c=>injection (show V.int c.1=V.int (e.l-l) from z') with z';exact⟨p,l,c,ed,hl,hm,z'⟩
   . rw[ed] at hd;cases hd;obtain rfl:=G.uniq hl ht;obtain rfl:=hm.uniq hm';exact zP (by show V.int c.1=_;rw[hc])
 . refine⟨_,rfl,rfl,_,rfl,Am (by rfl) (k false H1 ⟨(fun z=>by cases z),fun ⟨d,t,c,hd,ht,_⟩=>?_⟩ s1)⟩;rw[ed] at hd;cases hd;exact absurd ht (nt t)
theorem K6:AX EL C2 (defScope N5):=Ad
theorem Mq :∀{n i:Nat}{e:En},(i,e)∈Bb dP n->e.l≠0
 | 0,_,_,h=>by simp[Bb] at h
 | n+1,i,e,h=>by
  rcases zj.mp (show (i,e)∈Bb dP n++_ from h) with z | z
  . exact Mq z
  . obtain⟨x,hx,ex⟩:=Be.mp z;simp only[Prod.mk.injEq] at ex;obtain⟨rfl,rfl⟩:=ex;simpa using (List.mem_filter.mp hx).2
theorem OC (F:Fu K "up_fault" N5 f dU) (FF:AH K mg "far_entries" Lz fF fdF E8) (GF:AM P w base 4 FF P1)
 (FU:AH K mg "is_up_right" N6 fU fdU EL) (GU:AM P w base 4 FU (Dr Gx)):AL P w K mg base AU 5 f dU C2 (GZ Ic):=by
 refine F.okD K6 fun _ A _ _ H vs Q E hr h=>?_;obtain⟨wa,la,n,ts,dP,rfl,I,k⟩:=h;obtain⟨_,_,_,_,_,G⟩:=id I.wb;have hn:=G.n24;have hl:=I.kd.ln;refine⟨_,za (A7 (F3 (AO GF hr FF (zE (pv 1) zQ))) (C6 rfl (Ai (Ae (i:=2) K6.nd) (Ai (Ae (i:=3) K6.nd) Ci)))
  (ze (Aq (B7 (BL (AO GU hr FU (zE (pv 0) (zE (pv 1) (zE (pv 2) (zE (pv 3) zQ))))))) (ze (AN (AZ (zE (pv 2) (zE (AF Ac (pv 3) zi) zQ))))) Ao)))
  (ze (AN An)),?_⟩
 refine⟨_,rfl,la,dP,rfl,I.lb,by lia,fun es er=>?_,fun D ys H1 s1 _ hD FA=>?_⟩
 . have:=(I.kd.kd es er).len
   lia
 refine⟨D,rfl,⟨_,AE.of hD⟩,HM (K:=K) (a:=D) (xs:=ys) (fun j σ H2=>F8 fun (v2 v3:Option V)=>σ=[some (.ref wa),some (.ref la),v2,v3]/\AD H1 H2/\∀i e,(i,e)∈(Bb dP dP.length).take j->Gx ts dP i e) ⟨_,_,rfl,AD.refl _,(fun i e z=>by rw[List.take_zero] at z;cases z)⟩ (fun j σ H2 _ z=>?_) (fun j x σ H2 hx z=>?_) (fun σ H2 z=>?_)⟩
 . obtain⟨_,_,_,s2,_⟩:=z;exact AE.of (s2 _ _ hD)
 . obtain⟨v2,v3,rfl,s2,all⟩:=z;obtain⟨c,a,i,e,rfl,hf,hc,ha⟩:=FA.2 j x hx;have hm:=zV hf;obtain⟨m1,m2⟩:=MH hm;have fe:TR dP i e:=⟨m1,m2,Mq hm⟩;refine⟨c,_,rfl,AC.of (s2 _ _ hc),rfl,_,_,rfl,_,_,rfl,rfl,?_⟩;refine⟨_,rfl,_,rfl,_,rfl,_,rfl,wa,la,a,i,n,ts,dP,e,rfl,(I.same s1).same s2,s2 _ _ ha,fe,fun b H3 hb s3=>?_⟩;refine⟨b,rfl,?_⟩;cases b with
   | true=>
    refine Aj ⟨_,_,rfl,s2.trans s3,fun i' e' z=>?_⟩;rw[zr,hf] at z;rcases zj.mp z with z | z
    . exact all i' e' z
    . have:=zh.mp z;injection this with q1 q2;subst q1 q2;exact hb.mp rfl
   | false=>refine Aa ?_;refine⟨_,rfl,_,rfl,a,_,_,.int e.h,rfl,rfl,AC.of (s3 _ _ (s2 _ _ ha)),rfl,Au,fun q hq=>?_⟩;refine k (some (E3 (i,e))) _ _ ⟨j,(i,e),hf,(fun z=>by cases hb.mpr z),rfl,fun k' y hk hy=>all y.1 y.2 ?_⟩ (.tup zK (.cons (.int _) (.cons (.int _) .nil))) (s1.trans (s2.trans (s3.trans (zH hq))));exact zV (i:=k') (by rw[List.getElem?_take,if_pos hk];exact hy)
 . obtain⟨v2,v3,rfl,s2,all⟩:=z;refine k none _ _ (fun x hx=>all x.1 x.2 ?_) .non (s1.trans s2);rw[FA.1,zW (zJ _)];exact hx
theorem LJ:AX EL C2 (defScope O0):=Ad
theorem Ow (F:Fu K "down_fault" O0 f dU) (FF:AH K mg "far_entries" Lz fF fdF E8) (GF:AM P w base 4 FF P1)
 (FU:AH K mg "is_down_right" OP fU fdU EL) (GU:AM P w base 4 FU (Dr IJ)):AL P w K mg base AU 5 f dU C2 (GZ MZ):=by
 refine F.okD LJ fun _ A _ _ H vs Q E hr h=>?_;obtain⟨wa,la,n,ts,dP,rfl,I,k⟩:=h;obtain⟨_,_,_,_,_,G⟩:=id I.wb;have hn:=G.n24;have hl:=I.kd.ln;refine⟨_,za (A7 (F3 (AO GF hr FF (zE (pv 1) zQ))) (C6 rfl (Ai (Ae (i:=2) LJ.nd) (Ai (Ae (i:=3) LJ.nd) Ci)))
  (ze (Aq (B7 (BL (AO GU hr FU (zE (pv 0) (zE (pv 1) (zE (pv 2) (zE (pv 3) zQ))))))) (ze (AN (AZ (zE (pv 2) (zE (AF Ac (pv 3) zi) zQ))))) Ao)))
  (ze (AN An)),?_⟩
 refine⟨_,rfl,la,dP,rfl,I.lb,by lia,fun es er=>?_,fun D ys H1 s1 _ hD FA=>?_⟩
 . have:=(I.kd.kd es er).len
   lia
 refine⟨D,rfl,⟨_,AE.of hD⟩,HM (K:=K) (a:=D) (xs:=ys) (fun j σ H2=>F8 fun (v2 v3:Option V)=>σ=[some (.ref wa),some (.ref la),v2,v3]/\AD H1 H2/\∀i e,(i,e)∈(Bb dP dP.length).take j->IJ ts dP i e) ⟨_,_,rfl,AD.refl _,(fun i e z=>by rw[List.take_zero] at z;cases z)⟩ (fun j σ H2 _ z=>?_) (fun j x σ H2 hx z=>?_) (fun σ H2 z=>?_)⟩
 . obtain⟨_,_,_,s2,_⟩:=z;exact AE.of (s2 _ _ hD)
 . obtain⟨v2,v3,rfl,s2,all⟩:=z;obtain⟨c,a,i,e,rfl,hf,hc,ha⟩:=FA.2 j x hx;have hm:=zV hf;obtain⟨m1,m2⟩:=MH hm;have fe:TR dP i e:=⟨m1,m2,Mq hm⟩;refine⟨c,_,rfl,AC.of (s2 _ _ hc),rfl,_,_,rfl,_,_,rfl,rfl,?_⟩;refine⟨_,rfl,_,rfl,_,rfl,_,rfl,wa,la,a,i,n,ts,dP,e,rfl,(I.same s1).same s2,s2 _ _ ha,fe,fun b H3 hb s3=>?_⟩;refine⟨b,rfl,?_⟩;cases b with
   | true=>
    refine Aj ⟨_,_,rfl,s2.trans s3,fun i' e' z=>?_⟩;rw[zr,hf] at z;rcases zj.mp z with z | z
    . exact all i' e' z
    . have:=zh.mp z;injection this with q1 q2;subst q1 q2;exact hb.mp rfl
   | false=>refine Aa ?_;refine⟨_,rfl,_,rfl,a,_,_,.int e.h,rfl,rfl,AC.of (s3 _ _ (s2 _ _ ha)),rfl,Au,fun q hq=>?_⟩;refine k (some (E3 (i,e))) _ _ ⟨j,(i,e),hf,(fun z=>by cases hb.mpr z),rfl,fun k' y hk hy=>all y.1 y.2 ?_⟩ (.tup zK (.cons (.int _) (.cons (.int _) .nil))) (s1.trans (s2.trans (s3.trans (zH hq))));exact zV (i:=k') (by rw[List.getElem?_take,if_pos hk];exact hy)
 . obtain⟨v2,v3,rfl,s2,all⟩:=z;refine k none _ _ (fun x hx=>all x.1 x.2 ?_) .non (s1.trans s2);rw[FA.1,zW (zJ _)];exact hx
theorem LU:AX ["labels","place","label"] E8 (defScope OB):=Ad
theorem PL (F:Fu K "own_fault" OB f dU) (FO:AH K mg "own_place" Et fO fdO ["label"]) (GO:AM P w base 4 FO Hm) (eF:mg "enumerate"=none):AL P w K mg base AU 5 f dU E8 KQ:=by
 refine F.okD LU fun _ A _ _ H vs Q E hr h=>?_;obtain⟨wa,la,n,ts,dP,rfl,I,k⟩:=h;obtain⟨_,_,_,_,_,G⟩:=id I.wb;obtain⟨as,hl,gG,hA⟩:=id I.lb;refine⟨_,za (A7 (R0 (by rfl) eF (zE (pv 0) zQ)) (C6 rfl (Ai (Ae (i:=1) LU.nd) (Ai (Ae (i:=2) LU.nd) Ci)))
  (ze (Aq (Ak NJ (AO GO hr FO (zE (pv 2) zQ)) (pv 1) (AS _)) (ze (AN (pv 1))) Ao)))
  (ze (AN An)),?_⟩
 have gd:∀ {i es},dP[i]?=some es->dP.getD i []=es:=fun {i es} he=>by rw[zF,he];rfl
 refine⟨_,rfl,la,rfl,⟨_,AC.of hl⟩,Ry (K:=K) (a:=la) (xs:=as.map V.ref) (fun i σ H2=>F8 fun (v1 v2:Option V)=>σ=[some (.ref la),v1,v2]/\AD H H2/\∀(j:Nat) e r,j<i->(dP.getD j []).filter (fun e=>decide (e.l=0))=e::r->e.h=j) ⟨_,_,rfl,AD.refl _,(fun j e r z=>absurd z (C1 _))⟩ (fun i σ H2 _ ⟨_,_,_,s2,_⟩=>AC.of (s2 _ _ hl)) (fun i x σ H2 Tp hx z hTp=>?_) (fun σ H2 z=>?_)⟩
 . obtain⟨v1,v2,rfl,s2,all⟩:=z;rw[zO] at hx;cases ha:as[i]? with
   | none=>rw[ha] at hx;cases hx
   | some a=>
   rw[ha] at hx;cases hx;obtain⟨es,he,L⟩:=hA i a ha;have hi:i<dP.length:=(zI.mp he).1;obtain⟨e,hf⟩:=(I.kd.at hi).zero;rw[gd he] at hf;have s3:=s2.trans (zH (o:=.tup [.int (i:Int),.ref a]) hTp);refine⟨Tp,_,rfl,AC.of zK,rfl,_,_,rfl,_,_,rfl,rfl,?_⟩;generalize upd H2 Tp (.tup [.int (i:Int),.ref a])=H3 at s3 ⊢;refine⟨_,rfl,a,es,e,[],rfl,L.same s3,hf,fun H4 s4=>?_⟩;refine⟨_,rfl,rfl,_,rfl,?_⟩;by_cases c:e.h=i
   . refine Am (by rw[c];simp) ⟨_,_,rfl,s3.trans s4,fun j e' r' hj iM=>?_⟩;by_cases q:j=i
     . subst q;rw[gd he,hf] at iM;cases iM;exact c
     . exact all j e' r' (by lia) iM
   . refine Ag (by simp[c]) ⟨_,rfl,k (some (.int i)) _ _ ⟨i,i,MD hi,(fun z=>c (z e [] (by rw[gd he];exact hf))),rfl,fun k' y hk hy e' r' iM=>?_⟩ (.int _) (s3.trans s4)⟩;obtain⟨hk2,rfl⟩:=zI.mp hy;rw[List.getElem_range] at iM ⊢;exact all k' e' r' hk iM
 . obtain⟨v1,v2,rfl,s2,all⟩:=z;refine k none _ _ (fun i hi e r hf=>all i e r ?_ hf) .non s2;rw[zD,gG];exact C0.mp hi
theorem TK:AX MO MO (defScope O3):=Ad
theorem PU (F:Fu K "grows_too_much" O3 f dU):AL P w K mg base AU 1 f dU MO O5:=by
 refine F.okD TK fun _ A _ _ H vs Q E hr h=>?_;obtain⟨x,y,l,rfl,k⟩:=h;refine⟨_,za (Aq (Ak DP (pv 0) An (AS _)) (ze (AN Dw)) Ao)
  (ze (AN (IS (BN DP (pv 1) An (AS _)) (CM (BN JI (pv 1) (AV CK (pv 0) (pv 2)) (AS _)))))),?_⟩
 cases x with
 | none=>exact⟨_,rfl,rfl,_,rfl,Ag (by rfl) k⟩
 | some d=>
  refine⟨_,rfl,rfl,_,rfl,Am (by rfl) ?_⟩;cases y with
  | none=>exact⟨_,rfl,rfl,_,rfl,Ag (by rfl) k⟩
  | some c=>refine⟨_,rfl,rfl,_,rfl,Am (by rfl) ?_⟩;exact⟨_,rfl,_,rfl,_,rfl,_,_,rfl,rfl,_,_,rfl,rfl,k⟩
theorem JW:AX ["web","labels","u","label","row","v","w","long"] C2 (defScope PX):=Ad
theorem PB {fT:Addr}(F:Fu K "tie_fault" PX f dU) (FT:AH K mg "told" MC fT fdT EN) (GT:AM P w base 4 FT QI)
 (FA:AH K mg "ties_at" MB fA fdA MV) (GA:AM P w base 4 FA Rk)
 (FG:AH K mg "grows_too_much" O3 fG fdG MO) (GG:AM P w base 4 FG O5) (eF:mg "enumerate"=none) (dR:mg "range"=none):AL P w K mg base AU 5 f dU C2 (GZ CW):=by
 refine F.okD JW fun _ A _ _ H vs Q E hr h=>?_;obtain⟨wa,la,n,ts,dP,rfl,I,k⟩:=h;obtain⟨ta,tys,eS,_,_,G⟩:=id I.wb;have iu:=G.n1;have hn:=G.n24;have hln:=I.kd.ln;obtain⟨as,hl,gG,hA⟩:=id I.lb;refine⟨_,za (A7 (R0 (by rfl) eF (zE (pv 1) zQ)) (C6 rfl (Ai (Ae (i:=2) JW.nd) (Ai (B5 (i:=3) JW.nd rfl (Or.inr rfl)) Ci)))
  (za (HL (i:=4) (own:=["other"]) (cn:=["label"]) (ci:=[3]) JW.nd rfl (Or.inl rfl) rfl (BK rfl rfl) ⟨rfl,rfl,rfl,trivial⟩ rfl (BH (pv 1)) (fun _ _ _ _=>BJ) (fun _ _ _ _=>CD)
   (fun _ _ _ _=>AO GT hr FT (zE (pv 0) (zE (pv 1) zQ))))
  (ze (A7 (B8 rfl dR (zE (AF Ac (pv 0) zi) zQ)) (Ae (i:=5) JW.nd)
   (ze (A7 (F3 (AO GA hr FA (zE (pv 0) (zE (pv 5) zQ)))) (C6 rfl (Ai (Ae (i:=6) JW.nd) (Ai (Ae (i:=7) JW.nd) Ci)))
    (ze (Aq (BL (AO GG hr FG (zE (AF Ab (pv 4) (pv 5)) (zE (AF Ab (pv 4) (pv 6)) (zE (pv 7) zQ))))) (ze (AN (AZ (zE (pv 2) (zE (pv 5) (zE (pv 6) zQ)))))) Ao))))))))
  (ze (AN An)),?_⟩
 have gd:∀ {i es},dP[i]?=some es->dP.getD i []=es:=fun {i es} he=>by rw[zF,he];rfl
 refine⟨_,rfl,la,rfl,⟨_,AC.of hl⟩,Ry (K:=K) (a:=la) (xs:=as.map V.ref) (fun i σ H2=>Ql fun (v2 v3 v4 v5 v6 v7:Option V)=>σ=[some (.ref wa),some (.ref la),v2,v3,v4,v5,v6,v7]/\AD H H2/\∀u v w:Nat,u<i->v<dP.length->w<dP.length->¬ DU ts dP u v w) ⟨_,_,_,_,_,_,rfl,AD.refl _,(fun u v w z=>absurd z (C1 _))⟩ (fun i σ H2 _ ⟨_,_,_,_,_,_,_,s2,_⟩=>AC.of (s2 _ _ hl)) (fun u x σ H2 Tp hx z hTp=>?_) (fun σ H2 z=>?_)⟩
 . obtain⟨v2,v3,v4,v5,v6,v7,rfl,s2,all⟩:=z;rw[zO] at hx;cases ha:as[u]? with
   | none=>rw[ha] at hx;cases hx
   | some a=>
   rw[ha] at hx;cases hx;obtain⟨fs,hfs,Lu⟩:=hA u a ha;have hul:u<dP.length:=(zI.mp hfs).1;have gu:=I.kd.at hul;rw[gd hfs] at gu;have s3:=s2.trans (zH (o:=.tup [.int (u:Int),.ref a]) hTp);refine⟨Tp,_,rfl,AC.of zK,rfl,_,_,rfl,_,_,rfl,rfl,?_⟩;generalize upd H2 Tp (.tup [.int (u:Int),.ref a])=H3 at s3 ⊢;refine⟨_,rfl,la,rfl,⟨_,AC.of (s3 _ _ hl)⟩,[.ref a],rfl,fun D hD=>?_⟩;refine BV (a:=la) (xs:=as.map V.ref) (fun i ys H4=>∃os:List (Option Int),ys=os.map oV/\os.length=i/\(∀(j:Nat) o,os[j]?=some o->∃lm,Cf (Cd (dP.getD j []) fs) lm/\o=lm.map (·.1))/\i<=dP.length/\AD H3 H4/\H4 D=some (.lst ys)) ⟨[],rfl,rfl,(fun j o e=>by simp at e),zg _,zH hD,zK⟩ (fun i ys H4 z=>?_) (fun i ys H4 z=>?_) (fun i x ys H4 hx z=>?_) (fun ys H4 z=>?_)
   . obtain⟨_,_,_,_,_,s4,_⟩:=z;exact AC.of (s4 _ _ (s3 _ _ hl))
   . obtain⟨os,rfl,ho,_,hi,_⟩:=z;rw[zD];exact BS (by lia)
   . obtain⟨os,rfl,ho,gE,hi,s4,h4⟩:=z;rw[zO] at hx;cases hb:as[i]? with
     | none=>rw[hb] at hx;cases hx
     | some b=>
     rw[hb] at hx;cases hx;obtain⟨es,er,Li⟩:=hA i b hb;have s34:=s3.trans s4;refine⟨⟨rfl,rfl⟩,?_⟩;refine CC ?_;refine⟨_,rfl,_,rfl,b,a,es,fs,rfl,Li.same s34,Lu.same s34,gu.hub,fun lm H5 s5 hm=>?_⟩;refine⟨s5 _ _ h4,os++[lm.map (·.1)],by rw[zf];rfl,by rw[zM,ho];rfl,fun j o e=>?_,(zI.mp er).1,A9 (s4.trans s5) hD,zK⟩;by_cases c:j<os.length
     . rw[zb c] at e;exact gE j o e
     . rw[zX (by lia)] at e;have hj:j=i:=by
        have:=(zI.mp e).1;rw[List.length_singleton] at this
        lia
       subst hj;rw[show j-os.length=0 by lia] at e;cases e;exact⟨lm,by rw[gd er];exact hm,rfl⟩
   . obtain⟨os,rfl,ho,gE,_,s4,h4⟩:=z;rw[zD,gG] at ho;have s34:=s3.trans s4;have at':∀x:Int,0<=x->x<n->∃lm,B9 (os.map oV) x=some (oV (lm.map (·.1)))/\Cf (Cd (dP.getD x.toNat []) (dP.getD u [])) lm:=fun x x0 x1=>by
      have hx:x.toNat<os.length:=by lia
      obtain⟨lm,h1,h2⟩:=gE x.toNat _ (zB hx);exact⟨lm,Cr x0 (by rw[zO,zB hx,h2];rfl),by rw[gd hfs];exact h1⟩
     refine⟨_,rfl,wa,_,_,_,rfl,rfl,AC.of (s34 _ _ eS),rfl,n,rfl,by lia,by lia,CS (lo:=0) (n:=n.toNat) (fun i σ H5=>IV fun (v5 v6 v7:Option V)=>σ=[some (.ref wa),some (.ref la),some (.int u),some (.ref a),some (.ref D),v5,v6,v7]/\AD H4 H5/\∀v w:Nat,v<i->w<dP.length->¬ DU ts dP u v w) ⟨_,_,_,rfl,AD.refl _,(fun v w z=>absurd z (C1 _))⟩ (fun v σ H5 hv z=>?_) (fun σ H5 z=>?_)⟩
     . obtain⟨w5,w6,w7,rfl,s5,allv⟩:=z;rw[CI];have s35:=s34.trans s5;refine⟨_,rfl,_,rfl,wa,n,ts,v,rfl,I.wb.keep s35,fun l zs ms H6 s6 _ hl6 TA hp hris=>?_⟩;refine⟨l,rfl,⟨_,AE.of hl6⟩,HM (K:=K) (a:=l) (xs:=zs) (fun j σ H7=>F8 fun (v6 v7:Option V)=>σ=[some (.ref wa),some (.ref la),some (.int u),some (.ref a),some (.ref D),some (.int v),v6,v7]/\AD H6 H7/\∀(r t:Int),[r,t]∈ms.take j->¬ DU ts dP u v r.toNat) ⟨_,_,rfl,AD.refl _,(fun r t z=>by rw[List.take_zero] at z;cases z)⟩ (fun j σ H7 _ z=>?_) (fun j x σ H7 hx z=>?_) (fun σ H7 z=>?_)⟩
       . obtain⟨_,_,_,s7,_⟩:=z;exact AE.of (s7 _ _ hl6)
       . obtain⟨x6,x7,rfl,s7,allt⟩:=z;obtain⟨ya,ky,rfl,eM,hya,_⟩:=TA.get hx;obtain⟨r,c,rfl,gM⟩:=MI.mp (hp.mem_iff.mp (zV eM));obtain⟨r0,r1⟩:0<=r/\r<n:=(Way.one gM).in_ G (by lia) (by lia);have h47:H7 D=some (.lst (os.map oV)):=s7 _ _ (s6 _ _ (s5 _ _ h4));obtain⟨o1,a1,L1⟩:=at' v (by lia) (by lia);obtain⟨o2,a2,L2⟩:=at' r r0 r1;rw[show ((v:Int)).toNat=v by lia] at L1;refine⟨ya,_,rfl,AC.of (s7 _ _ hya),rfl,_,_,rfl,_,_,rfl,rfl,?_⟩;refine⟨_,rfl,_,rfl,D,_,_,_,rfl,rfl,AE.of h47,a1,_,rfl,_,rfl,D,_,_,_,rfl,rfl,AE.of h47,a2,_,rfl,o1.map (·.1),o2.map (·.1),c,rfl,?_⟩;refine⟨_,rfl,?_⟩;cases hg:Qh (o1.map (·.1)) (o2.map (·.1)) c with
         | false=>
          refine Aj ⟨_,_,rfl,s7,fun r' t' z=>?_⟩;rw[zr,eM] at z;rcases zj.mp z with z | z
          . exact allt r' t' z
          . have:=zh.mp z;injection this with q1 q2;injection q2 with q2 _;subst q1 q2;rintro ⟨t2,lv,lw,ad,hlv,hlw,g⟩;rw[show ((r'.toNat:Nat):Int)=r' by lia] at ad;rw[hlv.uniq L1,hlw.uniq L2,G.uniq ad gM,hg] at g;cases g
         | true=>
          refine Aa ⟨_,rfl,_,rfl,_,rfl,Gz,fun q hq=>?_⟩;have rt:((r.toNat:Nat):Int)=r:=by lia
          refine k (some (.tuple [.int u,.int v,.int r.toNat])) _ _ ⟨u,v,r.toNat,hul,by lia,by lia,⟨c,_,_,by rw[rt];exact gM,L1,L2,hg⟩,rfl,fun u' v' w' l iF iR=>?_⟩ (.tup zK (.cons (.int _) (.cons (.int _) (.cons (by rw[rt];exact .int _) .nil)))) (s35.trans (s6.trans (s7.trans (zH hq))));rcases l with l | ⟨rfl,l⟩
          . exact all u' v' w' l iF iR
          . rcases l with l | ⟨rfl,l⟩
            . exact allv v' w' l iR
            . intro gr;obtain⟨t2,_,_,ad,_⟩:=id gr;have hin:[(w':Int),t2]∈ms:=hp.mem_iff.mpr (MI.mpr ⟨w',t2,rfl,ad⟩);obtain⟨k',iV,ek'⟩:=zy hin;have lt:k'<j:=by
               rcases Nat.lt_trichotomy k' j with q | q | q
               . exact q
               . subst q;rw[zB iV,ek'] at eM;injection eM with eM;injection eM with h1
                 lia
               . obtain⟨hj',ej'⟩:=zI.mp eM;have:=Mh.mp hris j k' hj' iV q;rw[ej',ek'] at this;rw[HT.lexLt_cons] at this;have ne:¬ (w':Int)=r:=by lia
                 rw[if_neg ne] at this;have:=of_decide_eq_false this
                 lia
              have:=allt w' t2 (zV (i:=k') (by rw[List.getElem?_take,if_pos lt,zB iV,ek']));exact this (by rw[show ((w':Int)).toNat=w' by lia];exact gr)
       . obtain⟨x6,x7,rfl,s7,allt⟩:=z;refine⟨_,_,_,rfl,s5.trans (s6.trans s7),fun v' w' iF iR=>?_⟩;by_cases q:v'=v
         . subst q;rintro gr;obtain⟨t2,_,_,ad,_⟩:=id gr;refine allt w' t2 ?_ (by rw[show ((w':Int)).toNat=w' by lia];exact gr);rw[TA.length,zW (zJ _)];exact hp.mem_iff.mpr (MI.mpr ⟨w',t2,rfl,ad⟩)
         . exact allv v' w' (by lia) iR
     . obtain⟨w5,w6,w7,rfl,s5,allv⟩:=z;refine⟨_,_,_,_,_,_,rfl,s34.trans s5,fun u' v' w' hu' iF iR=>?_⟩;by_cases q:u'=u
       . subst q;exact allv v' w' (by lia) iR
       . exact all u' v' w' (by lia) iF iR
 . obtain⟨v2,v3,v4,v5,v6,v7,rfl,s2,all⟩:=z;refine k none _ _ (fun u v w hu hv hw=>all u v w ?_ hv hw) .non s2;rw[zD,gG];exact hu
theorem Ju:AX Ih Ih (defScope NH):=Ad
theorem bf (F:Fu K "refuse_at" NH f dU) (mC:mg "NoLabels"=some (.ref C)) (EI:Cz K C fI)(bI:DA K fdI GC []) (GI:AL P w K mg base AU 1 fI fdI GC (Dh C "word" "at")):AL P w K mg base (CB P w) 3 f dU Ih (Q9 C):=by
 refine F.okI Ju (fun vs H Q E h=>?_) (fun dy A outer s H vs Q E hr h=>?_)
 . obtain⟨x,v,rfl,_⟩:=h;rfl
 . obtain⟨x,v,rfl,kY,kN⟩:=h;refine⟨_,ze (Aq (Ak HQ (pv 1) An (AS _)) (ze (WO (E:=E) rfl mC EI rfl GI hr bI (zE (pv 0) (zE (pv 1) zQ)) (fun pins σ H s ea tt dx I he hn h0 hE=>Wz I he rfl rfl rfl rfl hn h0 hE))) Ao),?_⟩;refine⟨_,rfl,rfl,_,rfl,?_⟩;by_cases c:v=.non
   . exact Am (by rw[zP c];rfl) (kY c)
   . refine Ag (by rw[zR c];rfl) ?_;exact⟨_,rfl,_,rfl,_,_,rfl,kN c⟩
def Of (H:Hp)(dx:Addr)(x:Str)(v:V):Prop:=H dx=some (dO dx [("word",.str x),("at",v)])
def Q3 (C:Addr):Sp:=fun vs H Q E=>∃wa v d n ts,vs=[.ref wa,v]/\BP H wa n ts/\AW H v d/\(DI n ts d none->∀H',AD H H'->Q (.bl true) H') /\
 ∀x e u dx H',DI n ts d (some (x,e))->AD H H'->AW H' u e->Of H' dx x u->E (.ref C) (some dx) H'
theorem NO (h:AW H v .none):v=.non:=by cases h;rfl
theorem M6 (h:AW H v d)(nn:d ≠ .none):v ≠ .non:=fun z=>by subst z;cases h;exact nn rfl
theorem BI.nn (h:BI l ok dat (some d))(nn:∀x,dat x ≠ .none):d ≠ .none:=by obtain⟨_,x,_,_,rfl,_⟩:=h;exact nn x
theorem CW.nn (h:CW ts dP (some d)):d ≠ .none:=by obtain⟨_,_,_,_,_,_,_,rfl,_⟩:=h;intro z;cases z
theorem Jc:AX Hs Hs (defScope NK):=Ad
theorem YS {fT:Addr}(F:Fu K "lets_labels" NK f dU) (mC:mg "NoLabels"=some (.ref C)) (EI:Cz K C fI)(bI:DA K fdI GC []) (GI:AL P w K mg base AU m fI fdI GC (Dh C "word" "at"))
 (FP:AH K mg "are_labels" Me fP fdP Ba) (GP:AM P w base (m+1) FP SJ)
 (FR:AH K mg "refuse_at" NH fR fdR Ih) (GR:AL P w K mg base (CB P w) (m+1) fR fdR Ih (Q9 C))
 (FO:AH K mg "own_fault" OB fO fdO E8) (GO:AM P w base (m+1) FO KQ)
 (FU:AH K mg "up_fault" N5 fU fdU C2) (GU:AM P w base (m+1) FU (GZ Ic))
 (FT:AH K mg "tie_fault" PX fT fdT C2) (GT:AM P w base (m+1) FT (GZ CW))
 (FD:AH K mg "down_fault" O0 fD fdD C2) (GD:AM P w base (m+1) FD (GZ MZ)):AL P w K mg base (CB P w) (m+2) f dU Hs (Q3 C):=by
 refine F.okI Jc (fun vs H Q E h=>?_) (fun dy A outer s H vs Q E hr h=>?_)
 . obtain⟨wa,v,d,n,ts,rfl,_⟩:=h;rfl
 . obtain⟨wa,v,d,n,ts,rfl,W,S,kY,kN⟩:=h;obtain⟨ta,tys,eS,_,_,G⟩:=id W;have iu:=G.n1;have iJ:=G.n24;refine⟨_,za (Aq (B7 (BL (AO GP hr FP (zE (AF Ac (pv 0) zi) (zE (pv 1) zQ))))) (ze (WO (E:=E) rfl mC EI rfl GI hr bI (zE DQ (zE An zQ)) (fun pins σ H s ea tt dx I he hn h0 hE=>Wz I he rfl rfl rfl rfl hn h0 hE))) Ao)
    (za (D7 (Ly GR hr rfl FR.m FR.F.kp FR.b .nil QN (zE DQ (zE (AO GO hr FO (zE (pv 1) zQ)) zQ))))
    (za (D7 (Ly GR hr rfl FR.m FR.F.kp FR.b .nil QN (zE DQ (zE (AO GU hr FU (zE (pv 0) (zE (pv 1) zQ))) zQ))))
    (za (D7 (Ly GR hr rfl FR.m FR.F.kp FR.b .nil QN (zE DQ (zE (AO GT hr FT (zE (pv 0) (zE (pv 1) zQ))) zQ))))
    (za (D7 (Ly GR hr rfl FR.m FR.F.kp FR.b .nil QN (zE DQ (zE (AO GD hr FD (zE (pv 0) (zE (pv 1) zQ))) zQ))))
    (ze (AN Dw)))))),?_⟩
   have fail:∀(x:Str)(u:V)(e:PyData)(H1:Hp),DI n ts d (some (x,e))->AD H H1->AW H1 u e->∀tt dx,H1 tt=none->H1 dx=none->tt≠dx->E (.ref C) (some dx) (upd (upd H1 tt (.tup [.str x,u])) dx (dO dx [("word",.str x),("at",u)])):=fun x u e H1 fo s1 Su tt dx ht hd ne=>by have s2:=(zH (o:=.tup [.str x,u]) ht).trans (zH (o:=dO dx [("word",.str x),("at",u)]) (by rw[zk (Ne.symm ne)];exact hd));exact kN _ _ _ _ _ fo (s1.trans s2) (Bj s2 Su) zK
   refine⟨_,rfl,wa,_,_,_,rfl,rfl,AC.of eS,rfl,_,rfl,n,v,d,rfl,by lia,S,fun H1 s1=>?_⟩;refine⟨_,rfl,?_⟩;cases cp:Fq n d with
   | false=>refine Aa ?_;exact⟨_,_,rfl,fail _ _ _ _ (.shape cp) s1 .non⟩
   | true=>
    refine Aj ?_;obtain⟨dP,rfl,kd⟩:=Rj cp;obtain⟨la,rfl,LA⟩:=XU (fun es he=>by have:=(kd.kd es he).len;lia) S;have K0:Gs H wa la n ts dP:=⟨W,LA,kd⟩;refine⟨_,rfl,wa,la,n,ts,dP,rfl,K0.same s1,fun o v2 H2 ho S2 s2=>?_⟩;have s02:=s1.trans s2;cases o with
    | some d2=>exact⟨_,_,rfl,(fun z=>absurd z (M6 S2 (ho.nn fun x z=>by cases z))),fun _=>fail _ _ _ _ (.lab dP _ cp rfl (.own d2 ho)) s02 S2⟩
    | none=>
     cases NO S2;refine⟨_,_,rfl,fun _=>?_,fun z=>absurd rfl z⟩;refine⟨_,rfl,_,rfl,wa,la,n,ts,dP,rfl,K0.same s02,fun o v3 H3 hp S3 s3=>?_⟩;have iD:=s02.trans s3;cases o with
     | some d3=>exact⟨_,_,rfl,(fun z=>absurd z (M6 S3 (hp.nn fun x z=>by cases z))),fun _=>fail _ _ _ _ (.lab dP _ cp rfl (.up d3 ho hp)) iD S3⟩
     | none=>
      cases NO S3;refine⟨_,_,rfl,fun _=>?_,fun z=>absurd rfl z⟩;refine⟨_,rfl,_,rfl,wa,la,n,ts,dP,rfl,K0.same iD,fun o v4 H4 ht S4 s4=>?_⟩;have ie:=iD.trans s4;cases o with
      | some d4=>exact⟨_,_,rfl,(fun z=>absurd z (M6 S4 ht.nn)),fun _=>fail _ _ _ _ (.lab dP _ cp rfl (.tie d4 ho hp ht)) ie S4⟩
      | none=>
       cases NO S4;refine⟨_,_,rfl,fun _=>?_,fun z=>absurd rfl z⟩;refine⟨_,rfl,_,rfl,wa,la,n,ts,dP,rfl,K0.same ie,fun o v5 H5 hd S5 s5=>?_⟩;have iC:=ie.trans s5;cases o with
       | some d5=>exact⟨_,_,rfl,(fun z=>absurd z (M6 S5 (hd.nn fun x z=>by cases z))),fun _=>fail _ _ _ _ (.lab dP _ cp rfl (.down d5 ho hp ht hd)) iC S5⟩
       | none=>cases NO S5;refine⟨_,_,rfl,fun _=>?_,fun z=>absurd rfl z⟩;exact kY (.lab dP none cp rfl (.none ho hp ht hd)) H5 iC
def DT (S:List Int):Option Int->Prop
 | none=>S=[]
 | some m=>m∈S/\∀a∈S,m<=a
theorem DT.uniq (h:DT S o)(h':DT S o'):o=o':=by
 cases o with
 | none=>
  cases o' with
  | none=>rfl
  | some m=>rw[show S=[] from h] at h';simp[DT] at h'
 | some m=>
  cases o' with
  | none=>rw[show S=[] from h'] at h;simp[DT] at h
  | some m'=>rw[Int.le_antisymm (h.2 _ h'.1) (h'.2 _ h.1)]
noncomputable def G0:List Int->Option Int
 | []=>none
 | a::r=>some (match G0 r with
  | none=>a
  | some b=>min a b)
theorem Pl:∀S,DT S (G0 S)
 | []=>rfl
 | a::r=>by
  have ih:=Pl r;show DT (a::r) (some _);cases e:G0 r with
  | none=>rw[e] at ih;have hr:r=[]:=ih;subst hr;exact⟨zS,fun x hx=>by rw[zh.mp hx];exact Dx _⟩
  | some b=>
   rw[e] at ih;refine⟨?_,fun x hx=>?_⟩
   . show min a b∈a::r;by_cases c:a<=b
     . rw[Int.min_eq_left c];exact zS
     . rw[Int.min_eq_right (by lia)];exact zZ _ ih.1
   . show min a b<=x;rcases zT.mp hx with rfl | hx
     . exact Int.min_le_left _ _
     . exact Int.le_trans (Int.min_le_right _ _) (ih.2 x hx)
noncomputable def sE (es fs:List En):List Int:=(es.filterMap (CA fs)).map (·.1)
noncomputable def tv (es fs:List En):Option Int:=G0 (sE es fs)
theorem UU (hf:C3 fs):x∈sE es fs↔∃e∈es,∃f∈fs,f.h=e.h/\x=e.l+f.l:=by
 unfold sE;rw[Be];constructor
 . rintro ⟨c,hc,rfl⟩;obtain⟨e,he,f,hfm,hh,rfl⟩:=(JR hf c).mp hc;exact⟨e,he,f,hfm,hh,rfl⟩
 . rintro ⟨e,he,f,hfm,hh,rfl⟩;exact⟨(e.l+f.l,e.h),(JR hf _).mpr ⟨e,he,f,hfm,hh,rfl⟩,rfl⟩
theorem DT.congr (h:∀x,x∈S↔x∈T)(m:DT S o):DT T o:=by
 cases o with
 | none=>
  have hS:S=[]:=m;cases T with
  | nil=>rfl
  | cons t r=>exact absurd ((h t).mpr zS) (by rw[hS];simp)
 | some v=>exact⟨(h v).mp m.1,fun a ha=>m.2 a ((h a).mpr ha)⟩
theorem SK (h:DT (sE es fs) o):o=tv es fs:=h.uniq (Pl _)
theorem SU (hf:C3 fs)(h:Cf (Cd es fs) lm):lm.map (·.1)=tv es fs:=by
 refine SK ?_;cases lm with
 | none=>
  show sE es fs=[];unfold sE;cases e:es.filterMap (CA fs) with
  | nil=>rfl
  | cons c r=>exact absurd ((JR hf c).mp (by rw[e];exact zS)) (h c)
 | some c=>
  refine⟨Be.mpr ⟨c,(JR hf c).mpr h.1,rfl⟩,fun x hx=>?_⟩;obtain⟨c',gF,rfl⟩:=Be.mp hx;have:=h.2 c' ((JR hf c').mp gF);show c.1<=c'.1
  lia
theorem WN (he:C3 es)(hf:C3 fs):tv es fs=tv fs es:=by
 refine DT.uniq (S:=sE fs es) (DT.congr (fun x=>?_) (Pl (sE es fs))) (Pl _);rw[UU hf,UU he];constructor
 . rintro ⟨e,a,f,b,c,rfl⟩;exact⟨f,b,e,a,c.symm,by lia⟩
 . rintro ⟨e,a,f,b,c,rfl⟩;exact⟨f,b,e,a,c.symm,by lia⟩
theorem Xw {tl:TE}(hl:PE (EG X pl N' sc yc fp s3 H3) l tl):PI (EG X pl N' sc yc fp s3 H3) tg l (Kt X.K tl):=BH hl
def Oy:R2:=fun x y H Q=>∃a b xs ys,x=.ref a/\y=.ref b/\H a=some (.tup xs)/\H b=some (.tup ys)/\xs.length+ys.length<=sizeLine/\∀p H',AD H H'->H' p=some (.tup (xs++ys))->Q (.ref p) H'
theorem Mz:Ay X (binaryOp .Add) Oy:=fun pins s σ H x y v u Q I rx ry h=>by
 obtain⟨a,b,xs,ys,rfl,rfl,ha,hb,hz,q⟩:=h;refine U5 pins s σ H _ _ v u Q I rx ry ⟨a,b,xs,ys,rfl,rfl,AC.of ha,AC.of hb,hz,fun e=>?_,fun _ e=>?_,fun _ _ p hp=>q p _ (zH hp) zK⟩
 . subst e;exact q b H (AD.refl _) hb
 . subst e;exact q a H (AD.refl _) (by rw[BR];exact ha)
def TV:V->Option Int->Option Int->Hp->VK->Prop:=fun x lo hi H Q=>∃a xs,x=.ref a/\H a=some (.tup xs)/\∀p H',AD H H'->H' p=some (.tup (Bq xs lo hi))->Q (.ref p) H'
theorem P5:MN X TV:=fun pins s σ H x v vl vu lo hi sl Q I rx hs pl pu h=>by
 obtain⟨a,xs,rfl,ha,q⟩:=h;refine Re pins s σ H _ v vl vu lo hi sl Q I rx hs pl pu ⟨a,xs,rfl,AC.of ha,fun e=>?_,fun _ p hp=>q p _ (zH hp) zK⟩;refine q a H (AD.refl _) ?_;have:Bq xs lo hi=xs:=by unfold Bq;rw[e.1,e.2,HF,Nat.sub_zero,zW (zJ _)]
 rw[this];exact ha
theorem UR (g:En->V)(x):Af (fs.map fun e=>((Sum.inl e.h:AR),g e)) (Sum.inl x)=(BY fs x).map g:=by
 unfold Af BY;rw[List.find?_map,Option.map_map];have:((fun kv:AR×V=>decide (kv.1=Sum.inl x))∘fun e:En=>((Sum.inl e.h:AR),g e))=fun e:En=>decide (e.h=x):=by
  funext e;show decide ((Sum.inl e.h:AR)=Sum.inl x)=_;by_cases c:e.h=x
  . rw[zP c,zP (by rw[c])]
  . rw[zR c,zR (by intro z;injection z with z;exact c z)]
 rw[this];rfl
theorem WV (hF:C3 fs)(g:En->V):((fs.map fun e=>((Sum.inl e.h:AR),g e)).map (·.1)).Nodup:=by rw[List.map_map,List.Nodup,G9];exact hF.imp fun h z=>by injection z with z;lia
noncomputable def IM (dP:List (List En)):List (List (Option Int)):=dP.map fun a=>dP.map fun b=>tv a b
def Hq:Sp:=fun vs H Q _=>∃p q es fs,vs=[.ref p,.ref q]/\Bz H p es/\Bz H q fs/\C3 fs/\∀H',AD H H'->Q (oV (tv es fs)) H'
theorem ba (h:AE K H a xs)(s:AD H H'):AE K H' a xs:=by
 rcases h with (h | ⟨o,h⟩) | h
 . exact .inl (.inl (s _ _ h))
 . exact .inl (.inr ⟨o,s _ _ h⟩)
 . exact .inr h
theorem QQ (h:Es K H a M)(s:AD H H'):Es K H' a M:=by obtain⟨rs,a1,a2,a3⟩:=h;exact⟨rs,ba a1 s,a2,fun i r row h1 h2=>s _ _ (a3 i r row h1 h2)⟩
theorem RQ:AX ["_law_one","_law_other","_law_longs","_law_some"] CO (defScope Eu):=Ad
theorem Kc (F:Fu K "_law_told" Eu f dU) (d9:mg "dict"=none) (eN:mg "min"=none):AL P w K mg base AU 1 f dU CO Hq:=by
 refine F.okD RQ fun _ A _ _ H vs Q E hr h=>?_;obtain⟨p,q,es,fs,rfl,L1,L2',hF,k⟩:=h;obtain⟨as,hp,EA,hl⟩:=id L1;obtain⟨bs,hq,EB,fZ⟩:=id L2';have hu:=Ge hr;have iS:=hr.units0;refine⟨_,za (HN (i:=2) RQ.nd rfl (Or.inr rfl) (DH (RF rfl) d9 (zE
  (B0 (own:=De) (cn:=[]) (ci:=[]) rfl (BK rfl rfl) trivial rfl (BH (pv 1)) (fun _ _ _ _=>BJ)
   (fun _ _ _ _=>CD) (fun _ _ _ _=>AZ (zE (AF Cy (pv 0) zi) (zE (AF Cy (pv 0) zi) zQ)))) zQ)))
  (za (HL (i:=3) (own:=De) (cn:=["_law_longs"]) (ci:=[2]) RQ.nd rfl (Or.inl rfl) rfl (BK rfl rfl) ⟨rfl,rfl,rfl,trivial⟩ rfl (BH (pv 0)) (fun _ _ _ _=>BJ)
   (fun _ _ _ _=>El (JT (Pj hu (AF Cy (pv 0) zi) (pv 1)))) (fun _ _ _ _=>AV CK (AF Cy (pv 0) zi) (JE hu (pv 1) (AF Cy (pv 0) zi) (fun _ _=>rfl))))
  (ze (AN (Lq (Ak (RC iS) (pv 3) (CJ zQ) (AS _)) An (Ar (cI rfl) eN (zE (pv 3) zQ)))))),?_⟩
 refine⟨_,rfl,q,rfl,⟨_,AC.of hq⟩,[],rfl,fun D hD=>?_⟩;refine BV (a:=q) (xs:=bs.map V.ref) (fun i ys H4=>i<=fs.length/\ys.length=i/\(∀(j:Nat)(y:V),ys[j]?=some y->∃c e,y=.ref c/\fs[j]?=some e/\H4 c=some (.tup [.int e.h,.int e.l]))/\AD H H4/\H4 D=some (.lst ys)) ⟨zg _,rfl,fun j y z=>by simp at z,zH hD,zK⟩ (fun i ys H4 h=>?_) (fun i ys H4 h=>?_) (fun i v ys H4 hv h=>?_) (fun ys H4 h=>?_)
 . exact AC.of (h.2.2.2.1 _ _ hq)
 . rw[h.2.1];exact Bk (by have:=h.1;lia)
 . obtain⟨_,fm,il,s4,eR⟩:=h;obtain⟨a,x,rfl,hx,ha⟩:=EB.at hv;refine⟨⟨rfl,rfl⟩,?_⟩;refine CC ?_;refine⟨_,rfl,a,_,_,.int x.h,rfl,rfl,AC.of (s4 _ _ ha),rfl,_,rfl,a,_,_,.int x.l,rfl,rfl,AC.of (s4 _ _ ha),rfl,Au,fun c hc=>?_⟩;have nDc:D≠c:=zt eR hc;refine⟨zH hc _ _ eR,(zI.mp hx).1,by rw[zM,fm];rfl,fun j y hy=>?_,A9 (s4.trans (zH hc)) hD,zK⟩;by_cases cj:j<i
   . rw[zb (by lia)] at hy;obtain⟨c',e,h1,h2,h3⟩:=il j y hy;refine⟨c',e,h1,h2,?_⟩;rw[zk (Bn h3 eR (by intro z;cases z))];exact zH hc _ _ h3
   . have ej:j=i:=by have:=(zI.mp hy).1;rw[zM,fm] at this;simp at this;lia
     subst ej;rw[zX (by lia),fm,Eg] at hy;have ey:V.ref c=y:=by simpa using hy
     subst ey;exact⟨c,x,rfl,hx,by rw[zk (Ne.symm nDc)];exact zK⟩
 obtain⟨_,fm,il,s4,eR⟩:=h;rw[zD,EB.1] at fm;refine⟨D,ys,fs.map fun e=>(Sum.inl e.h,V.int e.l),rfl,AE.of eR,⟨by rw[zD,fm],fun j y hy=>?_⟩,fun dd iA=>?_⟩
 . obtain⟨c,e,h1,h2,h3⟩:=il j y hy;exact⟨c,Sum.inl e.h,.int e.l,h1,h3,by rw[zO,h2];rfl⟩
 rw[Qu (WV hF fun e=>V.int e.l)];have eG:∀x:Int,Af (fs.map fun e=>((Sum.inl e.h:AR),V.int e.l)) (Sum.inl x)=(BY fs x).map fun e=>V.int e.l:=fun x=>UR _ x;have s5:AD H (upd H4 dd (.dK (fs.map fun e=>(Sum.inl e.h,V.int e.l)))):=s4.trans (zH iA);have iO:(upd H4 dd (.dK (fs.map fun e=>((Sum.inl e.h:AR),V.int e.l)))) dd=some (.dK (fs.map fun e=>(Sum.inl e.h,V.int e.l))):=zK;generalize upd H4 dd (.dK (fs.map fun e=>((Sum.inl e.h:AR),V.int e.l)))=H5 at s5 iO ⊢;generalize (fs.map fun e=>((Sum.inl e.h:AR),V.int e.l))=dQ at eG iO;refine⟨_,rfl,p,rfl,⟨_,AC.of (s5 _ _ hp)⟩,[.ref dd],rfl,fun D2 dg=>?_⟩;refine BV (a:=p) (xs:=as.map V.ref) (fun i ys H6=>ys=((((es.take i).filterMap (CA fs)).map (·.1))).map V.int/\AD H5 H6/\H6 D2=some (.lst ys)) ⟨rfl,zH dg,zK⟩ (fun i ys H6 h=>?_) (fun i ys H6 h=>?_) (fun i v ys H6 hv h=>?_) (fun ys H6 h=>?_)
 . exact AC.of (h.2.1 _ _ (s5 _ _ hp))
 . obtain⟨rfl,_⟩:=h;rw[zD,zD];exact CG (List.length_filterMap_le _ _) (Bk (by rw[zd];lia))
 . obtain⟨rfl,s6,gH⟩:=h;obtain⟨a,x,rfl,hx,ha⟩:=EA.at hv;have ha6:=s6 _ _ (s5 _ _ ha);refine⟨⟨rfl,rfl⟩,?_⟩;refine⟨_,rfl,a,_,_,.int x.h,rfl,rfl,AC.of ha6,rfl,_,rfl,dd,_,rfl,BG.k (k:=Sum.inl x.h) (s6 _ _ iO),_,rfl,?_⟩;have st:=VB (CA fs) hx;have gQ:=eG x.h;cases e:BY fs x.h with
   | none=>
    rw[e] at gQ;rw[gQ];refine Aj ?_;have ec:CA fs x=none:=by unfold CA;rw[e];rfl
    refine⟨?_,s6,gH⟩;rw[st,ec];simp
   | some g=>
    rw[e] at gQ;have hv3:Af dQ (Sum.inl x.h)=some (.int g.l):=gQ;rw[hv3];refine Aa ?_;have ec:CA fs x=some (x.l+g.l,x.h):=by unfold CA;rw[e];rfl
    refine⟨_,rfl,a,_,_,.int x.l,rfl,rfl,AC.of ha6,rfl,_,rfl,_,rfl,a,_,_,.int x.h,rfl,rfl,AC.of ha6,rfl,dd,.int g.l,rfl,hv3 ▸ BG.k (k:=Sum.inl x.h) (s6 _ _ iO),_,_,rfl,rfl,gH,?_,A9 s6 dg,zK⟩;rw[st,ec,zf,zf];rfl
 obtain⟨rfl,s6,gH⟩:=h;rw[zD,EA.1,zW (zJ _)] at gH;have hD6':H6 D2=some (.lst ((sE es fs).map V.int)):=gH;refine⟨_,rfl,E5,fun e0 he0=>?_⟩;have s7:=zH (o:=.lst []) he0;refine⟨D2,e0,_,rfl,rfl,AE.of (s7 _ _ hD6'),AE.of zK,_,rfl,?_⟩;have s07:=(s5.trans s6).trans s7;cases hS:sE es fs with
 | nil=>refine Aa ?_;have:tv es fs=none:=(SK (o:=none) hS).symm;have z:=k _ s07;rw[this] at z;exact z
 | cons x r=>rw[hS] at hD6';refine Aj ?_;refine⟨_,rfl,D2,x::r,rfl,AE.of (s7 _ _ hD6'),by simp,fun m hm hb=>?_⟩;have:tv es fs=some m:=(SK (o:=some m) (by rw[hS];exact⟨hm,hb⟩)).symm;have z:=k _ s07;rw[this] at z;exact z
def ER (H:Hp)(ys:List V)(fe:List (Nat×En)):Prop:=ys.length=fe.length/\∀(j:Nat)y,ys[j]?=some y->∃c,∃(i:Nat),∃e,y=.ref c/\fe[j]?=some (i,e)/\H c=some (.tup (.int i::eV e))
theorem ER.keep (h:ER H ys fe)(k:∀b zs,H b=some (.tup zs)->H' b=some (.tup zs)):ER H' ys fe:=
 ⟨h.1,fun j y e=>let ⟨c,i,x,h1,h2,h3⟩:=h.2 j y e;⟨c,i,x,h1,h2,k _ _ h3⟩⟩
theorem ER.app (h:ER H ys fe)(g:ER H zs ge):ER H (ys++zs) (fe++ge):=by
 refine⟨by rw[zM,zM,h.1,g.1],fun j y e=>?_⟩;by_cases c:j<ys.length
 . rw[zb c] at e;obtain⟨a,i,x,h1,h2,h3⟩:=h.2 j y e;exact⟨a,i,x,h1,by rw[zb (by rw[<-h.1];exact c)];exact h2,h3⟩
 . rw[zX (by lia)] at e;obtain⟨a,i,x,h1,h2,h3⟩:=g.2 _ y e;exact⟨a,i,x,h1,by rw[zX (by rw[<-h.1];lia),<-h.1];exact h2,h3⟩
def V8:Sp:=fun vs H Q _=>∃l dP,vs=[.ref l]/\Bp H l dP/\dP.length<=24/\(∀es∈dP,es.length<=24) /\
 ∀a ys H',AD H H'->H' a=some (.lst ys)->ER H' ys (Bb dP dP.length)->Q (.ref a) H'
theorem Qw (T:Es K H a (IM dP))(hu:u<dP.length)(hv:v<dP.length):∃xs r ys,AE K H a xs/\B9 xs (u:Int)=some (.ref r)/\AE K H r ys/\B9 ys (v:Int)=some (oV (tv (dP.getD u []) (dP.getD v []))):=by
 obtain⟨rs,h1,h2,h3⟩:=T;have hl:rs.length=dP.length:=by rw[h2];unfold IM;rw[zD]
 have e1:rs[u]?=some (rs[u]'(by lia)):=zB (by lia);have e2:(IM dP)[u]?=some (dP.map fun b=>tv (dP.getD u []) b):=by unfold IM;rw[zO,getD_some hu];rfl
 refine⟨_,rs[u]'(by lia),_,h1,DS (by rw[zO,e1];rfl),AE.of (h3 u _ _ e1 e2),DS (by rw[zO,zO,getD_some hv];rfl)⟩
theorem ZN (hk:Hy n dP){w:Nat}(hu:u<dP.length)(hv:v<dP.length)(hw:w<dP.length):DU ts dP u v w↔∃t,Ah ts v w t/\Qh (tv (dP.getD u []) (dP.getD v [])) (tv (dP.getD u []) (dP.getD w [])) t=true:=by
 have Hu:=(hk.at hu).hub;have Hv:=(hk.at hv).hub;have Hw:=(hk.at hw).hub;obtain⟨lv,h1⟩:=RE (es:=dP.getD v []) Hu;obtain⟨lw,h2⟩:=RE (es:=dP.getD w []) Hu;rw[WN Hu Hv,WN Hu Hw,<-SU Hu h1,<-SU Hu h2];constructor
 . rintro ⟨t,a,b,ad,ha,hb,g⟩;rw[ha.uniq h1,hb.uniq h2] at g;exact⟨t,ad,g⟩
 . rintro ⟨t,ad,g⟩;exact⟨t,_,_,ad,h1,h2,g⟩
def IU (K:AJ):Sp:=fun vs H Q _=>∃dp ta n ts dP dQ,vs=[.int n,.ref dp,.ref ta]/\GW n ts/\Hy n dP/\H dp=some (.dT dQ)/\PD ts dQ/\Es K H ta (IM dP)/\∀(o:Option PyData) v H',CW ts dP o->AW H' v (o.getD .none)->AD H H'->Q v H'
theorem RW:AX ["_law_labels_here","_law_found_here","_law_place"] PK (defScope Mj):=Ad
theorem Y2 (F:Fu K "_law_hung" Mj f dU) (dR:mg "range"=none) (dY:mg "len"=none):AL P w K mg base AU 1 f dU PK V8:=by
 refine F.okD RW fun _ A _ _ H vs Q E hr h=>?_;obtain⟨l,dP,rfl,LL,hn,er,k⟩:=h;obtain⟨as,hl,gG,hA⟩:=id LL;refine⟨_,za (As (i:=1) RW.nd (CJ zQ))
  (za (A7 (B8 rfl dR (zE (Ar D6 dY (zE (pv 0) zQ)) zQ)) (B5 (i:=2) RW.nd rfl (Or.inr rfl))
   (ze (D7 (Em PySem.F.plainAttrs_list PySem.F.slot_list_extend PySem.F.type_list_extend Vs (pv 1) (zE
    (B0 (own:=De) (cn:=["_law_place"]) (ci:=[2]) rfl (BK rfl rfl) ⟨rfl,rfl,rfl,trivial⟩ rfl (BH (AF Ac (pv 0) (pv 2))) (fun _ _ _ _=>BJ)
     (fun _ _ _ _=>El (Ak NJ (AF Cy (pv 0) zi) zi (AS _)))
     (fun _ _ _ _=>AV Mz (AZ (zE (pv 1) zQ)) (pv 0))) zQ)))))
  (ze (AN (pv 1)))),?_⟩
 refine⟨E5,fun D hD=>?_⟩;have s0:=zH (o:=.lst []) hD;refine⟨_,rfl,l,_,rfl,.inr (AC.of (s0 _ _ hl)),?_⟩;rw[zD,gG];refine⟨(dP.length:Int),rfl,by lia,by lia,CS (lo:=0) (n:=((dP.length:Int)).toNat) (fun i σ H2=>F8 fun (v2:Option V)(ys:List V)=>σ=[some (.ref l),some (.ref D),v2]/\AD H H2/\H2 D=some (.lst ys)/\ER H2 ys (Bb dP i))
  ⟨_,[],rfl,s0,zK,rfl,fun j y e=>by simp at e⟩ (fun i σ H2 hi z=>?_) (fun σ H2 z=>?_)⟩
 . obtain⟨v2,ys,rfl,s2,dg,FA⟩:=z;rw[CI];have e8:i<as.length:=by lia
   obtain⟨a,ha⟩:∃a,as[i]?=some a:=⟨_,zB e8⟩;obtain⟨es,i5,bs,hb,EA,hl3⟩:=hA i a ha;have eget:dP.getD i []=es:=by rw[zF,i5];rfl
   have hel:=er es (zV i5);refine⟨_,rfl,.inl ⟨rfl,_,AE.of dg⟩,_,rfl,_,rfl,l,_,_,.ref a,rfl,rfl,AC.of (s2 _ _ hl),DS (by rw[zO,ha];rfl),a,rfl,⟨_,AC.of (s2 _ _ hb)⟩,[.int i],rfl,fun D2 gB=>?_⟩;have EA3:B4 H2 bs es:=EA.keep fun b zs e=>s2 _ _ e;have hbl:=EA.1;refine BV (a:=a) (xs:=bs.map V.ref) (fun j zs H4=>ER H4 zs (((es.take j).filter fun e=>decide (e.l≠0)).map fun e=>(i,e))/\AD H2 H4/\H4 D2=some (.lst zs)) ⟨⟨rfl,fun j y e=>by simp at e⟩,zH gB,zK⟩ (fun j zs H4 h=>?_) (fun j zs H4 h=>?_) (fun j v zs H4 hv h=>?_) (fun zs H4 h=>?_)
   . exact AC.of (h.2.1 _ _ (s2 _ _ hb))
   . rw[h.1.1,zD];exact CG (EH _ _) (Bk (by rw[zd];lia))
   . obtain⟨F4,s4,eR⟩:=h;obtain⟨c,e,rfl,he,hc⟩:=EA3.at hv;have hc4:=s4 _ _ hc;refine⟨⟨rfl,rfl⟩,?_⟩;refine⟨_,rfl,c,_,_,.int e.l,rfl,rfl,AC.of hc4,rfl,rfl,_,rfl,?_⟩;rw[Fi];have st:=Pq (fun e:En=>decide (e.l≠0)) he;by_cases cc:e.l=0
     . rw[zP cc];refine Aj ⟨?_,s4,eR⟩;rw[st,if_neg (by simp[cc]),BR];exact F4
     . rw[zR cc];refine Aa ?_;refine⟨_,rfl,F7,fun q0 hq0=>⟨_,rfl,q0,c,_,_,rfl,rfl,zK,zH hq0 _ _ hc4,by show 1+4<=sizeLine;decide,fun q H5 s5 h5=>?_⟩⟩;have s45:=(zH (o:=.tup [.int (i:Int)]) hq0).trans s5;have gO:=s45 _ _ eR;refine⟨gO,?_,A9 (s4.trans s45) gB,zK⟩;rw[st,if_pos (by simp[cc]),zf];have kp:∀b us,H5 b=some (.tup us)->(upd H5 D2 (.lst (zs++[.ref q]))) b=some (.tup us):=fun b us e=>by rw[zk (Bn e gO (by intro z;cases z))];exact e
       refine ((F4.keep fun b us e=>s45 _ _ e).keep kp).app ⟨rfl,fun j' y' e'=>?_⟩;cases j' with
       | zero=>
        have:V.ref q=y':=by simpa using e'
        subst this;exact⟨q,i,e,rfl,rfl,kp _ _ h5⟩
       | succ z=>simp at e'
   . obtain⟨F4,s4,eR⟩:=h;rw[zD,EA.1,zW (zJ _)] at F4;have hDD:=s4 _ _ dg;have f1:=R7 er i;have f2:=FA.1;have f3:=F4.1;have f4:=EH (fun e:En=>decide (e.l≠0)) es;rw[zD] at f3;refine⟨D,D2,_,_,rfl,rfl,hDD,eR,DG (Bk (by lia)),?_⟩;have s5:=A9 (o:=.lst (ys++zs)) (s2.trans s4) hD;have kp:∀b us,H4 b=some (.tup us)->(upd H4 D (.lst (ys++zs))) b=some (.tup us):=fun b us e=>by rw[zk (Bn e hDD (by intro z;cases z))];exact e
     refine⟨_,ys++zs,rfl,s5,zK,?_⟩;show ER _ _ (Bb dP i++_);rw[eget];exact ((FA.keep fun b us e=>s4 _ _ e).keep kp).app (F4.keep kp)
 . obtain⟨v2,ys,rfl,s2,dg,FA⟩:=z;rw[zv] at FA;exact⟨_,rfl,k D ys H2 s2 dg FA⟩
theorem Pz:AX ["_law_n","_law_pairs","_law_tells","_law_u","_law_v","_law_w"] PP (defScope E2):=Ad
theorem KW (F:Fu K "_law_tie_fault" E2 f dU) (dR:mg "range"=none):AL P w K mg base AU 1 f dU PP (IU K):=by
 refine F.okD Pz fun _ A _ _ H vs Q E hr h=>?_;obtain⟨dp,ta,n,ts,dP,dQ,rfl,G,hk,hdp,pd,T,k⟩:=h;have iu:=G.n1;have iJ:=G.n24;have hln:=hk.ln;have hu:=Ge hr;refine⟨_,za (A7 (B8 rfl dR (zE (pv 0) zQ)) (Ae (i:=3) Pz.nd)
  (ze (A7 (B8 rfl dR (zE (pv 0) zQ)) (Ae (i:=4) Pz.nd)
   (ze (A7 (B8 rfl dR (zE (pv 0) zQ)) (Ae (i:=5) Pz.nd)
    (ze (Aq (PW.pt (HG (JT (Pj hu (AZ (zE (pv 4) (zE (pv 5) zQ))) (pv 1))) (Lx (Ak HQ (AF Ab (AF Ab (pv 2) (pv 3)) (pv 4)) An (AS _)))))
     (ze (Aq (PW.pt (Dy (Ak DP (AF Ab (AF Ab (pv 2) (pv 3)) (pv 5)) An (AS _)) (D4 (Ak JI (AF Ab (AF Ab (pv 2) (pv 3)) (pv 5)) (AV CK (AF Ab (AF Ab (pv 2) (pv 3)) (pv 4)) (JE hu (pv 1) (AZ (zE (pv 4) (zE (pv 5) zQ))) (fun _ _=>rfl))) (AS _)))))
      (ze (AN (AZ (zE (pv 3) (zE (pv 4) (zE (pv 5) zQ)))))) Ao)) Ao)))))))
  (ze (AN An)),?_⟩
 refine⟨_,rfl,n,rfl,by lia,by lia,CS (lo:=0) (n:=n.toNat) (fun i σ H1=>IV fun (v3 v4 v5:Option V)=>σ=[some (.int n),some (.ref dp),some (.ref ta),v3,v4,v5]/\AD H H1/\∀u v w:Nat,u<i->v<dP.length->w<dP.length->¬ DU ts dP u v w)
  ⟨_,_,_,rfl,AD.refl _,fun u v w z=>absurd z (C1 _)⟩ (fun u σ H1 hu' z=>?_) (fun σ H1 z=>?_)⟩
 . obtain⟨v3,v4,v5,rfl,s1,all1⟩:=z;rw[CI];have hu1:u<dP.length:=by lia
   refine⟨_,rfl,n,rfl,by lia,by lia,CS (lo:=0) (n:=n.toNat) (fun i σ H2=>F8 fun (v4 v5:Option V)=>σ=[some (.int n),some (.ref dp),some (.ref ta),some (.int u),v4,v5]/\AD H H2/\∀v w:Nat,v<i->w<dP.length->¬ DU ts dP u v w)
    ⟨_,_,rfl,s1,fun v w z=>absurd z (C1 _)⟩ (fun v σ H2 iF z=>?_) (fun σ H2 z=>?_)⟩
   . obtain⟨v4,v5,rfl,s2,all2⟩:=z;rw[CI];have hv1:v<dP.length:=by lia
     refine⟨_,rfl,n,rfl,by lia,by lia,CS (lo:=0) (n:=n.toNat) (fun i σ H3=>∃v5:Option V,σ=[some (.int n),some (.ref dp),some (.ref ta),some (.int u),some (.int v),v5]/\AD H H3/\∀w:Nat,w<i->¬ DU ts dP u v w)
      ⟨_,rfl,s2,fun w z=>absurd z (C1 _)⟩ (fun x σ H3 dZ z=>?_) (fun σ H3 z=>?_)⟩
     . obtain⟨v5,rfl,s3,all3⟩:=z;rw[CI];have hx1:x<dP.length:=by lia
       have gi:=ZN (ts:=ts) hk hu1 hv1 hx1;have next:∀H4,AD H H4->¬ DU ts dP u v x->∃v5:Option V,[some (V.int n),some (.ref dp),some (.ref ta),some (.int u),some (.int v),some (.int x)]=[some (.int n),some (.ref dp),some (.ref ta),some (.int u),some (.int v),v5]/\AD H H4/\∀w:Nat,w<x+1->¬ DU ts dP u v w:=fun H4 s4 ng=>⟨_,rfl,s4,fun w hw=>by
        by_cases c:w=x
        . subst c;exact ng
        . exact all3 w (by lia)⟩
       refine⟨_,rfl,_,rfl,Au,fun p hp=>?_⟩;have s4:=s3.trans (zH (o:=.tup [.int (v:Int),.int (x:Int)]) hp);refine⟨_,rfl,dp,_,rfl,BG.t (k:=[Sum.inl (v:Int),Sum.inl (x:Int)]) (s4 _ _ hdp) zK,_,rfl,Cg (fun c=>?_) (fun c=>?_)⟩
       . obtain⟨t,ad⟩:=(pd.some v x).mp c;have eG:=((pd v x).1 t).mpr ad;obtain⟨xs,r,ys,h1,h2,h3,h4⟩:=Qw (QQ T s4) hu1 hv1;refine⟨_,rfl,_,rfl,ta,_,_,.ref r,rfl,rfl,h1,h2,_,rfl,r,_,_,_,rfl,rfl,h3,h4,rfl,_,rfl,?_⟩;have only:∀t',Ah ts v x t'->t'=t:=fun t' ad'=>G.uniq ad' ad;cases e1:tv (dP.getD u []) (dP.getD v []) with
         | none=>refine Am (by rfl) ?_;refine next _ s4 fun z=>?_;obtain⟨t',_,g⟩:=gi.mp z;rw[e1] at g;cases g
         | some a=>
          rw[e1] at h4;refine Ag (by rfl) ?_;obtain⟨xs',r',gP,g1,g2,g3,g4⟩:=Qw (QQ T s4) hu1 hx1;have ret:∀H5,AD H H5->DU ts dP u v x->∀q,H5 q=none->Q (.ref q) (upd H5 q (.tup [.int (u:Int),.int (v:Int),.int (x:Int)])):=fun H5 s5 gr q hq=>by
           refine k (some (.tuple [.int u,.int v,.int x])) _ _ ⟨u,v,x,hu1,hv1,hx1,gr,rfl,fun u' v' w' l iF iR=>?_⟩ (.tup zK (.cons (.int _) (.cons (.int _) (.cons (.int _) .nil)))) (s5.trans (zH hq));rcases l with l | ⟨rfl,l⟩
           . exact all1 u' v' w' l iF iR
           . rcases l with l | ⟨rfl,l⟩
             . exact all2 v' w' l iR
             . exact all3 w' l
          refine⟨_,rfl,_,rfl,ta,_,_,.ref r',rfl,rfl,g1,g2,_,rfl,r',_,_,_,rfl,rfl,g3,g4,rfl,_,rfl,?_⟩;cases e2:tv (dP.getD u []) (dP.getD x []) with
          | none=>refine Ag (by rfl) (Aa ?_);refine⟨_,rfl,_,rfl,_,rfl,Gz,fun q hq=>ret _ s4 (gi.mpr ⟨t,ad,by rw[e1,e2];rfl⟩) q hq⟩
          | some b=>
           rw[e2] at g4;refine Am (by rfl) ?_;refine⟨_,rfl,_,rfl,ta,_,_,.ref r',rfl,rfl,g1,g2,_,rfl,r',_,_,_,rfl,rfl,g3,g4,_,rfl,_,rfl,ta,_,_,.ref r,rfl,rfl,h1,h2,_,rfl,r,_,_,_,rfl,rfl,h3,h4,_,rfl,_,rfl,_,rfl,Au,fun p2 eT=>?_⟩;have s5:=s4.trans (zH (o:=.tup [.int (v:Int),.int (x:Int)]) eT);refine⟨dp,_,rfl,eG ▸ BG.t (k:=[Sum.inl (v:Int),Sum.inl (x:Int)]) (s5 _ _ hdp) zK,_,_,rfl,rfl,_,_,rfl,rfl,_,rfl,Cg (fun c2=>?_) (fun c2=>?_)⟩
           . refine⟨_,rfl,_,rfl,_,rfl,Gz,fun q hq=>ret _ s5 (gi.mpr ⟨t,ad,by rw[e1,e2];exact c2⟩) q hq⟩
           . refine next _ s5 fun z=>?_;obtain⟨t',ad',g⟩:=gi.mp z;rw[e1,e2,only t' ad'] at g;exact c2 g
       . refine Aj ?_;refine next _ s4 fun z=>?_;obtain⟨t',ad',_⟩:=gi.mp z;exact c ((pd.some v x).mpr ⟨t',ad'⟩)
     . obtain⟨v5,rfl,s3,all3⟩:=z;refine⟨_,_,rfl,s3,fun v' w' gQ hw2=>?_⟩;by_cases c:v'=v
       . subst c;exact all3 w' (by lia)
       . exact all2 v' w' (by lia) hw2
   . obtain⟨v4,v5,rfl,s2,all2⟩:=z;refine⟨_,_,_,rfl,s2,fun u' v' w' hu2 gQ hw2=>?_⟩;by_cases c:u'=u
     . subst c;exact all2 v' w' (by lia) hw2
     . exact all1 u' v' w' (by lia) gQ hw2
 . obtain⟨v3,v4,v5,rfl,s1,all1⟩:=z;exact k none _ _ (fun u v w hu2 gQ hw2=>all1 u v w (by lia) gQ hw2) .non s1
noncomputable def fD:Option (Str×PyData)->PyData
 | none=>.tuple []
 | some (x,e)=>.tuple [.str x,e]
def RS:Sp:=fun vs H Q _=>∃wa v d n ts k l,vs=[.ref wa,v]/\BP H wa n ts/\AW H v d/\IB k l d/\k<=big/\l<64/\∀f q H',DI n ts d f->AD H H'->AW H' (.ref q) (fD f)->Q (.ref q) H'
theorem Kv (hk:Hy n dP)(G:GW n ts){i:Nat}(hu:e.u=some u)(u0:0<=u)(u1:u<n)(ad:Ah ts i u t):Gx ts dP i e↔(BY (dP.getD u.toNat []) e.h).map (·.l)=some (e.l-t):=by
 have Hu:=(hk.at (i:=u.toNat) (by have:=hk.ln;lia)).hub;constructor
 . rintro ⟨u',t',f,h1,h2,h3,h4,h5⟩;rw[hu] at h1;cases h1;rw[(MG Hu).mpr ⟨h3,h4⟩,<-G.uniq h2 ad,<-h5];rfl
 . intro h;cases e1:BY (dP.getD u.toNat []) e.h with
   | none=>rw[e1] at h;cases h
   | some f=>rw[e1] at h;obtain⟨a,b⟩:=(MG Hu).mp e1;exact⟨u,t,f,hu,ad,a,b,zY h⟩
theorem J6 (hk:Hy n dP)(G:GW n ts)(hi:i<dP.length)(hd:e.d=some d)(ad:Ah ts e.h d t):IJ ts dP i e↔tv (dP.getD d.toNat []) (dP.getD i [])=some (e.l-t):=by
 have Hi:=(hk.at hi).hub;obtain⟨lm,hm⟩:=RE (es:=dP.getD d.toNat []) Hi;rw[<-SU Hi hm];constructor
 . rintro ⟨d',t',c,h1,h2,h3,h4⟩;rw[hd] at h1;cases h1;rw[hm.uniq h3,<-G.uniq h2 ad,<-h4];rfl
 . intro h;cases lm with
   | none=>cases h
   | some c=>exact⟨d,t,c,hd,ad,hm,zY h⟩
theorem YO {tl:TE}(hl:PE (BM X pl N' sc fp s3 H3) l tl):PI (BM X pl N' sc fp s3 H3) tg l (Kt X.K tl):=BH hl
theorem Ul :Hc (BM (BM X pl N' sc fp s3 H3) pl' N2 sc' fp' s3' H3') (LB X.K):=Ac
theorem YE (hc:X.calm=true):B3 (BM X pl N' sc fp s3 H3) (.type "dict") (KR X.K):=RF (X:=BM X pl N' sc fp s3 H3) hc
noncomputable def F9 (es:List En):List (AR×V):=es.map fun e=>(Sum.inl e.h,V.int e.l)
def Sy (H:Hp)(ds:List Addr)(dP:List (List En)):Prop:=∀(j:Nat)dd,ds[j]?=some dd->∃es,dP[j]?=some es/\H dd=some (.dK (F9 es))
theorem CQ:AX ["_law_web_here","_law_thing","_law_n","_law_place","_law_pairs","_law_longs","_law_hub_here","_law_long","_law_up","_law_down","_law_tells","_law_fault_here"] Co (defScope E7):=Ad
theorem Kz {fT:Addr}(F:Fu K "_law_fault" E7 f dU) (FA:AH K mg "_law_are_labels" Mi fA fdA Cc) (GA:AM P w base 4 FA Q8)
 (FJ:AH K mg "_law_joined" Da fJ fdJ Ex) (GJ:AM P w base 4 FJ Qa)
 (FH:AH K mg "_law_hung" Mj fH fdH PK) (GH:AM P w base 4 FH V8)
 (FT:AH K mg "_law_told" Eu fT fdT CO) (GT:AM P w base 4 FT Hq)
 (FF:AH K mg "_law_tie_fault" E2 fF fdF PP) (GF:AM P w base 4 FF (IU K))
 (dR:mg "range"=none) (d9:mg "dict"=none):AL P w K mg base AU 5 f dU Co RS:=by
 refine F.okD CQ fun _ A _ _ H vs Q E hr h=>?_;obtain⟨wa,v,d,n,ts,k0,l0,rfl,W,S,ib,hk0,hl0,k⟩:=h;obtain⟨ta,tys,eS,iG,TA,G⟩:=id W;have iu:=G.n1;have iJ:=G.n24;have hu:=Ge hr;have iS:=hr.units0;refine⟨_,za (As (i:=2) CQ.nd (AF Ac (pv 0) zi))
  (za (Aq (B7 (BL (AO GA hr FA (zE (pv 2) (zE (pv 1) zQ))))) (ze (AN (AZ (zE DQ (zE An zQ))))) Ao)
  (za (A7 (B8 rfl dR (zE (pv 2) zQ)) (Ae (i:=3) CQ.nd)
   (ze (Aq (Ak (Kh iS) (B0 (own:=De) (cn:=[]) (ci:=[]) rfl (BK rfl rfl) trivial rfl (BH (AF Ac (pv 1) (pv 3))) (fun _ _ _ _=>BJ)
    (fun _ _ _ _=>El (Ak Bh (AF Cy (pv 0) zi) zi (AS _)))
    (fun _ _ _ _=>AF Cy (pv 0) zi)) (CJ (zE (pv 3) zQ)) (AS _))
    (ze (AN (AZ (zE DQ (zE (pv 3) zQ))))) Ao)))
  (za (As (i:=4) CQ.nd (AO GJ hr FJ (zE (pv 0) zQ)))
  (za (HL (i:=5) (own:=["_law_label"]) (cn:=[]) (ci:=[]) CQ.nd rfl (Or.inl rfl) rfl (BK rfl rfl) trivial rfl (BH (pv 1)) (fun _ _ _ _=>BJ) (fun _ _ _ _=>CD)
   (fun _ _ _ _=>DH (YE rfl) d9 (zE
    (B0 (own:=De) (cn:=[]) (ci:=[]) rfl (BK rfl rfl) trivial rfl (YO (pv 0)) (fun _ _ _ _=>BJ)
     (fun _ _ _ _=>CD) (fun _ _ _ _=>AZ (zE (AF Ul (pv 0) zi) (zE (AF Ul (pv 0) zi) zQ)))) zQ)))
  (za (A7 (F3 (AO GH hr FH (zE (pv 1) zQ))) (C6 rfl (Ai (Ae (i:=3) CQ.nd) (Ai (Ae (i:=6) CQ.nd) (Ai (Ae (i:=7) CQ.nd) (Ai (Ae (i:=8) CQ.nd) (Ai (Ae (i:=9) CQ.nd) Ci))))))
   (ze (Aq (PW.pt (Dy (JT (Wp hu (AZ (zE (pv 3) (zE (pv 8) zQ))) (pv 4))) (D4 (Ak NJ (Z4 hu (AF Ab (pv 5) (pv 8)) (pv 6) ⟨rfl,rfl,rfl,rfl⟩) (AV Fe (pv 7) (JE hu (pv 4) (AZ (zE (pv 3) (zE (pv 8) zQ))) (fun _ _=>rfl))) (AS _)))))
    (ze (AN (AZ (zE DQ (zE (AZ (zE (pv 3) (zE (pv 6) zQ))) zQ))))) Ao)))
  (za (V3 (yc := "_law_one") (i:=10) (own:=["_law_one"]) (cn:=["_law_thing"]) (ci:=[1]) CQ.nd rfl (Or.inl rfl) rfl (Nw rfl (fun _ _=>rfl) rfl rfl) ⟨rfl,rfl,rfl,trivial⟩ rfl
   (BH (pv 1)) (fun _ _ _ _=>B5 (i:=0) (D1 rfl) rfl (Or.inr rfl)) (fun _ _ _ _=>CD)
   (fun _ _ _ _=>B0 (own:=["_law_other"]) (cn:=["_law_one"]) (ci:=[0]) rfl (BK rfl rfl) ⟨rfl,rfl,rfl,trivial⟩ rfl
    (Xw (pv 1)) (fun _ _ _ _=>BJ) (fun _ _ _ _=>CD)
    (fun _ _ _ _=>AO GT hr FT (zE (pv 1) (zE (pv 0) zQ)))))
  (za (As (i:=11) CQ.nd (AO GF hr FF (zE (pv 2) (zE (pv 4) (zE (pv 10) zQ)))))
  (za (Aq (Ak HQ (pv 11) An (AS _)) (ze (AN (AZ (zE DQ (zE (pv 11) zQ))))) Ao)
  (za (A7 (F3 (AO GH hr FH (zE (pv 1) zQ))) (C6 rfl (Ai (Ae (i:=3) CQ.nd) (Ai (Ae (i:=6) CQ.nd) (Ai (Ae (i:=7) CQ.nd) (Ai (Ae (i:=8) CQ.nd) (Ai (Ae (i:=9) CQ.nd) Ci))))))
   (ze (Aq (PW.pt (Dy (JT (Wp hu (AZ (zE (pv 6) (zE (pv 9) zQ))) (pv 4))) (D4 (Ak NJ (AF Ab (AF Ab (pv 10) (pv 9)) (pv 3)) (AV Fe (pv 7) (JE hu (pv 4) (AZ (zE (pv 6) (zE (pv 9) zQ))) (fun _ _=>rfl))) (AS _)))))
    (ze (AN (AZ (zE DQ (zE (AZ (zE (pv 3) (zE (pv 6) zQ))) zQ))))) Ao)))
  (ze (AN (AZ zQ)))))))))))),?_⟩
 refine⟨_,rfl,wa,_,_,_,rfl,rfl,AC.of eS,rfl,?_⟩;refine⟨_,rfl,_,rfl,n,v,d,k0,l0,rfl,by lia,S,ib,hk0,hl0,fun H1 s1=>?_⟩;refine⟨_,rfl,?_⟩;cases cp:Fq n d with
 | false=>refine Aa ⟨Au,fun q hq=>?_⟩;exact k _ q _ (.shape cp) (s1.trans (zH hq)) (.tup zK (.cons (.str _) (.cons .non .nil)))
 | true=>
  refine Aj ?_;obtain⟨dP,rfl,kd⟩:=Rj cp;have h24:∀es∈dP,es.length<=24:=fun es he=>by have:=(kd.kd es he).len;lia
  obtain⟨la,rfl,LA⟩:=XU (fun es he=>by have:=h24 es he;lia) S;have hln:=kd.ln;have fo:∀f,EW ts dP f->DI n ts (EX dP) f:=fun f l=>.lab dP f cp rfl l;obtain⟨as,hV,gG,hA⟩:=id LA;have gd:∀ {i es},dP[i]?=some es->dP.getD i []=es:=fun {i es} he=>by rw[zF,he];rfl
  have two:∀(x:Str)(i:Nat)(h:Int)(H5:Hp)(q q2:Addr),AD H H5->H5 q=none->(upd H5 q (.tup [.int (i:Int),.int h])) q2=none->EW ts dP (some (x,.tuple [.int i,.int h]))->Q (.ref q2) (upd (upd H5 q (.tup [.int (i:Int),.int h])) q2 (.tup [.str x,.ref q])):=fun x i h H5 q q2 s5 hq g9 fl=>
   k _ q2 _ (fo _ fl) (s5.trans ((zH hq).trans (zH g9))) (.tup zK (.cons (.str _) (.cons (.tup (zH g9 _ _ zK) (.cons (.int _) (.cons (.int _) .nil))) .nil)))
  refine⟨_,rfl,n,rfl,by lia,by lia,CS (lo:=0) (n:=n.toNat) (fun i σ H2=>Xv fun (v3 v4 v5 v6 v7 v8 v9 v10 v11:Option V)=>σ=[some (.ref wa),some (.ref la),some (.int n),v3,v4,v5,v6,v7,v8,v9,v10,v11]/\AD H H2/\∀j:Nat,j<i->NZ dP j)
   ⟨_,_,_,_,_,_,_,_,_,rfl,s1,fun j z=>absurd z (C1 _)⟩ (fun i σ H2 hi z=>?_) (fun σ H2 z=>?_)⟩
  . obtain⟨v3,v4,v5,v6,v7,v8,v9,v10,v11,rfl,s2,all⟩:=z;rw[CI];have e8:i<dP.length:=by lia
    obtain⟨a,ha⟩:∃a,as[i]?=some a:=⟨_,zB (by lia)⟩;obtain⟨es,he,cs,hc,EA,hl3⟩:=hA i a ha;obtain⟨e,hf⟩:=(kd.at e8).zero;rw[gd he] at hf;refine⟨_,rfl,_,rfl,la,_,_,.ref a,rfl,rfl,AC.of (s2 _ _ hV),DS (by rw[zO,ha];rfl),a,rfl,⟨_,AC.of (s2 _ _ hc)⟩,[],rfl,fun D hD=>?_⟩;refine BV (a:=a) (xs:=cs.map V.ref) (fun j ys H3=>ys=(((es.take j).filter fun e=>decide (e.l=0)).map (·.h)).map V.int/\AD H2 H3/\H3 D=some (.lst ys)) ⟨rfl,zH hD,zK⟩ (fun j ys H3 h=>?_) (fun j ys H3 h=>?_) (fun j v ys H3 hv h=>?_) (fun ys H3 h=>?_)
    . exact AC.of (h.2.1 _ _ (s2 _ _ hc))
    . rw[h.1,zD,zD];exact CG (EH _ _) (Bk (by rw[zd];lia))
    . obtain⟨rfl,s3,eU⟩:=h;obtain⟨c,e',rfl,gJ,gF⟩:=EA.at hv;have hc3:=s3 _ _ (s2 _ _ gF);refine⟨⟨rfl,rfl⟩,?_⟩;refine⟨_,rfl,c,_,_,.int e'.l,rfl,rfl,AC.of hc3,rfl,rfl,_,rfl,?_⟩;rw[Fi];have st:=Pq (fun e:En=>decide (e.l=0)) gJ;by_cases cc:e'.l=0
      . rw[zP cc];refine Aa ⟨_,rfl,c,_,_,.int e'.h,rfl,rfl,AC.of hc3,rfl,eU,?_,A9 s3 hD,zK⟩;rw[st,if_pos (by simp[cc]),zf,zf];rfl
      . rw[zR cc];refine Aj ⟨?_,s3,eU⟩;rw[st,if_neg (by simp[cc]),BR]
    . obtain⟨rfl,s3,eU⟩:=h;rw[zD,EA.1,zW (zJ _),hf] at eU;refine⟨_,rfl,F7,fun p hp=>?_⟩;have s4:=(s2.trans s3).trans (zH (o:=.lst [.int (i:Int)]) hp);refine⟨D,p,[e.h],[(i:Int)],rfl,rfl,AE.of (zH hp _ _ eU),AE.of zK,_,rfl,?_⟩;by_cases c:e.h=i
      . rw[c,zP rfl];refine Aj ⟨_,_,_,_,_,_,_,_,_,rfl,s4,fun j hj=>?_⟩;by_cases q:j=i
        . subst q;intro e' r' iM;rw[gd he,hf] at iM;cases iM;exact c
        . exact all j (by lia)
      . rw[zR (by intro z;injection z with z;exact c z)];refine Aa ⟨_,rfl,Au,fun q hq=>?_⟩;refine k _ q _ (fo _ (.own (.int i) ⟨i,i,MD e8,(fun z=>c (z e [] (by rw[gd he];exact hf))),rfl,fun k' y hk hy=>?_⟩)) (s4.trans (zH hq)) (.tup zK (.cons (.str _) (.cons (.int _) .nil)));obtain⟨hk2,rfl⟩:=zI.mp hy;rw[List.getElem_range];exact all k' hk
  . obtain⟨v3,v4,v5,v6,v7,v8,v9,v10,v11,rfl,s2,all⟩:=z;have OW:JG dP none:=fun i hi=>all i (by have:=C0.mp hi;lia);clear all;refine⟨_,rfl,wa,n,ts,rfl,W.keep s2,fun dp dQ H3 s3 hdp pd=>?_⟩;have iD:=s2.trans s3;refine⟨_,rfl,la,rfl,⟨_,AC.of (iD _ _ hV)⟩,[],rfl,fun fl hfl=>?_⟩;refine BV (a:=la) (xs:=as.map V.ref) (fun i ys H4=>i<=dP.length/\∃ds:List Addr,ys=ds.map V.ref/\ds.length=i/\Sy H4 ds dP/\AD H3 H4/\H4 fl=some (.lst ys))
     ⟨zg _,[],rfl,rfl,fun j dd z=>by simp at z,zH hfl,zK⟩ (fun i ys H4 h=>?_) (fun i ys H4 h=>?_) (fun i v ys H4 hv h=>?_) (fun ys H4 h=>?_)
    . obtain⟨_,_,_,_,_,s4,_⟩:=h;exact AC.of (s4 _ _ (iD _ _ hV))
    . obtain⟨hi,ds,rfl,hdl,_⟩:=h;rw[zD,hdl];exact Bk (by lia)
    . obtain⟨_,ds,rfl,hdl,gK,s4,hf4⟩:=h;rw[zO] at hv;cases ha:as[i]? with
      | none=>rw[ha] at hv;cases hv
      | some a=>
      rw[ha] at hv;cases hv;obtain⟨es,he,cs,hc,EA,hl3⟩:=hA i a ha;have e8:i<dP.length:=(zI.mp he).1;have Hub':=(kd.at e8).hub;rw[gd he] at Hub';have ie:=iD.trans s4;refine⟨⟨rfl,rfl⟩,?_⟩;refine CC ?_;refine⟨_,rfl,a,rfl,⟨_,AC.of (ie _ _ hc)⟩,[],rfl,fun D hD=>?_⟩;refine BV (a:=a) (xs:=cs.map V.ref) (fun j zs H5=>j<=es.length/\zs.length=j/\(∀(m:Nat)(y:V),zs[m]?=some y->∃c e,y=.ref c/\es[m]?=some e/\H5 c=some (.tup [.int e.h,.int e.l]))/\AD H4 H5/\H5 D=some (.lst zs)) ⟨zg _,rfl,fun m y z=>by simp at z,zH hD,zK⟩ (fun j zs H5 h=>?_) (fun j zs H5 h=>?_) (fun j v zs H5 hv h=>?_) (fun zs H5 h=>?_)
      . exact AC.of (h.2.2.2.1 _ _ (ie _ _ hc))
      . rw[h.2.1];exact Bk (by have:=h.1;lia)
      . obtain⟨_,hzl,hzs,s5,gO⟩:=h;obtain⟨x,e,rfl,hx,hxe⟩:=EA.at hv;have hx5:=s5 _ _ (ie _ _ hxe);refine⟨⟨rfl,rfl⟩,?_⟩;refine CC ?_;refine⟨_,rfl,x,_,_,.int e.h,rfl,rfl,AC.of hx5,rfl,_,rfl,x,_,_,.int e.l,rfl,rfl,AC.of hx5,rfl,Au,fun c hc=>?_⟩;have nDc:D≠c:=zt gO hc;refine⟨zH hc _ _ gO,(zI.mp hx).1,by rw[zM,hzl];rfl,fun m y hy=>?_,A9 (s5.trans (zH hc)) hD,zK⟩;by_cases cj:m<j
        . rw[zb (by lia)] at hy;obtain⟨c',e',h1,h2,h3⟩:=hzs m y hy;refine⟨c',e',h1,h2,?_⟩;rw[zk (Bn h3 gO (by intro z;cases z))];exact zH hc _ _ h3
        . have ej:m=j:=by have:=(zI.mp hy).1;rw[zM,hzl] at this;simp at this;lia
          subst ej;rw[zX (by lia),hzl,Eg] at hy;have ey:V.ref c=y:=by simpa using hy
          subst ey;exact⟨c,e,rfl,hx,by rw[zk (Ne.symm nDc)];exact zK⟩
      . obtain⟨_,hzl,hzs,s5,gO⟩:=h;rw[zD,EA.1] at hzl;refine⟨D,zs,F9 es,rfl,AE.of gO,⟨by unfold F9;rw[zD,hzl],fun m y hy=>?_⟩,fun dd iA=>?_⟩
        . obtain⟨c,e,h1,h2,h3⟩:=hzs m y hy;exact⟨c,Sum.inl e.h,.int e.l,h1,h3,by unfold F9;rw[zO,h2];rfl⟩
        rw[Qu (show ((F9 es).map (·.1)).Nodup from WV Hub' fun e=>V.int e.l)];have s6:=s5.trans (zH (o:=.dK (F9 es)) iA);have hf6:=s6 _ _ hf4;have kp:∀b kv,(upd H5 dd (.dK (F9 es))) b=some (.dK kv)->(upd (upd H5 dd (.dK (F9 es))) fl (.lst (ds.map V.ref++[.ref dd]))) b=some (.dK kv):=fun b kv z=>by rw[zk (Bn z hf6 (by intro z;cases z))];exact z
        refine⟨hf6,by lia,ds++[dd],by rw[zf];rfl,by rw[zM,hdl];rfl,fun j d' i6=>?_,A9 (s4.trans s6) hfl,zK⟩;by_cases cj:j<ds.length
        . rw[zb cj] at i6;obtain⟨gD,e1,e2⟩:=gK j d' i6;exact⟨gD,e1,kp _ _ (s6 _ _ e2)⟩
        . rw[zX (by lia)] at i6;cases hz:j-ds.length with
          | zero=>
           rw[hz] at i6;have e1:dd=d':=by simpa using i6
           subst e1;exact⟨es,by rw[show j=i by lia];exact he,kp _ _ zK⟩
          | succ z=>rw[hz] at i6;simp at i6
    . obtain⟨_,ds,rfl,hdl,gK,s4,hf4⟩:=h;rw[zD,gG] at hdl;have ie:=iD.trans s4;have hdp4:=s4 _ _ hdp;refine⟨_,rfl,la,dP,rfl,LA.keep fun b us e=>ie _ _ e,by lia,h24,fun hn ys H5 s5 h5 HU=>?_⟩;have gj:=s5 _ _ hdp4;have iC:=ie.trans s5;refine⟨hn,rfl,⟨_,AE.of h5⟩,HM (K:=K) (a:=hn) (xs:=ys) (fun i σ H6=>Qo fun (v3 v6 v7 v8 v9:Option V)=>σ=[some (.ref wa),some (.ref la),some (.int n),v3,some (.ref dp),some (.ref fl),v6,v7,v8,v9,v10,v11]/\AD H5 H6/\∀(j:Nat)(x:Nat×En),j<i->(Bb dP dP.length)[j]?=some x->Gx ts dP x.1 x.2)
       ⟨_,_,_,_,_,rfl,AD.refl _,fun j x z=>absurd z (C1 _)⟩ (fun i σ H6 hi z=>?_) (fun i y σ H6 hy z=>?_) (fun σ H6 z=>?_)⟩
      . obtain⟨_,_,_,_,_,_,s6,_⟩:=z;exact AE.of (s6 _ _ h5)
      . obtain⟨v3',v6',v7',v8',v9',rfl,s6,all⟩:=z;obtain⟨c,i',e,rfl,hfe,hc⟩:=HU.2 i y hy;have hm:=zV hfe;obtain⟨m1,m2⟩:=MH hm;obtain⟨u,dn,hu1,hd1,u0,u1,d0,d1⟩:=((kd.at m1).ent e m2).far (Mq hm);have gF:H6 c=some (.tup [.int (i':Int),.int e.h,.int e.l,.int u,.int dn]):=by rw[s6 _ _ hc];unfold eV;rw[hu1,hd1];rfl
        have s06:=iC.trans s6;refine⟨c,_,rfl,AC.of gF,rfl,_,_,rfl,_,_,rfl,_,_,rfl,_,_,rfl,_,_,rfl,rfl,?_⟩;have ret:∀(H7:Hp)(q q2:Addr),AD H H7->H7 q=none->(upd H7 q (.tup [.int (i':Int),.int e.h])) q2=none->¬ Gx ts dP i' e->Q (.ref q2) (upd (upd H7 q (.tup [.int (i':Int),.int e.h])) q2 (.tup [.str "up",.ref q])):=fun H7 q q2 s7 hq g9 nu=>two _ i' e.h H7 q q2 s7 hq g9 (.up _ OW ⟨i,(i',e),hfe,nu,rfl,fun k' y hk hy=>all k' y hk hy⟩);refine⟨_,rfl,_,rfl,Au,fun p hp=>?_⟩;have s7:=s6.trans (zH (o:=.tup [.int (i':Int),.int u]) hp);have s07:=iC.trans s7;refine⟨_,rfl,dp,_,rfl,BG.t (k:=[Sum.inl (i':Int),Sum.inl u]) (s7 _ _ gj) zK,_,rfl,Cg (fun c1=>?_) (fun c1=>?_)⟩
        . refine Aa ⟨_,rfl,_,rfl,Au,fun q hq=>⟨Au,fun q2 g9=>ret _ q q2 s07 hq g9 ?_⟩⟩;rintro ⟨u',t',f',h1,h2,_⟩;rw[hu1] at h1;cases h1;have:=(pd.some i' u).mpr ⟨t',h2⟩;rw[this] at c1;cases c1
        . have iX:(Af dQ [Sum.inl (i':Int),Sum.inl u]).isSome=true:=by
           cases z:(Af dQ [Sum.inl (i':Int),Sum.inl u]).isSome with
           | true=>rfl
           | false=>rw[z] at c1;exact absurd rfl c1
          obtain⟨t,ad⟩:=(pd.some i' u).mp iX;have eG:=((pd i' u).1 t).mpr ad;have ui:=Kv kd G hu1 u0 u1 ad;have hul:u.toNat<ds.length:=by lia
          obtain⟨dd,iA⟩:∃dd,ds[u.toNat]?=some dd:=⟨_,zB hul⟩;obtain⟨es,he,hdk⟩:=gK _ _ iA;rw[gd he] at ui;have s47:=s5.trans s7;have hdk7:=s47 _ _ hdk;refine⟨_,rfl,_,rfl,fl,_,_,.ref dd,rfl,rfl,AE.of (s47 _ _ hf4),?ix,dd,rfl,.inl ⟨_,.inl hdk7⟩,_,rfl,_,BG.k (k:=Sum.inl e.h) hdk7,?_⟩
          case ix=>
           rw[show u=((u.toNat:Nat):Int) by lia];exact DS (by rw[zO,iA];rfl)
          have eo:(Af (F9 es) (Sum.inl e.h)).getD .non=oV ((BY es e.h).map (·.l)):=by rw[show F9 es=es.map fun e=>((Sum.inl e.h:AR),V.int e.l) from rfl,UR];cases BY es e.h <;> rfl
          rw[eo];refine⟨_,rfl,_,rfl,_,rfl,_,rfl,Au,fun p2 eT=>?_⟩;have s8:=s7.trans (zH (o:=.tup [.int (i':Int),.int u]) eT);refine⟨dp,_,rfl,eG ▸ BG.t (k:=[Sum.inl (i':Int),Sum.inl u]) (s8 _ _ gj) zK,_,_,rfl,rfl,Ro _ (some (e.l-t)),_,rfl,?_⟩;show (if (!decide (oV ((BY es e.h).map (·.l))=oV (some (e.l-t))))=true then _ else _)
          rw[SC];by_cases cu:(BY es e.h).map (·.l)=some (e.l-t)
          . rw[zP cu];refine Aj ⟨_,_,_,_,_,rfl,s8,fun j x hj hx=>?_⟩;by_cases q:j=i
            . subst q;rw[hfe] at hx;cases hx;exact ui.mpr cu
            . exact all j x (by lia) hx
          . rw[zR cu];exact Aa ⟨_,rfl,_,rfl,Au,fun q hq=>⟨Au,fun q2 g9=>ret _ q q2 (iC.trans s8) hq g9 fun z=>cu (ui.mp z)⟩⟩
      . obtain⟨v3',v6',v7',v8',v9',rfl,s6,all⟩:=z;have UP:Ic ts dP none:=fun x hx=>by obtain⟨j,hj,ej⟩:=zy hx;exact all j x (by rw[HU.1];exact hj) (by rw[zB hj,ej])
        clear all HU gK hf4;have s06:=iC.trans s6;have hdp6:=s6 _ _ gj;generalize hHx:H6=Hx at s06 hdp6;subst hHx;clear s6 h5 gj iC s5 hdp4 s4 ie iD s3 s2 s1;have LLx:Bp H6 la dP:=LA.keep fun b us e=>s06 _ _ e;obtain⟨as',hlx,halx,hAx⟩:=id LLx;refine⟨_,rfl,la,rfl,⟨_,AC.of hlx⟩,[.ref la],rfl,fun D hD=>?_⟩;refine BV (a:=la) (xs:=as'.map V.ref) (fun i ys H1=>i<=dP.length/\∃rs:List Addr,ys=rs.map V.ref/\rs.length=i/\(∀(j:Nat)(r:Addr),rs[j]?=some r->r≠D/\∃es,dP[j]?=some es/\H1 r=some (.lst ((dP.map fun b=>tv es b).map oV)))/\AD H6 H1/\H1 D=some (.lst ys))
         ⟨zg _,[],rfl,rfl,fun j r z=>by simp at z,zH hD,zK⟩ (fun i ys H1 h=>?_) (fun i ys H1 h=>?_) (fun i v ys H1 hv h=>?_) (fun ys H1 h=>?_)
        . obtain⟨_,_,_,_,_,s1,_⟩:=h;exact AC.of (s1 _ _ hlx)
        . obtain⟨hi,rs,rfl,hrl,_⟩:=h;rw[zD,hrl];exact Bk (by lia)
        . obtain⟨_,rs,rfl,hrl,hR,s1,gC⟩:=h;rw[zO] at hv;cases ha:as'[i]? with
          | none=>rw[ha] at hv;cases hv
          | some a=>
          rw[ha] at hv;cases hv;obtain⟨es,er,LE⟩:=hAx i a ha;have hia:=(zI.mp ha).1;refine⟨⟨rfl,rfl⟩,?_⟩;refine CC ?_;refine⟨_,rfl,la,rfl,⟨_,AC.of (s1 _ _ hlx)⟩,[.ref a],rfl,fun D2 dg=>?_⟩;have nDD:D≠D2:=zt gC dg;refine BV (a:=la) (xs:=as'.map V.ref) (fun j zs H2=>j<=dP.length/\zs=((dP.take j).map fun b=>tv es b).map oV/\AD H1 H2/\H2 D2=some (.lst zs)) ⟨zg _,rfl,zH dg,zK⟩ (fun j zs H2 h=>?_) (fun j zs H2 h=>?_) (fun j v zs H2 hv h=>?_) (fun zs H2 h=>?_)
          . exact AC.of (h.2.2.1 _ _ (s1 _ _ hlx))
          . obtain⟨hj,rfl,_⟩:=h;rw[zD,zD,zd];exact Bk (by lia)
          . obtain⟨_,rfl,s2,h2⟩:=h;rw[zO] at hv;cases hb:as'[j]? with
            | none=>rw[hb] at hv;cases hv
            | some b=>
            rw[hb] at hv;cases hv;obtain⟨fs,hfs,LF'⟩:=hAx j b hb;have hjb:=(zI.mp hb).1;refine⟨⟨rfl,rfl⟩,?_⟩;refine CC ?_;refine⟨_,rfl,_,rfl,a,b,es,fs,rfl,(LE.same s1).same s2,(LF'.same s1).same s2,(kd.kd fs (zV hfs)).hub,fun H3 s3=>?_⟩;refine⟨s3 _ _ h2,by lia,?_,A9 (s2.trans s3) dg,zK⟩;rw[zr,hfs,zf,zf];rfl
          . obtain⟨_,rfl,s2,h2⟩:=h;rw[zD,halx,zW (zJ _)] at h2;have hDD:=s2 _ _ gC;have kp:∀(r:Addr)(u:List V),r≠D->H2 r=some (.lst u)->(upd H2 D (.lst (rs.map V.ref++[.ref D2]))) r=some (.lst u):=fun r u n z=>by rw[zk n];exact z
            refine⟨hDD,by lia,rs++[D2],by rw[zf];rfl,by rw[zM,hrl];rfl,fun j r f9=>?_,A9 (s1.trans s2) hD,zK⟩;by_cases cj:j<rs.length
            . rw[zb cj] at f9;obtain⟨ne,gD,e1,e2⟩:=hR j r f9;exact⟨ne,gD,e1,kp r _ ne (s2 _ _ e2)⟩
            . rw[zX (by lia)] at f9;cases hz:j-rs.length with
              | zero=>
               rw[hz] at f9;have e1:D2=r:=by simpa using f9
               subst e1;have ej:j=i:=by lia
               subst ej;exact⟨nDD.symm,es,er,kp D2 _ nDD.symm h2⟩
              | succ z=>rw[hz] at f9;simp at f9
        . obtain⟨_,rs,rfl,hrl,hR,s1,gC⟩:=h;rw[zD,halx] at hrl;have TB:Es K H1 D (IM dP):=⟨rs,AE.of gC,by unfold IM;rw[zD,hrl],fun j r row f9 hrow=>by obtain⟨_,es,e1,e2⟩:=hR j r f9;unfold IM at hrow;rw[zO,e1] at hrow;rw[<-zY hrow];exact e2⟩
          clear hR gC;have s01:=s06.trans s1;refine⟨_,rfl,_,rfl,_,rfl,dp,D,n,ts,dP,dQ,rfl,G,kd,s1 _ _ hdp6,pd,TB,fun o vf H2 ht Sf s2=>?_⟩;have s02:=s01.trans s2;refine⟨_,rfl,rfl,_,rfl,?_⟩;cases o with
          | some dt=>rw[zR (M6 Sf ht.nn)];refine Aa ⟨_,rfl,Au,fun q hq=>?_⟩;exact k _ q _ (fo _ (.tie dt OW UP ht)) (s02.trans (zH hq)) (.tup zK (.cons (.str _) (.cons (Bj (zH hq) Sf) .nil)))
          | none=>
           cases NO Sf;rw[zP rfl];refine Aj ?_;refine⟨_,rfl,la,dP,rfl,LA.keep fun b us e=>s02 _ _ e,by lia,h24,fun hn ys H5 s5 h5 HU=>?_⟩;have TB5:=QQ TB (s2.trans s5);have gj:=s5 _ _ (s2 _ _ (s1 _ _ hdp6));have iC:=s02.trans s5;refine⟨hn,rfl,⟨_,AE.of h5⟩,HM (K:=K) (a:=hn) (xs:=ys) (fun i σ H6=>Qo fun (v3 v6 v7 v8 v9:Option V)=>σ=[some (.ref wa),some (.ref la),some (.int n),v3,some (.ref dp),some (.ref fl),v6,v7,v8,v9,some (.ref D),some .non]/\AD H5 H6/\∀(j:Nat)(x:Nat×En),j<i->(Bb dP dP.length)[j]?=some x->IJ ts dP x.1 x.2)
            ⟨_,_,_,_,_,rfl,AD.refl _,fun j x z=>absurd z (C1 _)⟩ (fun i σ H6 hi z=>?_) (fun i y σ H6 hy z=>?_) (fun σ H6 z=>?_)⟩
           . obtain⟨_,_,_,_,_,_,s6,_⟩:=z;exact AE.of (s6 _ _ h5)
           . obtain⟨v3',v6',v7',v8',v9',rfl,s6,all⟩:=z;obtain⟨c,i',e,rfl,hfe,hc⟩:=HU.2 i y hy;have hm:=zV hfe;obtain⟨m1,m2⟩:=MH hm;obtain⟨u,dn,hu1,hd1,u0,u1,d0,d1⟩:=((kd.at m1).ent e m2).far (Mq hm);have gF:H6 c=some (.tup [.int (i':Int),.int e.h,.int e.l,.int u,.int dn]):=by rw[s6 _ _ hc];unfold eV;rw[hu1,hd1];rfl
             have s06:=iC.trans s6;refine⟨c,_,rfl,AC.of gF,rfl,_,_,rfl,_,_,rfl,_,_,rfl,_,_,rfl,_,_,rfl,rfl,?_⟩;have ret:∀(H7:Hp)(q q2:Addr),AD H H7->H7 q=none->(upd H7 q (.tup [.int (i':Int),.int e.h])) q2=none->¬ IJ ts dP i' e->Q (.ref q2) (upd (upd H7 q (.tup [.int (i':Int),.int e.h])) q2 (.tup [.str "down",.ref q])):=fun H7 q q2 s7 hq g9 nu=>two _ i' e.h H7 q q2 s7 hq g9 (.down _ OW UP ht ⟨i,(i',e),hfe,nu,rfl,fun k' y hk hy=>all k' y hk hy⟩);refine⟨_,rfl,_,rfl,Au,fun p hp=>?_⟩;have s7:=s6.trans (zH (o:=.tup [.int e.h,.int dn]) hp);have s07:=iC.trans s7;refine⟨_,rfl,dp,_,rfl,BG.t (k:=[Sum.inl e.h,Sum.inl dn]) (s7 _ _ gj) zK,_,rfl,Cg (fun c1=>?_) (fun c1=>?_)⟩
             . refine Aa ⟨_,rfl,_,rfl,Au,fun q hq=>⟨Au,fun q2 g9=>ret _ q q2 s07 hq g9 ?_⟩⟩;rintro ⟨u',t',f',h1,h2,_⟩;rw[hd1] at h1;cases h1;have:=(pd.some e.h dn).mpr ⟨t',h2⟩;rw[this] at c1;cases c1
             . have iX:(Af dQ [Sum.inl e.h,Sum.inl dn]).isSome=true:=by
                cases z:(Af dQ [Sum.inl e.h,Sum.inl dn]).isSome with
                | true=>rfl
                | false=>rw[z] at c1;exact absurd rfl c1
               obtain⟨t,ad⟩:=(pd.some e.h dn).mp iX;have eG:=((pd e.h dn).1 t).mpr ad;have di:=J6 kd G m1 hd1 ad;obtain⟨xs1,r1,ys1,g1,g2,g3,g4⟩:=Qw (QQ TB5 s7) (u:=dn.toNat) (v:=i') (by lia) m1;rw[show ((dn.toNat:Nat):Int)=dn by lia] at g2;refine⟨_,rfl,_,rfl,D,_,_,.ref r1,rfl,rfl,g1,g2,_,rfl,r1,_,_,_,rfl,rfl,g3,g4,?_⟩;refine⟨_,rfl,_,rfl,_,rfl,_,rfl,Au,fun p2 eT=>?_⟩;have s8:=s7.trans (zH (o:=.tup [.int e.h,.int dn]) eT);refine⟨dp,_,rfl,eG ▸ BG.t (k:=[Sum.inl e.h,Sum.inl dn]) (s8 _ _ gj) zK,_,_,rfl,rfl,Ro _ (some (e.l-t)),_,rfl,?_⟩;show (if (!decide (oV (tv (dP.getD dn.toNat []) (dP.getD i' []))=oV (some (e.l-t))))=true then _ else _)
               rw[SC];by_cases cu:tv (dP.getD dn.toNat []) (dP.getD i' [])=some (e.l-t)
               . rw[zP cu];refine Aj ⟨_,_,_,_,_,rfl,s8,fun j x hj hx=>?_⟩;by_cases q:j=i
                 . subst q;rw[hfe] at hx;cases hx;exact di.mpr cu
                 . exact all j x (by lia) hx
               . rw[zR cu];exact Aa ⟨_,rfl,_,rfl,Au,fun q hq=>⟨Au,fun q2 g9=>ret _ q q2 (iC.trans s8) hq g9 fun z=>cu (di.mp z)⟩⟩
           . obtain⟨v3',v6',v7',v8',v9',rfl,s6,all⟩:=z;have DN:MZ ts dP none:=fun x hx=>by obtain⟨j,hj,ej⟩:=zy hx;exact all j x (by rw[HU.1];exact hj) (by rw[zB hj,ej])
             refine⟨E5,fun q hq=>?_⟩;exact k none q _ (fo _ (.none OW UP ht DN)) ((iC.trans s6).trans (zH hq)) (.tup zK .nil)
structure TQ (K:AJ)(mg:Bx)(cW cP:Addr)(cs1 cs2:List Addr):Prop where
 mW:mg "WayError"=some (.ref cW)
 qW:PySem.W.excIn K cW MX "ValueError.__new__"=true
 mP:mg "NoLabels"=some (.ref cP)
 sb:L2.subIn K cP cW=true
 ex:C7 K cP
 m1:[mg "NoLeast",mg "NoOrder",mg "NoPart",mg "NoPlan",mg "NoPosts",mg "NoRing"]=cs1.map fun c=>some (.ref c)
 m2:[mg "NoRow",mg "NoText",mg "NoTie",mg "NoTree",mg "TooMany"]=cs2.map fun c=>some (.ref c)
 k1:PySem.W.kitAny K (.ref cP) (cs1.map Value.ref)=some false
 k2:PySem.W.kitAny K (.ref cP) (cs2.map Value.ref)=some false
 kP:PySem.W.kitOne K (.ref cP) (.ref cP)=some true
 kV:PySem.W.kitOne K (.ref cP) (.type "ValueError")=some true
 n1:PySem.W.findIn K (.ref cP) "word"=some none
 n2:PySem.W.findIn K (.ref cP) "at"=some none
def SW:Sp:=fun vs H Q _=>∃wa v d n ts,vs=[.ref wa,v]/\BP H wa n ts/\AW H v d/\(DI n ts d none->∀H',AD H H'->Q (.bl true) H') /\
 ∀x e q H',DI n ts d (some (x,e))->AD H H'->AW H' (.ref q) (.tuple [.str x,e])->Q (.ref q) H'
theorem HS:AX ["_law_web_here","_law_thing","_law_found_here","e","_law_others"] Co (defScope Ey):=Ad
theorem Jt (F:Fu K "_law_found" Ey f dU) (Er:TQ K mg cW cP [c1,c2,c3,c4,c5,c6] [c7,c8,c9,c10,c11])(EI:Cz K cP fI)
 (FL:AH K mg "lets_labels" NK fL fdL Hs) (GL:AL P w K mg base (CB P w) m fL fdL Hs (Q3 cP)) (dX:mg "isinstance"=none) (mVal:mg "ValueError"=none):AL P w K mg base AU (m+1) f dU Co SW:=by
 obtain⟨h1,h2,h3,h4,h5,h6⟩:mg "NoLeast"=some (.ref c1)/\mg "NoOrder"=some (.ref c2)/\mg "NoPart"=some (.ref c3)/\mg "NoPlan"=some (.ref c4)/\mg "NoPosts"=some (.ref c5)/\mg "NoRing"=some (.ref c6):=by have:=Er.m1;simpa using this
 obtain⟨h7,h8,h9,h10,h11⟩:mg "NoRow"=some (.ref c7)/\mg "NoText"=some (.ref c8)/\mg "NoTie"=some (.ref c9)/\mg "NoTree"=some (.ref c10)/\mg "TooMany"=some (.ref c11):=by have:=Er.m2;simpa using this
 have qC:FQ K cP=true:=by unfold FQ;rw[EI.cl];rfl
 refine F.okD HS fun _ A _ _ H vs Q E hr h=>?_;obtain⟨wa,v,d,n,ts,rfl,W,S,kY,kN⟩:=h;refine⟨_,za (As (i:=2) HS.nd DQ)
  (za (bc (i:=3) HS.nd rfl rfl rfl rfl rfl Er.mW Er.qW (YF (i:=2) HS.nd rfl (Or.inl rfl) GL hr rfl FL.m FL.F.kp FL.b (zE (pv 0) (zE (pv 1) zQ)))
   (fun ea oe c hc=>za (As (i:=4) HS.nd (Ar (Uo (QE hc)) dX (zE (pv 3) (zE (AZ (zE (EF (v:=.ref c1) rfl h1 rfl) (zE (EF (v:=.ref c2) rfl h2 rfl) (zE (EF (v:=.ref c3) rfl h3 rfl) (zE (EF (v:=.ref c4) rfl h4 rfl) (zE (EF (v:=.ref c5) rfl h5 rfl) (zE (EF (v:=.ref c6) rfl h6 rfl) zQ))))))) zQ))))
    (za (As (i:=4) HS.nd (IS (pv 4) (CM (Ar (Uo (QE hc)) dX (zE (pv 3) (zE (AZ (zE (EF (v:=.ref c7) rfl h7 rfl) (zE (EF (v:=.ref c8) rfl h8 rfl) (zE (EF (v:=.ref c9) rfl h9 rfl) (zE (EF (v:=.ref c10) rfl h10 rfl) (zE (EF (v:=.ref c11) rfl h11 rfl) zQ)))))) zQ))))))
    (za (As (i:=2) HS.nd (AZ (zE DQ zQ)))
    (ze (Aq (PW.pt (HG (BL (Ar (Yw (QE hc)) dX (zE (pv 3) (zE (EF (v:=.ref cP) rfl Er.mP rfl) zQ)))) (HG (BL (Ar (bO (QE hc)) dX (zE (pv 3) (zE (C9 (T := "ValueError") mVal) zQ)))) (Lx (B7 (BL (pv 4)))))))
     (ze (As (i:=2) HS.nd (AZ (zE (UG (pv 3)) (zE (UG (pv 3)) zQ))))) Ao))))))
  (ze (AN (pv 2)))),?_⟩
 refine⟨_,rfl,_,rfl,wa,v,d,n,ts,rfl,W,S,fun fo H' s'=>⟨_,rfl,kY fo H' s'⟩,fun x e at' dx H' fo s' Sa hZ=>?_⟩;refine⟨cP,rfl,qC,Er.sb,fun ea oe ws hc hd hf hea=>?_⟩;refine⟨_,rfl,cy,fun p hp=>?_⟩;refine⟨p,[c1,c2,c3,c4,c5,c6],false,Er.ex,rfl,zK,Er.k1,?_⟩;have s1:=zH (o:=.tup ([c1,c2,c3,c4,c5,c6].map V.ref)) hp;refine⟨_,rfl,false,rfl,Aj ?_⟩;refine⟨_,rfl,dM,fun p2 eT=>?_⟩;have s2:=s1.trans (zH (o:=.tup ([c7,c8,c9,c10,c11].map V.ref)) eT);refine⟨p2,[c7,c8,c9,c10,c11],false,Er.ex,rfl,zK,Er.k2,?_⟩;refine⟨F7,fun p3 hp3=>?_⟩;have s3:=s2.trans (zH (o:=.tup [.str "class"]) hp3);refine⟨_,rfl,cP,true,Er.ex,rfl,Er.kP,true,rfl,Aa ?_⟩;refine⟨_,rfl, "ValueError",true,Er.ex,rfl,Er.kV,true,rfl,Aa ?_⟩;refine⟨_,rfl,false,rfl,Aa ?_⟩;refine⟨_,rfl,ea,cP,dx,_,.str x,rfl,VL hc hd hf,EI.cl,Er.ex,Er.n1,s3 _ _ hZ,rfl,_,rfl,ea,cP,dx,_,at',rfl,VL hc hd hf,EI.cl,Er.ex,Er.n2,s3 _ _ hZ,rfl,Au,fun p4 iT=>?_⟩;have s4:=s3.trans (zH (o:=.tup [.str x,at']) iT);exact⟨_,rfl,kN x e p4 _ fo (s'.trans s4) (.tup zK (.cons (.str _) (.cons (Bj s4 Sa) .nil)))⟩
theorem Xs (ha:Fn n p a)(hb:Fn n p b):Fn (2*(n+1)) (p+1) (.tuple [a,b]):=Iv (fun d hd=>by
 simp only[zT,F0,or_false] at hd;rcases hd with rfl | rfl
 . exact ha
 . exact hb) (zJ 2)
theorem ZL (h:DI n ts d (some (x,e)))(G:GW n ts):Fn 300000 50 (.tuple [.str x,e]):=by
 have key:∀(y:Str)(e:PyData),y.length<=12->PyData.strOk y=true->Fn 500 1 e->Fn 300000 50 (.tuple [.str y,e]):=fun y e h1 h2 h3=>(Xs ((XA (zp h1 (by decide)) h2).mono (by decide) (zg _)) h3).mono (by decide) (by decide);have hn:=G.n24;have pr:∀(i h:Int),i.natAbs<=100->h.natAbs<=100->Fn 500 1 (.tuple [.int i,.int h]):=fun i h a b=>(Xs (n:=140) (p:=0) (GM (i:=i) (by lia)) (GM (i:=h) (by lia))).mono (by decide) (by decide);cases h with
 | shape _=>exact key _ _ (by decide) (by decide +kernel) (Rt.mono (by decide) (by decide))
 | lab dP f hl ed l=>
  obtain⟨ess',e1,kd⟩:=Rj hl;cases XE (ed.symm.trans e1);have hln:=kd.ln;have far:∀(j:Nat)(y:Nat×En),(Bb dP dP.length)[j]?=some y->Fn 500 1 (E3 y):=fun j y hy=>by obtain⟨m1,m2⟩:=MH (zV hy);have:=((kd.at m1).ent _ m2).rng;exact pr _ _ (by lia) (by lia)
  cases l with
  | own d h=>obtain⟨m,i,hi,_,rfl,_⟩:=h;have:=C0.mp (zV hi);exact key _ _ (by decide) (by decide +kernel) ((GM (by lia)).mono (by decide) (by decide))
  | up d o h=>obtain⟨m,y,hy,_,rfl,_⟩:=h;exact key _ _ (by decide) (by decide +kernel) (far m y hy)
  | down d o u t h=>obtain⟨m,y,hy,_,rfl,_⟩:=h;exact key _ _ (by decide) (by decide +kernel) (far m y hy)
  | tie d o u h=>obtain⟨a,b,c,ha,hb,hc,_,rfl,_⟩:=h;refine key _ _ (by decide) (by decide +kernel) ((Iv (n:=140) (p:=0) (L:=3) (ds:=[.int (a:Int),.int (b:Int),.int (c:Int)]) (fun d hd=>?_) (zJ 3)).mono (by decide) (by decide));simp only[zT,F0,or_false] at hd;rcases hd with rfl | rfl | rfl <;> exact GM (by lia)
def OZ:Sp:=fun vs H Q _=>∃wa v d n ts k l,vs=[.ref wa,v]/\BP H wa n ts/\AW H v d/\IB k l d/\k<=big/\l<64/\Fn 300000 50 d/\∀H',AD H H'->Q (.bl true) H'
def OG:Sp:=fun vs H Q _=>∃a e,vs=[.ref a]/\H a=some (.tup (eV e))/\Q (.int e.h) H
theorem Lb:AX ["_law_web_here","_law_thing","_law_kept","_law_due"] Co (defScope Qd):=Ad
theorem Ni (F:Fu K "_law_right" Qd f dU) (FX:AH K mg "_law_fault" E7 fX fdX Co) (GX:AL P w K mg base AU m fX fdX Co RS)
 (FF:AH K mg "_law_found" Ey fF fdF Co) (GF:AL P w K mg base AU m fF fdF Co SW) (fj:mg "repr"=none):AL P w K mg base AU (m+1) f dU Co OZ:=by
 refine F.okD Lb fun _ A _ _ H vs Q E hr h=>?_;obtain⟨wa,v,d,n,ts,k0,l0,rfl,W,S,ib,hk0,hl,fn,k⟩:=h;have hu:=Ge hr;obtain⟨_,_,_,_,_,G⟩:=id W;refine⟨_,za (As (i:=2) Lb.nd (Ar (Pt hr) fj (zE (pv 1) zQ)))
  (za (As (i:=3) Lb.nd (AO GX hr FX (zE (pv 0) (zE (pv 1) zQ))))
  (ze (AN (Bs (BN Bh (Ar (Pt hr) fj (zE (AO GF hr FF (zE (pv 0) (zE (pv 1) zQ))) zQ)) (Ar (Pt hr) fj (zE (Lq (Ak (Yx (Nat.lt_of_succ_lt hu)) (pv 3) (AZ zQ) (AS _)) Dw (pv 3)) zQ)) (AS _))
   (CM (BN Bh (Ar (Pt hr) fj (zE (pv 1) zQ)) (pv 2) (AS _))))))),?_⟩
 refine⟨_,rfl,_,_,rfl,S,fn,?_⟩;refine⟨_,rfl,_,rfl,wa,v,d,n,ts,k0,l0,rfl,W,S,ib,hk0,hl,fun fo q H2 hfo s2 S2=>?_⟩;refine⟨_,rfl,_,rfl,wa,v,d,n,ts,rfl,W.keepT fun b ys e=>s2 _ _ e,Bj s2 S,fun f0 H3 s3=>?_,fun x e q3 H3 f1 s3 S3=>?_⟩
 . cases hfo.uniq f0;refine⟨_,_,rfl,.bl _,(Rx _).mono (by decide) (by decide),?_⟩;refine⟨_,rfl,E5,fun p4 iT=>?_⟩;have hq:H2 q=some (.tup []):=by
    cases S2 with
    | tup e al=>cases al;exact e
   refine⟨q,p4,[],rfl,rfl,AC.of (zH iT _ _ (s3 _ _ hq)),AC.of zK,?_⟩;refine⟨_,rfl,Aa ?_⟩;refine⟨_,_,rfl,.bl _,(Rx _).mono (by decide) (by decide),?_⟩;have s4:=(s2.trans s3).trans (zH (o:=.tup []) iT);refine⟨rfl,_,rfl,Ag (by simp) ?_⟩;refine⟨_,rfl,_,_,rfl,Bj s4 S,fn,_,rfl,rfl,?_⟩;rw[zP rfl];exact k _ s4
 . cases hfo.uniq f1;have ff:=ZL f1 G;refine⟨_,_,rfl,S3,ff,?_⟩;refine⟨_,rfl,E5,fun p4 iT=>?_⟩;obtain⟨xs,hq,hx⟩:∃xs,H2 q=some (.tup xs)/\xs.isEmpty=false:=by
    cases S2 with
    | tup e al=>cases al;exact⟨_,e,rfl⟩
   have s34:=s3.trans (zH (o:=.tup []) iT);have s4:=s2.trans s34;refine⟨q,p4,xs,rfl,rfl,AC.of (s34 _ _ hq),AC.of zK,?_⟩;refine⟨_,rfl,?_⟩;rw[hx];refine Aj ?_;refine⟨_,rfl,_,_,rfl,Bj s34 S2,ff,?_⟩;refine⟨rfl,_,rfl,Ag (zP rfl) ?_⟩;refine⟨_,rfl,_,_,rfl,Bj s4 S,fn,_,rfl,rfl,?_⟩;rw[zP rfl];exact k _ s4
theorem Se:AX De De (defScope Qi):=Ad
theorem Ol (F:Fu K "_law_hub" Qi f dU):AL P w K mg base AU 1 f dU De OG:=by refine F.okD Se fun _ A _ _ H vs Q E hr h=>?_;obtain⟨a,e,rfl,ha,k⟩:=h;refine⟨_,ze (AN (AF Ac (pv 0) zi)),?_⟩;exact⟨_,rfl,a,_,_,.int e.h,rfl,rfl,AC.of ha,rfl,k⟩
theorem AY.neT (h:AY H t N)(hb:H b=some (.tup ys)):b≠t:=by obtain⟨p,ns,dq,rest,a,_⟩:=h;exact Bn hb a (by intro z;cases z)
theorem YL:∀(xs ys:List Addr),xs.map V.ref=ys.map V.ref->xs=ys:=by
 intro xs
 induction xs with
 | nil=>intro ys e;cases ys with
  | nil=>rfl
  | cons y ys=>cases e
 | cons x xs ih=>
  intro ys e;cases ys with
  | nil=>cases e
  | cons y ys=>simp only[BX,List.cons.injEq,V.ref.injEq] at e;rw[e.1,ih ys e.2]
theorem Pi (o):AW H (oV o) (oD o):=by cases o with
 | none=>exact .non
 | some i=>exact .int i
theorem Oz (h:H a=some (.tup (eV e))):AW H (.ref a) (DF e):=.tup h (.cons (.int _) (.cons (.int _) (.cons (Pi _) (.cons (Pi _) .nil))))
theorem Pp :∀{as:List Addr}{es:List En},B4 H as es->Aw H (as.map V.ref) (es.map DF)
 | [],[],_=>.nil
 | [],_::_,h=>by cases h.1
 | _::_,[],h=>by cases h.1
 | a::as,e::es,h=>by
  refine .cons ?_ (Pp ⟨by have:=h.1;simpa using this,fun i b hb=>?_⟩)
  . obtain⟨e',h1,h2⟩:=h.2 0 a rfl;cases h1;exact Oz h2
  . obtain⟨e',h1,h2⟩:=h.2 (i+1) b (by simpa using hb);exact⟨e',by simpa using h1,h2⟩
theorem Mp (T:AY H t N):∀b ys,H b=some (.tup ys)->Ax t H b=some (.tup ys):=fun b ys e=>Fh (T.neT e) e
structure MM (e:En):Prop where
 h:e.h.natAbs<=100
 l:e.l.natAbs<=10 ^ 30
 u:∀i,e.u=some i->i.natAbs<=100
 d:∀i,e.d=some i->i.natAbs<=100
theorem Nh (h:∀i,o=some i->i.natAbs<=100):IB (10 ^ 30) 14 (oD o):=by cases o with
 | none=>exact .non
 | some i=>exact .int _ (zp (h i rfl) (by decide))
theorem Np (h:∀i,o=some i->i.natAbs<=100):Fn 140 0 (oD o):=by cases o with
 | none=>exact Rt.mono (by decide) (by decide)
 | some i=>exact GM (CG (h i rfl) (by decide))
theorem Ik (h:MM e):IB (10 ^ 30) 14 (DF e):=by
 refine .tup _ (by show 4<=14;decide) fun d hd=>?_;simp only[zT,F0,or_false] at hd;rcases hd with rfl | rfl | rfl | rfl
 . exact .int _ (zp h.h (by decide))
 . exact .int _ h.l
 . exact Nh h.u
 . exact Nh h.d
theorem Hf (h:MM e):Fn 564 1 (DF e):=by
 refine Iv (n:=140) (p:=0) (L:=4) (fun d hd=>?_) (zJ 4);simp only[zT,F0,or_false] at hd;rcases hd with rfl | rfl | rfl | rfl
 . exact GM (CG h.h (by decide))
 . exact GM (CG h.l (by decide))
 . exact Np h.u
 . exact Np h.d
theorem aQ (hh:h.natAbs<=100):MM ⟨h,0,none,none⟩:=⟨hh,(by show (0:Int).natAbs<=_;decide),fun i z=>(by cases z),fun i z=>(by cases z)⟩
theorem bL {i:Nat}(h:Aw H xs ds)(e:xs[i]?=some x):∃d,d∈ds/\AW H x d:=by
 induction xs generalizing ds i with
 | nil=>simp at e
 | cons y ys ih=>
  cases h with
  | cons a b=>
   cases i with
   | zero=>simp at e;subst e;exact⟨_,zS,a⟩
   | succ i=>obtain⟨d,hd,s⟩:=ih b (by simpa using e);exact⟨d,zZ _ hd,s⟩
noncomputable def Vb (d:PyData):Bool:=Nat.ble d.weight 100000 && Nat.ble d.depth 3 && d.canLay0 && d.intsShort 50 && d.showable
theorem JC (h:Vb d=true):Fn 300000 50 d:=by unfold Vb at h;simp only[zx] at h;obtain⟨⟨⟨⟨h1,h2⟩,h3⟩,h4⟩,h5⟩:=h;exact⟨zp (Fg h1) (by decide),zp (Fg h2) (by decide),h3,h4,h5⟩
theorem WS (h:∀d∈ds,Fn n p d)(hl:ds.length<=L):Fn (L*(n+1)) (p+1) (.list ds):=by
 obtain⟨a,b,c,e,f⟩:=Ra h;refine⟨?_,?_,?_,?_,?_⟩
 . simp only[PyData.weight];exact zp a (Nat.mul_le_mul_right _ hl)
 . simp only[PyData.depth];lia
 . simp only[PyData.canLay0];exact c
 . simp only[PyData.intsShort];exact e
 . simp only[PyData.showable];exact f
def RB (d:PyData):Prop:=IB (10 ^ 31) 40 d/\Fn 300000 50 d
theorem NG (h:IB k l d)(g:Fn n p d)(hk:k<=10 ^ 31)(hl:l<=40)(hn:n<=300000)(hp:p<=50):RB d:=⟨h.mono hk hl,g.mono hn hp⟩
theorem Jz:(10 ^ 31:Nat)<=big:=by decide
structure ML (n:Int)(dP:List (List En)):Prop where
 ln:dP.length=n.toNat
 n1:1<=n
 n5:n<=5
 len:∀es∈dP,es.length<=5
 en:∀es∈dP,∀e∈es,MM e
theorem R9.lbd (h:R9 ts n rk dP)(G:GW n ts)(n5:n<=5)(hl:∀es∈dP,∀e∈es,0<=e.l/\e.l<=2376):ML n dP:=by
 have n1:=G.n1;refine⟨h.1,n1,n5,fun es he=>?_,fun es he e hm=>?_⟩
 . obtain⟨i,hi⟩:=List.getElem?_of_mem he;have L:=h.2 i es hi;have nd:(es.map (·.h)).Nodup:=by rw[List.Nodup,G9];exact L.hub.imp fun z w=>by lia
   have:=Ru (n:=n.toNat) nd fun x hx=>by
    obtain⟨e,hm,rfl⟩:=Be.mp hx;have:=(L.ent e hm).rng
    lia
   rw[zD] at this
   lia
 . obtain⟨i,hi⟩:=List.getElem?_of_mem he;have L:=(h.2 i es hi).ent e hm;have r:=L.rng;have ll:=hl es he e hm;have n24:=G.n24;have nx:∀(x y p:Int),Cp ts x y p->p.natAbs<=100:=fun x y p z=>by
    obtain⟨l,b,ad,_⟩:=z;have:=G.adj ad
    lia
   refine⟨by lia,?_,fun u hu=>?_,fun d hd=>?_⟩
   . have:e.l.natAbs<=2376:=by lia
     exact zp this (by decide)
   . have:=L.up;rw[hu] at this;exact nx _ _ _ this.1
   . have:=L.dn;rw[hd] at this;exact nx _ _ _ this.1
def LD (w:Nat)(d:PyData):Prop:=IB (10 ^ 30) 14 d/\Fn w 2 d
theorem Q5 (h:∀e∈es,MM e)(hl:es.length<=m)(hm:m<=14):LD (m*565) (BZ es):=by
 refine⟨.tup _ (by rw[zD];lia) fun d hd=>?_,Iv (n:=564) (p:=1) (L:=m) (fun d hd=>?_) (by rw[zD];exact hl)⟩
 . obtain⟨e,he,rfl⟩:=Be.mp hd;exact Ik (h e he)
 . obtain⟨e,he,rfl⟩:=Be.mp hd;exact Hf (h e he)
theorem Sw {es:List En}(h:∀e∈es,MM e)(hl:es.length<=5):LD 2825 (.list (es.map DF)):=by
 refine⟨.lst _ (by rw[zD];lia) fun d hd=>?_,WS (n:=564) (p:=1) (L:=5) (fun d hd=>?_) (by rw[zD];exact hl)⟩
 . obtain⟨e,he,rfl⟩:=Be.mp hd;exact Ik (h e he)
 . obtain⟨e,he,rfl⟩:=Be.mp hd;exact Hf (h e he)
theorem Im {w:Nat}(h:∀d∈ds,LD w d)(hl:ds.length<=L)(hL:L<=14):IB (10 ^ 30) 14 (.tuple ds)/\Fn (L*(w+1)) 3 (.tuple ds):=
 ⟨.tup _ (by lia) fun d hd=>(h d hd).1,Iv (p:=2) (fun d hd=>(h d hd).2) hl⟩
theorem Mn (h:∀d∈ds,LD 3390 d)(hl:ds.length<=6):RB (.tuple ds):=by obtain⟨a,b⟩:=Im h hl (by decide);exact NG a b (by decide) (by decide) (by decide) (by decide)
theorem LW (h:∀d∈ds,LD 3390 d)(hl:ds.length<=6):RB (.list ds):=
 NG (IB.lst ds (zp hl (by decide)) fun d hd=>(h d hd).1) (WS (p:=2) (fun d hd=>(h d hd).2) hl) (by decide) (by decide) (by decide) (by decide)
theorem LD.up {w:Nat}(h:LD w d)(l:w<=w'):LD w' d:=⟨h.1,h.2.mono l (zJ _)⟩
theorem ML.ld (h:ML n dP):∀d∈dP.map BZ,LD 3390 d:=fun d hd=>by obtain⟨es,he,rfl⟩:=Be.mp hd;exact (Q5 (m:=5) (h.en es he) (h.len es he) (by decide)).up (by decide)
theorem RN :∀{as:List Addr}{dP:List (List En)},as.length=dP.length->(∀(i:Nat)a,as[i]?=some a->∃es,dP[i]?=some es/\Bz H a es)->Aw H (as.map V.ref) (dP.map BZ)
 | [],[],_,_=>.nil
 | [],_::_,h,_=>by cases h
 | _::_,[],h,_=>by cases h
 | a::as,es::dP,h,g=>by
  refine .cons ?_ (RN (by simpa using h) fun i b hb=>?_)
  . obtain⟨e',h1,bs,h2,h3,_⟩:=g 0 a rfl;cases h1;exact .tup h2 (Pp h3)
  . obtain⟨e',h1,h2⟩:=g (i+1) b (by simpa using hb);exact⟨e',by simpa using h1,h2⟩
theorem Vu (L:Bp H la dP)(T:AY H t N):∃xs:List V,H la=some (.tup xs)/\Cw t H xs (dP.map BZ)/\xs.length=dP.length:=by
 obtain⟨as,h1,h2,_⟩:=id L;obtain⟨as',h3,h4,h5⟩:=L.keep (Mp T);have:as'=as:=by have:=(Bg h3).2;rw[h1] at this;injection this with z;injection z with z;exact (YL _ _ z).symm
 subst this;exact⟨_,h1,RN h4 h5,by rw[zD,h2]⟩
theorem Vr (h:AW H v d):∀k:Nat,Aw H (List.replicate k v) (List.replicate k d)
 | 0=>.nil
 | k+1=>.cons h (Vr h k)
def AG (t:Addr)(H:Hp)(vs:List V):Prop:=∀x∈vs,∃d,Sh t H x d/\RB d
def CN (t so:Addr)(H:Hp)(vs:List V):Prop:=∀x∈vs,∃d,AW (Ax so (Ax t H)) x d/\RB d
theorem AG.same (h:AG t H vs)(s:AD H H'):AG t H' vs:=fun x hx=>let ⟨d,a,b⟩:=h x hx;⟨d,a.same s,b⟩
theorem CN.ag (h:CN t so H vs):AG t H vs:=fun x hx=>let ⟨d,a,b⟩:=h x hx;⟨d,Bj (Vo so _) a,b⟩
theorem AG.laid (h:AG t H vs)(hs:H so=none):CN t so (upd H so o) vs:=fun x hx=>by
 obtain⟨d,a,b⟩:=h x hx;refine⟨d,Bj (fun c u e=>?_) a,b⟩;obtain⟨n,e'⟩:=Bg e;have ns:c≠so:=fun z=>by rw[z,hs] at e';cases e'
 exact Fh ns (Fh n (by rw[zk ns];exact e'))
theorem CN.same (h:CN t so H vs)(s:AD H H'):CN t so H' vs:=fun x hx=>let ⟨d,a,b⟩:=h x hx;⟨d,Bj (Mt (Mt s)) a,b⟩
theorem CN.sm (h:CN t so H vs)(s:Sm t H H'):CN t so H' vs:=fun x hx=>let ⟨d,a,b⟩:=h x hx;⟨d,Bj (Mt (Q4 s)) a,b⟩
theorem CN.put (h:CN t so H vs)(g:CN t so H [y]):CN t so (upd H so o) (vs++[y]):=fun x hx=>by
 have k:∀d,AW (Ax so (Ax t H)) x d->AW (Ax so (Ax t (upd H so o))) x d:=fun d a=>Bj (fun c u e=>by obtain⟨n,e1⟩:=Bg e;obtain⟨n2,e2⟩:=Bg e1;exact Fh n (Fh n2 (by rw[zk n];exact e2))) a
 rcases zj.mp hx with hx | hx
 . obtain⟨d,a,b⟩:=h x hx;exact⟨d,k d a,b⟩
 . obtain⟨d,a,b⟩:=g x hx;exact⟨d,k d a,b⟩
def Gd (t:Addr)(σ:St)(H:Hp):Prop:=(∃N,AY H t N)/\∃wa la ta n dP,σ[3]?=some (some (.ref wa))/\σ[4]?=some (some (.ref la))/\H wa=some (.tup [.int n,.ref ta])/\Bp H la dP/\ML n dP
theorem Gd.same (h:Gd t σ H)(s:AD H H'):Gd t σ H':=by obtain⟨⟨N,T⟩,wa,la,ta,n,dP,h1,h2,h3,h4,h5⟩:=h;exact⟨⟨N,T.keep s⟩,wa,la,ta,n,dP,h1,h2,s _ _ h3,h4.keep fun b ys e=>s _ _ e,h5⟩
def tG (t:Addr):TE:=fun σ H Q=>Gd t σ H/\∀v H',AD H H'->AG t H' [v]->Q v H'
def OQ (t:Addr)(m:Nat):TA:=fun σ H Q=>Gd t σ H/\∀vs H',AD H H'->vs.length=m->AG t H' vs->Q vs H'
def Xm (t:Addr)(m:Nat):TE:=fun σ H Q=>Gd t σ H/\∀p vs H',AD H H'->H' p=some (.lst vs)->vs.length=m->H p=none->CN t p H' vs->Q (.ref p) H'
theorem KY:PA X [] (OQ t 0):=P9 zQ fun σ H Q q=>q.2 [] H (AD.refl _) rfl fun x hx=>by cases hx
theorem YG (h:PE X e (tG t))(hs:PA X es (OQ t m))(gY:starEach (e::es) X.env=(false,eval e X.env)::starEach es X.env:=by rfl):PA X (e::es) (OQ t (m+1)):=
 P9 (zE h hs gY) fun σ H Q q=>⟨q.1,fun v H1 s1 h1=>⟨q.1.same s1,fun vs H2 s2 hl h2=>q.2 (v::vs) H2 (s1.trans s2) (by rw[zo,hl]) fun x hx=>by
  rcases zT.mp hx with rfl | hx
  . exact h1.same s2 x zS
  . exact h2 x hx⟩⟩
theorem LC {pos} (hl:m<=1000)(h:PA X es (OQ t m)):PE X (.List es pos) (Xm t m):=
 BD (CJ h) fun σ H Q q=>⟨q.1,fun vs H1 s1 hv h1=>⟨by have:sizeLine=16777216:=rfl;lia,fun p hp=>q.2 p vs _ (s1.trans (zH hp)) zK hv (cJ s1 hp) (h1.laid hp)⟩⟩
theorem Qf:EM t (Gd t):=⟨fun σ H H' h s=>h.same s,fun σ H h=>let ⟨⟨N,p,ns,sp,rs,a,_⟩,_⟩:=h;⟨_,a⟩⟩
theorem Gw (h:Sh t H v d)(r:RB d):AG t H [v]:=fun x hx=>by rw[zh.mp hx];exact⟨d,h,r⟩
theorem JJ (h:DW e d)(r:RB d):PE X e (tG t):=BD (Ud Qf h) fun σ H Q q=>⟨q.1,fun v H1 s1 h1=>q.2 v H1 s1 (Gw h1 r)⟩
theorem Jh {te:Addr->TE}(h:∀t,PE X e (te t)):PE X e (fun σ H Q=>∃t,te t σ H Q):=fun pins s σ H Q I ⟨t,q⟩=>h t pins s σ H Q I q
inductive Pd (X:Cx)(t:Addr):List Expr->Nat->Prop
 | nil:Pd X t [] 0
 | cons {e:Expr}{es:List Expr}{m:Nat}(h:PE X e (tG t))(gY:starEach (e::es) X.env=(false,eval e X.env)::starEach es X.env)(hs:Pd X t es m):Pd X t (e::es) (m+1)
theorem TZ (h:Pd X t es m):PA X es (OQ t m):=by
 induction h with
 | nil=>exact KY
 | cons h gY _ ih=>exact YG h ih gY
theorem Xp (hl:m<=1000)(h:∀t,Pd X t es m):WP (PE X (.List es pos) (fun σ H Q=>∃t,Xm t m σ H Q)):=.mk (Jh fun t=>LC hl (TZ (h t)))
theorem Gd.lab (h:Gd t σ H):∃N wa la ta n dP xs,AY H t N/\σ[3]?=some (some (.ref wa))/\σ[4]?=some (some (.ref la))/\H wa=some (.tup [.int n,.ref ta])/\Bp H la dP/\ML n dP/\H la=some (.tup xs)/\Cw t H xs (dP.map BZ)/\xs.length=dP.length:=by obtain⟨⟨N,T⟩,wa,la,ta,n,dP,h1,h2,h3,h4,h5⟩:=h;obtain⟨xs,a,b,c⟩:=Vu h4 T;exact⟨N,wa,la,ta,n,dP,xs,T,h1,h2,h3,h4,h5,a,b,c⟩
theorem Mx (T:AY H t N)(h:H p=some (.tup vs))(a:Cw t H vs ds):Sh t H (.ref p) (.tuple ds):=.tup (Mp T _ _ h) a
theorem VP (h:PE X e te)(m:∀ σ H Q,(∃wa ta n,σ[3]?=some (some (.ref wa))/\H wa=some (.tup [.int n,.ref ta])/\1<=n/\n<=1000/\∀p H' w,AD H H'->AW H' w d->H' p=some (.tup (List.replicate n.toNat w))->Q (.ref p) H')->te σ H Q)
 (hs:∀t H N w,AY H t N->AW H w d->Sh t H w d)(r:IB 100 14 d/\Fn 200 1 d):PE X e (tG t):=BD h fun σ H Q q=>by
 obtain⟨N,wa,la,ta,n,dP,xs,T,h1,h2,h3,h4,h5,_⟩:=q.1.lab;have n1:=h5.n1;have n5:=h5.n5;refine m σ H Q ⟨wa,ta,n,h1,h3,n1,by lia,fun p H' w s' sw hp=>q.2 _ H' s' (Gw (Mx (T.keep s') hp (Vr (hs t H' N w (T.keep s') sw) n.toNat)) ?_)⟩;have hm:∀x∈List.replicate n.toNat d,x=d:=fun x hx=>List.eq_of_mem_replicate hx;exact NG (IB.tup (k:=100) (l:=14) _ (by rw[DB];lia) fun x hx=>by rw[hm x hx];exact r.1) (Iv (n:=200) (p:=1) (L:=5) (fun x hx=>by rw[hm x hx];exact r.2) (by rw[DB];lia)) (by decide) (by decide) (by decide) (by decide)
theorem bV:B3 (BM X pl N' sc fp s3 H3) (.type "list") (Kg X.K):=Rb
def OO (t D:Addr)(H:Hp)(ys:List V)(dP:List (List En)):Prop:=∀(j:Nat)y,ys[j]?=some y->∃c es zs,y=.ref c/\c≠D/\c≠t/\dP[j]?=some es/\H c=some (.lst (zs.map V.ref))/\B4 H zs es
theorem Ib (T:AY H t N):∀{ys:List V}{dP:List (List En)},ys.length=dP.length->OO t D H ys dP->Cw t H ys (dP.map fun es=>.list (es.map DF))
 | [],[],_,_=>.nil
 | [],_::_,h,_=>by cases h
 | _::_,[],h,_=>by cases h
 | y::ys,es::dP,h,g=>by
  refine .cons ?_ (Ib (D:=D) T (ys:=ys) (by simpa using h) fun j y' hy=>?_)
  . obtain⟨c,gD,zs,rfl,_,nt,h1,h2,h3⟩:=g 0 y rfl;cases h1;exact .lst (Fh nt h2) (Pp (h3.keep (Mp T)))
  . obtain⟨c,gD,zs,a,b,c',d,e⟩:=g (j+1) y' (by simpa using hy);exact⟨c,gD,zs,a,b,c',by simpa using d,e⟩
noncomputable def e0:En:=⟨0,0,none,none⟩
theorem bE (EA:B4 H as es)(p:SortT.Put (O:=F2) (fun i=>(es.map (·.h)).getD i (0:Int)) (as.map V.ref).length out):
 ∃bs gs,out.map (fun i=>(as.map V.ref).getD i .non)=bs.map V.ref/\B4 H bs gs/\gs.Perm es:=by
 have hl:=EA.1;rw[zD,hl] at p;have hb:∀i∈out,i<es.length:=fun i hi=>C0.mp (p.perm.mem_iff.mp hi);refine⟨out.map fun i=>as.getD i 0,out.map fun i=>es.getD i e0,?_,⟨by rw[zD,zD],fun j b hj=>?_⟩,?_⟩
 . rw[List.map_map];refine List.map_congr_left fun i hi=>?_;have h1:i<as.length:=by rw[hl];exact hb i hi
   show (as.map V.ref).getD i .non=V.ref (as.getD i 0);rw[zF,zO,zF,zB h1];rfl
 . rw[zO] at hj ⊢;cases z:out[j]? with
   | none=>rw[z] at hj;cases hj
   | some i=>
    rw[z] at hj;cases hj;have hi:=hb i (zV z);obtain⟨e,h1,h2⟩:=EA.2 i as[i] (zB (by lia));refine⟨e,?_,?_⟩
    . show some (es.getD i e0)=some e;rw[zF,h1];rfl
    . show H (as.getD i 0)=_;rw[zF,zB (show i<as.length by lia)];exact h2
 . have h1:=p.perm.map fun i=>es.getD i e0;have h2:(List.range es.length).map (fun i=>es.getD i e0)=es:=by
    apply List.ext_getElem?;intro j;rw[zO];by_cases hj:j<es.length
    . rw[MD hj,zB hj];simp[hj]
    . rw[zw (by rw[Bu];lia),zw (by lia)];rfl
   rw[h2] at h1;exact h1
theorem bG (xs)(m:Nat):Bq xs none (some (m:Int))=xs.take m:=by
 unfold Bq;rw[HT.sIx_none,HT.sIx_nat,HF,Nat.sub_zero];by_cases h:m<=xs.length
 . rw[Nat.min_eq_left h]
 . rw[Nat.min_eq_right (by lia),zW (zJ _),zW (by lia)]
theorem au (xs)(m:Nat):Bq xs (some (m:Int)) none=xs.drop m:=by
 unfold Bq;rw[HT.sIx_none,HT.sIx_nat];by_cases h:m<=xs.length
 . rw[Nat.min_eq_left h,zW (by rw[Fd];exact zJ _)]
 . rw[Nat.min_eq_right (by lia),Eg,List.take_zero,List.drop_of_length_le (by lia)]
theorem Bp.sm (h:Bp H l dP)(T:AY H t N)(s:Sm t H H'):Bp H' l dP:=h.keep fun b ys e=>s b _ (AY.neT T e) e
structure Fb (H:Hp)(t tp wa la so lo:Addr)(n:Int)(ts:List T3)(dP:List (List En))(os:List V)(N m:Nat):Prop where
 web:BP H wa n ts
 lab:Bp H la dP
 tape:GK H t tp N
 nt:so≠t
 np:so≠tp
 no:lo≠so
 ho:H lo=some (.lst os)
 som:∃vs,H so=some (.lst vs)/\vs.length<=m/\CN t so H vs
theorem Fb.keep {os:List V}(I:Fb H t tp wa la so lo n ts dP os N m)(s:AD H H'):Fb H' t tp wa la so lo n ts dP os N m:=by obtain⟨vs,h1,h2,h3⟩:=I.som;exact⟨I.web.keep s,I.lab.keep fun b ys e=>s _ _ e,I.tape.keepF (fun o h=>s _ _ h) (fun o h=>s _ _ h) (zJ _),I.nt,I.np,I.no,s _ _ I.ho,vs,s _ _ h1,h2,h3.same s⟩
theorem Fb.mono {os:List V}(I:Fb H t tp wa la so lo n ts dP os N m)(h:m<=m'):Fb H t tp wa la so lo n ts dP os N m':=by obtain⟨vs,h1,h2,h3⟩:=I.som;exact⟨I.web,I.lab,I.tape,I.nt,I.np,I.no,I.ho,vs,h1,by lia,h3⟩
theorem Fb.put {os:List V}(I:Fb H t tp wa la so lo n ts dP os N m)(hm:m+1<=m')(gR:H so=some (.lst vs))(hv:vs.length<=m)(A:CN t so (upd H so (.lst (vs++[y]))) (vs++[y])):Fb (upd H so (.lst (vs++[y]))) t tp wa la so lo n ts dP os N m':=by
 have k:∀b us,H b=some (.tup us)->(upd H so (.lst (vs++[y]))) b=some (.tup us):=fun b us e=>by rw[zk (Bn e gR (by intro z;cases z))];exact e
 exact⟨I.web.keepT k,I.lab.keep k,I.tape.keepF (fun o h=>by rw[zk I.nt.symm];exact h) (fun o h=>by rw[zk I.np.symm];exact h) (zJ _),I.nt,I.np,I.no,by rw[zk I.no];exact I.ho,_,zK,by rw[zM];show vs.length+1<=m';lia,A⟩
def QP (K:AJ):Sp:=fun vs H Q _=>∃a,∃(ns:List Int),vs=[.ref a]/\AE K H a (ns.map V.int)/\ns.length<=63/\∀H',Q (.bl true) H'
theorem Ig (h:ML n dP):IB (10 ^ 30) 14 (EX dP)/\Fn 14130 3 (EX dP):=by have hl:=h.ln;have n5:=h.n5;refine Im (w:=2825) (L:=5) (fun d hd=>?_) (by rw[zD];lia) (by decide);obtain⟨es,he,rfl⟩:=Be.mp hd;exact Q5 (m:=5) (h.en es he) (h.len es he) (by decide)
noncomputable def O8 (b:Nat):Nat:=[14130,29260,59520,120040,241080].getD b 0
theorem bj:∀b<4,2*O8 b+1000<=O8 (b+1)/\O8 b<=140000/\O8 (b+1)<=300000:=by decide
theorem Cu:AX ["_law_script","_law_tape_here","_law_k","_law_web_here","_law_labels_here","_law_some","_law_at","_law_own","_law_twice","_law_thing","_law_turn","_law_bends"] G6 (defScope Do):=Ad
theorem Kb {cW cP c1 c2 c3 c4 c5 c6 c7 c8 c9 c10 c11 fI f fTa fD fW fNu fWi fTo fRs fPl fLl fEe fAl fFa fT fLo fOw fSu fTd fEt fLt fRa fOf fUf fUr fTf fGm fDf fDr fA fLs fFr fOn fJ fNs fOr fEn fLa fLn fLe fLk fLm fLw fHg fLf fLq fFo fB fHb fR:Addr}{fdI dU fdTa fdD fdW fdNu fdWi fdTo fdRs fdPl fdLl fdEe fdAl fdFa fdT fdLo fdOw fdSu fdTd fdEt fdLt fdRa fdOf fdUf fdUr fdTf fdGm fdDf fdDr fdA fdLs fdFr fdOn fdJ fdNs fdOr fdEn fdLa fdLn fdLe fdLk fdLm fdLw fdHg fdLf fdLq fdFo fdB fdHb fdR:FuncData}(F:Fu K "law" Do f dU) (Er:TQ K mg cW cP [c1,c2,c3,c4,c5,c6] [c7,c8,c9,c10,c11])(EI:Cz K cP fI)
 (FI:Cm K "__init__" "NoLabels.__init__" Qg fI fdI) (bI:DA K fdI GC []) (mo:PySem.W.mroIn K cP (.type "object")=some true)
 (FTa:AH K mg "_law_tape" QT fTa fdTa G6)
 (FD:AH K mg "_law_draw" HY fD fdD IT)
 (FW:AH K mg "_law_web" Dd fW fdW Hj)
 (FNu:AH K mg "is_number" JP fNu fdNu ["thing"])
 (FWi:AH K mg "is_within" Nu fWi fdWi MW)
 (FTo:AH K mg "is_tuple_of" Dk fTo fdTo Ku)
 (FRs:AH K mg "is_rising" E9 fRs fdRs ["things"])
 (FPl:AH K mg "is_place" O1 fPl fdPl Ba)
 (FLl:AH K mg "is_label" NM fLl fdLl Ba)
 (FEe:AH K mg "is_entry" NF fEe fdEe Ba)
 (FAl:AH K mg "are_labels" Me fAl fdAl Ba)
 (FFa:AH K mg "far_entries" Lz fFa fdFa E8)
 (FT:AH K mg "ties_at" MB fT fdT MV)
 (FLo:AH K mg "long_of" ME fLo fdLo MQ)
 (FOw:AH K mg "own_place" Et fOw fdOw ["label"])
 (FSu:AH K mg "least_sum" Fc fSu fdSu EN)
 (FTd:AH K mg "told" MC fTd fdTd EN)
 (FEt:AH K mg "entry_of" E6 fEt fdEt O9)
 (FLt:AH K mg "lets_labels" NK fLt fdLt Hs)
 (FRa:AH K mg "refuse_at" NH fRa fdRa Ih)
 (FOf:AH K mg "own_fault" OB fOf fdOf E8)
 (FUf:AH K mg "up_fault" N5 fUf fdUf C2)
 (FUr:AH K mg "is_up_right" N6 fUr fdUr EL)
 (FTf:AH K mg "tie_fault" PX fTf fdTf C2)
 (FGm:AH K mg "grows_too_much" O3 fGm fdGm MO)
 (FDf:AH K mg "down_fault" O0 fDf fdDf C2)
 (FDr:AH K mg "is_down_right" OP fDr fdDr EL)
 (FA:AH K mg "_law_added" Dc fA fdA CO)
 (FLs:AH K mg "_law_lesser" FY fLs fdLs CO)
 (FFr:AH K mg "_law_far" FV fFr fdFr Ex)
 (FOn:AH K mg "_law_on" Oj fOn fdOn OY)
 (FJ:AH K mg "_law_joined" Da fJ fdJ Ex)
 (FNs:AH K mg "_law_nexts" E4 fNs fdNs Pf)
 (FOr:AH K mg "_law_order" P7 fOr fdOr Hj)
 (FEn:AH K mg "_law_entry" NL fEn fdEn MT)
 (FLa:AH K mg "_law_labels" QH fLa fdLa Qm)
 (FLn:AH K mg "_law_is_number" Ms fLn fdLn MP)
 (FLe:AH K mg "_law_is_entry" Mr fLe fdLe Cc)
 (FLk:AH K mg "_law_is_label" NQ fLk fdLk Cc)
 (FLm:AH K mg "_law_are_labels" Mi fLm fdLm Cc)
 (FLw:AH K mg "_law_told" Eu fLw fdLw CO)
 (FHg:AH K mg "_law_hung" Mj fHg fdHg PK)
 (FLf:AH K mg "_law_tie_fault" E2 fLf fdLf PP)
 (FLq:AH K mg "_law_fault" E7 fLq fdLq Co)
 (FFo:AH K mg "_law_found" Ey fFo fdFo Co)
 (FB:AH K mg "_law_bent" NC fB fdB Ou)
 (FHb:AH K mg "_law_hub" Qi fHb fdHb De)
 (FR:AH K mg "_law_right" Qd fR fdR Co)
 (dY:mg "len"=none) (dR:mg "range"=none) (dS:mg "tuple"=none) (da:mg "sorted"=none) (eN:mg "min"=none) (eD:mg "list"=none) (dX:mg "isinstance"=none) (d8:mg "int"=none) (dh:mg "bool"=none) (fu:mg "all"=none) (mStr:mg "str"=none) (mSet:mg "set"=none) (d9:mg "dict"=none) (eF:mg "enumerate"=none) (fj:mg "repr"=none) (mVal:mg "ValueError"=none):AL P w K mg base AU 10 f dU G6 (QP K):=by
 have GTa:AM P w base 9 FTa (Wi K):=(aD FTa.F).mono;have GD:AM P w base 9 FD ND:=(R6 FD.F dY).mono;have GDp:AM P w base 9 FD Qq:=(RJ FD.F dY).mono;have GW':AM P w base 9 FW Ii:=(J7 FW.F FD dY dR dS da).mono;have GTo:AM P w base 1 FTo QO:=Ko FTo.F dX dS dY;have GPl:AM P w base 3 FPl Jn:=Oo FPl.F FWi FNu dX d8 dh;have GEe:AM P w base 4 FEe RL:=Yh FEe.F FTo (GTo.mono) FPl GPl FNu ((WJ FNu.F dX d8 dh).mono);have GLl:AM P w base 5 FLl Rf:=cM FLl.F FEe GEe FRs ((KL FRs.F dY dR fu).mono) dX dS dY fu;have GAl:AM P w base 6 FAl SJ:=Z6 FAl.F FTo (GTo.mono) FLl GLl fu;have GLo:AM P w base 3 FLo QA:=(Xy FLo.F FT da).mono;have GTd:AM P w base 2 FTd QI:=Zw FTd.F FSu d9 eN;have GUr:AM P w base 4 FUr (Dr Gx):=Pa FUr.F FLo GLo FEt ((K7 FEt.F).mono);have GDr:AM P w base 4 FDr (Dr IJ):=PH FDr.F FLo GLo FTd (GTd.mono);have GFa:AM P w base 4 FFa P1:=(Y8 FFa.F eF).mono;have GUf:AM P w base 6 FUf (GZ Ic):=(OC FUf.F FFa GFa FUr GUr).mono;have GDf:AM P w base 6 FDf (GZ MZ):=(Ow FDf.F FFa GFa FDr GDr).mono;have GOf:AM P w base 6 FOf KQ:=(PL FOf.F FOw ((Km FOw.F).mono) eF).mono;have GTf:AM P w base 6 FTf (GZ CW):=(PB FTf.F FTd (GTd.mono) FT ((Wg FT.F da).mono) FGm ((PU FGm.F).mono) eF dR).mono;have GI:AL P w K mg base AU 1 fI fdI GC (Dh cP "word" "at"):=Nd FI EI mo Er.n1 Er.n2;have GRa:AL P w K mg base (CB P w) 3 fRa fdRa Ih (Q9 cP):=bf FRa.F Er.mP EI bI GI;have GLt:AL P w K mg base (CB P w) 7 fLt fdLt Hs (Q3 cP):=YS FLt.F Er.mP EI bI (GI.mono) FAl GAl FRa (GRa.mono) FOf GOf FUf GUf FTf GTf FDf GDf;have GFo:AM P w base 8 FFo SW:=Jt FFo.F Er EI FLt GLt dX mVal;have GLe:AM P w base 2 FLe Q2:=Zc FLe.F FLn dX d8 dh dS dY;have GLk:AM P w base 3 FLk SN:=ZW FLk.F FLe GLe dX dS da mSet;have GLm:AM P w base 4 FLm Q8:=aM FLm.F FLk GLk dX dS dY;have GJ:AM P w base 1 FJ Qa:=VW FJ.F;have GLq:AM P w base 8 FLq RS:=(Kz FLq.F FLm GLm FJ (GJ.mono) FHg ((Y2 FHg.F dR dY).mono) FLw ((Kc FLw.F d9 eN).mono) FLf ((KW FLf.F dR).mono) dR d9).mono;have GR:AM P w base 9 FR OZ:=Ni FR.F FLq GLq FFo GFo fj;have GB:AM P w base 9 FB (Xo 7):=(VF FB.F FB.b FB.m FD dX d8 dh dS eD mStr dY 7).mono;have GOr:AM P w base 9 FOr UT:=(aL FOr.F FD dY dR dS eD).mono;have GFr:AM P w base 3 FFr Rh:=(KN FFr.F FA FLs dR eN).mono;have GOn:AM P w base 3 FOn Jm:=(Ny FOn.F FA).mono;have GEn:AM P w base 3 FEn RU:=Z8 FEn.F FNs (LN FNs.F FJ dR);have GLa:AM P w base 9 FLa XD:=(aE FLa.F FFr GFr FOn GOn FEn GEn dR dS).mono;have GH:AM P w base 7 FHb OG:=(Ol FHb.F).mono;refine Xi F Cu (fun vs H Q E h=>?_) (fun dy A outer s H vs Q E hr h=>?_)
 . obtain⟨a,ns,rfl,_⟩:=h;rfl
 . obtain⟨a,ns,rfl,hS,hlen,k⟩:=h;have hu:=Ge hr;refine⟨_,D8 (.mk (As (i:=1) Cu.nd (AO GTa hr FTa (zE (pv 0) zQ))))
    (D8 (Tz PassesOwn.never rfl (.mk (B8 rfl dR (ED zQ))) (Ae (i:=2) Cu.nd)
     (D8 (.mk (As (i:=3) Cu.nd (AO GW' hr FW (zE (pv 1) (zE (AV CK zi (AO GD hr FD (zE (pv 1) (ED zQ)))) zQ)))))
     (D8 (.mk (As (i:=4) Cu.nd (AO GLa hr FLa (zE (pv 3) (zE (AO GOr hr FOr (zE (pv 1) (zE (AF Ac (pv 3) zi) zQ))) zQ)))))
     (D8 (Gu (i:=5) Cu.nd rfl (Or.inl rfl) (Xp (Fg rfl) fun t=>.cons (JJ .non ⟨.non,JC (by decide +kernel)⟩) rfl (.cons (JJ .bl ⟨.bl _,JC (by decide +kernel)⟩) rfl (.cons (JJ .int ⟨.int _ (by decide),JC (by decide +kernel)⟩) rfl (.cons (JJ .str ⟨.str _,JC (by decide +kernel)⟩) rfl
      (.cons (JJ (.tup .nil (zg _)) ⟨.tup _ (zg _) (fun d hd=>by cases hd),JC (by decide +kernel)⟩) rfl (.cons (JJ (.lst .nil (zg _)) ⟨.lst _ (zg _) (fun d hd=>by cases hd),JC (by decide +kernel)⟩) rfl (.cons (JJ .str ⟨.str _,JC (by decide +kernel)⟩) rfl
      (.cons (VP (d:=.none) (AV Xc (AZ (zE An zQ)) (AF Ac (pv 3) zi)) ?rep1 ?rep1h ?rep1r) rfl
      (.cons (VP (d:=.tuple []) (AV Xc (AZ (zE (AZ zQ) zQ)) (AF Ac (pv 3) zi)) ?rep2 ?rep2h ?rep2r) rfl
      (.cons (BD (AF Ac (pv 4) zi) ?lab0) rfl
      (.cons (BD (DH Rb eD (zE (pv 4) zQ)) ?lst) rfl .nil))))))))))))
     (D8 (Gu (i:=5) Cu.nd rfl (Or.inl rfl) (dB Jl (.mk (pv 5)) (Xp (Fg rfl) fun t=>.cons (BD (AV Mz (pv 4) (Ef P5 (pv 4) Eo (EZ zi))) ?cat) rfl (.cons (BD (Ef P5 (pv 4) (EZ zi) Eo) ?tail) rfl (.cons (BD (AZ (zE (pv 4) zQ)) ?one) rfl
      (.cons (BD (Xe (ops:=fun a d=>[a,d]) (pv 4) (BD (Rc Qv zi) (fun σ H Q q=>⟨1,rfl,q⟩)) (fun _ _=>by with_unfolding_all rfl)) ?rev) rfl
      (.cons (BD (DH Lm dS (zE (B0 (own:=["_law_one"]) (cn:=[]) (ci:=[]) rfl (BK rfl rfl) trivial rfl (BH (pv 4)) (fun _ _ _ _=>BJ) (fun _ _ _ _=>CD) (fun _ _ _ _=>DH bV eD (zE (pv 0) zQ))) zQ)) ?lists) rfl .nil)))))))
     (.mk (za (As (i:=6) Cu.nd (AO GDp hr FD (zE (pv 1) (zE (AF Ac (pv 3) zi) zQ))))
     (za (A7 (F3 (CJ (zE (pv 6) (zE (AF Ac (pv 3) zi) (zE (BD (te':=tC (.int (-1))) (Rc Qv zi) (fun σ H Q q=>⟨1,rfl,q⟩)) (zE zi zQ)))))) (Ae (i:=7) Cu.nd)
      (ze (Aq (Ak (ZI hu) (AZ (zE (pv 7) (zE zi (zE An (zE An zQ))))) (AF Ac (pv 4) (pv 6)) (by with_unfolding_all rfl))
       (za (As (i:=8) Cu.nd (DH Lm dS (zE (aA GH hr rfl da rfl FHb.m FHb.b (zE (AV Mz (AF Ac (pv 4) (pv 6)) (AZ (zE (AZ (zE (pv 7) (zE zi (zE An (zE An zQ))))) zQ))) zQ)) zQ)))
       (ze (D7 (Em PySem.F.plainAttrs_list PySem.F.slot_list_append PySem.F.type_list_append HW (pv 5) (zE (AV Mz (AV Mz (Ef P5 (pv 4) Eo (EZ (pv 6))) (AZ (zE (pv 8) zQ))) (Ef P5 (pv 4) (EZ (AV CK (pv 6) zi)) Eo)) zQ))))) Ao)))
     (za (A7 (F3 (pv 5)) (Ae (i:=9) Cu.nd)
      (ze (Aq (B7 (BL (AO GR hr FR (zE (pv 3) (zE (pv 9) zQ))))) XN Ao)))
     (ze (A7 (B8 rfl dR (ED zQ)) (Ae (i:=10) Cu.nd)
      (za (As (i:=9) Cu.nd (pv 4))
      (ze (A7 (B8 rfl dR (ED zQ)) (Ae (i:=11) Cu.nd)
       (za (As (i:=9) Cu.nd (AO GB hr FB (zE (pv 1) (zE (pv 9) zQ))))
       (ze (Aq (B7 (BL (AO GR hr FR (zE (pv 3) (zE (pv 9) zQ))))) XN Ao)))))))))))))))))
    (.mk (ze (AN Dw)))),?_⟩
   case rep1=>exact fun σ H Q ⟨wa,ta,n,h1,h3,n1,n2,q⟩=>⟨F7,fun p hp=>⟨_,h1,wa,_,_,.int n,rfl,rfl,AC.of (zH hp _ _ h3),rfl,p,n,.non,rfl,rfl,zK,n1,n2,fun p' H' s' h'=>q p' H' .non ((zH hp).trans s') .non h'⟩⟩
   case rep1h=>exact fun t H N w T h=>by cases h;exact .non
   case rep1r=>exact⟨.non,Rt.mono (by decide) (by decide)⟩
   case rep2=>exact fun σ H Q ⟨wa,ta,n,h1,h3,n1,n2,q⟩=>⟨E5,fun p0 hp0=>⟨F7,fun p hp=>⟨_,h1,wa,_,_,.int n,rfl,rfl,AC.of (zH hp _ _ (zH hp0 _ _ h3)),rfl,p,n,.ref p0,rfl,rfl,zK,n1,n2,fun p' H' s' h'=>q p' H' (.ref p0) (((zH hp0).trans (zH hp)).trans s') (.tup (s' _ _ (zH hp _ _ zK)) .nil) h'⟩⟩⟩
   case rep2h=>
    intro t' H N w T h;cases h with
    | tup e al=>cases al;exact .tup (Mp T _ _ e) .nil
   case rep2r=>exact⟨.tup _ (zg _) (fun d hd=>by cases hd),(Lg (w:=0) (p:=0) (fun d hd=>by cases hd) (zJ _)).mono (by decide) (by decide)⟩
   case lab0=>
    intro σ H Q q;obtain⟨N,wa,la,ta,n,dP,xs,T,h1,h2,h3,h4,h5,h6,h7,h8⟩:=q.1.lab;have hl:=h5.ln;have n1:=h5.n1;obtain⟨x,hx⟩:∃x,xs[0]?=some x:=⟨_,zB (by lia)⟩;obtain⟨d,hd,sx⟩:=bL h7 hx;refine⟨_,h2,la,_,_,x,rfl,rfl,AC.of h6,DS (j:=0) hx,q.2 x H (AD.refl _) (Gw sx ?_)⟩;have:=h5.ld d hd;exact NG this.1 this.2 (by decide) (by decide) (by decide) (by decide)
   case lst=>
    intro σ H Q q;obtain⟨N,wa,la,ta,n,dP,xs,T,h1,h2,h3,h4,h5,h6,h7,h8⟩:=q.1.lab;have hl:=h5.ln;have n5:=h5.n5;exact⟨_,h2,la,xs,rfl,.inr (AC.of h6),fun l hl=>q.2 _ _ (zH hl) (Gw (Rr (Qf.has _ _ q.1) h7 hl) (LW h5.ld (by rw[zD];lia)))⟩
   case cat=>
    intro σ H Q q;obtain⟨N,wa,la,ta,n,dP,xs,T,h1,h2,h3,h4,h5,h6,h7,h8⟩:=q.1.lab;have hl:=h5.ln;have n5:=h5.n5;have hm:(dP.map BZ).length<=5:=by rw[zD];lia
    have c1:=XS (dP.map BZ);refine⟨_,h2,_,h2,_,rfl,la,xs,rfl,h6,fun p1 H1 s1 iI=>⟨la,p1,xs,_,rfl,rfl,s1 _ _ h6,iI,?_,fun p2 H2 s2 eT=>q.2 _ H2 (s1.trans s2) (Gw (Mx (T.keep (s1.trans s2)) eT (Mv (Cw.same h7 (s1.trans s2)) (QW (lo:=none) (hi:=some 1) (Cw.same h7 (s1.trans s2))))) (Mn (fun d hd=>(zj.mp hd).elim (h5.ld d) fun z=>h5.ld d (Mb z)) (by rw[zM];lia)))⟩⟩;have:=Ct (QW (lo:=none) (hi:=some 1) h7);rw[this,h8];exact DG (Bk (by lia))
   case tail=>
    intro σ H Q q;obtain⟨N,wa,la,ta,n,dP,xs,T,h1,h2,h3,h4,h5,h6,h7,h8⟩:=q.1.lab;have hl:=h5.ln;have n5:=h5.n5;have hm:(dP.map BZ).length<=5:=by rw[zD];lia
    have c1:=Lw (dP.map BZ) (some 1) none;exact⟨_,h2,_,rfl,la,xs,rfl,h6,fun p1 H1 s1 iI=>q.2 _ H1 s1 (Gw (Mx (T.keep s1) iI (QW (lo:=some 1) (hi:=none) (Cw.same h7 s1))) (Mn (fun d hd=>h5.ld d (Mb hd)) (by lia)))⟩
   case one=>
    intro σ H Q q;obtain⟨N,wa,la,ta,n,dP,xs,T,h1,h2,h3,h4,h5,h6,h7,h8⟩:=q.1.lab;obtain⟨b1,b2⟩:=Ig h5;refine⟨_,h2,F7,fun p hp=>q.2 _ _ (zH hp) (Gw (Gq (ds:=[EX dP]) (Qf.has _ _ q.1) (.cons (Mx T h6 h7) .nil) hp) ?_)⟩;refine NG (IB.tup (k:=10 ^ 30) (l:=14) _ (by show 1<=14;decide) fun d hd=>?_) (Iv (n:=14130) (p:=3) (L:=1) (fun d hd=>?_) (zJ 1)) (by decide) (by decide) (by decide) (by decide)
    . rw[zh.mp hd];exact b1
    . rw[zh.mp hd];exact b2
   case rev=>
    intro σ H Q q;obtain⟨N,wa,la,ta,n,dP,xs,T,h1,h2,h3,h4,h5,h6,h7,h8⟩:=q.1.lab;have hl:=h5.ln;have n5:=h5.n5;exact⟨_,h2,la,xs,rfl,AC.of h6,fun l hl=>q.2 _ _ (zH hl) (Gw (Gq (Qf.has _ _ q.1) (Ww h7) hl) (Mn (fun d hd=>h5.ld d (List.mem_reverse.mp hd)) (by rw[List.length_reverse,zD];lia)))⟩
   case lists=>
    intro σ H Q q;obtain⟨⟨N,T⟩,wa,la,ta,n,dP,h1,h2,h3,h4,h5⟩:=q.1;have hl:=h5.ln;have n5:=h5.n5;obtain⟨as,hV,gG,hA⟩:=id h4;refine⟨_,h2,la,rfl,⟨_,AC.of hV⟩,[],rfl,fun D hD=>?_⟩;refine BV (a:=la) (xs:=as.map V.ref) (fun i ys H2=>i<=dP.length/\ys.length=i/\OO t D H2 ys dP/\AD H H2/\H2 D=some (.lst ys)) ⟨zg _,rfl,fun j y z=>by simp at z,zH hD,zK⟩ (fun i ys H2 h=>?_) (fun i ys H2 h=>?_) (fun i v ys H2 hv h=>?_) (fun ys H2 h=>?_)
    . exact AC.of (h.2.2.2.1 _ _ hV)
    . rw[h.2.1];exact Bk (by have:=h.1;lia)
    . obtain⟨_,fm,il,s2,dg⟩:=h;rw[zO] at hv;cases ha:as[i]? with
      | none=>rw[ha] at hv;cases hv
      | some a'=>
      rw[ha] at hv;cases hv;obtain⟨es,he,bs,hb,EA,hl3⟩:=hA i a' ha;have e8:i<dP.length:=(zI.mp he).1;refine⟨⟨rfl,rfl⟩,CC ⟨_,rfl,a',_,rfl,.inr (AC.of (s2 _ _ hb)),fun l hl=>?_⟩⟩;have nDl:D≠l:=zt dg hl;have kp:∀b o,b≠D->H2 b=some o->(upd (upd H2 l (.lst (bs.map V.ref))) D (.lst (ys++[.ref l]))) b=some o:=fun b o n z=>by rw[zk n];exact zH hl _ _ z
      have kt:∀b us,H2 b=some (.tup us)->(upd (upd H2 l (.lst (bs.map V.ref))) D (.lst (ys++[.ref l]))) b=some (.tup us):=fun b us z=>kp b _ (Bn z dg (by intro w;cases w)) z;refine⟨zH hl _ _ dg,e8,by rw[zM,fm];rfl,fun j y hy=>?_,A9 (s2.trans (zH hl)) hD,zK⟩;by_cases cj:j<i
      . rw[zb (by lia)] at hy;obtain⟨c,gD,zs,g1,g2,g3,g4,g5,g6⟩:=il j y hy;exact⟨c,gD,zs,g1,g2,g3,g4,kp _ _ g2 g5,g6.keep kt⟩
      . have ej:j=i:=by have:=(zI.mp hy).1;rw[zM,fm] at this;simp at this;lia
        subst ej;rw[zX (by lia),fm,Eg] at hy;have ey:V.ref l=y:=by simpa using hy
        subst ey;exact⟨l,es,bs,rfl,nDl.symm,AY.ne (T.keep s2) hl,he,by rw[zk nDl.symm];exact zK,(EA.keep fun b us e=>s2 _ _ e).keep kt⟩
    . obtain⟨_,fm,il,s2,dg⟩:=h;rw[zD,gG] at fm;refine⟨D,ys,rfl,.inl ⟨AE.of dg,fun l hl=>?_⟩⟩;have T2:=T.keep s2;have HT2:Br t H2:=by obtain⟨_,_,_,_,z,_⟩:=T2;exact⟨_,z⟩
      refine q.2 _ _ (s2.trans (zH hl)) (Gw (Gq HT2 (Ib T2 fm il) hl) (Mn (fun d hd=>?_) (by rw[zD];lia)));obtain⟨es,he,rfl⟩:=Be.mp hd;exact (Sw (h5.en es he) (h5.len es he)).up (by decide)
   refine⟨_,rfl,a,ns,rfl,hS,hlen,fun t H1 ht T1 s1=>?_⟩;refine⟨5,rfl,by decide,by decide,CS (lo:=0) (n:=5) (fun q σ H2=>ON fun (v2 v3 v4 v5 v6 v7 v8 v9 v10 v11:Option V)=>σ=[some (.ref a),some (.ref t),v2,v3,v4,v5,v6,v7,v8,v9,v10,v11]/\AY H2 t (2000*q)) ⟨_,_,_,_,_,_,_,_,_,_,rfl,T1⟩ (fun q σ H2 hq z=>?_) (fun σ H2 z=>?_)⟩
   . obtain⟨v2,v3,v4,v5,v6,v7,v8,v9,v10,v11,rfl,T2⟩:=z;rw[CI];refine⟨_,rfl,_,rfl,t,_,5,rfl,T2,by lia,by decide,by decide,fun r1 Ha r10 r11 Ta _=>?_⟩;refine⟨_,_,rfl,rfl,?_⟩;refine⟨t,_,1+r1,rfl,Ta,by lia,by lia,by lia,fun wa ts H4 _ W4 T4 _=>?_⟩;obtain⟨n,hn⟩:∃n:Int,n=1+r1:=⟨_,rfl⟩;rw[<-hn] at W4;clear T2 Ta;obtain⟨ta,tys,eS,_,_,G⟩:=id W4;have n1:=G.n1;have n5:n<=5:=by lia
     refine⟨_,rfl,_,rfl,_,rfl,wa,_,_,_,rfl,rfl,AC.of eS,rfl,t,_,n,rfl,T4,by lia,n1,by lia,fun lo os H5 hU O T5 s5=>?_⟩;have W5:=W4.sm T4 s5;refine⟨wa,lo,n,ts,os,rfl,W5,hU,O,fun la dP rk H6 s6 L6 RK LO fZ=>?_⟩;have B:=LO.lbd G n5 fZ;have W6:=W5.keep s6;have T6:=T5.keep s6;have hwa6:H6 wa=some (.tup [.int n,.ref ta]):=s6 _ _ (s5 _ _ (AY.neT T4 eS) eS);clear hU RK LO fZ s6 s5 T5 W5 T4 W4 eS O;refine⟨t,⟨⟨_,T6⟩,wa,la,ta,n,dP,rfl,rfl,hwa6,L6,B⟩,fun so1 iZ H7 s7 h7 hv1 n7 A1=>?_⟩;refine⟨_,rfl,t,⟨⟨_,T6.keep s7⟩,wa,la,ta,n,dP,rfl,rfl,s7 _ _ hwa6,L6.keep fun b ys e=>s7 _ _ e,B⟩,fun so2 iY H8 s8 h8 gQ n8 A2=>?_⟩;refine⟨so1,so2,iZ,iY,rfl,rfl,s8 _ _ h7,h8,DG (Bk (by lia)),fun so gR=>?_⟩;have s9:=(s7.trans s8).trans (zH (o:=.lst (iZ++iY)) gR);have AA:CN t so (upd H8 so (.lst (iZ++iY))) (iZ++iY):=AG.laid (fun x hx=>(zj.mp hx).elim (A1.ag.same s8 x) (A2.ag x)) gR;obtain⟨tp,TP8⟩:=(T6.keep s7).keep s8;have nt:so≠t:=AY.ne ⟨tp,TP8⟩ gR;have np:so≠tp:=by obtain⟨ns',sp',rs',e1,e2,_⟩:=id TP8;exact (zt e2 gR).symm
     have TP9:GK (upd H8 so (.lst (iZ++iY))) t tp _:=TP8.keepF (fun o h=>zH gR _ _ h) (fun o h=>zH gR _ _ h) (zJ _);have W9:=W6.keep s9;have L9:Bp (upd H8 so (.lst (iZ++iY))) la dP:=L6.keep fun b ys e=>s9 _ _ e;have ip:=s9 _ _ hwa6;have hs9:(upd H8 so (.lst (iZ++iY))) so=some (.lst (iZ++iY)):=zK;have hvl:(iZ++iY).length<=16:=by rw[zM];lia
     generalize upd H8 so (.lst (iZ++iY))=H9 at TP9 W9 L9 ip hs9 AA ⊢;generalize iZ++iY=vs at hs9 AA hvl ⊢;clear s9 TP8 gR A2 n8 gQ h8 s8 A1 n7 hv1 h7 s7 W6 T6 hwa6 L6;refine⟨_,rfl,_,rfl,wa,_,_,_,rfl,rfl,AC.of ip,rfl,t,tp,_,n,rfl,TP9,by lia,by lia,by lia,fun Ox H10 a0 a1 TP10 e10=>?_⟩;obtain⟨at',rfl⟩:∃m:Nat,Ox=m:=⟨Ox.toNat,by lia⟩;have gI:Sm t H9 H10:=Fv e10;have T9:AY H9 t _:=⟨tp,TP9⟩;have W10:=W9.sm T9 gI;have L10:=L9.sm T9 gI;have hwa10:=gI _ _ (AY.neT T9 ip) ip;have hs10:=gI _ _ nt hs9;have A10:=AA.sm gI;clear AA hs9 ip L9 W9 T9 gI e10 TP9;refine⟨_,rfl,_,rfl,wa,_,_,_,rfl,rfl,AC.of hwa10,rfl,MY,fun lo hU=>?_⟩;have sl:=zH (o:=.lst [.int (at':Int),.int n,.int (-1),.int 0]) hU;have I0:Fb (upd H10 lo (.lst [.int (at':Int),.int n,.int (-1),.int 0])) t tp wa la so lo n ts dP [.int (at':Int),.int n,.int (-1),.int 0] (2000*q+226) 16:=
      ⟨W10.keep sl,L10.keep fun b ys e=>sl _ _ e,TP10.keepF (fun o h=>sl _ _ h) (fun o h=>sl _ _ h) (by lia),nt,np,(zt hs10 hU).symm,zK,_,sl _ _ hs10,hvl,A10.same sl⟩
     generalize upd H10 lo (.lst [.int (at':Int),.int n,.int (-1),.int 0])=H11 at I0 ⊢;clear sl hU A10 hs10 hwa10 L10 W10 TP10 hvl;have hln:=B.ln;refine⟨lo,rfl,⟨_,AE.of I0.ho⟩,HM (a:=lo) (xs:=[.int (at':Int),.int n,.int (-1),.int 0]) (fun i σ H5=>F8 fun (v7 v8:Option V)=>σ=[some (.ref a),some (.ref t),some (.int q),some (.ref wa),some (.ref la),some (.ref so),some (.int at'),v7,v8,v9,v10,v11]/\Fb H5 t tp wa la so lo n ts dP [.int (at':Int),.int n,.int (-1),.int 0] (2000*q+226) (16+i))
      ⟨_,_,rfl,I0⟩ (fun i σ H5 hi z=>?_) (fun i x σ H5 hx z=>?_) (fun σ H5 z=>?_)⟩
     . obtain⟨_,_,_,I⟩:=z;exact AE.of I.ho
     . obtain⟨v7',v8',rfl,I⟩:=z;obtain⟨o,rfl,ho⟩:∃o:Int,x=.int o/\o.natAbs<=100:=by
        have hm:=zV hx;simp only[zT,F0,or_false] at hm;rcases hm with rfl | rfl | rfl | rfl
        . exact⟨_,rfl,by lia⟩
        . exact⟨_,rfl,by lia⟩
        . exact⟨_,rfl,by decide⟩
        . exact⟨_,rfl,by decide⟩
       have hi4:i<4:=(zI.mp hx).1;obtain⟨as,hV,gG,hA⟩:=id I.lab;obtain⟨c,hc⟩:∃c,as[at']?=some c:=⟨_,zB (by lia)⟩;obtain⟨es,er,bs,hb,EA,hl3⟩:=hA _ _ hc;have hat:B9 (as.map V.ref) (at':Int)=some (.ref c):=DS (by rw[zO,hc];rfl);refine⟨_,rfl,MY,fun p hp=>?_⟩;have s6:=zH (o:=.tup [.int o,.int 0,.non,.non]) hp;refine⟨_,rfl,_,rfl,la,_,_,.ref c,rfl,rfl,AC.of (s6 _ _ hV),hat,p,c,[some o,some 0,none,none],bs.map V.ref,rfl,rfl,zK,s6 _ _ hb,fun y hy=>?ents,fun b=>⟨_,rfl,?_⟩⟩
       case ents=>
        obtain⟨b',eQ,rfl⟩:=Be.mp hy;obtain⟨i',e8⟩:=List.getElem?_of_mem eQ;obtain⟨e,he,h⟩:=EA.2 i' b' e8;exact⟨b',[some e.h,some e.l,e.u,e.d],rfl,s6 _ _ h⟩
       cases b with
       | false=>exact Aj ⟨_,_,rfl,(I.keep s6).mono (by lia)⟩
       | true=>
        refine Aa ?_;refine⟨_,rfl,_,rfl,la,_,_,.ref c,rfl,rfl,AC.of (s6 _ _ hV),hat,_,rfl,MY,fun p1 iI=>⟨F7,fun p2 eT=>?_⟩⟩;have s7:=s6.trans ((zH (o:=.tup [.int o,.int 0,.non,.non]) iI).trans (zH (o:=.tup [.ref p1]) eT));have hel:es.length<=5:=B.len es (zV er);have hbl:=EA.1;refine⟨c,p2,_,_,rfl,rfl,s7 _ _ hb,zK,by rw[zD];exact DG (Bk (by show bs.length+1<=_;lia)),fun p3 H9 s9 h9=>?_⟩;have s79:=s7.trans s9;have h1':H9 p1=some (.tup (eV ⟨o,0,none,none⟩)):=s9 _ _ (zH eT _ _ zK);have h9':H9 p3=some (.tup ((bs++[p1]).map V.ref)):=by rw[h9,zf];rfl
        have EE:B4 H9 (bs++[p1]) (es++[⟨o,0,none,none⟩]):=(EA.keep fun b us e=>s79 _ _ e).snoc h1';refine⟨p3,_,(es++[(⟨o,0,none,none⟩:En)]).map (·.h),rfl,h9',by rw[zD,zD,EE.1],by rw[zD,zM];show bs.length+1<64;lia,fun m x kk hx hkk H11 s11=>?_,fun D out H11 pt hD s11 hD11=>?_⟩
        . obtain⟨b',e,rfl,hgm,eQ⟩:=EE.at hx;rw[zO,hgm] at hkk;cases hkk;exact⟨b',e,rfl,s11 _ _ eQ,rfl,AD.refl _⟩
        . obtain⟨us,gs,eo,EU,pm⟩:=bE EE pt;rw[eo];refine⟨D,_,rfl,.inl ⟨AE.of zK,fun p4 iT=>?_⟩⟩;have sA:=s11.trans ((zH (o:=.lst (us.map V.ref)) hD11).trans (zH (o:=.tup (us.map V.ref)) iT));have s5A:=s79.trans sA;have EU':=EU.keep fun b ys e=>sA _ _ e;have h4:(upd (upd H11 D (.lst (us.map V.ref))) p4 (.tup (us.map V.ref))) p4=some (.tup (us.map V.ref)):=zK;generalize upd (upd H11 D (.lst (us.map V.ref))) p4 (.tup (us.map V.ref))=HB at s5A EU' h4 ⊢;clear sA iT hD11 s11 hD pt EE h9' h1' h9 s9 s79 s7 eT iI s6 hp EU eo;obtain⟨vs,gR,hvl,AGv⟩:=I.som;refine⟨_,rfl,.inl ⟨rfl,_,AE.of (s5A _ _ gR)⟩,_,rfl,_,rfl,(at':Int),rfl,la,_,rfl,s5A _ _ hV,fun p5 H12 s12 h12=>?_⟩;rw[bG] at h12;refine⟨_,rfl,F7,fun p6 hp6=>?_⟩;have s13:=s12.trans (zH (o:=.tup [.ref p4]) hp6);refine⟨p5,p6,_,_,rfl,rfl,zH hp6 _ _ h12,zK,by rw[zd,zD];exact DG (Bk (by show min at' as.length+1<=_;lia)),fun p7 H14 s14 h14=>?_⟩;have sB4:=s13.trans s14;refine⟨_,rfl,_,rfl,_,_,rfl,rfl,_,rfl,la,_,rfl,sB4 _ _ (s5A _ _ hV),fun p8 H15 s15 h15=>?_⟩;rw[show ((at':Int)+1)=((at'+1:Nat):Int) by lia,au] at h15;refine⟨p7,p8,_,_,rfl,rfl,s15 _ _ h14,h15,?_,fun p9 H16 s16 h16=>?_⟩
          . simp only[zM,zd,Fd,zD,zo,List.length_nil];exact DG (Bk (by lia))
          have s5F:=s5A.trans (sB4.trans (s15.trans s16));have sBF:=sB4.trans (s15.trans s16);have IF:=I.keep s5F;have hsoF:=s5F _ _ gR;refine⟨so,_,_,rfl,rfl,hsoF,Bk (by lia),?_⟩;have TF:AY H16 t _:=⟨tp,IF.tape⟩;have k2:∀b us,H16 b=some (.tup us)->Ax so (Ax t H16) b=some (.tup us):=fun b us e=>Fh (Bn e hsoF (by intro z;cases z)) (Mp TF _ _ e);have k5:∀b us,H5 b=some (.tup us)->Ax so (Ax t H16) b=some (.tup us):=fun b us e=>k2 _ _ (s5F _ _ e);have SA:Aw (Ax so (Ax t H16)) (as.map V.ref) (dP.map BZ):=RN gG fun i' a' h=>let ⟨gD,e',L⟩:=hA i' a' h;⟨gD,e',L.keep k5⟩;have SG:AW (Ax so (Ax t H16)) (.ref p4) (BZ gs):=.tup (k2 _ _ (sBF _ _ h4)) (Pp (EU'.keep fun b ys e=>k2 _ _ (sBF _ _ e)));have SY:AW (Ax so (Ax t H16)) (.ref p9) (.tuple ((dP.map BZ).take at'++[BZ gs]++(dP.map BZ).drop (at'+1))):=.tup (k2 _ _ h16) (Mv (Mv (Rv at' SA) (.cons SG .nil)) (Qz (at'+1) SA));have hgl:=pm.length_eq;rw[zM] at hgl;have GB':LD 3390 (BZ gs):=Q5 (m:=6) (fun e he=>by
           rcases zj.mp (pm.mem_iff.mp he) with z | z
           . exact B.en es (zV er) e z
           . rw[zh.mp z];exact aQ ho) (by rw[hgl];show es.length+1<=6;lia) (by decide)
          have rb:RB (.tuple ((dP.map BZ).take at'++[BZ gs]++(dP.map BZ).drop (at'+1))):=Mn (fun d hd=>by
           rcases zj.mp hd with hd | hd
           . rcases zj.mp hd with hd | hd
             . exact B.ld d (MK hd)
             . rw[zh.mp hd];exact GB'
           . exact B.ld d (List.mem_of_mem_drop hd)) (by
           simp only[zM,zd,Fd,zD,zo,List.length_nil]
           lia)
          exact⟨_,_,rfl,IF.put (by lia) hsoF hvl (CN.put (AGv.same s5F) fun x hx=>by rw[zh.mp hx];exact⟨_,SY,rb⟩)⟩
     . obtain⟨v7',v8',rfl,I⟩:=z;obtain⟨vs,gR,hvl,AGv⟩:=I.som;refine⟨_,rfl,so,rfl,⟨_,AE.of gR⟩,HM (a:=so) (xs:=vs) (fun i σ H6=>∃v9:Option V,σ=[some (.ref a),some (.ref t),some (.int q),some (.ref wa),some (.ref la),some (.ref so),some (.int at'),v7',v8',v9,v10,v11]/\AD H5 H6) ⟨_,rfl,AD.refl _⟩ (fun i σ H6 hi z=>?_) (fun i x σ H6 hx z=>?_) (fun σ H6 z=>?_)⟩
       . obtain⟨_,_,s6⟩:=z;exact AE.of (s6 _ _ gR)
       . obtain⟨v9',rfl,s6⟩:=z;obtain⟨d,Sd,rb⟩:=AGv.ag x (zV hx);exact⟨_,rfl,_,rfl,wa,x,d,n,ts,_,_,rfl,I.web.keep s6,Bj s6 Sd.shows,rb.1,Jz,by decide,rb.2,fun H7 s7=>⟨_,rfl,Aj ⟨_,rfl,s6.trans s7⟩⟩⟩
       . obtain⟨v9',rfl,s6⟩:=z;have W6:=I.web.keep s6;have L6:Bp H6 la dP:=I.lab.keep fun b ys e=>s6 _ _ e;have T6:AY H6 t (2000*q+226):=AY.keep ⟨tp,I.tape⟩ s6;clear AGv hvl gR I s6;refine⟨3,rfl,by decide,by decide,CS (lo:=0) (n:=3) (fun i σ H7=>IV fun (v9 v10 v11:Option V)=>σ=[some (.ref a),some (.ref t),some (.int q),some (.ref wa),some (.ref la),some (.ref so),some (.int at'),v7',v8',v9,v10,v11]/\BP H7 wa n ts/\Bp H7 la dP/\AY H7 t (2000*q+226+100*i)) ⟨_,_,_,rfl,W6,L6,T6⟩ (fun i σ H7 hi z=>?_) (fun σ H7 z=>?_)⟩
         . obtain⟨v9',v10',v11',rfl,W7,L7,T7⟩:=z;rw[CI];obtain⟨xs,hx,SX,_⟩:=Vu L7 T7;obtain⟨b1,b2⟩:=Ig B;refine⟨_,rfl,?_⟩;refine⟨4,rfl,by decide,by decide,CS (lo:=0) (n:=4) (fun b σ H8=>IV fun (v:V)(d:PyData)(v11:Option V)=>σ=[some (.ref a),some (.ref t),some (.int q),some (.ref wa),some (.ref la),some (.ref so),some (.int at'),v7',v8',some v,some (.int i),v11]/\BP H8 wa n ts/\Bp H8 la dP/\AY H8 t (2000*q+226+100*i+21*b)/\Sh t H8 v d/\IB (10 ^ 30+100*b) (14+b) d/\Fn (O8 b) (3+b) d)
            ⟨_,EX dP,_,rfl,W7,L7,T7,Mx T7 hx SX,b1,b2⟩ (fun b σ H8 hb z=>?_) (fun σ H8 z=>?_)⟩
           . obtain⟨v,d,v11'',rfl,W8,L8,T8,S8,ib,fn⟩:=z;rw[CI];obtain⟨w1,w2,w3⟩:=bj b hb;refine⟨_,rfl,_,rfl,t,_,v,d,_,_,_,_,rfl,T8,(show 2000*q+226+100*i+21*b+21<900000 by lia),S8,ib,fn,(show 3+b<=6 by lia),zp (by lia:10 ^ 30+100*b<=10 ^ 31) (by decide),w2,fun v' d' Hx Sx ibx fnx Tx smx=>?_⟩;have W9:=W8.sm T8 smx;have L9:=L8.sm T8 smx;refine⟨_,rfl,_,rfl,wa,v',d',n,ts,_,_,rfl,W9,Sx.shows,ibx,zp (by lia:10 ^ 30+100*b+100<=10 ^ 31) (by decide),by lia,fnx.mono (by lia) (by lia),fun H10 gI=>⟨_,rfl,Aj ?_⟩⟩;exact⟨v',d',_,rfl,W9.keep gI,L9.keep fun b ys e=>gI _ _ e,Tx.keep gI,Sx.same gI,ibx.mono (by lia) (by lia),fnx.mono w1 (by lia)⟩
           . obtain⟨v,d,v11'',rfl,W8,L8,T8,_⟩:=z;exact⟨_,_,_,rfl,W8,L8,T8.mono (by lia)⟩
         . obtain⟨v9',v10',v11',rfl,W7,L7,T7⟩:=z;exact⟨_,_,_,_,_,_,_,_,_,_,rfl,T7.mono (by lia)⟩
   . obtain⟨v2,v3,v4,v5,v6,v7,v8,v9,v10,v11,rfl,_⟩:=z;exact k _
theorem dA (x q)(st)(f)(pm cd)(l:K.lookup f=some ⟨.type "function",.none,.func (PySem.W.fnOf x q (defArgs st) (defBody st) (defScope st) .none .none .none pm .none cd .none),#[]⟩:=by kernel_rfl) (c:PySem.W.codeIn K cd q=true:=by kernel_rfl)(k:PySem.W.keepIn K (.ref f)=true:=by kernel_rfl):Cm K x q st f (PySem.W.fnOf x q (defArgs st) (defBody st) (defScope st) .none .none .none pm .none cd .none):=VS l c k
theorem Fj:∀{us:List Value},us.length=1->∃u0,us=[u0]
 | [u0],_=>⟨u0,rfl⟩
theorem BF:∀{us:List Value},us.length=2->∃u0 u1,us=[u0,u1]
 | [u0,u1],_=>⟨u0,u1,rfl⟩
theorem Dp:∀{us:List Value},us.length=3->∃u0 u1 u2,us=[u0,u1,u2]
 | [u0,u1,u2],_=>⟨u0,u1,u2,rfl⟩
theorem Ez:∀{us:List Value},us.length=4->∃u0 u1 u2 u3,us=[u0,u1,u2,u3]
 | [u0,u1,u2,u3],_=>⟨u0,u1,u2,u3,rfl⟩
theorem walk {l:PySem.W.OpenLaw}{K:Params->AJ}(hn:l.most=some 63)(hdf:d.params.defaults=[])
 (hY:∀w h,YP w h->(K w.params).In h)
 (F:∀w mg fa h,(K w.params).In h->h.Ns mainGlobals mg->mg d.name=some (.ref fa) ->
  ∃fd:FuncData,(∀s u,BindsTo s fd ⟨[u],[]⟩ [("_law_script",u)])/\∀base:Heap,(K w.params).In base->base.Ns mainGlobals mg->AL l.prog w (K w.params) mg base AU 10 fa fd G6 (QP (K w.params))):
 PySem.W.WalkO q loose XP YP l.row.toRowW d [] (fun f vs=>PySem.call f vs):=
 L2.walk_of (n:=63) (k:=10) (x := "_law_script") (CX:=fun _=>AU) (sp:=fun w=>QP (K w.params)) hn (by decide) hdf ⟨rfl,by decide,by decide,rfl⟩ hY F (fun _ _ a ns hl _ hS=>⟨a,ns,rfl,hS,hl,fun _=>rfl⟩) fun _ _ _ _ _ z=>z
theorem fk (w:World)(x:Str)(st:Stmt)(f:Addr)(pm cd:Value)(l:(Kf w.params).lookup f=some ⟨.type "function",.none,.func (PySem.W.fnOf x x (defArgs st) (defBody st) (defScope st) .none .none .none pm .none cd .none),#[]⟩:=by kernel_rfl) (c:PySem.W.codeIn (Kf w.params) cd x=true:=by kernel_rfl)(k:PySem.W.keepIn (Kf w.params) (.ref f)=true:=by kernel_rfl):Cm (Kf w.params) x x st f (PySem.W.fnOf x x (defArgs st) (defBody st) (defScope st) .none .none .none pm .none cd .none):=VS l c k
noncomputable def dL:DefRec:={ name := "law",params:=defArgs Do,body:=defBody Do,scope:=defScope Do,pos:=⟨313,0,334,15⟩ }
theorem facts (w:World)(mg:Bx)(fa:Addr)(h:Heap)(KX:(Kf w.params).In h)(G:h.Ns mainGlobals mg)(hmg:mg "law"=some (.ref fa)):∃fd:FuncData,(∀s u,BindsTo s fd ⟨[u],[]⟩ [("_law_script",u)])/\∀base:Heap,(Kf w.params).In base->base.Ns mainGlobals mg->AL (PySem.Challenge.rw_labelways_k31_what_is_no_labels).prog w (Kf w.params) mg base AU 10 fa fd G6 (QP (Kf w.params)):=by
 have mk:∀(x:Str)(f:Addr),PySem.W.nsIn (Kf w.params) mainGlobals x=some (some (.ref f))->mg x=some (.ref f):=fun x f e=>PySem.W.mg_of KX G e;have mn:∀x:Str,PySem.W.nsIn (Kf w.params) mainGlobals x=some none->mg x=none:=fun x e=>PySem.W.mg_none_of KX G e;have FTa:=fk w "_law_tape" QT 360 qL (vR 359);have bTa:=FTa.binds (ps:=G6) fun _ _ _ _ _ _ us hl=>by obtain⟨u0,rfl⟩:=Fj hl;rfl
 have mTa:=mk "_law_tape" 360 (by kernel_rfl);have FD:=fk w "_law_draw" HY 367 qL (vR 366);have bD:=FD.binds (ps:=IT) fun _ _ _ _ _ _ us hl=>by obtain⟨u0,u1,rfl⟩:=BF hl;rfl
 have mD:=mk "_law_draw" 367 (by kernel_rfl);have FW:=fk w "_law_web" Dd 372 qL (vR 371);have bW:=FW.binds (ps:=Hj) fun _ _ _ _ _ _ us hl=>by obtain⟨u0,u1,rfl⟩:=BF hl;rfl
 have mW:=mk "_law_web" 372 (by kernel_rfl);have FNu:=fk w "is_number" JP 206 (qS "labelways.kinds" 443) (vR 205);have bNu:=FNu.binds (ps:=["thing"]) fun _ _ _ _ _ _ us hl=>by obtain⟨u0,rfl⟩:=Fj hl;rfl
 have mNu:=mk "is_number" 206 (by kernel_rfl);have FWi:=fk w "is_within" Nu 213 (qS "labelways.kinds" 443) (vR 212);have bWi:=FWi.binds (ps:=MW) fun _ _ _ _ _ _ us hl=>by obtain⟨u0,u1,u2,rfl⟩:=Dp hl;rfl
 have mWi:=mk "is_within" 213 (by kernel_rfl);have FTo:=fk w "is_tuple_of" Dk 220 (qS "labelways.kinds" 443) (vR 219);have bTo:=FTo.binds (ps:=Ku) fun _ _ _ _ _ _ us hl=>by obtain⟨u0,u1,rfl⟩:=BF hl;rfl
 have mTo:=mk "is_tuple_of" 220 (by kernel_rfl);have FRs:=fk w "is_rising" E9 225 (qS "labelways.kinds" 443) (vR 224);have bRs:=FRs.binds (ps:=["things"]) fun _ _ _ _ _ _ us hl=>by obtain⟨u0,rfl⟩:=Fj hl;rfl
 have mRs:=mk "is_rising" 225 (by kernel_rfl);have FPl:=fk w "is_place" O1 232 (qS "labelways.kinds" 443) (vR 231);have bPl:=FPl.binds (ps:=Ba) fun _ _ _ _ _ _ us hl=>by obtain⟨u0,u1,rfl⟩:=BF hl;rfl
 have mPl:=mk "is_place" 232 (by kernel_rfl);have FLl:=fk w "is_label" NM 237 (qS "labelways.labels" 483) (vR 236);have bLl:=FLl.binds (ps:=Ba) fun _ _ _ _ _ _ us hl=>by obtain⟨u0,u1,rfl⟩:=BF hl;rfl
 have mLl:=mk "is_label" 237 (by kernel_rfl);have FEe:=fk w "is_entry" NF 244 (qS "labelways.labels" 483) (vR 243);have bEe:=FEe.binds (ps:=Ba) fun _ _ _ _ _ _ us hl=>by obtain⟨u0,u1,rfl⟩:=BF hl;rfl
 have mEe:=mk "is_entry" 244 (by kernel_rfl);have FAl:=fk w "are_labels" Me 249 (qS "labelways.labels" 483) (vR 248);have bAl:=FAl.binds (ps:=Ba) fun _ _ _ _ _ _ us hl=>by obtain⟨u0,u1,rfl⟩:=BF hl;rfl
 have mAl:=mk "are_labels" 249 (by kernel_rfl);have FFa:=fk w "far_entries" Lz 278 (qS "labelways.labels" 483) (vR 277);have bFa:=FFa.binds (ps:=E8) fun _ _ _ _ _ _ us hl=>by obtain⟨u0,rfl⟩:=Fj hl;rfl
 have mFa:=mk "far_entries" 278 (by kernel_rfl);have FT:=fk w "ties_at" MB 285 (qS "labelways.webs" 540) (vR 284);have bT:=FT.binds (ps:=MV) fun _ _ _ _ _ _ us hl=>by obtain⟨u0,u1,rfl⟩:=BF hl;rfl
 have mT:=mk "ties_at" 285 (by kernel_rfl);have FLo:=fk w "long_of" ME 292 (qS "labelways.webs" 540) (vR 291);have bLo:=FLo.binds (ps:=MQ) fun _ _ _ _ _ _ us hl=>by obtain⟨u0,u1,u2,rfl⟩:=Dp hl;rfl
 have mLo:=mk "long_of" 292 (by kernel_rfl);have FOw:=fk w "own_place" Et 254 (qS "labelways.labels" 483) (vR 253);have bOw:=FOw.binds (ps:=["label"]) fun _ _ _ _ _ _ us hl=>by obtain⟨u0,rfl⟩:=Fj hl;rfl
 have mOw:=mk "own_place" 254 (by kernel_rfl);have FSu:=fk w "least_sum" Fc 266 (qS "labelways.labels" 483) (vR 265);have bSu:=FSu.binds (ps:=EN) fun _ _ _ _ _ _ us hl=>by obtain⟨u0,u1,rfl⟩:=BF hl;rfl
 have mSu:=mk "least_sum" 266 (by kernel_rfl);have FTd:=fk w "told" MC 261 (qS "labelways.labels" 483) (vR 260);have bTd:=FTd.binds (ps:=EN) fun _ _ _ _ _ _ us hl=>by obtain⟨u0,u1,rfl⟩:=BF hl;rfl
 have mTd:=mk "told" 261 (by kernel_rfl);have FEt:=fk w "entry_of" E6 273 (qS "labelways.labels" 483) (vR 272);have bEt:=FEt.binds (ps:=O9) fun _ _ _ _ _ _ us hl=>by obtain⟨u0,u1,rfl⟩:=BF hl;rfl
 have mEt:=mk "entry_of" 273 (by kernel_rfl);have FLt:=fk w "lets_labels" NK 299 (qS "labelways.checker" 565) (vR 298);have bLt:=FLt.binds (ps:=Hs) fun _ _ _ _ _ _ us hl=>by obtain⟨u0,u1,rfl⟩:=BF hl;rfl
 have mLt:=mk "lets_labels" 299 (by kernel_rfl);have FRa:=fk w "refuse_at" NH 306 (qS "labelways.checker" 565) (vR 305);have bRa:=FRa.binds (ps:=Ih) fun _ _ _ _ _ _ us hl=>by obtain⟨u0,u1,rfl⟩:=BF hl;rfl
 have mRa:=mk "refuse_at" 306 (by kernel_rfl);have FOf:=fk w "own_fault" OB 313 (qS "labelways.checker" 565) (vR 312);have bOf:=FOf.binds (ps:=E8) fun _ _ _ _ _ _ us hl=>by obtain⟨u0,rfl⟩:=Fj hl;rfl
 have mOf:=mk "own_fault" 313 (by kernel_rfl);have FUf:=fk w "up_fault" N5 320 (qS "labelways.checker" 565) (vR 319);have bUf:=FUf.binds (ps:=C2) fun _ _ _ _ _ _ us hl=>by obtain⟨u0,u1,rfl⟩:=BF hl;rfl
 have mUf:=mk "up_fault" 320 (by kernel_rfl);have FUr:=fk w "is_up_right" N6 327 (qS "labelways.checker" 565) (vR 326);have bUr:=FUr.binds (ps:=EL) fun _ _ _ _ _ _ us hl=>by obtain⟨u0,u1,u2,u3,rfl⟩:=Ez hl;rfl
 have mUr:=mk "is_up_right" 327 (by kernel_rfl);have FTf:=fk w "tie_fault" PX 332 (qS "labelways.checker" 565) (vR 331);have bTf:=FTf.binds (ps:=C2) fun _ _ _ _ _ _ us hl=>by obtain⟨u0,u1,rfl⟩:=BF hl;rfl
 have mTf:=mk "tie_fault" 332 (by kernel_rfl);have FGm:=fk w "grows_too_much" O3 339 (qS "labelways.checker" 565) (vR 338);have bGm:=FGm.binds (ps:=MO) fun _ _ _ _ _ _ us hl=>by obtain⟨u0,u1,u2,rfl⟩:=Dp hl;rfl
 have mGm:=mk "grows_too_much" 339 (by kernel_rfl);have FDf:=fk w "down_fault" O0 346 (qS "labelways.checker" 565) (vR 345);have bDf:=FDf.binds (ps:=C2) fun _ _ _ _ _ _ us hl=>by obtain⟨u0,u1,rfl⟩:=BF hl;rfl
 have mDf:=mk "down_fault" 346 (by kernel_rfl);have FDr:=fk w "is_down_right" OP 353 (qS "labelways.checker" 565) (vR 352);have bDr:=FDr.binds (ps:=EL) fun _ _ _ _ _ _ us hl=>by obtain⟨u0,u1,u2,u3,rfl⟩:=Ez hl;rfl
 have mDr:=mk "is_down_right" 353 (by kernel_rfl);have FA:=fk w "_law_added" Dc 379 qL (vR 378);have bA:=FA.binds (ps:=CO) fun _ _ _ _ _ _ us hl=>by obtain⟨u0,u1,rfl⟩:=BF hl;rfl
 have mA:=mk "_law_added" 379 (by kernel_rfl);have FLs:=fk w "_law_lesser" FY 386 qL (vR 385);have bLs:=FLs.binds (ps:=CO) fun _ _ _ _ _ _ us hl=>by obtain⟨u0,u1,rfl⟩:=BF hl;rfl
 have mLs:=mk "_law_lesser" 386 (by kernel_rfl);have FFr:=fk w "_law_far" FV 391 qL (vR 390);have bFr:=FFr.binds (ps:=Ex) fun _ _ _ _ _ _ us hl=>by obtain⟨u0,rfl⟩:=Fj hl;rfl
 have mFr:=mk "_law_far" 391 (by kernel_rfl);have FOn:=fk w "_law_on" Oj 398 qL (vR 397);have bOn:=FOn.binds (ps:=OY) fun _ _ _ _ _ _ us hl=>by obtain⟨u0,u1,u2,u3,rfl⟩:=Ez hl;rfl
 have mOn:=mk "_law_on" 398 (by kernel_rfl);have FJ:=fk w "_law_joined" Da 405 qL (vR 404);have bJ:=FJ.binds (ps:=Ex) fun _ _ _ _ _ _ us hl=>by obtain⟨u0,rfl⟩:=Fj hl;rfl
 have mJ:=mk "_law_joined" 405 (by kernel_rfl);have FNs:=fk w "_law_nexts" E4 410 qL (vR 409);have bNs:=FNs.binds (ps:=Pf) fun _ _ _ _ _ _ us hl=>by obtain⟨u0,u1,u2,u3,rfl⟩:=Ez hl;rfl
 have mNs:=mk "_law_nexts" 410 (by kernel_rfl);have FOr:=fk w "_law_order" P7 417 qL (vR 416);have bOr:=FOr.binds (ps:=Hj) fun _ _ _ _ _ _ us hl=>by obtain⟨u0,u1,rfl⟩:=BF hl;rfl
 have mOr:=mk "_law_order" 417 (by kernel_rfl);have FEn:=fk w "_law_entry" NL 424 qL (vR 423);have bEn:=FEn.binds (ps:=MT) fun _ _ _ _ _ _ us hl=>by obtain⟨u0,u1,u2,u3,rfl⟩:=Ez hl;rfl
 have mEn:=mk "_law_entry" 424 (by kernel_rfl);have FLa:=fk w "_law_labels" QH 429 qL (vR 428);have bLa:=FLa.binds (ps:=Qm) fun _ _ _ _ _ _ us hl=>by obtain⟨u0,u1,rfl⟩:=BF hl;rfl
 have mLa:=mk "_law_labels" 429 (by kernel_rfl);have FLn:=fk w "_law_is_number" Ms 436 qL (vR 435);have bLn:=FLn.binds (ps:=MP) fun _ _ _ _ _ _ us hl=>by obtain⟨u0,u1,u2,rfl⟩:=Dp hl;rfl
 have mLn:=mk "_law_is_number" 436 (by kernel_rfl);have FLe:=fk w "_law_is_entry" Mr 443 qL (vR 442);have bLe:=FLe.binds (ps:=Cc) fun _ _ _ _ _ _ us hl=>by obtain⟨u0,u1,rfl⟩:=BF hl;rfl
 have mLe:=mk "_law_is_entry" 443 (by kernel_rfl);have FLk:=fk w "_law_is_label" NQ 448 qL (vR 447);have bLk:=FLk.binds (ps:=Cc) fun _ _ _ _ _ _ us hl=>by obtain⟨u0,u1,rfl⟩:=BF hl;rfl
 have mLk:=mk "_law_is_label" 448 (by kernel_rfl);have FLm:=fk w "_law_are_labels" Mi 453 qL (vR 452);have bLm:=FLm.binds (ps:=Cc) fun _ _ _ _ _ _ us hl=>by obtain⟨u0,u1,rfl⟩:=BF hl;rfl
 have mLm:=mk "_law_are_labels" 453 (by kernel_rfl);have FLw:=fk w "_law_told" Eu 458 qL (vR 457);have bLw:=FLw.binds (ps:=CO) fun _ _ _ _ _ _ us hl=>by obtain⟨u0,u1,rfl⟩:=BF hl;rfl
 have mLw:=mk "_law_told" 458 (by kernel_rfl);have FHg:=fk w "_law_hung" Mj 463 qL (vR 462);have bHg:=FHg.binds (ps:=PK) fun _ _ _ _ _ _ us hl=>by obtain⟨u0,rfl⟩:=Fj hl;rfl
 have mHg:=mk "_law_hung" 463 (by kernel_rfl);have FLf:=fk w "_law_tie_fault" E2 470 qL (vR 469);have bLf:=FLf.binds (ps:=PP) fun _ _ _ _ _ _ us hl=>by obtain⟨u0,u1,u2,rfl⟩:=Dp hl;rfl
 have mLf:=mk "_law_tie_fault" 470 (by kernel_rfl);have FLq:=fk w "_law_fault" E7 475 qL (vR 474);have bLq:=FLq.binds (ps:=Co) fun _ _ _ _ _ _ us hl=>by obtain⟨u0,u1,rfl⟩:=BF hl;rfl
 have mLq:=mk "_law_fault" 475 (by kernel_rfl);have FFo:=fk w "_law_found" Ey 482 qL (vR 481);have bFo:=FFo.binds (ps:=Co) fun _ _ _ _ _ _ us hl=>by obtain⟨u0,u1,rfl⟩:=BF hl;rfl
 have mFo:=mk "_law_found" 482 (by kernel_rfl);have FB:=fk w "_law_bent" NC 489 qL (vR 488);have bB:=FB.binds (ps:=Ou) fun _ _ _ _ _ _ us hl=>by obtain⟨u0,u1,rfl⟩:=BF hl;rfl
 have mB:=mk "_law_bent" 489 (by kernel_rfl);have FHb:=fk w "_law_hub" Qi 496 qL (vR 495);have bHb:=FHb.binds (ps:=De) fun _ _ _ _ _ _ us hl=>by obtain⟨u0,rfl⟩:=Fj hl;rfl
 have mHb:=mk "_law_hub" 496 (by kernel_rfl);have FR:=fk w "_law_right" Qd 503 qL (vR 502);have bR:=FR.binds (ps:=Co) fun _ _ _ _ _ _ us hl=>by obtain⟨u0,u1,rfl⟩:=BF hl;rfl
 have mR:=mk "_law_right" 503 (by kernel_rfl);have FZ:=fk w "law" Do 508 qL (vR 507);have mb0:=mn "len" (by kernel_rfl);have mb1:=mn "range" (by kernel_rfl);have mb2:=mn "tuple" (by kernel_rfl);have mb3:=mn "sorted" (by kernel_rfl);have mb4:=mn "min" (by kernel_rfl);have mb5:=mn "list" (by kernel_rfl);have mb6:=mn "isinstance" (by kernel_rfl);have mb7:=mn "int" (by kernel_rfl);have mb8:=mn "bool" (by kernel_rfl);have mb9:=mn "all" (by kernel_rfl);have mb10:=mn "str" (by kernel_rfl);have mb11:=mn "set" (by kernel_rfl);have mb12:=mn "dict" (by kernel_rfl);have mb13:=mn "enumerate" (by kernel_rfl);have mb14:=mn "repr" (by kernel_rfl);have mb15:=mn "ValueError" (by kernel_rfl);have e:=hmg.symm.trans (mk "law" 508 (by kernel_rfl));cases e;have FI:=dA (K:=Kf w.params) "__init__" "NoLabels.__init__" Qg 41 (qS "labelways.errors" 187) (vR 40);have bI:=FI.binds (ps:=GC) fun _ _ _ _ _ _ us hl=>by obtain⟨u0,u1,u2,rfl⟩:=Dp hl;rfl
 have Er:TQ (Kf w.params) mg 24 44 [63,113,173,82,149,137] [185,101,161,125,197]:=⟨mk "WayError" 24 (by kernel_rfl),by kernel_rfl,mk "NoLabels" 44 (by kernel_rfl),by kernel_rfl,⟨by kernel_rfl,by kernel_rfl,by kernel_rfl,by kernel_rfl,by kernel_rfl,by kernel_rfl⟩,(by show [mg "NoLeast",mg "NoOrder",mg "NoPart",mg "NoPlan",mg "NoPosts",mg "NoRing"]=_;rw[mk "NoLeast" 63 (by kernel_rfl),mk "NoOrder" 113 (by kernel_rfl),mk "NoPart" 173 (by kernel_rfl),mk "NoPlan" 82 (by kernel_rfl),mk "NoPosts" 149 (by kernel_rfl),mk "NoRing" 137 (by kernel_rfl)];rfl),(by show [mg "NoRow",mg "NoText",mg "NoTie",mg "NoTree",mg "TooMany"]=_;rw[mk "NoRow" 185 (by kernel_rfl),mk "NoText" 101 (by kernel_rfl),mk "NoTie" 161 (by kernel_rfl),mk "NoTree" 125 (by kernel_rfl),mk "TooMany" 197 (by kernel_rfl)];rfl),by kernel_rfl,by kernel_rfl,by kernel_rfl,by kernel_rfl,by kernel_rfl,by kernel_rfl⟩;have EI:Cz (Kf w.params) 44 41:=⟨by kernel_rfl,by kernel_rfl,by kernel_rfl,by kernel_rfl,by kernel_rfl⟩;have mo:PySem.W.mroIn (Kf w.params) 44 (.type "object")=some true:=by kernel_rfl
 exact⟨_,fun s v=>.of_eq rfl,fun base _ _=>Kb FZ Er EI FI bI mo ⟨FTa,bTa,mTa⟩ ⟨FD,bD,mD⟩ ⟨FW,bW,mW⟩ ⟨FNu,bNu,mNu⟩ ⟨FWi,bWi,mWi⟩ ⟨FTo,bTo,mTo⟩ ⟨FRs,bRs,mRs⟩ ⟨FPl,bPl,mPl⟩ ⟨FLl,bLl,mLl⟩ ⟨FEe,bEe,mEe⟩ ⟨FAl,bAl,mAl⟩ ⟨FFa,bFa,mFa⟩ ⟨FT,bT,mT⟩ ⟨FLo,bLo,mLo⟩ ⟨FOw,bOw,mOw⟩ ⟨FSu,bSu,mSu⟩ ⟨FTd,bTd,mTd⟩ ⟨FEt,bEt,mEt⟩ ⟨FLt,bLt,mLt⟩ ⟨FRa,bRa,mRa⟩ ⟨FOf,bOf,mOf⟩ ⟨FUf,bUf,mUf⟩ ⟨FUr,bUr,mUr⟩ ⟨FTf,bTf,mTf⟩ ⟨FGm,bGm,mGm⟩ ⟨FDf,bDf,mDf⟩ ⟨FDr,bDr,mDr⟩ ⟨FA,bA,mA⟩ ⟨FLs,bLs,mLs⟩ ⟨FFr,bFr,mFr⟩ ⟨FOn,bOn,mOn⟩ ⟨FJ,bJ,mJ⟩ ⟨FNs,bNs,mNs⟩ ⟨FOr,bOr,mOr⟩ ⟨FEn,bEn,mEn⟩ ⟨FLa,bLa,mLa⟩ ⟨FLn,bLn,mLn⟩ ⟨FLe,bLe,mLe⟩ ⟨FLk,bLk,mLk⟩ ⟨FLm,bLm,mLm⟩ ⟨FLw,bLw,mLw⟩ ⟨FHg,bHg,mHg⟩ ⟨FLf,bLf,mLf⟩ ⟨FLq,bLq,mLq⟩ ⟨FFo,bFo,mFo⟩ ⟨FB,bB,mB⟩ ⟨FHb,bHb,mHb⟩ ⟨FR,bR,mR⟩ mb0 mb1 mb2 mb3 mb4 mb5 mb6 mb7 mb8 mb9 mb10 mb11 mb12 mb13 mb14 mb15⟩
end K31
open PySem PySem.W PyProof.Rows
set_option maxRecDepth 100000 in
set_option maxHeartbeats 0 in
theorem PySem.Challenge.cw_labelways_k31_what_is_no_labels_holds : PySem.Challenge.rw_labelways_k31_what_is_no_labels.Holds := by
 refine holds_law K31.wS fun said=>?_;refine holds_open (q:=K31.Vp) (loose:=[]) (Xt:=fun s=>xlAt K31.Vp [] s && recOk (RowW.records K31.RR) s) (XP:=XL K31.Vp []) (Yf:=Hook.obs K31.HK) (Ya:=Hook.val K31.HK) (YP:=Hook.says K31.HK) (d:=K31.dL) (kwd:=[]) (N:=8886) K31.left (Hook.of K31.HK) (Hook.keeps K31.HK) (fun s e=>xl_of s (Bool.and_eq_true_iff.mp e).1) XL.keeps (by kernel_rfl) (by kernel_rfl) (by kernel_rfl) (fun s e=>recFacts_of (Bool.and_eq_true_iff.mp e).2) (by kernel_rfl) said (by decide +kernel) ⟨rfl,rfl,rfl,rfl,rfl,by decide +kernel⟩ ?hw ?hc
 case hw=>w_witness2
 case hc=>
  exact K31.walk (l:=PySem.Challenge.rw_labelways_k31_what_is_no_labels) (K:=K31.Kf) rfl rfl (fun w h Y=>PySem.W.kIn_of Y) K31.facts
