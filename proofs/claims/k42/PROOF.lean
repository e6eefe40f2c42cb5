import PyProof.Rows.All
import Wide.All
import OpenK.AllK
import Wide.FinOn
import Lean
import PyProof.EqAt
import PyProof.EqKinds
import PyProof.TupleCall
import PyProof.ListRange
import PyProof.Rows.StrKeys3
import PyProof.ZipIter
import PyProof.ListMulRoad
import PyProof.FactsAll.tuple_2
import PyProof.FactsAll.set
import PySem.Challenge.RW_labelways_k42_two_webs_by_turns
set_option Elab.async false
set_option linter.all false
set_option maxRecDepth 100000
local macro_rules (kind:=«term{_}»)
 | `({$xs,*})=>do
  let h← `(_)
  let r← `(rfl)
  let mut ys:=#[]
  for x in xs.getElems do
   ys:=ys ++ (match x.raw.isNatLit? with
    | some 0=>#[r]
    | some 1=>#[h,r]
    | some 2=>#[h,h,r,r]
    | some 3=>#[r,r]
    | some 4=>#[h,h]
    | some 5=>#[h,r,h,r]
    | some 6=>#[h,h,r]
    | some 7=>#[r,h,r]
    | some 8=>#[h,h,h,r,r]
    | some 9=>#[h,h,h]
    | _=>#[x])
  `(⟨$ys,*⟩)
noncomputable section
section
open PySem PySem.Spec PyProof.Rows
abbrev zA:=@wpAny_bind
abbrev zB:=@List.length_map
abbrev zD:=@List.getElem?_eq_getElem
abbrev zE:=@wpAny_pure
abbrev zG:=@List.getElem?_eq_some_iff
abbrev zH:=@List.length_append
abbrev zJ:=@List.getD_eq_getElem?_getD
abbrev zK:=@Nat.le_refl
abbrev zL:=@Heap.get?_push_of_some
abbrev zN:=@List.getElem?_map
abbrev zO:=@decide_eq_true
abbrev zP:=@List.size_toArray
abbrev zQ:=@List.mem_of_getElem?
abbrev zS:=@decide_eq_false
abbrev zT:=@List.map_append
abbrev zU:=@Heap.get?_push_size
abbrev zV:=@Option.some.inj
abbrev zW:=@List.take_of_length_le
abbrev zX:=@List.mem_cons_self
abbrev zZ:=@Heap.lt_size
abbrev za:=@List.getElem?_append_right
abbrev zb:=@List.mem_cons
abbrev zd:=@List.mem_cons_of_mem
abbrev ze:=@List.getElem?_append_left
abbrev zg:=@List.mem_append
abbrev zh:=@Nat.zero_le
abbrev zi:=@Nat.ne_of_lt
abbrev zk:=@List.length_cons
abbrev zl:=@List.mem_singleton
abbrev zm:=@Bool.false_ne_true
abbrev zn:=@List.mem_append_right
abbrev zo:=@Nat.lt_of_lt_of_le
abbrev zp:=@List.length_take
abbrev zr:=@List.getElem_of_mem
abbrev zu:=@List.take_add_one
abbrev zv:=@List.append_nil
abbrev Bm:=@Int.toNat_natCast
abbrev Cj:=@List.length_replicate
abbrev Ck:=@Heap.get?_update_self
abbrev BD:=@wpAny_holding
abbrev Cu:=@List.getElem?_eq_none
abbrev C8:=@List.length_filter_le
abbrev DQ:=@List.getElem?_toArray
abbrev Cv:=@Nat.lt_of_le_of_lt
abbrev Cg:=@wpAny_newObj_type
abbrev DP:=@List.mem_append_left
abbrev Ef:=@List.pairwise_iff_getElem
abbrev BX:=@Nat.le_trans
abbrev Cf:=@wpAny_call_entry
abbrev Ek:=@wpAny_callSpecial?_slot
abbrev BE:=@wpAny_mono
abbrev DG:=@List.length_range
abbrev Ce:=@Nat.not_lt_zero
abbrev Bt:=@Int.zero_add
abbrev Cp:=@Heap.size_push
abbrev EH:=@Heap.SameBut.update
abbrev DY:=@wpAny_loadPart_at
abbrev Dk:=@List.append_assoc
abbrev Cn:=@List.map_cons
abbrev Dd:=@wpAny_isInstance
abbrev CT:=@Nat.le_of_lt
abbrev Gz:=@Heap.get?_update_other
abbrev Ec:=@Nat.lt_succ_of_lt
abbrev Hk:=@List.length_eq_zero_iff
abbrev IK:=@List.filter_cons_of_neg
abbrev Ct:=@wpAny_typeOf
abbrev Di:=@wpAny_seqItems
abbrev EC:=@Option.map_some
abbrev D8:=@List.nodup_cons
abbrev ES:=@List.mem_filter
abbrev EY:=@List.lookup_cons
abbrev El:=@List.getElem_mem
abbrev Ci:=@Nat.le_succ
abbrev Jv:=@Option.isSome_iff_exists
abbrev Fq:=@List.pairwise_map
abbrev Fs:=@List.nodup_append
abbrev Gy:=@List.pairwise_cons
abbrev Ei:=@List.filter_nil
abbrev J0:=@List.filter_cons_of_pos
abbrev DS:=@List.mem_map
abbrev Gw:=@wpAny_truthy_bool
abbrev ER:=@Nat.lt_irrefl
abbrev Eo:=@List.mem_range
abbrev M6:=@List.drop_eq_getElem_cons
abbrev Jw:=@List.take_append_drop
abbrev IE:=@wpAny_Call_Name_kw
abbrev IB:=@List.mem_filterMap
abbrev Hr:=@List.filter_append
abbrev Hz:=@Bool.false_eq_true
abbrev G0:=@Bool.and_eq_true
abbrev Js:=@List.replicate_succ'
abbrev Mg:=@List.getElem?_replicate
abbrev M9:=@Int.eq_ofNat_of_zero_le
abbrev Fg:=@wpAny_setField
abbrev IC:=@wpAny_setState_of
abbrev C9:=@wpAny_call
abbrev IM:=@List.flatten_cons
abbrev Df:=@Int.le_refl
abbrev M8:=@Option.map_eq_some_iff
abbrev DR:=@wpAny_rule
abbrev Me:=@List.length_singleton
abbrev Gf:=@List.take_zero
abbrev Nd:=@Classical.byContradiction
abbrev Hq:=@wpAny_updateSeq
abbrev J7:=@Option.some.injEq
abbrev IJ:=@List.find?_cons
abbrev Jo:=@List.Pairwise.nil
abbrev Fz:=@Nat.sub_self
abbrev Gq:=@wpAny_attempt
abbrev NC:=@List.getElem?_range
abbrev Mp:=@List.filterMap_cons
abbrev RG:=@wpAny_typeNameOfWhole_keyiter
abbrev J8:=@List.all_eq_true
end
abbrev B4:List PySem.Str:=["_law_web_here","_law_thing"]
abbrev Lq:List PySem.Str:=["_law_tape_here","_law_beside_each","_law_places"]
abbrev DJ:List PySem.Str:=["_law_one","_law_other"]
abbrev Ga:List PySem.Str:=["web","labels","place","entry"]
abbrev DV:List PySem.Str:=["_law_n","_law_thing"]
abbrev QD:List PySem.Str:=["_law_web_here","_law_far_here","_law_place","_law_hub"]
abbrev C4:List PySem.Str:=["self","word","at"]
abbrev HP:List PySem.Str:=["_law_tape_here","_law_many"]
abbrev GQ:List PySem.Str:=["_law_tape_here","_law_n"]
abbrev Rx:List PySem.Str:=["_law_web_here","_law_far_here","_law_one","_law_other"]
abbrev RT:List PySem.Str:=["_law_far_here","_law_place","_law_one","_law_other"]
abbrev DU:List PySem.Str:=["_law_web_here"]
abbrev B5:List PySem.Str:=["n","thing"]
abbrev DL:List PySem.Str:=["web","labels"]
abbrev NI:List PySem.Str:=["_law_tape_here","_law_web_here"]
abbrev P8:List PySem.Str:=["_law_thing","_law_least","_law_most"]
abbrev Pm:List PySem.Str:=["_law_web_here","_law_order_here"]
abbrev DW:List PySem.Str:=["web","thing"]
abbrev Lc:List PySem.Str:=["_law_thing","_law_deep"]
abbrev DO:List PySem.Str:=["web","plan"]
abbrev C2:List PySem.Str:=["word","at"]
abbrev Ez:List PySem.Str:=["plan","place"]
abbrev Ra:List PySem.Str:=["_law_n","_law_pairs","_law_tells"]
abbrev Ym:List PySem.Str:=["_law_web_here","_law_thing","_law_found_here","e","_law_others"]
abbrev Yt:List PySem.Str:=["_law_web_here","_law_found_here","_law_a","_law_b","_law_long"]
abbrev NL:List PySem.Str:=["thing","least","most"]
abbrev Im:List PySem.Str:=["_law_entry_here"]
abbrev Rh:List PySem.Str:=["_law_beside_each","_law_places"]
abbrev Uv:List PySem.Str:=["_law_web_here","_law_which","_law_thing"]
abbrev GZ:List PySem.Str:=["one","other"]
abbrev Pp:List PySem.Str:=["here","there","long"]
abbrev MC:List PySem.Str:=["thing","count"]
abbrev Cb:List PySem.Str:=["thing"]
abbrev Ik:List PySem.Str:=["_law_script"]
abbrev Rj:List PySem.Str:=["_law_plan","_law_place"]
abbrev Px:List PySem.Str:=["web","one","other"]
abbrev KP:List PySem.Str:=["thing","most"]
abbrev Hc:List PySem.Str:=["_law_one"]
abbrev VJ:List PySem.Str:=["hub","long","up","down"]
abbrev Rw:List PySem.Str:=["_law_labels_here"]
abbrev Kb:List PySem.Str:=["_law_plan"]
abbrev NJ:List PySem.Str:=["_law_thing"]
abbrev QB:List PySem.Str:=["web","place"]
abbrev G6:List PySem.Str:=["things"]
abbrev G8:List PySem.Str:=["labels"]
namespace L2
open PySem PySem.Spec PyProof.Rows
noncomputable def defArgs (s:Stmt):Arguments:=match s with
 | .FunctionDef _ a _ _ _ _ _ _ _ _=>a
 | _=>{ posonlyargs:=[],args:=[],vararg:=none,kwonlyargs:=[],kw_defaults:=[],kwarg:=none,defaults:=[] }
noncomputable def defBody (s:Stmt):List Stmt:=match s with
 | .FunctionDef _ _ b _ _ _ _ _ _ _=>b
 | _=>[]
noncomputable def defScope (s:Stmt):Scope:=match s with
 | .FunctionDef _ _ _ _ _ _ sc _ _ _=>sc
 | _=>{ kind:=.function,names:=[],isGenerator:=false,isCoroutine:=false }
end L2
namespace L2
section
open PySem PySem.W PyProof.Rows
def QQ (p:Program)(w:World)(n₀:Nat)(ann:Option Value):Nat->SharedT->Thread->Option SharedT
 | 0,_,_=>none
 | n+1,s,t=>match through t with
  | true=>some s
  | false=>match Fast.tw6613529449190102663 n₀ ann t with
   | false=>none
   | true=>match Fast.tw10156331382660048174 (Fast.tw11892475500146522536 Fast.tw14364793385576792824) p w s t with
    | some (s',t')=>QQ p w n₀ ann n s' t'
    | none=>none
theorem Yd :∀{n:Nat}{s s':SharedT}{t:Thread},QQ p w n₀ ann n s t=some s'->topRun treeTable p w n₀ ann n s.abs t=some s'.abs
 | 0,_,_,_,h=>by cases h
 | n+1,s,s',t,h=>by
  unfold QQ at h;rw[<-Fast.te6613529449190102663,<-Fast.te10156331382660048174,<-Fast.te11892475500146522536,<-Fast.te14364793385576792824] at h;unfold topRun;cases he:through t with
  | true=>rw[he] at h;cases h;rfl
  | false=>
   rw[he] at h;cases hk:stepOk n₀ ann t with
   | false=>rw[hk] at h;cases h
   | true=>
    rw[hk] at h;cases hs:stepT (denote treeTable) p w s t with
    | none=>rw[hs] at h;cases h
    | some r=>obtain⟨s₂,t₂⟩:=r;rw[hs] at h;rw[stepT_spec hs];exact Yd h
noncomputable def bt:List Obj->Nat->BT->BT
 | [],_,t=>t
 | o::l,i,t=>bt l (i+1) (t.ins i o)
def bT (P:Params):BT:=bt (boot_heap P).objs.toList 0 .nil
def bS (w:World)(os:OsState):SharedT:={bT w.params,(boot_heap w.params).objs.size,(boot_heap w.params).life,Array.mk [],boot_drawn,boot_toks,os}
theorem bA (w)(os:OsState):(bS w os).abs={boot_heap w.params,Array.mk [],boot_drawn,boot_toks,os}:=by kernel_rfl
abbrev U5 (p:Program)(N:Nat)(w:World)(os:OsState):Option SharedT:=QQ p w (boot_heap w.params).objs.size ((boot_heap w.params).nsMap mainGlobals "__annotations__") N (bS w os) (topStub p)
noncomputable abbrev Po (p:Program)(h h':Heap)(s:Shared):Bool:=staticsOk (importedModules p.main.body) h h' && namesBound p h' && gensDone s && laidKept h h'
theorem left_of (e:opening p=plainProg p.main.scope.names)(hN:Nat.ble 600 N=true)(f:∀s,fenceModules? p s=some s)
 (h:∀w os,(U5 p N w os).map (fun s=>(Po p (boot_heap w.params) s.abs.heap s.abs,Fast.tw4187177175401517315 q loose (importedModules p.main.body) Xt true s.abs,Yf s.abs))=some (true,openGood q loose,Ya w)):LeftO p q loose Xt Yf Ya N:=by
 intro w;obtain⟨⟨h0,gs,d,k,os⟩,e1,e2⟩:=M8.mp (boot_open e hN f w);obtain⟨rfl,rfl,rfl,rfl⟩:h0=boot_heap w.params/\gs=Array.mk []/\d=boot_drawn/\k=boot_toks:=by simpa using e2
 obtain⟨s,r,a⟩:=M8.mp (h w os);obtain⟨b,a⟩:=Prod.mk.inj a;rw[<-Fast.te4187177175401517315] at a;have y:=Yd r;rw[bA] at y;unfold openEnds;rw[e1];show (topFrom treeTable p w N _).map _=_;unfold topFrom;have z:((boot_heap w.params).isNs mainGlobals && (Array.mk []:Array GenState).size==0)=true:=by kernel_rfl
 dsimp only;rw[z];dsimp only;rw[y];show Option.map _ (match Po p (boot_heap w.params) s.abs.heap s.abs with | true=>some s.abs | false=>none)=_
 rw[b];exact congrArg some a
end
end L2
namespace K42
open PySem L2
noncomputable def top (i:Nat):Stmt:=PySem.Challenge.pw_labelways_k42_two_webs_by_turns.main.body.getD i (.Pass ⟨0,0,0,0⟩)
noncomputable def mth (k i:Nat):Stmt:=match top k with
 | .ClassDef _ _ _ body ..=>body.getD i (.Pass ⟨0,0,0,0⟩)
 | _=>.Pass ⟨0,0,0,0⟩
noncomputable abbrev sT:String->Str:=Str.ofString
noncomputable abbrev kH:=PyData.keyHash
noncomputable abbrev dE:=DictEntry.mk
noncomputable abbrev vS:=Value.str
noncomputable abbrev vI:=Value.int
noncomputable abbrev vR:=Value.ref
noncomputable abbrev vB:=Value.bool
noncomputable abbrev vN:Value:=Value.none
noncomputable abbrev vT:=Value.type
noncomputable abbrev oM:=Obj.mk
noncomputable abbrev cQ (x:Array Value):Obj:=oM (vT "code") .none (.fields x) #[]
noncomputable abbrev fQ (x:FuncData):Obj:=oM (vT "function") .none (.func x) #[]
noncomputable abbrev fT (x:String)(i:Nat)(m:Value)(c:Nat):Obj:=fQ (.mk (sT x) (sT x) (L2.defArgs (top i)) (FuncBody.stmts (L2.defBody (top i))) (L2.defScope (top i)) 3 [] vN vN vN m .none (vR c) vN 0)
noncomputable abbrev qS (x:String)(n:Nat):Value:=vS (sT x) n
noncomputable abbrev qC (n:Nat):Value:=qS "/claim/cut.py" n
noncomputable abbrev cA (x:String)(a:Nat)(l q:Int)(p:Nat)(n:Int)(m:Nat):Obj:=cQ #[qS x a,qS x (a+1),qC (a+2),vI l 0,vI q 0,vI 0 0,vI 0 0,vI 3 0,vR p,vB true,vI 181 0,vR (p+1),vN,vR (p+2),vR (p+3),vR (p+4),vI n 0,vI l 0,qC m]
noncomputable abbrev cB (x:String)(a:Nat)(l q:Int)(p:Nat)(n:Int)(m:Nat):Obj:=cQ #[qS x a,qS x (a+1),qC (a+2),vI l 0,vI q 0,vI 0 0,vI 0 0,vI 3 0,vR p,vB true,vI 181 0,vR (p+1),vN,vN,vN,vR (p+2),vI n 0,vI l 0,qC m]
noncomputable abbrev Bq:=qS "labelways.plans" 483
noncomputable abbrev CN:=qS "labelways.errors" 187
noncomputable abbrev CZ:=qS "labelways.checker" 655
noncomputable abbrev C6:=qS "labelways.labels" 573
noncomputable abbrev F9:=qS "labelways.kinds" 443
noncomputable abbrev Rr:=qS "labelways.webs" 630
noncomputable abbrev qL:=qS "law_labelways_k42_two_webs_by_turns" 742
noncomputable abbrev kE (P:Params)(x:String)(n:Nat):Value->DictEntry:=dE (kH P (sT x)) (qS x n)
noncomputable def Kf:Params->PySem.W.Frag:=fun P=>[
(2,oM vN .none (Data.dict #[]) #[]),
(3,oM (vT "dict") .none (Data.dict #[kE P "__name__" 165 qL,kE P "__doc__" 166 vN,kE P "__package__" 167 vN,kE P "__loader__" 168 (Value.builtin "__main__.__loader__#opaque"),kE P "__spec__" 169 vN,kE P "__annotations__" 170 (vR 6),kE P "__builtins__" 171 (vR 4),kE P "__file__" 173 (qC 172),kE P "__cached__" 174 vN,kE P "WayError" 206 (vR 24),kE P "NoLabels" 233 (vR 44),kE P "NoLeast" 260 (vR 63),kE P "NoPlan" 287 (vR 82),kE P "NoText" 314 (vR 101),kE P "NoOrder" 330 (vR 113),kE P "NoTree" 346 (vR 125),kE P "NoRing" 362 (vR 137),kE P "NoPosts" 378 (vR 149),kE P "NoTie" 394 (vR 161),kE P "NoPart" 410 (vR 173),kE P "NoRow" 426 (vR 185),kE P "TooMany" 442 (vR 197),kE P "is_number" 451 (vR 206),kE P "is_within" 460 (vR 213),kE P "is_tuple_of" 468 (vR 220),kE P "is_rising" 474 (vR 225),kE P "is_place" 482 (vR 232),kE P "MOST_WITHIN" 486 (vI 24 485),kE P "is_plan" 493 (vR 239),kE P "is_plan_within" 499 (vR 244),kE P "are_plan_places" 505 (vR 249),kE P "chain" 513 (vR 256),kE P "chain_or_none" 523 (vR 263),kE P "plan_order" 532 (vR 270),kE P "lets_plan" 540 (vR 277),kE P "refuse_at" 548 (vR 375),kE P "refuse_at_plans" 549 (vR 284),kE P "place_fault" 559 (vR 291),kE P "lacks_fault" 565 (vR 296),kE P "tie_fault" 571 (vR 401),kE P "tie_fault_plans" 572 (vR 301),kE P "is_label" 580 (vR 306),kE P "is_entry" 588 (vR 313),kE P "are_labels" 594 (vR 318),kE P "own_place" 600 (vR 323),kE P "told" 608 (vR 330),kE P "least_sum" 614 (vR 335),kE P "entry_of" 623 (vR 342),kE P "far_entries" 629 (vR 347),kE P "ties_at" 643 (vR 354),kE P "long_of" 654 (vR 361),kE P "lets_labels" 664 (vR 368),kE P "refuse_at_checker" 673 (vR 375),kE P "own_fault" 682 (vR 382),kE P "up_fault" 692 (vR 389),kE P "is_up_right" 704 (vR 396),kE P "tie_fault_checker" 711 (vR 401),kE P "grows_too_much" 720 (vR 408),kE P "down_fault" 730 (vR 415),kE P "is_down_right" 741 (vR 422),kE P "_law_tape" 750 (vR 429),kE P "_law_draw" 762 (vR 436),kE P "_law_web" 768 (vR 441),kE P "_law_added" 776 (vR 448),kE P "_law_lesser" 784 (vR 455),kE P "_law_far" 790 (vR 460),kE P "_law_on" 801 (vR 467),kE P "_law_joined" 812 (vR 474),kE P "_law_nexts" 818 (vR 479),kE P "_law_order" 829 (vR 486),kE P "_law_entry" 839 (vR 493),kE P "_law_labels" 845 (vR 498),kE P "_law_is_number" 854 (vR 505),kE P "_law_is_entry" 862 (vR 512),kE P "_law_is_label" 868 (vR 517),kE P "_law_are_labels" 874 (vR 522),kE P "_law_told" 880 (vR 527),kE P "_law_hung" 886 (vR 532),kE P "_law_tie_fault" 898 (vR 539),kE P "_law_fault" 904 (vR 544),kE P "_law_found" 915 (vR 551),kE P "_law_is_places" 921 (vR 556),kE P "_law_is_plan" 927 (vR 561),kE P "_law_flat" 936 (vR 568),kE P "_law_chain" 942 (vR 573),kE P "_law_beside" 948 (vR 578),kE P "_law_parts" 954 (vR 583),kE P "_law_right_plan" 960 (vR 588),kE P "_law_plan_fault" 974 (vR 595),kE P "_law_plan_found" 985 (vR 602),kE P "_law_near" 999 (vR 609),kE P "_law_asked" 1008 (vR 616),kE P "_law_right" 1019 (vR 623),kE P "law" 1035 (vR 630)] 94) #[]),
(23,oM (vT "dict") .none (Data.dict #[kE P "__module__" 196 CN,kE P "__firstlineno__" 200 (vI 2 199),kE P "__static_attributes__" 201 (vR 22),kE P "__weakref__" 203 (vR 25),kE P "__doc__" 204 vN] 3) #[]),
(24,oM (vT "type") .none (Data.cls (ClassData.mk (sT "WayError") [vT "ValueError"] [vR 24,vT "ValueError",vT "Exception",vT "BaseException",vT "object"] 23 (sT "WayError") true [] [vR 44,vR 63,vR 82,vR 101,vR 113,vR 125,vR 137,vR 149,vR 161,vR 173,vR 185,vR 197] false .none false)) #[.some (vR 15),.none,.some (qS "WayError" 189),.some (qS "WayError" 197),.some (Value.builtin "ValueError.__new__"),.some (vB true)]),
(25,oM (vT "getset_descriptor") .none (Data.fields #[qS "__weakref__" 202,vR 24,Value.builtin "ExceptionGroup.__weakref__",vN]) #[]),
(40,cQ #[qS "__init__" 219,qS "NoLabels.__init__" 220,qC 221,vI 6 0,vI 3 0,vI 0 0,vI 0 0,vI 3 0,vR 35,vB true,vI 181 0,vR 36,vN,vR 37,vR 38,vR 39,vI 225 0,vI 6 0,qC 226]),
(41,fQ (.mk (sT "__init__") (sT "NoLabels.__init__") (L2.defArgs (mth 2 0)) (FuncBody.stmts (L2.defBody (mth 2 0))) (L2.defScope (mth 2 0)) 3 [] vN vN vN CN .none (vR 40) vN 0)),
(43,oM (vT "dict") .none (Data.dict #[kE P "__module__" 214 CN,kE P "__firstlineno__" 218 (vI 4 217),kE P "__init__" 227 (vR 41),kE P "__static_attributes__" 230 (vR 42),kE P "__doc__" 231 vN] 2) #[]),
(44,oM (vT "type") .none (Data.cls (ClassData.mk (sT "NoLabels") [vR 24] [vR 44,vR 24,vT "ValueError",vT "Exception",vT "BaseException",vT "object"] 43 (sT "NoLabels") true [] [] false .none false)) #[.some (vR 28),.none,.some (qS "NoLabels" 207),.some (qS "NoLabels" 215),.some (Value.builtin "ValueError.__new__"),.some (vB true)]),
(59,cQ #[qS "__init__" 246,qS "NoLeast.__init__" 247,qC 248,vI 11 0,vI 3 0,vI 0 0,vI 0 0,vI 3 0,vR 54,vB true,vI 181 0,vR 55,vN,vR 56,vR 57,vR 58,vI 252 0,vI 11 0,qC 253]),
(60,fQ (.mk (sT "__init__") (sT "NoLeast.__init__") (Arguments.mk [] [Arg.mk (sT "self") .none (Pos.mk 11 17 11 21),Arg.mk (sT "word") .none (Pos.mk 11 23 11 27),Arg.mk (sT "at") .none (Pos.mk 11 29 11 31)] .none [] [] .none []) (FuncBody.stmts [Stmt.Assign [Expr.Attribute (Expr.Name (sT "self") (Pos.mk 12 8 12 12)) (sT "word") (Pos.mk 12 8 12 17)] (Expr.Name (sT "word") (Pos.mk 12 20 12 24)) (Pos.mk 12 8 12 24),Stmt.Assign [Expr.Attribute (Expr.Name (sT "self") (Pos.mk 13 8 13 12)) (sT "at") (Pos.mk 13 8 13 15)] (Expr.Name (sT "at") (Pos.mk 13 18 13 20)) (Pos.mk 13 8 13 20)]) (Scope.mk ScopeKind.function [(sT "self",NameKind.local),(sT "word",NameKind.local),(sT "at",NameKind.local)] false false []) 3 [] vN vN vN CN .none (vR 59) vN 0)),
(62,oM (vT "dict") .none (Data.dict #[kE P "__module__" 241 CN,kE P "__firstlineno__" 245 (vI 9 244),kE P "__init__" 254 (vR 60),kE P "__static_attributes__" 257 (vR 61),kE P "__doc__" 258 vN] 2) #[]),
(63,oM (vT "type") .none (Data.cls (ClassData.mk (sT "NoLeast") [vR 24] [vR 63,vR 24,vT "ValueError",vT "Exception",vT "BaseException",vT "object"] 62 (sT "NoLeast") true [] [] false .none false)) #[.some (vR 47),.none,.some (qS "NoLeast" 234),.some (qS "NoLeast" 242),.some (Value.builtin "ValueError.__new__"),.some (vB true)]),
(78,cQ #[qS "__init__" 273,qS "NoPlan.__init__" 274,qC 275,vI 16 0,vI 3 0,vI 0 0,vI 0 0,vI 3 0,vR 73,vB true,vI 181 0,vR 74,vN,vR 75,vR 76,vR 77,vI 279 0,vI 16 0,qC 280]),
(79,fQ (.mk (sT "__init__") (sT "NoPlan.__init__") (L2.defArgs (mth 4 0)) (FuncBody.stmts (L2.defBody (mth 4 0))) (L2.defScope (mth 4 0)) 3 [] vN vN vN CN .none (vR 78) vN 0)),
(81,oM (vT "dict") .none (Data.dict #[kE P "__module__" 268 CN,kE P "__firstlineno__" 272 (vI 14 271),kE P "__init__" 281 (vR 79),kE P "__static_attributes__" 284 (vR 80),kE P "__doc__" 285 vN] 2) #[]),
(82,oM (vT "type") .none (Data.cls (ClassData.mk (sT "NoPlan") [vR 24] [vR 82,vR 24,vT "ValueError",vT "Exception",vT "BaseException",vT "object"] 81 (sT "NoPlan") true [] [] false .none false)) #[.some (vR 66),.none,.some (qS "NoPlan" 261),.some (qS "NoPlan" 269),.some (Value.builtin "ValueError.__new__"),.some (vB true)]),
(97,cQ #[qS "__init__" 300,qS "NoText.__init__" 301,qC 302,vI 21 0,vI 3 0,vI 0 0,vI 0 0,vI 3 0,vR 92,vB true,vI 181 0,vR 93,vN,vR 94,vR 95,vR 96,vI 306 0,vI 21 0,qC 307]),
(98,fQ (.mk (sT "__init__") (sT "NoText.__init__") (Arguments.mk [] [Arg.mk (sT "self") .none (Pos.mk 21 17 21 21),Arg.mk (sT "line") .none (Pos.mk 21 23 21 27),Arg.mk (sT "word") .none (Pos.mk 21 29 21 33)] .none [] [] .none []) (FuncBody.stmts [Stmt.Assign [Expr.Attribute (Expr.Name (sT "self") (Pos.mk 22 8 22 12)) (sT "line") (Pos.mk 22 8 22 17)] (Expr.Name (sT "line") (Pos.mk 22 20 22 24)) (Pos.mk 22 8 22 24),Stmt.Assign [Expr.Attribute (Expr.Name (sT "self") (Pos.mk 23 8 23 12)) (sT "word") (Pos.mk 23 8 23 17)] (Expr.Name (sT "word") (Pos.mk 23 20 23 24)) (Pos.mk 23 8 23 24)]) (Scope.mk ScopeKind.function [(sT "self",NameKind.local),(sT "line",NameKind.local),(sT "word",NameKind.local)] false false []) 3 [] vN vN vN CN .none (vR 97) vN 0)),
(100,oM (vT "dict") .none (Data.dict #[kE P "__module__" 295 CN,kE P "__firstlineno__" 299 (vI 19 298),kE P "__init__" 308 (vR 98),kE P "__static_attributes__" 311 (vR 99),kE P "__doc__" 312 vN] 2) #[]),
(101,oM (vT "type") .none (Data.cls (ClassData.mk (sT "NoText") [vR 24] [vR 101,vR 24,vT "ValueError",vT "Exception",vT "BaseException",vT "object"] 100 (sT "NoText") true [] [] false .none false)) #[.some (vR 85),.none,.some (qS "NoText" 288),.some (qS "NoText" 296),.some (Value.builtin "ValueError.__new__"),.some (vB true)]),
(112,oM (vT "dict") .none (Data.dict #[kE P "__module__" 322 CN,kE P "__firstlineno__" 326 (vI 24 325),kE P "__static_attributes__" 327 (vR 111),kE P "__doc__" 328 vN] 2) #[]),
(113,oM (vT "type") .none (Data.cls (ClassData.mk (sT "NoOrder") [vR 24] [vR 113,vR 24,vT "ValueError",vT "Exception",vT "BaseException",vT "object"] 112 (sT "NoOrder") true [] [] false .none false)) #[.some (vR 104),.none,.some (qS "NoOrder" 315),.some (qS "NoOrder" 323),.some (Value.builtin "ValueError.__new__"),.some (vB true)]),
(124,oM (vT "dict") .none (Data.dict #[kE P "__module__" 338 CN,kE P "__firstlineno__" 342 (vI 26 341),kE P "__static_attributes__" 343 (vR 123),kE P "__doc__" 344 vN] 2) #[]),
(125,oM (vT "type") .none (Data.cls (ClassData.mk (sT "NoTree") [vR 24] [vR 125,vR 24,vT "ValueError",vT "Exception",vT "BaseException",vT "object"] 124 (sT "NoTree") true [] [] false .none false)) #[.some (vR 116),.none,.some (qS "NoTree" 331),.some (qS "NoTree" 339),.some (Value.builtin "ValueError.__new__"),.some (vB true)]),
(136,oM (vT "dict") .none (Data.dict #[kE P "__module__" 354 CN,kE P "__firstlineno__" 358 (vI 28 357),kE P "__static_attributes__" 359 (vR 135),kE P "__doc__" 360 vN] 2) #[]),
(137,oM (vT "type") .none (Data.cls (ClassData.mk (sT "NoRing") [vR 24] [vR 137,vR 24,vT "ValueError",vT "Exception",vT "BaseException",vT "object"] 136 (sT "NoRing") true [] [] false .none false)) #[.some (vR 128),.none,.some (qS "NoRing" 347),.some (qS "NoRing" 355),.some (Value.builtin "ValueError.__new__"),.some (vB true)]),
(148,oM (vT "dict") .none (Data.dict #[kE P "__module__" 370 CN,kE P "__firstlineno__" 374 (vI 30 373),kE P "__static_attributes__" 375 (vR 147),kE P "__doc__" 376 vN] 2) #[]),
(149,oM (vT "type") .none (Data.cls (ClassData.mk (sT "NoPosts") [vR 24] [vR 149,vR 24,vT "ValueError",vT "Exception",vT "BaseException",vT "object"] 148 (sT "NoPosts") true [] [] false .none false)) #[.some (vR 140),.none,.some (qS "NoPosts" 363),.some (qS "NoPosts" 371),.some (Value.builtin "ValueError.__new__"),.some (vB true)]),
(160,oM (vT "dict") .none (Data.dict #[kE P "__module__" 386 CN,kE P "__firstlineno__" 390 (vI 32 389),kE P "__static_attributes__" 391 (vR 159),kE P "__doc__" 392 vN] 2) #[]),
(161,oM (vT "type") .none (Data.cls (ClassData.mk (sT "NoTie") [vR 24] [vR 161,vR 24,vT "ValueError",vT "Exception",vT "BaseException",vT "object"] 160 (sT "NoTie") true [] [] false .none false)) #[.some (vR 152),.none,.some (qS "NoTie" 379),.some (qS "NoTie" 387),.some (Value.builtin "ValueError.__new__"),.some (vB true)]),
(172,oM (vT "dict") .none (Data.dict #[kE P "__module__" 402 CN,kE P "__firstlineno__" 406 (vI 34 405),kE P "__static_attributes__" 407 (vR 171),kE P "__doc__" 408 vN] 2) #[]),
(173,oM (vT "type") .none (Data.cls (ClassData.mk (sT "NoPart") [vR 24] [vR 173,vR 24,vT "ValueError",vT "Exception",vT "BaseException",vT "object"] 172 (sT "NoPart") true [] [] false .none false)) #[.some (vR 164),.none,.some (qS "NoPart" 395),.some (qS "NoPart" 403),.some (Value.builtin "ValueError.__new__"),.some (vB true)]),
(184,oM (vT "dict") .none (Data.dict #[kE P "__module__" 418 CN,kE P "__firstlineno__" 422 (vI 36 421),kE P "__static_attributes__" 423 (vR 183),kE P "__doc__" 424 vN] 2) #[]),
(185,oM (vT "type") .none (Data.cls (ClassData.mk (sT "NoRow") [vR 24] [vR 185,vR 24,vT "ValueError",vT "Exception",vT "BaseException",vT "object"] 184 (sT "NoRow") true [] [] false .none false)) #[.some (vR 176),.none,.some (qS "NoRow" 411),.some (qS "NoRow" 419),.some (Value.builtin "ValueError.__new__"),.some (vB true)]),
(196,oM (vT "dict") .none (Data.dict #[kE P "__module__" 434 CN,kE P "__firstlineno__" 438 (vI 38 437),kE P "__static_attributes__" 439 (vR 195),kE P "__doc__" 440 vN] 2) #[]),
(197,oM (vT "type") .none (Data.cls (ClassData.mk (sT "TooMany") [vR 24] [vR 197,vR 24,vT "ValueError",vT "Exception",vT "BaseException",vT "object"] 196 (sT "TooMany") true [] [] false .none false)) #[.some (vR 188),.none,.some (qS "TooMany" 427),.some (qS "TooMany" 435),.some (Value.builtin "ValueError.__new__"),.some (vB true)]),
(205,cA "is_number" 445 41 1 200 449 450),
(206,fQ (.mk (sT "is_number") (sT "is_number") (L2.defArgs (top 15)) (FuncBody.stmts (L2.defBody (top 15))) (L2.defScope (top 15)) 3 [] vN vN vN F9 .none (vR 205) vN 0)),
(212,cA "is_within" 452 43 3 207 458 459),
(213,fQ (.mk (sT "is_within") (sT "is_within") (L2.defArgs (top 16)) (FuncBody.stmts (L2.defBody (top 16))) (L2.defScope (top 16)) 3 [] vN vN vN F9 .none (vR 212) vN 0)),
(219,cA "is_tuple_of" 461 45 2 214 466 467),
(220,fQ (.mk (sT "is_tuple_of") (sT "is_tuple_of") (L2.defArgs (top 17)) (FuncBody.stmts (L2.defBody (top 17))) (L2.defScope (top 17)) 3 [] vN vN vN F9 .none (vR 219) vN 0)),
(224,cB "is_rising" 469 47 1 221 472 473),
(225,fQ (.mk (sT "is_rising") (sT "is_rising") (L2.defArgs (top 18)) (FuncBody.stmts (L2.defBody (top 18))) (L2.defScope (top 18)) 3 [] vN vN vN F9 .none (vR 224) vN 0)),
(231,cA "is_place" 475 49 2 226 480 481),
(232,fQ (.mk (sT "is_place") (sT "is_place") (L2.defArgs (top 19)) (FuncBody.stmts (L2.defBody (top 19))) (L2.defScope (top 19)) 3 [] vN vN vN F9 .none (vR 231) vN 0)),
(238,cA "is_plan" 487 53 1 233 491 492),
(239,fQ (.mk (sT "is_plan") (sT "is_plan") (L2.defArgs (top 22)) (FuncBody.stmts (L2.defBody (top 22))) (L2.defScope (top 22)) 3 [] vN vN vN Bq .none (vR 238) vN 0)),
(243,cB "is_plan_within" 494 55 2 240 497 498),
(244,fQ (.mk (sT "is_plan_within") (sT "is_plan_within") (L2.defArgs (top 23)) (FuncBody.stmts (L2.defBody (top 23))) (L2.defScope (top 23)) 3 [] vN vN vN Bq .none (vR 243) vN 0)),
(248,cB "are_plan_places" 500 59 1 245 503 504),
(249,fQ (.mk (sT "are_plan_places") (sT "are_plan_places") (L2.defArgs (top 24)) (FuncBody.stmts (L2.defBody (top 24))) (L2.defScope (top 24)) 3 [] vN vN vN Bq .none (vR 248) vN 0)),
(255,cA "chain" 506 63 2 250 511 512),
(256,fQ (.mk (sT "chain") (sT "chain") (L2.defArgs (top 25)) (FuncBody.stmts (L2.defBody (top 25))) (L2.defScope (top 25)) 3 [] vN vN vN Bq .none (vR 255) vN 0)),
(262,cA "chain_or_none" 514 65 2 257 521 522),
(263,fQ (.mk (sT "chain_or_none") (sT "chain_or_none") (L2.defArgs (top 26)) (FuncBody.stmts (L2.defBody (top 26))) (L2.defScope (top 26)) 3 [] vN vN vN Bq .none (vR 262) vN 0)),
(269,cA "plan_order" 524 73 1 264 530 531),
(270,fQ (.mk (sT "plan_order") (sT "plan_order") (L2.defArgs (top 27)) (FuncBody.stmts (L2.defBody (top 27))) (L2.defScope (top 27)) 3 [] vN vN vN Bq .none (vR 269) vN 0)),
(276,cA "lets_plan" 533 78 2 271 538 539),
(277,fQ (.mk (sT "lets_plan") (sT "lets_plan") (L2.defArgs (top 28)) (FuncBody.stmts (L2.defBody (top 28))) (L2.defScope (top 28)) 3 [] vN vN vN Bq .none (vR 276) vN 0)),
(283,cA "refuse_at" 541 85 2 278 546 547),
(284,fQ (.mk (sT "refuse_at") (sT "refuse_at") (L2.defArgs (top 29)) (FuncBody.stmts (L2.defBody (top 29))) (L2.defScope (top 29)) 3 [] vN vN vN Bq .none (vR 283) vN 0)),
(290,cA "place_fault" 550 89 2 285 557 558),
(291,fQ (.mk (sT "place_fault") (sT "place_fault") (L2.defArgs (top 31)) (FuncBody.stmts (L2.defBody (top 31))) (L2.defScope (top 31)) 3 [] vN vN vN Bq .none (vR 290) vN 0)),
(295,cB "lacks_fault" 560 96 2 292 563 564),
(296,fQ (.mk (sT "lacks_fault") (sT "lacks_fault") (L2.defArgs (top 32)) (FuncBody.stmts (L2.defBody (top 32))) (L2.defScope (top 32)) 3 [] vN vN vN Bq .none (vR 295) vN 0)),
(300,cB "tie_fault" 566 99 2 297 569 570),
(301,fQ (.mk (sT "tie_fault") (sT "tie_fault") (L2.defArgs (top 33)) (FuncBody.stmts (L2.defBody (top 33))) (L2.defScope (top 33)) 3 [] vN vN vN Bq .none (vR 300) vN 0)),
(305,cB "is_label" 575 107 2 302 578 579),
(306,fQ (.mk (sT "is_label") (sT "is_label") (L2.defArgs (top 36)) (FuncBody.stmts (L2.defBody (top 36))) (L2.defScope (top 36)) 3 [] vN vN vN C6 .none (vR 305) vN 0)),
(312,cA "is_entry" 581 114 2 307 586 587),
(313,fQ (.mk (sT "is_entry") (sT "is_entry") (L2.defArgs (top 37)) (FuncBody.stmts (L2.defBody (top 37))) (L2.defScope (top 37)) 3 [] vN vN vN C6 .none (vR 312) vN 0)),
(317,cB "are_labels" 589 122 2 314 592 593),
(318,fQ (.mk (sT "are_labels") (sT "are_labels") (L2.defArgs (top 38)) (FuncBody.stmts (L2.defBody (top 38))) (L2.defScope (top 38)) 3 [] vN vN vN C6 .none (vR 317) vN 0)),
(322,cB "own_place" 595 124 1 319 598 599),
(323,fQ (.mk (sT "own_place") (sT "own_place") (L2.defArgs (top 39)) (FuncBody.stmts (L2.defBody (top 39))) (L2.defScope (top 39)) 3 [] vN vN vN C6 .none (vR 322) vN 0)),
(329,cA "told" 601 126 2 324 606 607),
(330,fQ (.mk (sT "told") (sT "told") (L2.defArgs (top 40)) (FuncBody.stmts (L2.defBody (top 40))) (L2.defScope (top 40)) 3 [] vN vN vN C6 .none (vR 329) vN 0)),
(334,cB "least_sum" 609 128 2 331 612 613),
(335,fQ (.mk (sT "least_sum") (sT "least_sum") (L2.defArgs (top 41)) (FuncBody.stmts (L2.defBody (top 41))) (L2.defScope (top 41)) 3 [] vN vN vN C6 .none (vR 334) vN 0)),
(341,cA "entry_of" 615 132 2 336 621 622),
(342,fQ (.mk (sT "entry_of") (sT "entry_of") (L2.defArgs (top 42)) (FuncBody.stmts (L2.defBody (top 42))) (L2.defScope (top 42)) 3 [] vN vN vN C6 .none (vR 341) vN 0)),
(346,cB "far_entries" 624 137 1 343 627 628),
(347,fQ (.mk (sT "far_entries") (sT "far_entries") (L2.defArgs (top 43)) (FuncBody.stmts (L2.defBody (top 43))) (L2.defScope (top 43)) 3 [] vN vN vN C6 .none (vR 346) vN 0)),
(353,cA "ties_at" 632 143 2 348 641 642),
(354,fQ (.mk (sT "ties_at") (sT "ties_at") (L2.defArgs (top 45)) (FuncBody.stmts (L2.defBody (top 45))) (L2.defScope (top 45)) 3 [] vN vN vN Rr .none (vR 353) vN 0)),
(360,cA "long_of" 644 151 3 355 652 653),
(361,fQ (.mk (sT "long_of") (sT "long_of") (L2.defArgs (top 46)) (FuncBody.stmts (L2.defBody (top 46))) (L2.defScope (top 46)) 3 [] vN vN vN Rr .none (vR 360) vN 0)),
(367,cA "lets_labels" 657 157 2 362 662 663),
(368,fQ (.mk (sT "lets_labels") (sT "lets_labels") (L2.defArgs (top 48)) (FuncBody.stmts (L2.defBody (top 48))) (L2.defScope (top 48)) 3 [] vN vN vN CZ .none (vR 367) vN 0)),
(374,cA "refuse_at" 665 165 2 369 670 671),
(375,fQ (.mk (sT "refuse_at") (sT "refuse_at") (L2.defArgs (top 49)) (FuncBody.stmts (L2.defBody (top 49))) (L2.defScope (top 49)) 3 [] vN vN vN CZ .none (vR 374) vN 0)),
(381,cA "own_fault" 674 169 1 376 680 681),
(382,fQ (.mk (sT "own_fault") (sT "own_fault") (L2.defArgs (top 51)) (FuncBody.stmts (L2.defBody (top 51))) (L2.defScope (top 51)) 3 [] vN vN vN CZ .none (vR 381) vN 0)),
(388,cA "up_fault" 683 174 2 383 690 691),
(389,fQ (.mk (sT "up_fault") (sT "up_fault") (L2.defArgs (top 52)) (FuncBody.stmts (L2.defBody (top 52))) (L2.defScope (top 52)) 3 [] vN vN vN CZ .none (vR 388) vN 0)),
(395,cA "is_up_right" 693 179 4 390 702 703),
(396,fQ (.mk (sT "is_up_right") (sT "is_up_right") (L2.defArgs (top 53)) (FuncBody.stmts (L2.defBody (top 53))) (L2.defScope (top 53)) 3 [] vN vN vN CZ .none (vR 395) vN 0)),
(400,cB "tie_fault" 705 183 2 397 708 709),
(401,fQ (.mk (sT "tie_fault") (sT "tie_fault") (L2.defArgs (top 54)) (FuncBody.stmts (L2.defBody (top 54))) (L2.defScope (top 54)) 3 [] vN vN vN CZ .none (vR 400) vN 0)),
(407,cA "grows_too_much" 712 192 3 402 718 719),
(408,fQ (.mk (sT "grows_too_much") (sT "grows_too_much") (L2.defArgs (top 56)) (FuncBody.stmts (L2.defBody (top 56))) (L2.defScope (top 56)) 3 [] vN vN vN CZ .none (vR 407) vN 0)),
(414,cA "down_fault" 721 196 2 409 728 729),
(415,fQ (.mk (sT "down_fault") (sT "down_fault") (L2.defArgs (top 57)) (FuncBody.stmts (L2.defBody (top 57))) (L2.defScope (top 57)) 3 [] vN vN vN CZ .none (vR 414) vN 0)),
(421,cA "is_down_right" 731 201 4 416 739 740),
(422,fQ (.mk (sT "is_down_right") (sT "is_down_right") (L2.defArgs (top 58)) (FuncBody.stmts (L2.defBody (top 58))) (L2.defScope (top 58)) 3 [] vN vN vN CZ .none (vR 421) vN 0)),
(428,cA "_law_tape" 744 205 1 423 748 749),
(429,fT "_law_tape" 60 qL 428),
(435,cA "_law_draw" 751 207 2 430 760 761),
(436,fT "_law_draw" 61 qL 435),
(440,cB "_law_web" 763 220 2 437 766 767),
(441,fT "_law_web" 62 qL 440),
(447,cA "_law_added" 769 232 2 442 774 775),
(448,fT "_law_added" 63 qL 447),
(454,cA "_law_lesser" 777 234 2 449 782 783),
(455,fT "_law_lesser" 64 qL 454),
(459,cB "_law_far" 785 238 1 456 788 789),
(460,fT "_law_far" 65 qL 459),
(466,cA "_law_on" 791 250 4 461 799 800),
(467,fT "_law_on" 66 qL 466),
(473,cA "_law_joined" 802 253 1 468 810 811),
(474,fT "_law_joined" 67 qL 473),
(478,cB "_law_nexts" 813 259 4 475 816 817),
(479,fT "_law_nexts" 68 qL 478),
(485,cA "_law_order" 819 266 2 480 827 828),
(486,fT "_law_order" 69 qL 485),
(492,cA "_law_entry" 830 272 4 487 837 838),
(493,fT "_law_entry" 70 qL 492),
(497,cB "_law_labels" 840 276 2 494 843 844),
(498,fT "_law_labels" 71 qL 497),
(504,cA "_law_is_number" 846 287 3 499 852 853),
(505,fT "_law_is_number" 72 qL 504),
(511,cA "_law_is_entry" 855 289 2 506 860 861),
(512,fT "_law_is_entry" 73 qL 511),
(516,cB "_law_is_label" 863 297 2 513 866 867),
(517,fT "_law_is_label" 74 qL 516),
(521,cB "_law_are_labels" 869 302 2 518 872 873),
(522,fT "_law_are_labels" 75 qL 521),
(526,cB "_law_told" 875 304 2 523 878 879),
(527,fT "_law_told" 76 qL 526),
(531,cB "_law_hung" 881 308 1 528 884 885),
(532,fT "_law_hung" 77 qL 531),
(538,cA "_law_tie_fault" 887 313 3 533 896 897),
(539,fT "_law_tie_fault" 78 qL 538),
(543,cB "_law_fault" 899 321 2 540 902 903),
(544,fT "_law_fault" 79 qL 543),
(550,cA "_law_found" 905 341 2 545 913 914),
(551,fT "_law_found" 80 qL 550),
(555,cB "_law_is_places" 916 352 1 552 919 920),
(556,fT "_law_is_places" 81 qL 555),
(560,cB "_law_is_plan" 922 358 2 557 925 926),
(561,fT "_law_is_plan" 82 qL 560),
(567,cA "_law_flat" 928 362 1 562 934 935),
(568,fT "_law_flat" 83 qL 567),
(572,cB "_law_chain" 937 367 2 569 940 941),
(573,fT "_law_chain" 84 qL 572),
(577,cB "_law_beside" 943 375 1 574 946 947),
(578,fT "_law_beside" 85 qL 577),
(582,cB "_law_parts" 949 381 2 579 952 953),
(583,fT "_law_parts" 86 qL 582),
(587,cB "_law_right_plan" 955 393 3 584 958 959),
(588,fT "_law_right_plan" 87 qL 587),
(594,cA "_law_plan_fault" 961 404 2 589 972 973),
(595,fT "_law_plan_fault" 88 qL 594),
(601,cA "_law_plan_found" 975 418 2 596 983 984),
(602,fT "_law_plan_found" 89 qL 601),
(608,cA "_law_near" 986 429 2 603 997 998),
(609,fT "_law_near" 90 qL 608),
(615,cA "_law_asked" 1000 438 2 610 1006 1007),
(616,fT "_law_asked" 91 qL 615),
(622,cA "_law_right" 1009 441 3 617 1017 1018),
(623,fT "_law_right" 92 qL 622),
(629,cA "law" 1020 445 1 624 1033 1034),
(630,fT "law" 93 qL 629)]
noncomputable def Ka:List Addr:=[2,3,23,24,25,40,41,43,44,59,60,62,63,78,79,81,82,97,98,100,101,112,113,124,125,136,137,148,149,160,161,172,173,184,185,196,197,205,206,212,213,219,220,224,225,231,232,238,239,243,244,248,249,255,256,262,263,269,270,276,277,283,284,290,291,295,296,300,301,305,306,312,313,317,318,322,323,329,330,334,335,341,342,346,347,353,354,360,361,367,368,374,375,381,382,388,389,395,396,400,401,407,408,414,415,421,422,428,429,435,436,440,441,447,448,454,455,459,460,466,467,473,474,478,479,485,486,492,493,497,498,504,505,511,512,516,517,521,522,526,527,531,532,538,539,543,544,550,551,555,556,560,561,567,568,572,573,577,578,582,583,587,588,594,595,601,602,608,609,615,616,622,623,629,630]
noncomputable abbrev pw:Program:=PySem.Challenge.pw_labelways_k42_two_webs_by_turns
noncomputable def Vp:Program:={ pw with main:={ pw.main with body:=[top 1,top 2,top 3,top 4,top 5,top 6,top 7,top 8,top 9,top 10,top 11,top 12,top 13,top 15,top 16,top 17,top 18,top 19,top 21,top 22,top 23,top 24,top 25,top 26,top 27,top 28,top 30,top 31,top 32,top 34,top 36,top 37,top 38,top 39,top 40,top 41,top 42,top 43,top 45,top 46,top 48,top 49,top 50,top 51,top 52,top 53,top 54,top 55,top 56,top 57,top 58,top 60,top 61,top 62,top 63,top 64,top 65,top 66,top 67,top 68,top 69,top 70,top 71,top 72,top 73,top 74,top 75,top 76,top 77,top 78,top 79,top 80,top 81,top 82,top 83,top 84,top 85,top 86,top 87,top 88,top 89,top 90,top 91,top 92,top 93] } }
noncomputable abbrev RR:PySem.W.RowW:=PySem.W.OpenRow.toRowW (PySem.Challenge.rw_labelways_k42_two_webs_by_turns).row
noncomputable abbrev LZ:List Str:=["refuse_at_plans", "tie_fault_plans", "refuse_at_checker", "tie_fault_checker"]
theorem Ke:∀P,Ka=(Kf P).map (·.1):=fun P=>by kernel_rfl
abbrev HK:PySem.W.Hook:=PySem.W.kHook Kf Ka Ke
theorem fin_ {A B C D E F G I J:Type}{α β γ:Type}{o:Option α}{T:α->A×B×C×D×E×F×G×I×J}{c:α->β}{h:α->γ}{a b d e f g i j k y z}(p:o.map (fun s=>((T s).1,(T s).2.1))=some (a,b))(q:o.map (fun s=>((T s).2.2.1,(T s).2.2.2.1))=some (d,e))(r:o.map (fun s=>((T s).2.2.2.2.1,(T s).2.2.2.2.2.2.2))=some (f,(j,k)))(u:o.map (fun s=>((T s).2.2.2.2.2.1,(T s).2.2.2.2.2.2.1))=some (g,i))(v:o.map (fun s=>(c s,h s))=some (y,z)):o.map (fun s=>(c s,T s,h s))=some (y,(a,b,d,e,f,g,i,j,k),z):=by
 cases o with
 | none=>cases p
 | some s=>
  have e2:(T s).2.2.2.2.2.2.2=(j,k):=congrArg Prod.snd (Option.some.inj r)
  cases p;cases q;cases u;cases v
  have e1:(T s).2.2.2.2.1=f:=congrArg Prod.fst (Option.some.inj r)
  rw [← e1,← e2];rfl
section
open PySem PySem.W PyProof.Rows
abbrev TT_ (s:SharedT):=Fast.tw4187177175401517315 Vp LZ (importedModules pw.main.body) (fun s=>xlAt Vp [] s && recOk (RowW.records RR) s) true s.abs
theorem l1_ (w:World)(os:OsState):(L2.U5 pw 10188 w os).map (fun s=>((TT_ s).1,(TT_ s).2.1))=some (expectedOf Vp,bltViewBooted):=by kernel_rfl
theorem l2_ (w:World)(os:OsState):(L2.U5 pw 10188 w os).map (fun s=>((TT_ s).2.2.1,(TT_ s).2.2.2.1))=some (true,true):=by kernel_rfl
theorem l3_ (w:World)(os:OsState):(L2.U5 pw 10188 w os).map (fun s=>((TT_ s).2.2.2.2.1,(TT_ s).2.2.2.2.2.2.2))=some (pinGoodD (drecsOf Vp),(wideGood Vp,clsGoodW Vp LZ)):=by kernel_rfl
theorem l4_ (w:World)(os:OsState):(L2.U5 pw 10188 w os).map (fun s=>((TT_ s).2.2.2.2.2.1,(TT_ s).2.2.2.2.2.2.1))=some (plainGoodE Vp (looseW Vp LZ),plainGoodD Vp LZ):=by kernel_rfl
theorem l5_ (w:World)(os:OsState):(L2.U5 pw 10188 w os).map (fun s=>(L2.Po pw (boot_heap w.params) s.abs.heap s.abs,Hook.obs HK s.abs))=some (true,Hook.val HK w):=by kernel_rfl
end
theorem left:PySem.W.LeftO pw Vp LZ (fun s=>PySem.W.xlAt Vp [] s && PySem.W.recOk (PySem.W.RowW.records RR) s) (PySem.W.Hook.obs HK) (PySem.W.Hook.val HK) 10188:=L2.left_of (by kernel_rfl) (by decide) (fun _=>rfl) fun w os=>fin_ (l1_ w os) (l2_ w os) (l3_ w os) (l4_ w os) (l5_ w os)
theorem wS:PySem.Challenge.rw_labelways_k42_two_webs_by_turns.wellSaid=true:=by decide +kernel
end K42
abbrev B8:=PySem.Value->PySem.Shared->Prop
abbrev B6:=List (PySem.Addr×PySem.Obj)
abbrev DT:=List (List (Option Int))
abbrev By:=PySem.Str->Option PySem.Value
abbrev AK:=PySem.W.Frag
namespace L2
open PySem PySem.Spec PyProof.Rows
abbrev AQ:=Sum Int Str
noncomputable def Mc:AQ->Value->Bool
 | .inl k,v=>Value.isInt k v
 | .inr x,v=>Value.isStrOf x v
noncomputable def Uz (w:World):AQ->Int
 | .inl k=>hashInt k
 | .inr x=>hashStr w x
theorem Gk:∀{k:AQ}{v:Value},Mc k v=true->(∃i t,k=Sum.inl i/\v=Value.int i t)\/(∃x t,k=Sum.inr x/\v=Value.str x t)
 | .inl i,v,h=>by obtain⟨t,e⟩:=Value.isInt_shape (k:=i) (v:=v) h;exact .inl {i,t,0,e}
 | .inr x,v,h=>by obtain⟨t,e⟩:=Value.isStrOf_shape (x:=x) (v:=v) h;exact .inr {x,t,0,e}
theorem au (i)(t:Tok):Mc (.inl i) (.int i t)=true:=by simp[Mc,Value.isInt]
theorem b8 (x)(t:Tok):Mc (.inr x) (.str x t)=true:=by simp[Mc,Value.isStrOf]
theorem Ma (a b):decide ((Sum.inl a:AQ)=Sum.inl b)=(a==b):=by
 by_cases e:a=b
 . subst e;simp
 . have h:¬ (Sum.inl a:AQ)=Sum.inl b:=fun q=>e (Sum.inl.inj q);rw[zS h];exact (beq_eq_false_iff_ne.mpr e).symm
theorem Lo (a b):decide ((Sum.inr a:AQ)=Sum.inr b)=decide (a=b):=by
 by_cases e:a=b
 . subst e;simp
 . have h:¬ (Sum.inr a:AQ)=Sum.inr b:=fun q=>e (Sum.inr.inj q);rw[zS h,zS e]
theorem Kt (a)(b):decide ((Sum.inl a:AQ)=Sum.inr b)=false:=zS (fun q=>nomatch q)
theorem KW (a)(b):decide ((Sum.inr a:AQ)=Sum.inl b)=false:=zS (fun q=>nomatch q)
noncomputable def BL (prog:Program)(w:World):PySem.KeyKind prog w AQ where
 is:=Mc
 hash:=Uz w
 inj:=fun v a b ha hb=>by
  rcases Gk ha with ⟨i,t,rfl,rfl⟩ | ⟨x,t,rfl,rfl⟩
  . rcases Gk hb with ⟨j,u,rfl,e⟩ | ⟨y,u,rfl,e⟩
    . injection e with e1 _;rw[e1]
    . exact nomatch e
  . rcases Gk hb with ⟨j,u,rfl,e⟩ | ⟨y,u,rfl,e⟩
    . exact nomatch e
    . injection e with e1 _;rw[e1]
 byValue:=fun k v h=>by rcases Gk h with ⟨i,t,rfl,rfl⟩ | ⟨x,t,rfl,rfl⟩ <;> rfl
 pyHash:=fun hv h=>by
  rcases Gk hv with ⟨i,t,rfl,rfl⟩ | ⟨x,t,rfl,rfl⟩
  . exact wpAny_pyHash_int h
  . exact wpAny_pyHash_str h
 eqBool:=fun hu hv h=>by
  rcases Gk hu with ⟨i,t,rfl,rfl⟩ | ⟨x,t,rfl,rfl⟩
  . rcases Gk hv with ⟨j,u,rfl,rfl⟩ | ⟨y,u,rfl,rfl⟩
    . rw[Ma] at h;exact wpAny_eqBool_int h
    . rw[Kt] at h;exact SeqAt.EqAt.int_str i t y u _ _ _ _ h
  . rcases Gk hv with ⟨j,u,rfl,rfl⟩ | ⟨y,u,rfl,rfl⟩
    . rw[KW] at h;exact SeqAt.EqAt.str_int x t j u _ _ _ _ h
    . rw[Lo] at h;exact wpAny_eqBool_str h
 «strs» := fun k x t v h=>by
  rcases Gk h with ⟨i,u,rfl,e⟩ | ⟨y,u,rfl,e⟩
  . exact nomatch e
  . injection e with e1 _;subst e1;cases v <;> rfl
theorem aw (prog)(w)(i)(t:Tok):(BL prog w).is (.inl i) (.int i t)=true:=au i t
theorem ZV (prog)(w)(x)(t:Tok):(BL prog w).is (.inr x) (.str x t)=true:=b8 x t
inductive V where
 | non | bl (b:Bool) | int (i:Int) | str (x:Str) | byt (b:Array UInt8) | flt (b:UInt64) | ref (a:Addr) | ty (n:String)
 deriving DecidableEq
def AS:V->Value->Prop
 | .non,u=>u=Value.none
 | .bl b,u=>u=Value.bool b
 | .int i,u=>∃t,u=Value.int i t
 | .str x,u=>∃t,u=Value.str x t
 | .byt b,u=>∃t,u=Value.bytes b t
 | .flt b,u=>∃t,u=Value.float b t
 | .ref a,u=>u=Value.ref a
 | .ty n,u=>u=Value.type n
abbrev AO:List V->List Value->Prop:=Paired AS
theorem AO.length (r:AO xs us):xs.length=us.length:=Paired.length r
theorem AO.get:∀{xs:List V}{us:List Value}{i:Nat}{x:V},AO xs us->xs[i]?=some x->∃u,us[i]?=some u/\AS x u
 | _,_,_,_,.nil,e=>by simp at e
 | _,_,0,_,.cons r _,e=>by simp at e;subst e;exact{1,r}
 | _,_,i+1,x,.cons _ t,e=>by obtain⟨u,h1,h2⟩:=AO.get (i:=i) (x:=x) t (by simpa using e);exact{u,by simpa using h1,h2}
theorem AO.set (r:AS x u):∀{xs:List V}{us:List Value}(i:Nat),AO xs us->AO (xs.set i x) (us.set i u)
 | _,_,_,.nil=>.nil
 | _,_,0,.cons _ t=>.cons r t
 | _,_,i+1,.cons q t=>.cons q (AO.set r i t)
theorem AO.append:∀{xs ys:List V}{us ws:List Value},AO xs us->AO ys ws->AO (xs++ys) (us++ws)
 | _,_,_,_,.nil,s=>s
 | _,_,_,_,.cons r t,s=>.cons r (AO.append t s)
theorem AO.take:∀{xs:List V}{us:List Value}(n:Nat),AO xs us->AO (xs.take n) (us.take n)
 | _,_,0,_=>.nil
 | _,_,_+1,.nil=>.nil
 | _,_,n+1,.cons r t=>.cons r (AO.take n t)
theorem AO.drop:∀{xs:List V}{us:List Value}(n:Nat),AO xs us->AO (xs.drop n) (us.drop n)
 | _,_,0,r=>r
 | _,_,_+1,.nil=>.nil
 | _,_,n+1,.cons _ t=>AO.drop n t
def CW:Option V->Option Value->Prop
 | some v,some u=>AS v u
 | none,none=>True
 | _,_=>False
def KV {κ:Type}:List (κ×V)->List (κ×Value)->Prop:=Paired fun (p:κ×V)(q:κ×Value)=>p.1=q.1/\AS p.2 q.2
noncomputable def kV:AQ->V
 | .inl i=>.int i
 | .inr x=>.str x
inductive HO where
 | lst (xs:List V)
 | tup (xs:List V)
 | dK (eO:List (AQ×V)) | dT (eO:List (List AQ×V))
 | set (S:Int->Bool)(n:Nat)
 | ins (C dx:Addr)(fs:List (Str×V))
 | own (x:Addr)
 | xd (fs:List (Str×V))
 | met (f x:Addr)
 | rng (lo hi:Int)
 | frz (o:Obj)(u:HO)
 | tbl (ps:Array Value)
 | ext (φ:Heap->Prop)
abbrev Hp:=Addr->Option HO
noncomputable def upd (H:Hp)(a:Addr)(o:HO):Hp:=fun b=>if b=a then some o else H b
theorem zI :upd H a o a=some o:=by unfold upd;rw[if_pos rfl]
theorem zj (h:b≠a):upd H a o b=H b:=by unfold upd;rw[if_neg h]
theorem EE :upd (upd H a o) a u=upd H a u:=by funext b;unfold upd;split <;> rfl
theorem Bu {H:Hp}(h:H a=some o)(h':H b=some u)(d:o≠u):a≠b:=by intro e;subst e;rw[h] at h';exact d (zV h')
theorem zq {H:Hp}(h:H a=some o)(h':H b=none):a≠b:=by intro e;subst e;rw[h] at h';cases h'
section
variable (P:Program)(w:World)
def Ax (H:Hp)(h:Heap)(a:Addr):HO->Prop
 | .lst xs=>xs.length<=sizeLine/\∃(its:List Value)(n:Nat),AO xs its/\h.get? a=some { cls:=.type "list",data:=.seq its.toArray n }
 | .tup xs=>(xs.length<=sizeLine/\∃o,h.get? a=some o/\o.dict=none)/\∃its:List Value,AO xs its/\IsTup h a its.toArray
 | .dK eO=>eO.length<=sizeLine/\(a==sysModules)=false/\∃vs,KV eO vs/\h.DictOf (BL P w) a vs
 | .dT eO=>eO.length<=sizeLine/\(a==sysModules)=false/\∃xs:List (List AQ×Addr×Value),
  Paired (fun (p:List AQ×V)(q:List AQ×Addr×Value)=>p.1=q.1/\H q.2.1=some (.tup (p.1.map kV))/\AS p.2 q.2.2) eO xs /\
  ∃o es ep,h.get? a=some o/\o.ExactDict/\o.data=.dict es ep/\es.toList=xs.map (entryOfKey (tupleKind (BL P w)))/\(xs.map (·.1)).Nodup
 | .set S n=>h.SetOf (intKind P w) a S n
 | .ins C dx fs=>H dx=some (.own a)/\fs.length<=1000/\dx≠a/\h.get? a=some (PySem.W.instObj C dx) /\
  ∃mA,h.Ns1 dx mA/\(∀f,CW (fs.lookup f) (mA f))/\PySem.Within mA (fs.map (·.1))
 | .own _=>∃o,h.get? a=some o
 | .xd fs=>∃mA,h.Ns1 a mA/\∀f,CW (fs.lookup f) (mA f)
 | .rng lo hi=>∃t u v,h.get? a=some { cls:=.type "range",data:=.fields #[.int lo t,.int hi u,.int 1 v] }
 | .frz o u=>h.get? a=some o/\Ax H h a u
 | .tbl ps=>h.get? a=some { cls:=.none,data:=.fields ps }
 | .met f x=>h.get? a=some (PySem.W.methodObj (.ref f) (.ref x))
 | .ext φ=>φ h/\(∃o,h.get? a=some o)/\∀h1 h2:Heap,φ h1->(∀o,h1.get? a=some o->h2.get? a=some o)->φ h2
def Ap (H:Hp)(h:Heap):Prop:=∀a o,H a=some o->Ax P w H h a o
end
theorem Ax.lt (x:Ax P w H h a o):a<h.objs.size:=by
 cases o with
 | lst xs=>obtain⟨_,_,_,_,e⟩:=x;exact zZ e
 | tup xs=>obtain⟨_,_,_,p⟩:=x;exact p.lt
 | dK eO=>obtain⟨_,_,_,_,o,_,_,e,_⟩:=x;exact zZ e
 | dT eO=>obtain⟨_,_,_,_,o,_,_,e,_⟩:=x;exact zZ e
 | set S n=>obtain⟨o,_,_,_,e,_⟩:=x;exact zZ e
 | ins C dx fs=>obtain⟨_,_,_,e,_⟩:=x;exact zZ e
 | own y=>obtain⟨_,e⟩:=x;exact zZ e
 | xd fs=>obtain⟨_,⟨_,_,_,e,_⟩,_⟩:=x;exact zZ e
 | rng lo hi=>obtain⟨_,_,_,e⟩:=x;exact zZ e
 | frz ob u=>obtain⟨e,_⟩:=x;exact zZ e
 | tbl ps=>exact zZ (show h.get? a=some _ from x)
 | met f y=>exact zZ (show h.get? a=some _ from x)
 | ext φ=>obtain⟨_,⟨_,e⟩,_⟩:=x;exact zZ e
theorem Paired.mapP :∀{l₁:List α}{l₂:List β},Paired F l₁ l₂->(∀a b,F a b->G a b)->Paired G l₁ l₂
 | _,_,.nil,_=>.nil
 | _,_,.cons r t,f=>.cons (f _ _ r) (Paired.mapP t f)
theorem Ax.stay (x:Ax P w H h a o)(k:∀b u,(b=a\/H b=some (.own a))->h.get? b=some u->h'.get? b=some u)
 (ho:∀b,H b=some (.own a)->H' b=some (.own a))(ht:∀b xs,H b=some (.tup xs)->H' b=some (.tup xs)):Ax P w H' h' a o:=by
 induction o with
 | lst xs=>obtain⟨z,its,n,r,e⟩:=x;exact{z,its,n,r,k _ _ (.inl rfl) e}
 | tup xs=>obtain⟨⟨z,o2,e2,d2⟩,its,r,ob,e,c⟩:=x;exact{{z,o2,k _ _ (.inl rfl) e2,d2},its,r,ob,k _ _ (.inl rfl) e,c}
 | dK eO=>obtain⟨z,y,vs,r,ob,es,ep,e,c⟩:=x;exact{z,y,vs,r,ob,es,ep,k _ _ (.inl rfl) e,c}
 | dT eO=>obtain⟨z,y,xs,r,ob,es,ep,e,c⟩:=x;exact{z,y,xs,Paired.mapP r fun p q z=>{z.1,ht _ _ z.2.1,z.2.2},ob,es,ep,k _ _ (.inl rfl) e,c}
 | set S n=>obtain⟨ob,es,ep,t,e,c⟩:=x;exact{ob,es,ep,t,k _ _ (.inl rfl) e,c}
 | ins C dx fs=>obtain⟨d,z,ne,e,mA,⟨od,es,ep,e2,c⟩,r⟩:=x;exact{ho _ d,z,ne,k _ _ (.inl rfl) e,mA,{od,es,ep,k _ _ (.inr d) e2,c},r}
 | own y=>obtain⟨ob,e⟩:=x;exact{ob,k _ _ (.inl rfl) e}
 | xd fs=>obtain⟨mA,⟨od,es,ep,e,c⟩,r⟩:=x;exact{mA,{od,es,ep,k _ _ (.inl rfl) e,c},r}
 | rng lo hi=>obtain⟨t,u,v,e⟩:=x;exact{t,u,v,k _ _ (.inl rfl) e}
 | frz ob u ih=>obtain⟨e,q⟩:=x;exact{k _ _ (.inl rfl) e,ih q}
 | tbl ps=>have e:h.get? a=some { cls:=.none,data:=.fields ps }:=x;show h'.get? a=some { cls:=.none,data:=.fields ps };exact k a _ (.inl rfl) e
 | met f y=>have e:h.get? a=some (PySem.W.methodObj (.ref f) (.ref y)):=x;show h'.get? a=some (PySem.W.methodObj (.ref f) (.ref y));exact k a _ (.inl rfl) e
 | ext φ=>obtain⟨p,⟨o,e⟩,st⟩:=x;exact{st _ _ p fun o q=>k _ _ (.inl rfl) q,{o,k _ _ (.inl rfl) e},st}
theorem Ap.lt (x:Ap P w H h)(e:H a=some o):a<h.objs.size:=(x a o e).lt
theorem Ap.fresh (x:Ap P w H h)(e:h.objs.size<=a):H a=none:=by
 cases q:H a with
 | none=>rfl
 | some u=>exact absurd (zo (x.lt q) e) (ER _)
theorem Ap.kept (x:Ap P w H h)(k:∀b u,h.get? b=some u->h'.get? b=some u):Ap P w H h':=fun a o e=>
 (x a o e).stay (fun b u _ q=>k b u q) (fun _ q=>q) fun _ _ q=>q
theorem Ap.laid (x:Ap P w H h)(k:∀b u,h.get? b=some u->h'.get? b=some u)(hp:h.objs.size<=a)(new:Ax P w (upd H a o) h' a o):Ap P w (upd H a o) h':=fun b u e=>by
 have hn:=x.fresh hp;by_cases hb:b=a
 . subst hb;rw[zI] at e;cases e;exact new
 . rw[zj hb] at e;exact (x b u e).stay (fun c v _ q=>k c v q) (fun c q=>by rw[zj (zq q hn)];exact q) fun c xs q=>by rw[zj (zq q hn)];exact q
def Rd (H:Hp)(a:Addr)(u:HO):Prop:=H a=some u\/∃o,H a=some (.frz o u)
theorem Rd.ok (r:Rd H a u)(x:Ap P w H h):Ax P w H h a u:=by
 rcases r with r | ⟨o,r⟩
 . exact x a u r
 . obtain⟨_,q⟩:=x a _ r;exact q
def IV:Option HO->Prop
 | some (.lst _)=>True
 | some (.dK _)=>True
 | some (.dT _)=>True
 | some (.set _ _)=>True
 | some (.ins _ _ _)=>True
 | some (.ext _)=>True
 | _=>False
theorem Ap.write (ok:Ap P w H h)(mu:IV (H x))(he:e=x\/H e=some (.own x))(k:∀b u,b≠e->h.get? b=some u->h'.get? b=some u)(heo:∃u,h'.get? e=some u)
 (new:Ax P w (upd H x o') h' x o'):Ap P w (upd H x o') h':=fun b u q=>by
 have nown:∀c y,H c=some (.own y)->c≠x:=fun c y r z=>by subst z;rw[r] at mu;exact mu
 have ntup:∀c xs,H c=some (.tup xs)->c≠x:=fun c xs r z=>by subst z;rw[r] at mu;exact mu
 by_cases hb:b=x
 . subst hb;rw[zI] at q;cases q;exact new
 . rw[zj hb] at q;by_cases hbe:b=e
   . have q':H b=some (.own x):=by
      rcases he with z | z
      . exact absurd (hbe.trans z) hb
      . rw[hbe];exact z
     rw[q] at q';cases q';obtain⟨v,hv⟩:=heo;exact{v,by rw[hbe];exact hv}
   . refine (ok b u q).stay (fun c v hc r=>k c v ?_ r) (fun c r=>by rw[zj (nown c b r)];exact r) fun c xs r=>by rw[zj (ntup c xs r)];exact r
     rcases hc with rfl | hc
     . exact hbe
     . rintro rfl;rcases he with z | z
       . exact nown c b hc z
       . rw[hc] at z;cases z;exact hb rfl
structure Un (fs ex:List Addr)(H H':Hp)(h h':Heap):Prop where
 keep:∀b o,h.get? b=some o->H b=none->b∉fs->b∉ex->h'.get? b=some o
 slot:∀b o,h.get? b=some o->H b=none->b∈fs->b∉ex->∃sl,h'.get? b=some { o with slots:=sl }
 free:∀b o,h.get? b=some o->H b=none->b∉ex->H' b=none
 there:∀b o,h.get? b=some o->b∉ex->∃o',h'.get? b=some o'
 tups:∀b xs,H b=some (.tup xs)->H' b=some (.tup xs)
 frzs:∀b o u,H b=some (.frz o u)->H' b=some (.frz o u)
 tbls:∀b ps,H b=some (.tbl ps)->∃more,H' b=some (.tbl (ps++more))
theorem Un.any (u:Un fs ex H H1 h h1)(q:h.get? b=some ob)(n:H b=none)(hx:b∉ex):∃sl,h1.get? b=some { ob with slots:=sl }:=by
 by_cases hb:b∈fs
 . exact u.slot b ob q n hb hx
 . exact{ob.slots,u.keep b ob q n hb hx}
theorem Un.trans (a:Un fs ex H H1 h h1)(b:Un fs ex H1 H2 h1 h2):Un fs ex H H2 h h2 where
 keep:=fun c ob q n hc hx=>b.keep c ob (a.keep c ob q n hc hx) (a.free c ob q n hx) hc hx
 slot:=fun c ob q n hc hx=>by obtain⟨sl,e1⟩:=a.slot c ob q n hc hx;obtain⟨sl',e2⟩:=b.slot c _ e1 (a.free c ob q n hx) hc hx;exact⟨sl',e2⟩
 free:=fun c ob q n hx=>by obtain⟨o',e1⟩:=a.there c ob q hx;exact b.free c o' e1 (a.free c ob q n hx) hx
 there:=fun c ob q hx=>by obtain⟨o',e1⟩:=a.there c ob q hx;exact b.there c o' e1 hx
 tups:=fun c xs q=>b.tups c xs (a.tups c xs q)
 frzs:=fun c ob xs q=>b.frzs c ob xs (a.frzs c ob xs q)
 tbls:=fun c ps q=>by obtain⟨m1,e1⟩:=a.tbls c ps q;obtain⟨m2,e2⟩:=b.tbls c _ e1;exact{m1++m2,by rw[e2,Array.append_assoc]}
theorem Un.kept (k:∀b u,h.get? b=some u->h'.get? b=some u):Un fs ex H H h h':=
 {fun b ob q _ _ _=>k b ob q,fun b ob q _ _ _=>{ob.slots,k b ob q},fun _ _ _ n _=>n,fun b ob q _=>{ob,k b ob q},fun _ _ q=>q,fun _ _ _ q=>q,fun _ ps q=>{#[],by rw[q];simp}}
theorem Un.refl:Un fs ex H H h h:=Un.kept fun _ _ q=>q
theorem Un.laid (k:∀b u,h.get? b=some u->h'.get? b=some u)(hp:h.objs.size<=a)(hn:H a=none):Un fs ex H (upd H a o) h h' where
 keep:=fun b u q _ _ _=>k b u q
 slot:=fun b u q _ _ _=>{u.slots,k b u q}
 free:=fun b u q n _=>by rw[zj (zi (zo (zZ q) hp))];exact n
 there:=fun b u q _=>{u,k b u q}
 tups:=fun b xs q=>by rw[zj (zq q hn)];exact q
 frzs:=fun b u xs q=>by rw[zj (zq q hn)];exact q
 tbls:=fun b ps q=>{#[],by rw[zj (zq q hn),q];simp}
theorem Un.write (mu:IV (H x))(he:e=x\/H e=some (.own x))(k:∀b u,b≠e->h.get? b=some u->h'.get? b=some u)(heo:∃u,h'.get? e=some u):Un fs ex H (upd H x o) h h':=by
 have hx:∀b,H b=none->b≠x:=fun b n z=>by subst z;rw[n] at mu;exact mu
 have hb:∀b,H b=none->b≠e:=fun b n z=>by
  subst z;rcases he with r | r
  . exact hx b n r
  . rw[n] at r;cases r
 have hm:∀b u,H b=some u->¬ IV (some u)->b≠x:=fun b u q nm z=>by subst z;rw[q] at mu;exact nm mu
 refine{fun b u q n _ _=>k b u (hb b n) q,fun b u q n _ _=>{u.slots,k b u (hb b n) q},fun b u q n _=>by rw[zj (hx b n)];exact n,fun b u q _=>?_,
  fun b xs q=>by rw[zj (hm b _ q fun z=>z)];exact q,fun b u xs q=>by rw[zj (hm b _ q fun z=>z)];exact q,fun b ps q=>{#[],by rw[zj (hm b _ q fun z=>z),q];simp}}
 by_cases hbe:b=e
 . subst hbe;exact heo
 . exact{u,k b u hbe q}
noncomputable def Ry (h:Heap)(H:Hp):List Addr:=(List.range h.objs.size).filter fun a=>(H a).isSome
noncomputable def Gh (h:Heap)(H:Hp):Heap:=PySem.W.hideAll h (Ry h H)
theorem dU (h)(H):(Gh h H).objs.size=h.objs.size:=PySem.W.hideAll_size _ _
theorem Zj (e:h.get? b=some o)(n:H b=none):(Gh h H).get? b=some o:=
 PySem.W.hideAll_get _ e fun hm=>by have q:(H b).isSome=true:=(ES.mp hm).2;rw[n] at q;simp at q
theorem cT (e:(Gh h H).get? b=some o):h.get? b=some o/\H b=none:=by
 have e':h.get? b=some o:=PySem.W.of_hideAll (Ry h H) e;refine{e',?_};cases q:H b with
 | none=>rfl
 | some x=>have hm:b∈Ry h H:=ES.mpr {Eo.mpr (zZ e'),by simp[q]};have z:(Gh h H).get? b=none:=PySem.W.hideAll_none (Ry h H) hm;rw[z] at e;cases e
structure Mod (K:AK)(mg:By)(base:Heap):Prop where
 kin:K.In base
 glob:base.Ns mainGlobals mg
 blt:∃mb,base.Ns builtinsNs mb/\∀x:Str,x ≠ "__name__"->mb x=bootBuiltins x
 nolimit:base.NoLimit
structure Cx where
 prog:Program
 w:World
 K:AK
 mg:Str->Option Value
 base:Heap
 A:Around
 N:List Str
 s₀:Shared
 H₀:Hp
 env:Env
 outer:List Env
 stack:List Env
 ex:List Addr
 fn:Str->Bool
 calm:Bool
 pn:List (Addr×Obj)
 xe:Value->Shared->Prop
noncomputable def A2 (l:List Env):List Addr:=l.filterMap (·.frame)
noncomputable abbrev Cx.fs (X:Cx):List Addr:=A2 X.outer
def Ui (sc:Scope)(x:Str):Prop:=sc.names.lookup x=some .local\/sc.names.lookup x=some .cell\/sc.names.lookup x=some .free
def GK (sc:Scope)(x:Str):Prop:=sc.names.lookup x=some .local\/sc.names.lookup x=some .cell
def UW (env:Env)(h:Heap)(m:By)(x:Str)(u:Value):Prop:=
 (env.kindOf x=some .local/\m x=some u)\/((env.kindOf x=some .cell\/env.kindOf x=some .free)/\∃c,env.cells.lookup x=some c/\h.IsCell c (some u))
structure Cx.Ok (X:Cx):Prop where
 mod:Mod X.K X.mg X.base
 kind:X.env.scope.kind=.function
 glob:X.env.globals=mainGlobals
 blt:X.env.builtins=builtinsNs
 above:X.s₀.heap.objs.size<=X.env.locals
 inj:∀x y c,X.env.cells.lookup x=some c->X.env.cells.lookup y=some c->x=y
 has:∀x,(X.env.kindOf x=some .cell\/X.env.kindOf x=some .free)->∃c,X.env.cells.lookup x=some c
 cab:∀x c,X.fn x=true->X.env.cells.lookup x=some c->X.s₀.heap.objs.size<=c
 hd:X.calm=true->X.A.handled=none
 frames:X.A.frames=some X.stack
 stk:X.stack=X.outer\/(X.stack=X.env::X.outer/\X.env.frame=some X.env.locals)
 exf:∀b∈X.ex,b≠X.env.locals/\∀x c,X.env.cells.lookup x=some c->c≠b
 bs:∀b o,X.base.get? b=some o->X.s₀.heap.get? b=some o/\X.H₀ b=none
 bsz:X.base.objs.size<=X.s₀.heap.objs.size
 noex:∀b o,X.base.get? b=some o->b∉X.ex
 exfs:∀b∈X.ex,b∉X.fs
 funs:X.s₀.heap.FunFrames X.base X.outer
 frf:∀b∈X.fs,X.H₀ b=none
structure AA (X:Cx)(pins:B6)(σ:List (Option V))(H:Hp)(s:Shared):Prop where
 ok:X.Ok
 os:s.os=X.s₀.os
 bare:AllBare s.gens
 base:Un X.fs X.ex X.H₀ H X.s₀.heap s.heap
 loc:∃m,s.heap.Ns X.env.locals m/\∀(i:Nat)(x:Str)(v:V),X.N[i]?=some x->σ[i]?=some (some v)->Ui X.env.scope x->∃u,AS v u/\UW X.env s.heap m x u
 cell:∀x c,X.env.cells.lookup x=some c->∃v,s.heap.IsCell c v
 free:H X.env.locals=none
 freeC:∀x c,X.env.cells.lookup x=some c->H c=none
 pin:∀p∈X.pn++pins,s.heap.get? p.1=some p.2/\H p.1=none/\p.1≠X.env.locals/\p.1∉X.fs/\∀v,p.2.data ≠ .cell v
 hok:Ap X.prog X.w H s.heap
 len:σ.length=X.N.length
section
variable {X:Cx}{pins:B6}{σ:List (Option V)}{H H':Hp}{s:Shared}{h':Heap}
theorem Cx.Ok.nofr (ok:X.Ok)(e:X.base.get? b=some o):b∉X.fs:=fun hb=>by have:=(ok.funs.mem hb).1;rw[e] at this;cases this
theorem AA.bs (I:AA X pins σ H s):∀b o,X.base.get? b=some o->s.heap.get? b=some o/\H b=none:=fun b o e=>
 {I.base.keep b o (I.ok.bs b o e).1 (I.ok.bs b o e).2 (I.ok.nofr e) (I.ok.noex b o e),I.base.free b o (I.ok.bs b o e).1 (I.ok.bs b o e).2 (I.ok.noex b o e)}
theorem AA.bk (I:AA X pins σ H s):∀b o,X.base.get? b=some o->s.heap.get? b=some o:=fun b o e=>(I.bs b o e).1
theorem AA.mod (I:AA X pins σ H s):Mod X.K X.mg X.base:=I.ok.mod
theorem AA.kIn (I:AA X pins σ H s):X.K.In s.heap:=I.ok.mod.kin.keeps I.bk
theorem AA.lt (I:AA X pins σ H s):X.env.locals<s.heap.objs.size:=let {_,hn,_}:=I.loc;hn.lt
theorem AA.sz (I:AA X pins σ H s):X.s₀.heap.objs.size<=s.heap.objs.size:=BX I.ok.above (CT I.lt)
theorem AA.nofs (I:AA X pins σ H s)(h:s.heap.objs.size<=a):a∉X.fs:=fun hb=>by obtain⟨_,o,ho,_⟩:=I.ok.funs.mem hb;exact absurd (zo (zZ ho) (BX I.sz h)) (ER _)
theorem AA.cne (I:AA X pins σ H s):∀x c,X.env.cells.lookup x=some c->c≠X.env.locals:=fun x c e z=>by obtain⟨v,o,ho,hd⟩:=I.cell x c e;obtain⟨m,⟨o',es,ep,jW,jw,_⟩,_⟩:=I.loc;rw[z,jW] at ho;cases ho;rw[jw] at hd;cases hd
theorem AA.funs (I:AA X pins σ H s):s.heap.FunFrames X.base X.outer:=by
 have all:∀(l:List Env),(∀b∈A2 l,b∈X.fs)->X.s₀.heap.FunFrames X.base l->s.heap.FunFrames X.base l:=by
  intro l
  induction l with
  | nil=>intro _ _;trivial
  | cons env r ih=>intro hs hl;obtain⟨hk,⟨L,o,hf,hn,ho,hd⟩,hr⟩:=hl;have hL:L∈X.fs:=hs L (by unfold A2;rw[Mp,hf];exact zX);obtain⟨sl,e⟩:=I.base.slot L o ho (I.ok.frf L hL) hL fun z=>I.ok.exfs L z hL;exact{hk,{L,_,hf,hn,e,hd},ih (fun b hb=>hs b (by unfold A2;rw[Mp,hf];exact zd _ hb)) hr}
 exact all X.outer (fun _ hb=>hb) I.ok.funs
theorem AA.stack (I:AA X pins σ H s):s.heap.FunFrames X.base X.stack:=by
 rcases I.ok.stk with e | ⟨e,hf⟩
 . rw[e];exact I.funs
 . rw[e];obtain⟨m,hn,_⟩:=I.loc;refine .cons (by rw[I.ok.kind];decide) hf hn ?_ I.funs;exact Heap.get?_none_of_le (BX I.ok.bsz I.ok.above)
theorem AA.stkSub (I:AA X pins σ H s):∀b∈A2 X.stack,b∈X.env.locals::X.fs:=fun b hb=>by
 rcases I.ok.stk with e | ⟨e,hf⟩
 . rw[e] at hb;exact zd _ hb
 . rw[e] at hb;unfold A2 at hb;rw[Mp,hf] at hb;exact hb
theorem AA.stkFree (I:AA X pins σ H s):∀b∈A2 X.stack,H b=none:=fun b hb=>by
 rcases zb.mp (I.stkSub b hb) with e | hb
 . rw[e];exact I.free
 . obtain⟨_,o,ho,_⟩:=I.ok.funs.mem hb;exact I.base.free b o ho (I.ok.frf b hb) fun z=>I.ok.exfs b z hb
theorem AA.step {ch:List Addr}(I:AA X pins σ H s)
 (jC:∀b∈ch,(b∈X.ex\/X.s₀.heap.objs.size<=b)/\b≠X.env.locals/\(∀x c,X.env.cells.lookup x=some c->c≠b)/\∀p∈X.pn++pins,p.1≠b)
 (keep:∀b o,b≠X.env.locals->b∉X.fs->b∉ch->s.heap.get? b=some o->H b=none->h'.get? b=some o)
 (slot:∀b o,b≠X.env.locals->b∈X.fs->b∉ch->s.heap.get? b=some o->H b=none->∃sl,h'.get? b=some { o with slots:=sl })(free:∀b o,b∉ch->s.heap.get? b=some o->H b=none->H' b=none)
 (there:∀b o,b∉ch->s.heap.get? b=some o->∃o',h'.get? b=some o')
 (tups:∀b xs,H b=some (.tup xs)->H' b=some (.tup xs))(frzs:∀b o u,H b=some (.frz o u)->H' b=some (.frz o u))(tbls:∀b ps,H b=some (.tbl ps)->∃more,H' b=some (.tbl (ps++more)))
 (ns:∀m,s.heap.Ns X.env.locals m->h'.Ns X.env.locals m)(hok:Ap X.prog X.w H' h')(hg:AllBare g'):
 AA X pins σ H' { s with heap:=h',gens:=g',drawn:=d',toks:=t' }:=by
 have neL:∀b o,X.s₀.heap.get? b=some o->b≠X.env.locals:=fun b o e=>zi (zo (zZ e) I.ok.above);have neC:∀b o,X.s₀.heap.get? b=some o->b∉X.ex->b∉ch:=fun b o e hx hb=>by
  rcases (jC b hb).1 with z | z
  . exact hx z
  . exact absurd (zo (zZ e) z) (ER _)
 have cellK:∀x c,X.env.cells.lookup x=some c->∀v,s.heap.IsCell c v->h'.IsCell c v:=fun x c e v ⟨o,ho,hd⟩=>by
  have nch:c∉ch:=fun z=>(jC c z).2.2.1 x c e rfl;by_cases hc:c∈X.fs
  . obtain⟨sl,q⟩:=slot c o (I.cne x c e) hc nch ho (I.freeC x c e);exact{_,q,hd}
  . exact{o,keep c o (I.cne x c e) hc nch ho (I.freeC x c e),hd}
 refine{I.ok,I.os,hg,{fun b o e n hb hx=>?_,fun b o e n hb hx=>?_,fun b o e n hx=>?_,fun b o e hx=>?_,fun b xs e=>tups b xs (I.base.tups b xs e),fun b o xs e=>frzs b o xs (I.base.frzs b o xs e),fun b ps e=>?_},?_,fun x c e=>?_,?_,fun x c e=>?_,fun p hp=>?_,hok,I.len}
 . exact keep b o (neL b o e) hb (neC b o e hx) (I.base.keep b o e n hb hx) (I.base.free b o e n hx)
 . obtain⟨sl,e1⟩:=I.base.slot b o e n hb hx;obtain⟨sl',e2⟩:=slot b _ (neL b o e) hb (neC b o e hx) e1 (I.base.free b o e n hx);exact⟨sl',e2⟩
 . obtain⟨o',e1⟩:=I.base.there b o e hx;exact free b o' (neC b o e hx) e1 (I.base.free b o e n hx)
 . obtain⟨o',e1⟩:=I.base.there b o e hx;exact there b o' (neC b o e hx) e1
 . obtain⟨m1,e1⟩:=I.base.tbls b ps e;obtain⟨m2,e2⟩:=tbls b _ e1;exact{m1++m2,by rw[e2,Array.append_assoc]}
 . obtain⟨m,hn,hl⟩:=I.loc;refine{m,ns m hn,fun i x v e1 e2 e3=>?_};obtain⟨u,r,l⟩:=hl i x v e1 e2 e3;refine{u,r,?_};rcases l with l | ⟨k,c,e,z⟩
   . exact .inl l
   . exact .inr {k,c,e,cellK x c e _ z}
 . obtain⟨v,z⟩:=I.cell x c e;exact{v,cellK x c e v z}
 . obtain⟨m,⟨o,_,_,ho,_⟩,_⟩:=I.loc;exact free _ o (fun z=>(jC _ z).2.1 rfl) ho I.free
 . obtain⟨v,o,ho,hd⟩:=I.cell x c e;exact free c o (fun z=>(jC c z).2.2.1 x c e rfl) ho (I.freeC x c e)
 . obtain⟨e,n,ne,nf,d⟩:=I.pin p hp;have nch:p.1∉ch:=fun z=>(jC p.1 z).2.2.2 p hp rfl;exact{keep p.1 p.2 ne nf nch e n,free p.1 p.2 nch e n,ne,nf,d}
theorem AA.un (I:AA X pins σ H s)(u:Un X.fs [] H H' s.heap h')(hok:Ap X.prog X.w H' h'):AA X pins σ H' { s with heap:=h',toks:=t' }:=by
 obtain⟨m,⟨o,es,ep,ho,r⟩,_⟩:=id I.loc;obtain⟨sl,hL⟩:=u.any ho I.free (by simp);exact I.step (g':=s.gens) (d':=s.drawn) (ch:=[]) (fun _ z=>nomatch z) (fun b o _ hb _ e n=>u.keep b o e n hb (by simp)) (fun b o _ hb _ e n=>u.slot b o e n hb (by simp)) (fun b o _ e n=>u.free b o e n (by simp)) (fun b o _ e=>u.there b o e (by simp)) u.tups u.frzs u.tbls (fun m' hm=>by obtain⟨o',jb,ep',jW,r'⟩:=hm;rw[ho] at jW;cases jW;exact{_,jb,ep',hL,r'}) hok I.bare
theorem AA.call (I:AA X pins σ H s)(u:Un (A2 X.stack) ch H H' s.heap h')(hok:Ap X.prog X.w H' h')(hg:AllBare g')
 (jC:∀b∈ch,(b∈X.ex\/X.s₀.heap.objs.size<=b)/\b≠X.env.locals/\(∀x c,X.env.cells.lookup x=some c->c≠b)/\∀p∈X.pn++pins,p.1≠b):
 AA X pins σ H' { s with heap:=h',gens:=g',drawn:=d',toks:=t' }:=by
 obtain⟨m,⟨o,es,ep,ho,r⟩,_⟩:=id I.loc;obtain⟨sl,hL⟩:=u.any ho I.free fun z=>(jC _ z).2.1 rfl;exact I.step (ch:=ch) jC (fun b o hL hb hc e n=>u.keep b o e n (fun z=>(zb.mp (I.stkSub b z)).elim hL hb) hc) (fun b o _ _ hc e n=>u.any e n hc) (fun b o hc e n=>u.free b o e n hc) (fun b o hc e=>u.there b o e hc) u.tups u.frzs u.tbls (fun m' hm=>by obtain⟨o',jb,ep',jW,r'⟩:=hm;rw[ho] at jW;cases jW;exact{_,jb,ep',hL,r'}) hok hg
theorem AA.turned {t':Nat}{it:Addr}(I:AA X pins σ H s)(k:∀b o,b≠it->s.heap.get? b=some o->h'.get? b=some o)(hn:H it=none)(hL:it≠X.env.locals)
 (h1:it∈X.ex\/X.s₀.heap.objs.size<=it)(h2:∀x c,X.env.cells.lookup x=some c->c≠it)(h3:∀p∈X.pn++pins,p.1≠it):AA X pins σ H { s with heap:=h',toks:=t' }:=by
 have nit:∀b u,H b=some u->b≠it:=fun b u e z=>by rw[z,hn] at e;cases e
 refine I.step (g':=s.gens) (d':=s.drawn) (ch:=[it]) (fun b hb=>?_) (fun b o _ _ hc e _=>k b o (fun z=>hc (by simp[z])) e) (fun b o _ _ hc e _=>{o.slots,k b o (fun z=>hc (by simp[z])) e}) (fun _ _ _ _ n=>n)
  (fun b o hc e=>{o,k b o (fun z=>hc (by simp[z])) e}) (fun _ _ e=>e) (fun _ _ _ e=>e) (fun b ps e=>{#[],by rw[e];simp}) (fun m hm=>?_) (fun b u e=>?_) I.bare
 . have e:b=it:=by simpa using hb
   subst e;exact⟨h1,hL,h2,h3⟩
 . obtain⟨o,es,ep,ho,r⟩:=hm;exact{o,es,ep,k _ o (Ne.symm hL) ho,r}
 . refine (I.hok b u e).stay (fun c v hc q=>k c v ?_ q) (fun _ q=>q) fun _ _ q=>q;rcases hc with z | z
   . rw[z];exact nit b u e
   . exact nit c _ z
theorem AA.tok (I:AA X pins σ H s)(t):AA X pins σ H { s with toks:=t }:=I.un (h':=s.heap) (t':=t) Un.refl I.hok
theorem AA.kept (I:AA X pins σ H s)(k:∀b u,s.heap.get? b=some u->h'.get? b=some u):AA X pins σ H { s with heap:=h',toks:=t' }:=I.un (Un.kept k) (I.hok.kept k)
theorem AA.laid (I:AA X pins σ H s)(k:∀b u,s.heap.get? b=some u->h'.get? b=some u)(hp:s.heap.objs.size<=a)(new:Ax X.prog X.w (upd H a o) h' a o):
 AA X pins σ (upd H a o) { s with heap:=h',toks:=t' }:=I.un (Un.laid k hp (I.hok.fresh hp)) (I.hok.laid k hp new)
theorem AA.write (I:AA X pins σ H s)(mu:IV (H x))(he:e=x\/H e=some (.own x))(k:∀b u,b≠e->s.heap.get? b=some u->h'.get? b=some u)(heo:∃u,h'.get? e=some u)
 (new:Ax X.prog X.w (upd H x o) h' x o):AA X pins σ (upd H x o) { s with heap:=h',toks:=t' }:=I.un (Un.write mu he k heo) (I.hok.write mu he k heo new)
theorem AA.weak (I:AA X pins σ H s)(hl:σ'.length=σ.length)(w:∀(i:Nat) v,σ'[i]?=some (some v)->σ[i]?=some (some v)):AA X pins σ' H s:=
 ⟨I.ok,I.os,I.bare,I.base,let ⟨m,hn,gO⟩:=I.loc;{m,hn,fun i x v e1 e2 e3=>gO i x v e1 (w i v e2) e3},I.cell,I.free,I.freeC,I.pin,I.hok,hl.trans I.len⟩
theorem AA.pins_of (I:AA X pins σ H s)(h:∀p∈pins',s.heap.get? p.1=some p.2/\H p.1=none/\p.1≠X.env.locals/\p.1∉X.fs/\∀v,p.2.data ≠ .cell v):AA X pins' σ H s:=
 {I.ok,I.os,I.bare,I.base,I.loc,I.cell,I.free,I.freeC,fun p hp=>(zg.mp hp).elim (fun z=>I.pin p (DP _ z)) (h p),I.hok,I.len}
theorem Tc {N:List Str}(hN:N.Nodup){j:Nat}(a:N[i]?=some x)(b:N[j]?=some x):i=j:=by obtain⟨h1,e1⟩:=zG.mp a;obtain⟨h2,e2⟩:=zG.mp b;exact (List.getElem_inj hN).mp (e1.trans e2.symm)
theorem aE (I:AA X pins σ H s)(hN:X.N.Nodup)(hi:X.N[i]?=some x)(hx:GK X.env.scope x)(r:AS v u)
 (h:∀s',AA X pins (σ.set i (some v)) H s'->(∃a,Heap.SameBut a s.heap s'.heap/\(a=X.env.locals\/X.env.cells.lookup x=some a))->Q () s')(hf:X.fn x=true\/X.env.scope.names.lookup x=some .local:=by first | exact .inl rfl | exact .inr rfl | assumption):wpAny M A (storeName X.env x u) Q E s:=by
 obtain⟨m,hn,hl⟩:=id I.loc;have jx:(X.env.scope.kind == .class || (X.env.scope.kind == .module && X.env.locals != X.env.globals))=false:=by rw[I.ok.kind];rfl
 have hiσ:i<σ.length:=by rw[I.len];exact (zG.mp hi).1
 have cne:=I.cne;have tracked:∀{a:Addr}{h':Heap},(∃o,s.heap.get? a=some o/\H a=none)->Heap.SameBut a s.heap h'->Ap X.prog X.w H h':=fun {a h'} ha hs b ob e=>by
  obtain⟨_,_,hfree⟩:=ha;refine (I.hok b ob e).stay (fun c w' hc q=>(hs.2 c ?_).trans q) (fun _ q=>q) fun _ _ q=>q;rintro rfl;rcases hc with rfl | hc
  . rw[hfree] at e;cases e
  . rw[hfree] at hc;cases hc
 rcases hx with hk | hk
 . refine wpAny_storeName_local hk hn (fun h' hn' hs=>?_) jx;obtain⟨oL,_,_,jK,_⟩:=id hn;refine h _ {I.ok,I.os,I.bare,{fun b o e n hb hx=>?_,fun b o e n hb hx=>?_,I.base.free,fun b o e hx=>?_,I.base.tups,I.base.frzs,I.base.tbls},{_,hn',fun j y v' e1 e2 e3=>?_},fun y c e=>?_,I.free,I.freeC,fun p hp=>?_,tracked ⟨oL,jK,I.free⟩ hs,by simpa using I.len} {_,hs,.inl rfl}
   . exact (hs.2 b (zi (zo (zZ e) I.ok.above))).trans (I.base.keep b o e n hb hx)
   . obtain⟨sl,e1⟩:=I.base.slot b o e n hb hx;exact{sl,(hs.2 b (zi (zo (zZ e) I.ok.above))).trans e1}
   . obtain⟨o',e1⟩:=I.base.there b o e hx;exact{o',(hs.2 b (zi (zo (zZ e) I.ok.above))).trans e1}
   . by_cases hj:j=i
     . subst hj;rw[hi] at e1;cases e1;rw[List.getElem?_set_self hiσ] at e2;cases e2;exact{u,r,.inl {hk,by simp}}
     . rw[List.getElem?_set_ne (Ne.symm hj)] at e2;obtain⟨u',r',q⟩:=hl j y v' e1 e2 e3;refine{u',r',?_};rcases q with ⟨k,e⟩ | ⟨k,c,e,z⟩
       . refine .inl {k,?_};have:y≠x:=fun e=>hj (Tc hN e1 (e ▸ hi));simp[this,e]
       . exact .inr {k,c,e,z.sameBut hs (cne y c e)}
   . obtain⟨w',z⟩:=I.cell y c e;exact{w',z.sameBut hs (cne y c e)}
   . obtain⟨e,n,ne,nf,d⟩:=I.pin p hp;exact{(hs.2 p.1 ne).trans e,n,ne,nf,d}
 . have hfn:X.fn x=true:=by
    rcases hf with z | z
    . exact z
    . rw[z] at hk;cases hk
   obtain⟨c,hc⟩:=I.ok.has x (.inl hk);obtain⟨w',z⟩:=I.cell x c hc;refine wpAny_storeName_cell I.ok.kind hk hc z (fun h' iH hs=>?_);obtain⟨oc,hoc,hocd⟩:=id z;refine h { s with heap:=h' } {I.ok,I.os,I.bare,{fun b o e n hb hx=>?_,fun b o e n hb hx=>?_,I.base.free,fun b o e hx=>?_,I.base.tups,I.base.frzs,I.base.tbls},{m,hn.sameBut hs (Ne.symm (cne x c hc)),fun j y v' e1 e2 e3=>?_},fun y c' e=>?_,I.free,I.freeC,fun p hp=>?_,tracked {oc,hoc,I.freeC x c hc} hs,by simpa using I.len} {c,hs,.inr hc}
   . exact (hs.2 b (zi (zo (zZ e) (I.ok.cab x c hfn hc)))).trans (I.base.keep b o e n hb hx)
   . obtain⟨sl,e1⟩:=I.base.slot b o e n hb hx;exact{sl,(hs.2 b (zi (zo (zZ e) (I.ok.cab x c hfn hc)))).trans e1}
   . obtain⟨o',e1⟩:=I.base.there b o e hx;exact{o',(hs.2 b (zi (zo (zZ e) (I.ok.cab x c hfn hc)))).trans e1}
   . by_cases hj:j=i
     . subst hj;rw[hi] at e1;cases e1;rw[List.getElem?_set_self hiσ] at e2;cases e2;exact{u,r,.inr {.inl hk,c,hc,iH}}
     . rw[List.getElem?_set_ne (Ne.symm hj)] at e2;obtain⟨u',r',q⟩:=hl j y v' e1 e2 e3;refine{u',r',?_};rcases q with q | ⟨k,c',e,z'⟩
       . exact .inl q
       . refine .inr {k,c',e,z'.sameBut hs ?_};rintro rfl;exact hj (Tc hN e1 (I.ok.inj _ _ _ e hc ▸ hi))
   . by_cases hcc:c'=c
     . subst hcc;exact{_,iH}
     . obtain⟨w2,z2⟩:=I.cell y c' e;exact{w2,z2.sameBut hs hcc}
   . obtain⟨e,n,ne,nf,d⟩:=I.pin p hp;refine{(hs.2 p.1 ?_).trans e,n,ne,nf,d};intro q;rw[q,hoc] at e;have q':oc=p.2:=zV e;exact d w' (by rw[<-q'];exact hocd)
theorem Jd (I:AA X pins σ H s)(hN:X.N.Nodup)(hi:X.N[i]?=some x)(hx:GK X.env.scope x)(r:AS v u)
 (h:∀s',AA X pins (σ.set i (some v)) H s'->Q () s')(hf:X.fn x=true\/X.env.scope.names.lookup x=some .local:=by first | exact .inl rfl | exact .inr rfl | assumption):wpAny M A (storeName X.env x u) Q E s:=
 aE I hN hi hx r (fun s' I' _=>h s' I') hf
theorem AA.call' (I:AA X pins σ H s)(ho:s'.os=s.os)(u:Un (A2 X.stack) ch H H' s.heap s'.heap)(hok:Ap X.prog X.w H' s'.heap)(hg:AllBare s'.gens)
 (jC:∀b∈ch,(b∈X.ex\/X.s₀.heap.objs.size<=b)/\b≠X.env.locals/\(∀x c,X.env.cells.lookup x=some c->c≠b)/\∀p∈X.pn++pins,p.1≠b):AA X pins σ H' s':=by
 obtain⟨h',g',d',t',o'⟩:=s';have e:o'=s.os:=ho;subst e;exact I.call (g':=g') (t':=t') (d':=d') u hok hg jC
end
abbrev XK:=Value->Option Addr->Hp->Prop
abbrev St:=List (Option V)
abbrev VK:=V->Hp->Prop
abbrev TE:=St->Hp->VK->Prop
abbrev TT:=St->Hp->(Bool->Hp->Prop)->Prop
abbrev TA:=St->Hp->(List V->Hp->Prop)->Prop
structure Gp where
 nx:St->Hp->Prop
 rt:VK
 bk:St->Hp->Prop:=fun _ _=>False
 ct:St->Hp->Prop:=fun _ _=>False
abbrev TS:=Gp->St->Hp->Prop
def EP (X:Cx)(pins:B6)(σ:St)(Q:VK)(u:Value)(s':Shared):Prop:=∃v H',AA X pins σ H' s'/\AS v u/\Q v H'
def TP (X:Cx)(pins:B6)(σ:St)(Q:Bool->Hp->Prop)(b:Bool)(s':Shared):Prop:=∃H',AA X pins σ H' s'/\Q b H'
def AP (X:Cx)(pins:B6)(σ:St)(Q:List V->Hp->Prop)(us:List Value)(s':Shared):Prop:=∃vs H',AA X pins σ H' s'/\AO vs us/\Q vs H'
def SP (X:Cx)(pins:B6)(D:Gp)(f:Flow)(s':Shared):Prop:=
 match f with
 | .next=>∃ σ' H',AA X pins σ' H' s'/\D.nx σ' H'
 | .brk=>∃ σ' H',AA X pins σ' H' s'/\D.bk σ' H'
 | .cont=>∃ σ' H',AA X pins σ' H' s'/\D.ct σ' H'
 | .ret u=>∃v σ' H',AA X pins σ' H' s'/\AS v u/\D.rt v H'
def PE (X:Cx)(e:Expr)(t:TE):Prop:=
 ∀pins s σ H Q,AA X pins σ H s->t σ H Q->wpAny (model X.prog X.w) X.A (eval e X.env) (EP X pins σ Q) X.xe s
def PT (X:Cx)(e:Expr)(t:TT):Prop:=
 ∀pins s σ H Q,AA X pins σ H s->t σ H Q->wpAny (model X.prog X.w) X.A (isTrue e X.env (eval e X.env)) (TP X pins σ Q) X.xe s
def PW (X:Cx)(e:Expr)(t:TT):Prop:=
 ∀whole pins s σ H Q,AA X pins σ H s->t σ H Q->wpAny (model X.prog X.w) X.A (isTrue e X.env whole) (TP X pins σ Q) X.xe s
theorem PW.pt (h:PW X e t):PT X e t:=h _
def PA (X:Cx)(es:List Expr)(t:TA):Prop:=
 ∀pos pins s σ H Q,AA X pins σ H s->t σ H Q->wpAny (model X.prog X.w) X.A (spliced (backTo pos (starEach es X.env))) (AP X pins σ Q) X.xe s
def PS (X:Cx)(st:Stmt)(t:TS):Prop:=
 ∀pins s σ H D,AA X pins σ H s->t D σ H->wpAny (model X.prog X.w) X.A (exec st X.env) (SP X pins D) X.xe s
def CY (X:Cx)(st:List Stmt)(t:TS):Prop:=
 ∀pins s σ H D,AA X pins σ H s->t D σ H->wpAny (model X.prog X.w) X.A (execs st X.env) (SP X pins D) X.xe s
theorem AL (h:wpAny M A t Q E s)(hQ:∀a s,Q a s->Q' a s):wpAny M A t Q' E s:=BE h hQ fun _ _ x=>x
theorem eF (ha:PE X a ta)(hb:PE X b tb){R:V->V->Hp->Prop}(I:AA X pins σ H s)(h:ta σ H fun x H1=>tb σ H1 fun y H2=>R x y H2)
 {Q:α->Shared->Prop}{f:Value->Value->Sem α}
 (hf:∀v u s2 x y H2,AA X pins σ H2 s2->AS x v->AS y u->R x y H2->wpAny (model X.prog X.w) X.A (f v u) Q X.xe s2):
 wpAny (model X.prog X.w) X.A (eval a X.env) (fun v s₁=>wpAny (model X.prog X.w) X.A (eval b X.env) (fun u s₂=>wpAny (model X.prog X.w) X.A (f v u) Q X.xe s₂) X.xe s₁) X.xe s:=by
 refine AL (ha pins s σ H _ I h) fun v s1 ⟨x,H1,I1,r1,q1⟩=>?_;refine AL (hb pins s1 σ H1 _ I1 q1) fun u s2 ⟨y,H2,I2,r2,q2⟩=>?_;exact hf v u s2 x y H2 I2 r1 r2 q2
def P1 (i:Nat):TE:=fun σ H Q=>∃v,σ[i]?=some (some v)/\Q v H
def tC (v:V):TE:=fun _ H Q=>Q v H
theorem L5 (hN:X.N[i]?=some x)(hv:Ui X.env.scope x)(hd:(x==("__debug__" : Str))=false:=by decide) (iz:(x==("__classdict__" : Str))=false:=by decide):PE X (.Name x pos) (P1 i):=by
 intro pins s σ H Q I h;obtain⟨v,e,h⟩:=h;obtain⟨m,hn,hl⟩:=I.loc;obtain⟨u,r,l⟩:=hl i x v hN e hv;have fin:EP X pins σ Q u s:=⟨v,H,I,r,h⟩;rcases l with ⟨hk,hm⟩ | ⟨hk,c,hc,hcell⟩
 . exact wpAny_Name (wpAny_loadName_local I.ok.kind hk hn hm fin) hd
 . rcases hk with hk | hk
   . exact wpAny_Name (wpAny_loadName_cell I.ok.kind hk hc hcell fin) hd
   . exact wpAny_Name (wpAny_loadName_free I.ok.kind hk hc hcell fin iz) hd
theorem zf {i j pos}:PE X (.Constant (.int i) j pos) (tC (.int i)):=fun _ _ _ H _ I h=>wpAny_Constant_int {.int i,H,I.tok _,{1},h}
theorem Eh {b j pos}:PE X (.Constant (.bool b) j pos) (tC (.bl b)):=fun _ _ _ H _ I h=>Constant_bool {.bl b,H,I,0,h}
theorem Ar {j pos}:PE X (.Constant .none j pos) (tC .non):=fun _ _ _ H _ I h=>Constant_none {.non,H,I,0,h}
theorem Cw {x j pos}:PE X (.Constant (.str x) j pos) (tC (.str x)):=fun _ _ _ H _ I h=>Calls.Constant_str {.str x,H,I.tok _,{1},h}
def Gl (X:Cx)(x:Str):Prop:=X.env.kindOf x=some .globalImplicit
theorem Ni (I:AA X pins σ H s)(hg:Gl X x)(hm:X.mg x=some u)(h:Q u s)
 (hd:(x==("__debug__" : Str))=false:=by decide):wpAny (model X.prog X.w) X.A (eval (.Name x pos) X.env) Q E s:=
 Calls.Name_function_global I.ok.kind hg (Calls.loadGlobal_global (by rw[I.ok.glob];exact I.mod.glob.keeps I.bk) hm h) hd
theorem Em (I:AA X pins σ H s)(hg:Gl X x)(hm:X.mg x=none)(hv:bootBuiltins x=some u)(h:Q u s)
 (hn:x ≠ "__name__" := by decide) (hd:(x==("__debug__" : Str))=false:=by decide):wpAny (model X.prog X.w) X.A (eval (.Name x pos) X.env) Q E s:=by
 obtain⟨mb,h1,h2⟩:=I.mod.blt;exact Calls.Name_function_global I.ok.kind hg (Calls.loadGlobal_builtin (by rw[I.ok.glob];exact I.mod.glob.keeps I.bk) hm (by rw[I.ok.blt];exact h1.keeps I.bk) ((h2 x hn).trans hv) h) hd
theorem BU (hg:Gl X x)(hm:X.mg x=some u)(r:AS v u)(hd:(x==("__debug__" : Str))=false:=by decide):PE X (.Name x pos) (tC v):=
 fun _ _ _ H _ I h=>Ni I hg hm ⟨v,H,I,r,h⟩ hd
def eG (ta tb:TE)(k:Int->Int->Hp->Prop):St->Hp->Prop:=fun σ H=>ta σ H fun x H1=>tb σ H1 fun y H2=>∃i j,x=.int i/\y=.int j/\k i j H2
def PC (X:Cx)(op:CmpOp)(a b:Expr)(t:TE):Prop:=
 ∀pins s σ H Q,AA X pins σ H s->t σ H Q ->
  wpAny (model X.prog X.w) X.A (eval a X.env) (fun v s₁=>wpAny (model X.prog X.w) X.A (eval b X.env) (fun u s₂=>wpAny (model X.prog X.w) X.A (compareOp op v u) (EP X pins σ Q) X.xe s₂) X.xe s₁) X.xe s
theorem dC (b)(h:op ≠ .In)(h2:op ≠ .NotIn):behindInMarks op b=false:=by
 have e1:(op==CmpOp.In)=false:=by cases op <;> first | rfl | exact absurd rfl h
 have e2:(op==CmpOp.NotIn)=false:=by cases op <;> first | rfl | exact absurd rfl h2
 cases b <;> simp[behindInMarks,e1,e2]
def P9 (p:Int->Int->Bool)(ta tb:TE):TE:=fun σ H Q=>eG ta tb (fun i j H2=>Q (.bl (p i j)) H2) σ H
abbrev VA:TE->TE->TE:=P9 fun i j=>!decide (i=j)
theorem MM (ha:PE X a ta)(hb:PE X b tb)
 (rule:∀i j t u Q s,Q (.bool (p i j)) s->wpAny (model X.prog X.w) X.A (compareOp op (.int i t) (.int j u)) Q X.xe s):PC X op a b (P9 p ta tb):=by
 intro pins s σ H Q I h;refine eF ha hb I h fun v u s2 x y H2 I2 rx ry q=>?_;obtain⟨i,j,rfl,rfl,q⟩:=q;obtain⟨t,rfl⟩:=rx;obtain⟨t',rfl⟩:=ry;exact rule i j t t' _ s2 {.bl _,H2,I2,0,q}
theorem Xh (ha:PE X a ta)(hb:PE X b tb):PC X .NotEq a b (VA ta tb):=MM ha hb fun _ _ _ _ _ _ h=>ne_int (by rw[bne,Bool.beq_eq_decide_eq];exact h)
def tB (t:TE):TT:=fun σ H Q=>t σ H fun x H1=>∃c,x=.bl c/\Q c H1
theorem Gx (h:PC X op a b t)(h1:behindInMarks op b=false:=by first | exact dC _ (by decide) (by decide) | rfl):PT X (.Compare a [op] [b] pos) (tB t):=by intro pins s σ H Q I hw;refine wpAny_isTrue_Compare1 (AL (h pins s σ H _ I hw) fun v s1 h1=>AL h1 fun u s2 h2=>AL h2 fun c s3 ⟨x,H1,I1,r1,q1⟩=>?_) h1;obtain⟨d,rfl,q⟩:=q1;cases r1;exact Gw ⟨H1,I1,q⟩
theorem A0 (h:PE X e t)(he:∀whole,isTrue e X.env whole=(do let v <-whole;standAt e.pos;holding [v] (truthy v)):=by intro _;rfl):PT X e (tB t):=by intro pins s σ H Q I hw;refine isTrue_plain (AL (h pins s σ H _ I hw) fun v s1 ⟨x,H1,I1,r1,q1⟩=>?_) (he _);obtain⟨d,rfl,q⟩:=q1;cases r1;exact Gw ⟨H1,I1,q⟩
def Ut (t u:TT):TT:=fun σ H Q=>t σ H fun c H1=>if c=true then u σ H1 Q else Q false H1
def eL (t u:TT):TT:=fun σ H Q=>t σ H fun c H1=>if c=true then Q true H1 else u σ H1 Q
def VD (t:TT):TT:=fun σ H Q=>t σ H fun c H1=>Q (!c) H1
theorem F8 (ha:PT X a tA):PW X (.BoolOp .And [a] pos) tA:=by
 intro wh pins s σ H Q I h;refine isTrue_and (AL (ha pins s σ H Q I h) fun c s1 e=>?_);cases c with
 | true=>exact isTrue_and_nil e
 | false=>exact e
theorem Bs (ha:PT X a tA):PW X (.BoolOp .Or [a] pos) tA:=by
 intro wh pins s σ H Q I h;refine isTrue_or (AL (ha pins s σ H Q I h) fun c s1 e=>?_);cases c with
 | false=>exact isTrue_or_nil e
 | true=>exact e
theorem EL (ha:PT X a tA)(hb:PW X (.BoolOp .And (b::rest) pos) tB'):PW X (.BoolOp .And (a::b::rest) pos) (Ut tA tB'):=by
 intro wh pins s σ H Q I h;refine isTrue_and (AL (ha pins s σ H _ I h) fun c s1 ⟨H1,I1,q1⟩=>?_);cases c with
 | true=>exact hb wh pins s1 σ H1 Q I1 q1
 | false=>exact⟨H1,I1,q1⟩
theorem Bb (ha:PT X a tA)(hb:PW X (.BoolOp .Or (b::rest) pos) tB'):PW X (.BoolOp .Or (a::b::rest) pos) (eL tA tB'):=by
 intro wh pins s σ H Q I h;refine isTrue_or (AL (ha pins s σ H _ I h) fun c s1 ⟨H1,I1,q1⟩=>?_);cases c with
 | true=>exact⟨H1,I1,q1⟩
 | false=>exact hb wh pins s1 σ H1 Q I1 q1
theorem BC (ha:PT X a tA):PT X (.UnaryOp .Not a pos) (VD tA):=by intro pins s σ H Q I h;exact isTrue_not (ha pins s σ H (fun c H1=>Q (!c) H1) I h)
def N8 (ta tb:TE):TE:=fun σ H Q=>ta σ H fun x H1=>∃c,x=.bl c/\if c=true then tb σ H1 Q else Q (.bl false) H1
def Uc (ta tb:TE):TE:=fun σ H Q=>ta σ H fun x H1=>∃c,x=.bl c/\if c=true then Q (.bl true) H1 else tb σ H1 Q
def Ot (ta:TE):TE:=fun σ H Q=>ta σ H fun x H1=>∃c,x=.bl c/\Q (.bl (!c)) H1
theorem Bl {op} (h:PE X a t):PE X (.BoolOp op [a] pos) t:=fun pins s σ H Q I hw=>BoolOp_one (h pins s σ H Q I hw)
theorem Ba (ha:PE X a ta)(hb:PE X (.BoolOp .And (b::rest) pos) tb):PE X (.BoolOp .And (a::b::rest) pos) (N8 ta tb):=by
 intro pins s σ H Q I h;refine BoolOp_and (AL (ha pins s σ H _ I h) fun v s1 ⟨x,H1,I1,r1,q1⟩=>?_);obtain⟨c,rfl,q1⟩:=q1;cases r1;refine Gw ?_;cases c with
 | true=>exact hb pins s1 σ H1 Q I1 q1
 | false=>exact{.bl false,H1,I1,0,q1}
theorem Tq (ha:PE X a ta)(hb:PE X (.BoolOp .Or (b::rest) pos) tb):PE X (.BoolOp .Or (a::b::rest) pos) (Uc ta tb):=by
 intro pins s σ H Q I h;refine BoolOp_or (AL (ha pins s σ H _ I h) fun v s1 ⟨x,H1,I1,r1,q1⟩=>?_);obtain⟨c,rfl,q1⟩:=q1;cases r1;refine Gw ?_;cases c with
 | false=>exact hb pins s1 σ H1 Q I1 q1
 | true=>exact{.bl true,H1,I1,0,q1}
theorem XY (ha:PE X a ta):PE X (.UnaryOp .Not a pos) (Ot ta):=by intro pins s σ H Q I h;refine UnaryOp_ (AL (ha pins s σ H _ I h) fun v s1 ⟨x,H1,I1,r1,q1⟩=>?_);obtain⟨c,rfl,q1⟩:=q1;cases r1;exact not_of (Gw {.bl (!c),H1,I1,0,q1})
def d8 (t:TT)(ta tb:TE):TE:=fun σ H Q=>t σ H fun c H1=>if c=true then ta σ H1 Q else tb σ H1 Q
theorem Hy (hc:PT X c tA)(ha:PE X a ta)(hb:PE X b tb):PE X (.IfExp c a b pos) (d8 tA ta tb):=by
 intro pins s σ H Q I h;refine wpAny_IfExp (AL (hc pins s σ H _ I h) fun d s1 ⟨H1,I1,q1⟩=>?_);cases d with
 | true=>exact ha pins s1 σ H1 Q I1 q1
 | false=>exact hb pins s1 σ H1 Q I1 q1
def AD (K:AK)(H:Hp)(a:Addr)(xs:List V):Prop:=
 Rd H a (.lst xs) \/
  ∃o its n,K.lookup a=some o/\o.cls=.type "list"/\o.dict=none/\o.data=.seq its n/\its.size<=sizeLine/\AO xs its.toList
def AB (K:AK)(H:Hp)(a:Addr)(xs:List V):Prop:=
 Rd H a (.tup xs) \/
  ∃o its n,K.lookup a=some o/\o.cls=.type "tuple"/\o.data=.seq its n/\its.size<=sizeLine/\AO xs its.toList
noncomputable def UZ:Value->Option V
 | .none=>some .non
 | .bool b=>some (.bl b)
 | .int i _=>some (.int i)
 | .str x _=>some (.str x)
 | .bytes b _=>some (.byt b)
 | .float b _=>some (.flt b)
 | .ref a=>some (.ref a)
 | .type n=>some (.ty n)
 | _=>none
theorem AS.abs (r:AS x u):UZ u=some x:=by
 cases x with
 | non=>cases r;rfl
 | bl _=>cases r;rfl
 | int _=>obtain⟨t,rfl⟩:=r;rfl
 | str _=>obtain⟨t,rfl⟩:=r;rfl
 | byt _=>obtain⟨t,rfl⟩:=r;rfl
 | flt _=>obtain⟨t,rfl⟩:=r;rfl
 | ref _=>cases r;rfl
 | ty _=>cases r;rfl
theorem AS.inj (r:AS x u)(q:AS y u):x=y:=zV (r.abs.symm.trans q.abs)
theorem AO.inj:∀{xs ys:List V}{us:List Value},AO xs us->AO ys us->xs=ys
 | _,_,_,.nil,.nil=>rfl
 | _,_,_,.cons r t,.cons r' t'=>by rw[r.inj r',AO.inj t t']
theorem AD.of {K:AK}(h:H a=some (.lst xs)):AD K H a xs:=.inl (.inl h)
theorem AB.of {K:AK}(h:H a=some (.tup xs)):AB K H a xs:=.inl (.inl h)
theorem AA.list (I:AA X pins σ H s)(h:AD X.K H a xs):∃its:List Value,AO xs its/\PlainL s.heap a its.toArray/\xs.length<=sizeLine:=by
 rcases h with h | ⟨o,its,n,hk,hc,hd,hs,hz,r⟩
 . obtain⟨z,its,n,r,e⟩:=h.ok I.hok;exact{its,r,{_,n,e,0,3},z}
 . refine{its.toList,r,{o,n,I.kIn a o hk,hc,hd,by simpa using hs},?_};have e:=r.length;simp only[Array.length_toList] at e
   lia
theorem AA.tuple (I:AA X pins σ H s)(h:AB X.K H a xs):∃its:List Value,AO xs its/\IsTup s.heap a its.toArray/\xs.length<=sizeLine:=by
 rcases h with h | ⟨o,its,n,hk,hc,hs,hz,r⟩
 . obtain⟨⟨z,_⟩,its,r,p⟩:=h.ok I.hok;exact⟨its,r,p,z⟩
 . refine{its.toList,r,{o,I.kIn a o hk,hc,n,by simpa using hs},?_};have e:=r.length;simp only[Array.length_toList] at e
   lia
theorem AA.list_inj (I:AA X pins σ H s)(h:AD X.K H a xs)(h':AD X.K H a ys):xs=ys:=by
 obtain⟨its,r,⟨o,n,e,_,_,d⟩,_⟩:=I.list h;obtain⟨its',r',⟨o',n',e',_,_,d'⟩,_⟩:=I.list h';rw[e] at e';cases e';rw[d] at d';injection d' with d1 _;have:its=its':=by simpa using congrArg Array.toList d1
 subst this;exact r.inj r'
theorem AA.tuple_inj (I:AA X pins σ H s)(h:AB X.K H a xs)(h':AB X.K H a ys):xs=ys:=by
 obtain⟨its,r,⟨o,e,_,n,d⟩,_⟩:=I.tuple h;obtain⟨its',r',⟨o',e',_,n',d'⟩,_⟩:=I.tuple h';rw[e] at e';cases e';rw[d] at d';injection d' with d1 _;have:its=its':=by simpa using congrArg Array.toList d1
 subst this;exact r.inj r'
noncomputable abbrev Cx.wish (X:Cx)(E:B8):Cx:={ X with xe:=E }
noncomputable abbrev Cx.nox (X:Cx):Cx:=X.wish fun _ _=>False
theorem Cx.Ok.wish {X:Cx}(ok:X.Ok)(E):(X.wish E).Ok:=
 ⟨ok.mod,ok.kind,ok.glob,ok.blt,ok.above,ok.inj,ok.has,ok.cab,ok.hd,ok.frames,ok.stk,ok.exf,ok.bs,ok.bsz,ok.noex,ok.exfs,ok.funs,ok.frf⟩
theorem Cx.Ok.unwish {X:Cx}(ok:(X.wish E).Ok):X.Ok:=
 ⟨ok.mod,ok.kind,ok.glob,ok.blt,ok.above,ok.inj,ok.has,ok.cab,ok.hd,ok.frames,ok.stk,ok.exf,ok.bs,ok.bsz,ok.noex,ok.exfs,ok.funs,ok.frf⟩
theorem AA.wish (I:AA X pins σ H s)(E):AA (X.wish E) pins σ H s:={I.ok.wish E,I.os,I.bare,I.base,I.loc,I.cell,I.free,I.freeC,I.pin,I.hok,I.len}
theorem AA.unwish (I:AA (X.wish E) pins σ H s):AA X pins σ H s:=⟨I.ok.unwish,I.os,I.bare,I.base,I.loc,I.cell,I.free,I.freeC,I.pin,I.hok,I.len⟩
theorem SP.unwish (h:SP (X.wish E) pins D f s'):SP X pins D f s':=by
 cases f with
 | next=>obtain⟨σ',H',I,q⟩:=h;exact⟨σ',H',I.unwish,q⟩
 | brk=>obtain⟨σ',H',I,q⟩:=h;exact⟨σ',H',I.unwish,q⟩
 | cont=>obtain⟨σ',H',I,q⟩:=h;exact⟨σ',H',I.unwish,q⟩
 | ret u=>obtain⟨v,σ',H',I,r,q⟩:=h;exact⟨v,σ',H',I.unwish,r,q⟩
theorem CY.nox {st:List Stmt}(h:CY X.nox st t):CY X st t:=fun pins s σ H D I hw=>
 BE (h pins s σ H D (I.wish _) hw) (fun _ _ q=>q.unwish) fun _ _ z=>False.elim z
section
variable {X:Cx}{st:Stmt}{rest:List Stmt}{t u:TS}{e:Expr}{te:TE}{pos:Pos}
def PX:TS:=fun D σ H=>D.nx σ H
def VQ (t u:TS):TS:=fun D σ H=>t { D with nx:=u D } σ H
theorem Ac:CY X [] PX:=fun _ _ σ H _ I h=>wpAny_execs_nil ⟨σ,H,I,h⟩
theorem zR (h1:PS X st t)(h2:CY X rest u):CY X (st::rest) (VQ t u):=by
 intro pins s σ H D I h;refine wpAny_execs_cons (AL (h1 pins s σ H { D with nx:=u D } I h) fun f s1 q=>?_);cases f with
 | next=>obtain⟨σ',H',I',q⟩:=q;exact h2 pins s1 σ' H' D I' q
 | ret v=>exact q
 | brk=>exact q
 | cont=>exact q
theorem zY (h1:PS X st t):CY X [st] t:=by
 intro pins s σ H D I h;refine wpAny_execs_cons (AL (h1 pins s σ H D I h) fun f s1 q=>?_);cases f with
 | next=>exact wpAny_execs_nil q
 | ret v=>exact q
 | brk=>exact q
 | cont=>exact q
theorem AA.quiet (I:AA X pins σ H s):interactive X.env=false:=by simp[interactive,I.ok.kind]
def Ov (te:TE):TS:=fun D σ H=>te σ H fun _ H1=>D.nx σ H1
theorem B0 (he:PE X e te)(hs:swapsWith e none pos.line X.env=pure false:=by rfl):PS X (.Expr e pos) (Ov te):=by intro pins s σ H D I h;exact wpAny_Expr_any (AL (he pins s σ H _ I h) fun v s1 ⟨x,H1,I1,r1,q1⟩=>⟨σ,H1,I1,q1⟩) I.quiet hs
def Ub (te:TE):TS:=fun D σ H=>te σ H D.rt
theorem AM (he:PE X e te):PS X (.Return (some e) pos) (Ub te):=by intro pins s σ H D I h;exact wpAny_Return_some (AL (he pins s σ H _ I h) fun v s1 ⟨x,H1,I1,r1,q1⟩=>⟨x,σ,H1,I1,r1,q1⟩)
def UY (c:TT)(t u:TS):TS:=fun D σ H=>c σ H fun b H1=>if b=true then t D σ H1 else u D σ H1
theorem Ad (hc:PT X c tc)(ha:CY X a t)(hb:CY X b u):PS X (.If c a b pos) (UY tc t u):=by
 intro pins s σ H D I h;refine wpAny_If (AL (hc pins s σ H _ I h) fun d s1 ⟨H1,I1,q1⟩=>?_);cases d with
 | true=>exact ha pins s1 σ H1 D I1 q1
 | false=>exact hb pins s1 σ H1 D I1 q1
end
abbrev TG:=V->St->Hp->(St->Hp->Prop)->Prop
abbrev OA:=List V->St->Hp->(St->Hp->Prop)->Prop
def PG (X:Cx)(target:Expr)(t:TG):Prop:=
 ∀pins s σ H v u Q,AA X pins σ H s->AS v u->t v σ H Q ->
  wpAny (model X.prog X.w) X.A (assign target X.env u) (fun _ s'=>∃ σ' H',AA X pins σ' H' s'/\Q σ' H') X.xe s
def OU (X:Cx)(ts:List Expr)(t:OA):Prop:=
 ∀pins s σ H vs us Q,AA X pins σ H s->AO vs us->t vs σ H Q ->
  wpAny (model X.prog X.w) X.A (assignInOrder ((assignEach ts X.env).map (·.2)) us) (fun _ s'=>∃ σ' H',AA X pins σ' H' s'/\Q σ' H') X.xe s
abbrev OD:=V->V->V->Hp->(Hp->Prop)->Prop
def Oa (X:Cx)(t:OD):Prop:=
 ∀pins s σ H o i v ov iv u Q,AA X pins σ H s->AS o ov->AS i iv->AS v u->t o i v H Q ->
  wpAny (model X.prog X.w) X.A (setItem ov iv u) (fun _ s'=>∃H',AA X pins σ H' s'/\Q H') X.xe s
def Jb (i:Nat):TG:=fun v σ H Q=>Q (σ.set i (some v)) H
theorem B9 (hN:X.N.Nodup)(hi:X.N[i]?=some x)(hx:GK X.env.scope x)(hf:X.fn x=true\/X.env.scope.names.lookup x=some .local:=by first | exact .inl rfl | exact .inr rfl | assumption):PG X (.Name x pos) (Jb i):=by intro pins s σ H v u Q I r h;exact wpAny_assign_Name (Jd I hN hi hx r (fun s' I'=>{_,H,I',h}) hf)
def Ud:OA:=fun vs σ H Q=>vs=[]/\Q σ H
def N4 (t:TG)(u:OA):OA:=fun vs σ H Q=>∃v r,vs=v::r/\t v σ H fun σ' H'=>u r σ' H' Q
theorem Br:OU X [] Ud:=by intro pins s σ H vs us Q I r h;obtain⟨e,h⟩:=h;subst e;cases r;exact assignInOrder_nil ⟨σ,H,I,h⟩
theorem zx (h1:PG X e t)(h2:OU X es u)
 (hs:(assignEach (e::es) X.env).map (·.2)=assign e X.env::(assignEach es X.env).map (·.2):=by rfl):OU X (e::es) (N4 t u):=by
 intro pins s σ H vs us Q I r h;obtain⟨v,vr,e1,h⟩:=h;subst e1;cases r with
 | cons r rr=>rw[hs];refine assignInOrder_cons (AL (h1 pins s σ H _ _ _ I r h) fun _ s1 ⟨σ1,H1,I1,q1⟩=>?_);exact h2 pins s1 σ1 H1 _ _ Q I1 rr q1
def Pg (K:AK)(n:Nat)(t:OA):TG:=fun v σ H Q=>∃a xs,v=.ref a/\AB K H a xs/\xs.length=n/\t xs σ H Q
theorem CC (hc:X.calm=true)(h:OU X es t)
 (hn:(assignEach es X.env).length=n:=by rfl)(hst:(assignEach es X.env).findIdx? (·.1)=none:=by rfl):PG X (.Tuple es k pos) (Pg X.K n t):=by
 intro pins s σ H v u Q I r hw;obtain⟨a,xs,e1,hq,hl,hw⟩:=hw;subst e1;cases r;obtain⟨its,rv,ht,hz⟩:=I.tuple hq;refine assign_Tuple_tuple (I.ok.hd hc) ht (by simp[hn,<-hl,rv.length]) hst fun h' hx=>?_;have I1:AA X pins σ H { s with heap:=h' }:=I.kept (t':=s.toks) fun b o e=>hx b o (zi (zZ e)) e;exact h pins _ σ H xs _ Q I1 (by simpa using rv) hw
def U2 (to ti:TE)(t:OD):TG:=fun v σ H Q=>to σ H fun o H1=>ti σ H1 fun i H2=>t o i v H2 fun H3=>Q σ H3
theorem Md (ho:PE X o to)(hi:PE X i ti)(hs:Oa X t)
 (ha:∀v,assign (.Subscript o i pos) X.env v=(do
  let ov <-holding [v] (eval o X.env);let iv <-holding [v,ov] (eval i X.env)
  standAt pos
  holding [v,ov,iv] (setItem ov iv v)
  release [v,ov,iv] []):=by intro _;rfl):PG X (.Subscript o i pos) (U2 to ti t):=by
 intro pins s σ H v u Q I r h;rw[ha];refine zA (BD (AL (ho pins s σ H _ I h) fun ov s1 ⟨x,H1,I1,r1,q1⟩=>?_));refine zA (BD (AL (hi pins s1 σ H1 _ I1 q1) fun iv s2 ⟨y,H2,I2,r2,q2⟩=>?_));refine zA (wpAny_standAt (zA (BD (AL (hs pins s2 σ H2 x y v ov iv u _ I2 r1 r2 r q2) fun _ s3 ⟨H3,I3,q3⟩=>?_))));exact wpAny_release ⟨σ,H3,I3,q3⟩
def E9 (te:TE)(g:TG):TS:=fun D σ H=>te σ H fun x H1=>g x σ H1 D.nx
theorem Gn (he:PE X e te)(hg:PG X tg g)(hs:swapsWithSole [tg] e pos.line X.env=pure false:=by rfl)(hw:swappedStores [tg] e X.env=pure none:=by rfl)
 (h1:(assignEach [tg] X.env).map (·.2)=[assign tg X.env]:=by rfl):PS X (.Assign [tg] e pos) (E9 te g):=by
 intro pins s σ H D I h;refine wpAny_Assign_stores (AL (he pins s σ H _ I h) fun v s1 ⟨x,H1,I1,r1,q1⟩=>?_) hs hw;rw[h1];exact AL (hg pins s1 σ H1 x v _ I1 r1 q1) fun _ s2 q=>q
theorem Dc (hN:X.N.Nodup)(hi:X.N[i]?=some x)(hx:GK X.env.scope x)(he:PE X e te)(hs:swapsWith e (some (.Name x pos')) pos.line X.env=pure false:=by rfl)(hf:X.fn x=true\/X.env.scope.names.lookup x=some .local:=by first | exact .inl rfl | exact .inr rfl | assumption):
 PS X (.Assign [.Name x pos'] e pos) (E9 te (Jb i)):=by
 intro pins s σ H D I h;refine wpAny_Assign_Name (AL (he pins s σ H _ I h) fun v s1 ⟨y,H1,I1,r1,q1⟩=>?_) hs;exact Jd I1 hN hi hx r1 (fun s2 I2=>{_,H1,I2,q1}) hf
def K7 (c:TT)(tb:TS):TS:=fun D σ H=>∃W:Nat->St->Hp->Prop,(∃m,W m σ H)/\∀m σ H,W m σ H ->
 c σ H fun b H1=>if b=true then ∃N:St->Hp->Prop,(∀ σ' H',N σ' H'->∃m',m'<m/\W m' σ' H')/\tb { D with nx:=N,ct:=N,bk:=D.nx } σ H1 else D.nx σ H1
theorem Sb (hp:PassesOwn (model X.prog X.w) X.A X.env X.xe)(hc:PT X c tc)(hb:CY X body tb):PS X (.While c body [] pos) (K7 tc tb):=by
 intro pins s σ H D I h;obtain⟨W,⟨m0,w0⟩,turn⟩:=h;refine wpAny_While (codeAny_whileLoop (fun n s'=>∃ σ' H',AA X pins σ' H' s'/\W n σ' H') ?_ m0 ⟨σ,H,I,w0⟩);rintro n s1 ⟨σ1,H1,I1,w1⟩;refine wpAny_passesOwn hp (AL (hc pins s1 σ1 H1 _ I1 (turn n σ1 H1 w1)) fun b s2 ⟨H2,I2,q2⟩=>?_);cases b with
 | true=>
  obtain⟨N,hN,q2⟩:=q2;rw[if_pos rfl];refine wpAny_passesOwn hp (AL (hb pins s2 σ1 H2 _ I2 q2) fun f s3 q3=>?_);cases f with
  | next=>obtain⟨σ3,H3,I3,n3⟩:=q3;obtain⟨m',hm,w3⟩:=hN σ3 H3 n3;exact⟨m',hm,σ3,H3,I3,w3⟩
  | cont=>obtain⟨σ3,H3,I3,n3⟩:=q3;obtain⟨m',hm,w3⟩:=hN σ3 H3 n3;exact⟨m',hm,σ3,H3,I3,w3⟩
  | brk=>exact q3
  | ret v=>exact q3
 | false=>rw[if_neg zm];exact wpAny_execs_nil ⟨σ1,H2,I2,q2⟩
structure It where
 go:Nat->Hp->Prop
 yld:Nat->Hp->V->Hp->Prop
 stop:Nat->Hp->Prop
def DB (X:Cx)(pins:B6)(H:Hp)(b:Addr):Prop:=
 H b=none/\b≠X.env.locals/\b∉X.fs/\(b∈X.ex\/X.s₀.heap.objs.size<=b)/\(∀x c,X.env.cells.lookup x=some c->c≠b)/\∀p∈X.pn++pins,p.1≠b
theorem AA.fpOk (I:AA X pins σ H s)(hb:s.heap.objs.size<=b)(hn:H' b=none):DB X pins H' b:=by
 refine{hn,Nat.ne_of_gt (zo I.lt hb),I.nofs hb,.inr (BX I.sz hb),fun x c e z=>?_,fun p hp z=>?_}
 . obtain⟨v,q⟩:=I.cell x c e;exact absurd (zo q.lt (by rw[z];exact hb)) (ER _)
 . exact absurd (zo (zZ (I.pin p hp).1) (by rw[z];exact hb)) (ER _)
structure E8 (P:Program)(w:World)(K:AK)(tg:Expr)(J:It)(fp:List Addr)(it:Addr)(tn:Nat->Heap->Prop):Prop where
 mem:it∈fp
 obj:∀i h,tn i h->∀b∈fp,∃o,h.get? b=some o/\∀v,o.data ≠ .cell v
 keep:∀i h h',tn i h->(∀b∈fp,∀o,h.get? b=some o->h'.get? b=some o)->tn i h'
 item:∀(X:Cx),X.prog=P->X.w=w->X.K=K->X.calm=true->∀(i:Nat)(pins:B6)(s:Shared)(σ:St)(H:Hp)(E:B8),AA X pins σ H s->(∀b∈fp,DB X pins H b)->tn i s.heap->J.go i H ->
  wpAny (model P w) X.A (pyNext (.ref it)) (fun r s1=>∃u,r=some u /\
   wpAny (model P w) X.A (letOwnedTupleGo tg (.ref it) u) (fun _ s2=>∃x H',AA X pins σ H' s2/\AS x u/\J.yld i H x H'/\tn (i+1) s2.heap/\∀b∈fp,H' b=none) E s1) E s
 done:∀(X:Cx),X.prog=P->X.w=w->X.K=K->X.calm=true->∀(i:Nat)(pins:B6)(s:Shared)(σ:St)(H:Hp)(E:B8),AA X pins σ H s->(∀b∈fp,DB X pins H b)->tn i s.heap->J.stop i H ->
  wpAny (model P w) X.A (pyNext (.ref it)) (fun r s1=>r=none/\AA X pins σ H s1) E s
 self:∀(A:Around)(i:Nat)(s:Shared)(Q:B8)(E:B8),tn i s.heap->Q (.ref it) s->wpAny (model P w) A (pyIter (.ref it)) Q E s
abbrev TI:=St->Hp->(It->Hp->Prop)->Prop
def Yz (X:Cx)(pins:B6)(σ:St)(tg:Expr)(R:It->Hp->Prop)(itv:Value)(s2:Shared):Prop:=
 ∃it fp tn J H',itv=.ref it/\AA X pins σ H' s2/\E8 X.prog X.w X.K tg J fp it tn/\tn 0 s2.heap/\(∀b∈fp,DB X pins H' b)/\R J H'
def PI (X:Cx)(tg iter:Expr)(wi:TI):Prop:=
 ∀pins s σ H R,AA X pins σ H s->wi σ H R ->
  wpAny (model X.prog X.w) X.A (eval iter X.env) (fun v s1=>wpAny (model X.prog X.w) X.A (pyIter v) (Yz X pins σ tg R) X.xe s1) X.xe s
theorem SU (ho:s.heap.get? it=some o)(hc:o.cls=.type n)(hd:o.data=.fields vs)
 (hn:["enumerate", "zip", "dict_itemiterator", "dict_reverseitemiterator", "odict_iterator", "itertools.zip_longest", "itertools.pairwise"].contains n=false) (hQ:Q () s):wpAny M A (letOwnedTupleGo tg (.ref it) u) Q E s:=by
 unfold letOwnedTupleGo;cases tg <;> first
  | exact zE hQ
  | (cases u <;> first
   | exact zE hQ
   | (refine zA (wpAny_load ho ?_)
      rw[hc,hd];show wpAny M A (if (["enumerate", "zip", "dict_itemiterator", "dict_reverseitemiterator", "odict_iterator", "itertools.zip_longest", "itertools.pairwise"].contains n && vs[0]? == some (rawInt _))=true then _ else _) Q E s
      rw[if_neg (by intro h;rw[hn,Bool.false_and] at h;cases h)];exact zE hQ))
noncomputable def ND (K:AK)(a:Addr):It:=
 {fun i H=>∃xs x,AD K H a xs/\xs[i]?=some x,fun i H x H'=>H'=H/\∀xs,AD K H a xs->xs[i]?=some x,fun i H=>∃xs,AD K H a xs/\xs.length<=i}
noncomputable def NF (K:AK)(a:Addr):It:=
 {fun i H=>∃xs x,AB K H a xs/\xs[i]?=some x,fun i H x H'=>H'=H/\∀xs,AB K H a xs->xs[i]?=some x,fun i H=>∃xs,AB K H a xs/\xs.length<=i}
noncomputable def IU (lo:Int)(n:Nat):It:={fun i _=>i<n,fun i H x H'=>H'=H/\x=.int (lo+i),fun i _=>n<=i}
theorem aU {P:Program}{w:World}{K:AK}{tg:Expr}(a it:Addr):E8 P w K tg (ND K a) [it] it (fun i h=>h.IsListIter it a i) where
 mem:=by simp
 obj:=fun i h st b hb=>by
  have e:b=it:=by simpa using hb
  subst e;obtain⟨o,e,c,d⟩:=st;exact{o,e,fun v z=>by rw[d] at z;cases z}
 keep:=fun i h h' st k=>st.at fun o e=>k it (by simp) o e
 item:=by intro X hP hw hK hc i pins s σ H E I hf st hg;subst hP hw hK;obtain⟨xs,x,hq,hx⟩:=hg;obtain⟨its,rv,p,hz⟩:=I.list hq;obtain⟨u,hu,ru⟩:=rv.get hx;obtain⟨f0,f1,f2,f3,f4,f5⟩:=hf it (by simp);refine wpAny_pyNext_list_item st p.isList (x:=u) (by simpa using hu) fun h' ip sb=>?_;have I1:AA X pins σ H { s with heap:=h' }:=I.turned (t':=s.toks) (fun b o hb e=>(sb.2 b hb).trans e) f0 f1 f3 f4 f5;obtain⟨o,e,c,d⟩:=id ip;exact{u,0,SU (s:={ s with heap:=h' }) e c d (by decide) {x,H,I1,ru,{0,fun ys hy=>by rw[I.list_inj hy hq];exact hx},ip,fun b hb=>(hf b hb).1}}
 done:=by intro X hP hw hK hc i pins s σ H E I hf st hg;subst hP hw hK;obtain⟨xs,hq,hx⟩:=hg;obtain⟨its,rv,p,hz⟩:=I.list hq;obtain⟨f0,f1,f2,f3,f4,f5⟩:=hf it (by simp);have hl:=rv.length;exact wpAny_pyNext_list_end (I.ok.hd hc) st p.isList (by simp;lia) fun h' eb=>{0,I.turned (t':=s.toks) (fun b o hb e=>eb b o hb e) f0 f1 f3 f4 f5}
 self:=fun _ _ _ _ _ st h=>wpAny_pyIter_listiter st h
theorem dZ {P:Program}{w:World}{K:AK}{tg:Expr}(a it:Addr):E8 P w K tg (NF K a) [it] it (fun i h=>h.IsTupleIter it a i) where
 mem:=by simp
 obj:=fun i h st b hb=>by
  have e:b=it:=by simpa using hb
  subst e;obtain⟨o,e,c,d⟩:=st;exact{o,e,fun v z=>by rw[d] at z;cases z}
 keep:=fun i h h' st k=>st.at fun o e=>k it (by simp) o e
 item:=by intro X hP hw hK hc i pins s σ H E I hf st hg;subst hP hw hK;obtain⟨xs,x,hq,hx⟩:=hg;obtain⟨its,rv,p,hz⟩:=I.tuple hq;obtain⟨u,hu,ru⟩:=rv.get hx;obtain⟨f0,f1,f2,f3,f4,f5⟩:=hf it (by simp);refine wpAny_pyNext_tuple_item st (show s.heap.IsTuple a its.toArray from p) (x:=u) (by simpa using hu) fun h' ip sb=>?_;have I1:AA X pins σ H { s with heap:=h' }:=I.turned (t':=s.toks) (fun b o hb e=>(sb.2 b hb).trans e) f0 f1 f3 f4 f5;obtain⟨o,e,c,d⟩:=id ip;exact{u,0,SU (s:={ s with heap:=h' }) e c d (by decide) {x,H,I1,ru,{0,fun ys hy=>by rw[I.tuple_inj hy hq];exact hx},ip,fun b hb=>(hf b hb).1}}
 done:=by intro X hP hw hK hc i pins s σ H E I hf st hg;subst hP hw hK;obtain⟨xs,hq,hx⟩:=hg;obtain⟨its,rv,p,hz⟩:=I.tuple hq;obtain⟨f0,f1,f2,f3,f4,f5⟩:=hf it (by simp);have hl:=rv.length;exact wpAny_pyNext_tuple_end (I.ok.hd hc) st (show s.heap.IsTuple a its.toArray from p) (by simp;lia) fun h' eb=>{0,I.turned (t':=s.toks) (fun b o hb e=>eb b o hb e) f0 f1 f3 f4 f5}
 self:=fun _ _ _ _ _ st h=>wpAny_pyIter_tupleiter st h
theorem ak {P:Program}{w:World}{K:AK}{tg:Expr}(it:Addr)(lo:Int)(n:Nat):E8 P w K tg (IU lo n) [it] it (fun i h=>IsRangeIter h it (lo+(i:Nat)*1) ((n:Int)-(i:Nat)) 1) where
 mem:=by simp
 obj:=fun i h st b hb=>by
  have e:b=it:=by simpa using hb
  subst e;exact{_,st,fun v z=>by have z':Data.fields _=Data.cell v:=z;cases z'}
 keep:=fun i h h' st k=>k it (by simp) _ st
 item:=by intro X hP hw hK hc i pins s σ H E I hf st hg;subst hP hw hK;obtain⟨f0,f1,f2,f3,f4,f5⟩:=hf it (by simp);have W:=Walks.range (prog:=X.prog) (w:=X.w) (I.ok.hd hc) it lo 1 n;refine W.item i s _ _ hg st fun v h' tk hv ip kk=>?_;obtain⟨t,rfl⟩:=hv;have I1:AA X pins σ H { s with heap:=h',toks:=tk }:=I.turned (fun b o hb e=>kk b o (by simpa using hb) e) f0 f1 f3 f4 f5;refine{1,SU (s:={ s with heap:=h',toks:=tk }) (n := "range_iterator") ip rfl rfl (by decide) {.int (lo+i),H,I1,{t,?_},{3},ip,fun b hb=>(hf b hb).1}};rw[Int.mul_one]
 done:=by intro X hP hw hK hc i pins s σ H E I hf st hg;subst hP hw hK;obtain⟨f0,f1,f2,f3,f4,f5⟩:=hf it (by simp);exact wpAny_pyNext_range_end (I.ok.hd hc) st (by have:n<=i:=hg;lia) fun h' eb=>{0,I.turned (t':=s.toks) (fun b o hb e=>eb b o hb e) f0 f1 f3 f4 f5}
 self:=fun _ _ _ _ _ st h=>wpAny_pyIter_rangeiter st h
inductive V5 (K:AK)(R:It->Hp->Prop)(x:V)(H1:Hp):Prop
 | mk:∀a,(x=.ref a)->((∃xs,AD K H1 a xs))->(R (ND K a) H1)->V5 K R x H1
def OF (K:AK)(tl:TE):TI:=fun σ H R=>tl σ H fun x H1=>V5 K R x H1
inductive Xb (K:AK)(R:It->Hp->Prop)(x:V)(H1:Hp):Prop
 | mk:∀a,(x=.ref a)->((∃xs,AB K H1 a xs))->(R (NF K a) H1)->Xb K R x H1
def MO (K:AK)(tl:TE):TI:=fun σ H R=>tl σ H fun x H1=>Xb K R x H1
theorem Ep (hl:PE X l tl):PI X tg l (OF X.K tl):=by
 intro pins s σ H R I h;refine AL (hl pins s σ H _ I h) fun v s1 ⟨x,H1,I1,r1,q1⟩=>?_;obtain⟨a,e,⟨xs,hq⟩,q⟩:=q1;subst e;cases r1;obtain⟨its,rv,p,hz⟩:=I1.list hq;refine wpAny_pyIter_list p.isList ?_;refine{s1.heap.objs.size,[s1.heap.objs.size],4,H1,0,I1.kept (t':=s1.toks) fun b o e=>zL _ e,aU a _,{_,zU _ rfl,3},fun b hb=>?_,q};have e:b=s1.heap.objs.size:=by simpa using hb
 subst e;exact I1.fpOk (zK _) (I1.hok.fresh (zK _))
theorem Ay (hl:PE X l tl):PI X tg l (MO X.K tl):=by
 intro pins s σ H R I h;refine AL (hl pins s σ H _ I h) fun v s1 ⟨x,H1,I1,r1,q1⟩=>?_;obtain⟨a,e,⟨xs,hq⟩,q⟩:=q1;subst e;cases r1;obtain⟨its,rv,p,hz⟩:=I1.tuple hq;refine wpAny_pyIter_tuple (show s1.heap.IsTuple a its.toArray from p) ?_;refine{s1.heap.objs.size,[s1.heap.objs.size],4,H1,0,I1.kept (t':=s1.toks) fun b o e=>zL _ e,dZ a _,{_,zU _ rfl,3},fun b hb=>?_,q};have e:b=s1.heap.objs.size:=by simpa using hb
 subst e;exact I1.fpOk (zK _) (I1.hok.fresh (zK _))
theorem XI {lo:Int}(I:AA X pins σ H s)(h1 : -(2 ^ 62)<=lo)(h2:lo<2 ^ 62)(h3 : -(2 ^ 62)<=hi)(h4:hi<2 ^ 62)
 (q:R (IU lo (hi-lo).toNat) H):wpAny (model X.prog X.w) X.A (pyIter (.ref s.heap.objs.size)) (Yz X pins σ tg R) E { s with heap:=s.heap.push { cls:=.type "range",data:=.fields #[.int lo t,.int hi u,.int 1 v] },toks:=tk }:=by
 refine wpAny_pyIter_range (IsRange.new ..) (small_one h1 h2 h3 h4) ?_;have I1:AA X pins σ H { s with heap:=s.heap.push { cls:=.type "range",data:=.fields #[.int lo t,.int hi u,.int 1 v] },toks:=tk }:=I.kept fun b o e=>zL _ e;refine{(s.heap.push { cls:=.type "range",data:=.fields #[.int lo t,.int hi u,.int 1 v] }).objs.size,[(s.heap.push { cls:=.type "range",data:=.fields #[.int lo t,.int hi u,.int 1 v] }).objs.size],4,H,0,
  I1.kept (t':=tk) fun b o e=>zL _ e,ak _ lo (hi-lo).toNat,?_,fun b hb=>?_,q}
 . have e1:lo+((0:Nat):Int)*1=lo:=by simp
   have e2:(((hi-lo).toNat:Nat):Int)-((0:Nat):Int)=Builtin.Range.rangeSize lo hi 1:=by rw[rangeSize_one];split <;> lia
   show IsRangeIter _ _ (lo+((0:Nat):Int)*1) ((((hi-lo).toNat:Nat):Int)-((0:Nat):Int)) 1;rw[e1,e2];exact zU _ rfl
 . have e:b=(s.heap.push { cls:=.type "range",data:=.fields #[.int lo t,.int hi u,.int 1 v] }).objs.size:=by simpa using hb
   subst e;exact I1.fpOk (zK _) (I1.hok.fresh (zK _))
inductive Vy (R:It->Hp->Prop)(vs:List V)(H1:Hp):Prop
 | mk:∀j:Int,(vs=[.int j])->(-(2 ^ 62)<=j)->(j<2 ^ 62)->(R (IU 0 j.toNat) H1)->Vy R vs H1
def Od (ta:TA):TI:=fun σ H R=>ta σ H fun vs H1=>Vy R vs H1
def PU (ta:TA):TI:=fun σ H R=>ta σ H fun vs H1=>∃i j:Int,vs=[.int i,.int j]/\(-(2 ^ 62)<=i/\i<2 ^ 62/\-(2 ^ 62)<=j/\j<2 ^ 62)/\R (IU i (j-i).toNat) H1
theorem Be (hg:Gl X "range") (hm:X.mg "range"=none) (ha:PA X [a] ta)(hs:starEach [a] X.env=[(false,eval a X.env)]:=by rfl):PI X tg (.Call (.Name "range" p) [a] [] pos) (Od ta):=by
 intro pins s σ H R I h;refine Call_ (Em I hg hm boot_range (PyProof.Rows.callWith_type1 (AL (ha pos pins s σ H _ I h) fun us s1 ⟨vs,H1,I1,r1,q1⟩=>?_) hs rfl));obtain⟨j,e,q1,q2,q⟩:=q1;subst e;cases r1 with
 | cons r rr=>cases rr;obtain⟨t,rfl⟩:=r;exact call_range_1 (XI I1 (by lia) (by lia) q1 q2 (by simpa using q))
theorem Sh (hg:Gl X "range") (hm:X.mg "range"=none) (ha:PA X [a,b] ta)(hs:starEach [a,b] X.env=[(false,eval a X.env),(false,eval b X.env)]:=by rfl)(jI:starEach [b] X.env=[(false,eval b X.env)]:=by rfl):
 PI X tg (.Call (.Name "range" p) [a,b] [] pos) (PU ta):=by
 intro pins s σ H R I h;refine Call_ (Em I hg hm boot_range (PyProof.Rows.callWith_type1 (AL (ha pos pins s σ H _ I h) fun us s1 ⟨vs,H1,I1,r1,q1⟩=>?_) (by rw[hs,jI]) (by rw[jI];rfl)));obtain⟨i,j,e,⟨q1,q2,q3,q4⟩,q⟩:=q1;subst e;cases r1 with
 | cons r rr=>
  cases rr with
  | cons r' rr=>cases rr;obtain⟨t,rfl⟩:=r;obtain⟨t',rfl⟩:=r';exact call_range_2 (XI I1 q1 q2 q3 q4 q)
def PL (wi:TI)(g:TG)(tb:TS):TS:=fun D σ H=>wi σ H fun J H1=>∃W:Nat->Nat->St->Hp->Prop,(∃m,W 0 m σ H1)/\∀i m σ H,W i m σ H ->
 (J.stop i H/\D.nx σ H)\/(J.go i H/\∃N:St->Hp->Prop,(∀ σ' H',N σ' H'->∃m',m'<m/\W (i+1) m' σ' H')/\∀x H',J.yld i H x H'->g x σ H' fun σ2 H2=>tb { D with nx:=N,ct:=N,bk:=D.nx } σ2 H2)
noncomputable def Mo (fp:List Addr)(h:Heap):List (Addr×Obj):=fp.filterMap fun b=>(h.get? b).map fun o=>(b,o)
theorem Mq (hb:b∈fp)(e:h.get? b=some o):(b,o)∈Mo fp h:=IB.mpr {b,hb,by rw[e];rfl}
theorem az (hp:p∈Mo fp h):p.1∈fp/\h.get? p.1=some p.2:=by
 obtain⟨b,hb,e⟩:=IB.mp hp;cases q:h.get? b with
 | none=>rw[q] at e;cases e
 | some o=>rw[q] at e;have e':(b,o)=p:=zV e;subst e';exact⟨hb,q⟩
theorem AA.pinned (I:AA X pins σ H s)(hf:∀b∈fp,DB X pins H b)(ho:∀b∈fp,∃o,s.heap.get? b=some o/\∀v,o.data ≠ .cell v):AA X (pins++Mo fp s.heap) σ H s:=
 I.pins_of fun p hp=>(zg.mp hp).elim (fun z=>I.pin p (zn _ z)) fun z=>by obtain⟨hb,e⟩:=az z;obtain⟨f0,f1,f2,_⟩:=hf p.1 hb;obtain⟨o,e',d⟩:=ho p.1 hb;rw[e] at e';cases e';exact⟨e,f0,f1,f2,d⟩
theorem AA.unpinned (I:AA X (pins++pl) σ H s):AA X pins σ H s:=I.pins_of fun p hp=>I.pin p (zn _ (DP _ hp))
theorem MK (hp:PassesOwn (model X.prog X.w) X.A X.env X.xe)(hc:X.calm=true)(hi:PI X tg iter wi)(hg:PG X tg g)(hb:CY X body tb)
 (hs:∀x,foldedSetIterable iter X.env x=pure x:=by intro _;rfl):PS X (.For tg iter body [] pos) (PL wi g tb):=by
 intro pins s σ H D I h;refine wpAny_For (AL (hi pins s σ H _ I h) fun v s1 h1=>AL h1 fun itv s2 h2=>?_) hs;obtain⟨it,fp,tn,J,H2,e,I2,T,st2,f2,W,⟨m0,w0⟩,turn⟩:=h2;subst e;have gQ:∀{H':Hp},(∀b∈fp,H' b=none)->∀b∈fp,DB X pins H' b:=fun hn b hb=>{hn b hb,(f2 b hb).2};refine codeAny_forLoop_any (fun n s'=>∃i σ' H',AA X pins σ' H' s'/\tn i s'.heap/\(∀b∈fp,H' b=none)/\W i n σ' H') ?_ m0 ⟨0,σ,H2,I2,st2,fun b hb=>(f2 b hb).1,w0⟩;rintro n s3 ⟨i,σ3,H3,I3,st3,fr3,w3⟩;rcases turn i n σ3 H3 w3 with ⟨stop,qn⟩ | ⟨go,N,hN,step⟩
 . refine wpAny_passesOwn hp (AL (T.done X rfl rfl rfl hc i pins s3 σ3 H3 X.xe I3 (gQ fr3) st3 stop) fun r s4 ⟨hr,I4⟩=>?_);subst hr;exact wpAny_execs_nil ⟨σ3,H3,I4,qn⟩
 . refine wpAny_passesOwn hp (AL (T.item X rfl rfl rfl hc i pins s3 σ3 H3 X.xe I3 (gQ fr3) st3 go) fun r s4 ⟨u,hr,h4⟩=>?_);subst hr;refine wpAny_passesOwn hp (AL h4 fun _ s5 ⟨x,H5,I5,r5,y5,jT,fr5⟩=>?_);have I5':=I5.pinned (gQ fr5) (T.obj _ _ jT);refine wpAny_passesOwn hp (AL (hg _ s5 σ3 H5 x u _ I5' r5 (step x H5 y5)) fun _ s6 ⟨σ6,H6,I6,q6⟩=>?_);refine wpAny_passesOwn hp (AL (hb _ s6 σ6 H6 _ I6 q6) fun f s7 q7=>?_);have again:∀{σ7:St}{H7:Hp},AA X (pins++Mo fp s5.heap) σ7 H7 s7->N σ7 H7->∃m,m<n/\∃i σ' H',AA X pins σ' H' s7/\tn i s7.heap/\(∀b∈fp,H' b=none)/\W i m σ' H':=fun {σ7 H7} I7 n7=>by obtain⟨m',hm,w7⟩:=hN σ7 H7 n7;refine{m',hm,i+1,σ7,H7,I7.unpinned,T.keep _ _ _ jT fun b hb o e=>(I7.pin (b,o) (zn _ (zn _ (Mq hb e)))).1,fun b hb=>?_,w7};obtain⟨o,e,d⟩:=T.obj _ _ jT b hb;exact (I7.pin (b,o) (zn _ (zn _ (Mq hb e)))).2.1
   cases f with
   | next=>obtain⟨σ7,H7,I7,n7⟩:=q7;exact again I7 n7
   | cont=>obtain⟨σ7,H7,I7,n7⟩:=q7;exact again I7 n7
   | brk=>obtain⟨σ7,H7,I7,q7⟩:=q7;exact⟨σ7,H7,I7.unpinned,q7⟩
   | ret v=>obtain⟨x7,σ7,H7,I7,r7,q7⟩:=q7;exact⟨x7,σ7,H7,I7.unpinned,r7,q7⟩
theorem Mb {K:AK}{g:TG}{tb:TS}{D:Gp}(Pv:Nat->St->Hp->Prop)(h0:Pv 0 σ H)(hl:∀i σ H,i<=xs.length->Pv i σ H->AD K H a xs)
 (hs:∀i x σ H,xs[i]?=some x->Pv i σ H->g x σ H fun σ2 H2=>tb { D with nx:=Pv (i+1),ct:=Pv (i+1),bk:=D.nx } σ2 H2)(hd:∀ σ H,Pv xs.length σ H->D.nx σ H):
 ∃W:Nat->Nat->St->Hp->Prop,(∃m,W 0 m σ H)/\∀i m σ H,W i m σ H ->
  ((ND K a).stop i H/\D.nx σ H)\/((ND K a).go i H/\∃N:St->Hp->Prop,(∀ σ' H',N σ' H'->∃m',m'<m/\W (i+1) m' σ' H')/\∀x H',(ND K a).yld i H x H'->g x σ H' fun σ2 H2=>tb { D with nx:=N,ct:=N,bk:=D.nx } σ2 H2):=by
 refine{fun i m σ H=>m=xs.length-i/\i<=xs.length/\Pv i σ H,{xs.length,by simp,zh _,h0},?_};rintro i m σ H ⟨rfl,hi,p⟩;have q:=hl i σ H hi p;by_cases eU:i<xs.length
 . refine .inr {{xs,xs[i],q,by simp[eU]},Pv (i+1),fun σ' H' p'=>{xs.length-(i+1),by lia,0,eU,p'},fun x H' y=>?_};obtain⟨e,y⟩:=y;subst e;exact hs i x σ _ (y xs q) p
 . have e:i=xs.length:=by lia
   subst e;exact .inl {{xs,q,zK _},hd σ H p}
theorem Ed {K:AK}{g:TG}{tb:TS}{D:Gp}(Pv:Nat->St->Hp->Prop)(h0:Pv 0 σ H)(hl:∀i σ H,i<=xs.length->Pv i σ H->AB K H a xs)
 (hs:∀i x σ H,xs[i]?=some x->Pv i σ H->g x σ H fun σ2 H2=>tb { D with nx:=Pv (i+1),ct:=Pv (i+1),bk:=D.nx } σ2 H2)(hd:∀ σ H,Pv xs.length σ H->D.nx σ H):
 ∃W:Nat->Nat->St->Hp->Prop,(∃m,W 0 m σ H)/\∀i m σ H,W i m σ H ->
  ((NF K a).stop i H/\D.nx σ H)\/((NF K a).go i H/\∃N:St->Hp->Prop,(∀ σ' H',N σ' H'->∃m',m'<m/\W (i+1) m' σ' H')/\∀x H',(NF K a).yld i H x H'->g x σ H' fun σ2 H2=>tb { D with nx:=N,ct:=N,bk:=D.nx } σ2 H2):=by
 refine{fun i m σ H=>m=xs.length-i/\i<=xs.length/\Pv i σ H,{xs.length,by simp,zh _,h0},?_};rintro i m σ H ⟨rfl,hi,p⟩;have q:=hl i σ H hi p;by_cases eU:i<xs.length
 . refine .inr {{xs,xs[i],q,by simp[eU]},Pv (i+1),fun σ' H' p'=>{xs.length-(i+1),by lia,0,eU,p'},fun x H' y=>?_};obtain⟨e,y⟩:=y;subst e;exact hs i x σ _ (y xs q) p
 . have e:i=xs.length:=by lia
   subst e;exact .inl {{xs,q,zK _},hd σ H p}
theorem CL {lo:Int}{g:TG}{tb:TS}{D:Gp}(Pv:Nat->St->Hp->Prop)(h0:Pv 0 σ H)
 (hs:∀i σ H,i<n->Pv i σ H->g (.int (lo+i)) σ H fun σ2 H2=>tb { D with nx:=Pv (i+1),ct:=Pv (i+1),bk:=D.nx } σ2 H2)(hd:∀ σ H,Pv n σ H->D.nx σ H):
 ∃W:Nat->Nat->St->Hp->Prop,(∃m,W 0 m σ H)/\∀i m σ H,W i m σ H ->
  ((IU lo n).stop i H/\D.nx σ H)\/((IU lo n).go i H/\∃N:St->Hp->Prop,(∀ σ' H',N σ' H'->∃m',m'<m/\W (i+1) m' σ' H')/\∀x H',(IU lo n).yld i H x H'->g x σ H' fun σ2 H2=>tb { D with nx:=N,ct:=N,bk:=D.nx } σ2 H2):=by
 refine{fun i m σ H=>m=n-i/\i<=n/\Pv i σ H,{n,by simp,zh _,h0},?_};rintro i m σ H ⟨rfl,hi,p⟩;by_cases eU:i<n
 . refine .inr {eU,Pv (i+1),fun σ' H' p'=>{n-(i+1),by lia,0,eU,p'},fun x H' y=>?_};obtain⟨e,y⟩:=y;subst e y;exact hs i σ _ eU p
 . have e:i=n:=by lia
   subst e;exact .inl {zK _,hd σ H p}
abbrev R2:=V->V->Hp->VK->Prop
def A1 (X:Cx)(f:Value->Value->Sem Value)(r:R2):Prop:=
 ∀pins s σ H x y v u Q,AA X pins σ H s->AS x v->AS y u->r x y H Q ->
  wpAny (model X.prog X.w) X.A (f v u) (EP X pins σ Q) X.xe s
def CH (X:Cx)(f:Value)(r:List V->Hp->VK->Prop):Prop:=
 ∀pins s σ H xs us Q,AA X pins σ H s->AO xs us->r xs H Q ->
  wpAny (model X.prog X.w) X.A (call f us) (EP X pins σ Q) X.xe s
def PB (r:R2)(ta tb:TE):TE:=fun σ H Q=>ta σ H fun x H1=>tb σ H1 fun y H2=>r x y H2 Q
inductive Pf (C:Int->Int->Prop)(g:Int->Int->V)(x:V)(y:V)(H:Hp)(Q:VK):Prop
 | mk:∀i j,(x=.int i)->(y=.int j)->(C i j)->(Q (g i j) H)->Pf C g x y H Q
def rI (C:Int->Int->Prop)(g:Int->Int->V):R2:=fun x y H Q=>Pf C g x y H Q
inductive JQ (g:Int->Int->V)(x:V)(y:V)(H:Hp)(Q:VK):Prop
 | mk:∀i j,(x=.int i)->(y=.int j)->(Q (g i j) H)->JQ g x y H Q
def IW (g:Int->Int->V):R2:=fun x y H Q=>JQ g x y H Q
theorem Ln (ha:PE X a ta)(hb:PE X b tb){R:V->V->Hp->Prop}(I:AA X pins σ H s)
 (h:ta σ H fun x H1=>tb σ H1 fun y H2=>R x y H2){f:Value->Value->Sem Value}
 (hf:∀v u s2 x y H2,AA X pins σ H2 s2->AS x v->AS y u->R x y H2->wpAny (model X.prog X.w) X.A (f v u) Q X.xe s2):
 wpAny (model X.prog X.w) X.A (eval a X.env) (fun v s₁=>wpAny (model X.prog X.w) X.A (eval b X.env) (fun u s₂=>wpAny (model X.prog X.w) X.A (f v u) Q X.xe s₂) X.xe s₁) X.xe s:=by
 refine AL (ha pins s σ H _ I h) fun v s1 ⟨x,H1,I1,r1,q1⟩=>?_;refine AL (hb pins s1 σ H1 _ I1 q1) fun u s2 ⟨y,H2,I2,r2,q2⟩=>?_;exact hf v u s2 x y H2 I2 r1 r2 q2
theorem Aa (ho:A1 X (binaryOp op) r)(ha:PE X a ta)(hb:PE X b tb):PE X (.BinOp a op b pos) (PB r ta tb):=by intro pins s σ H Q I h;exact wpAny_BinOp (Ln ha hb I h fun v u s2 x y H2 I2 rx ry q=>ho pins s2 σ H2 x y v u Q I2 rx ry q)
theorem RY {g:Int->Int->Int}
 (rule:∀i j t u s Q E,C i j->Q (.int (g i j) s.toks) { s with toks:=s.toks+1 }->wpAny (model X.prog X.w) X.A (f (.int i t) (.int j u)) Q E s):
 A1 X f (rI C fun i j=>.int (g i j)):=by
 intro pins s σ H x y v u Q I rx ry h;obtain⟨i,j,rfl,rfl,hc,q⟩:=h;obtain⟨t,rfl⟩:=rx;obtain⟨t',rfl⟩:=ry;exact rule i j t t' s _ _ hc {.int (g i j),H,I.tok _,{1},q}
theorem Oy {g:Int->Int->Int}
 (rule:∀i j t u s Q E,Q (.int (g i j) s.toks) { s with toks:=s.toks+1 }->wpAny (model X.prog X.w) X.A (f (.int i t) (.int j u)) Q E s):
 A1 X f (IW fun i j=>.int (g i j)):=by
 intro pins s σ H x y v u Q I rx ry h;obtain⟨i,j,rfl,rfl,q⟩:=h;obtain⟨t,rfl⟩:=rx;obtain⟨t',rfl⟩:=ry;exact rule i j t t' s _ _ {.int (g i j),H,I.tok _,{1},q}
theorem HL {g:Int->Int->Bool}
 (rule:∀i j t u s Q E,Q (.bool (g i j)) s->wpAny (model X.prog X.w) X.A (f (.int i t) (.int j u)) Q E s):
 A1 X f (IW fun i j=>.bl (g i j)):=by
 intro pins s σ H x y v u Q I rx ry h;obtain⟨i,j,rfl,rfl,q⟩:=h;obtain⟨t,rfl⟩:=rx;obtain⟨t',rfl⟩:=ry;exact rule i j t t' s _ _ {.bl (g i j),H,I,0,q}
def PF (i j:Int):Prop:=0<j/\j<1073741824
def Um (i j:Int):Prop:=0<=j/\j<=1000000/\i.natAbs<2 ^ 64
def Ki (i j:Int):Prop:=(-(2 ^ 64)<i/\i<2 ^ 64)\/(-(2 ^ 64)<j/\j<2 ^ 64)
theorem Ki.ok (h:Ki i j):IntMulOk i j:=by
 rcases h with ⟨h1,h2⟩ | ⟨h1,h2⟩
 . exact .of_left (intBits_le_64 h1 h2)
 . exact .of_right (intBits_le_64 h1 h2)
theorem CA:A1 X (binaryOp .Add) (IW fun i j=>.int (i+j)):=Oy fun _ _ _ _ _ _ _ q=>add_int q
theorem EN:A1 X (binaryOp .Sub) (IW fun i j=>.int (i-j)):=Oy fun _ _ _ _ _ _ _ q=>sub_int q
theorem NZ:A1 X (binaryOp .Mult) (rI Ki fun i j=>.int (i*j)):=RY fun _ _ _ _ _ _ _ hc q=>mul_int q hc.ok
theorem QT:A1 X (binaryOp .FloorDiv) (rI PF fun i j=>.int (i/j)):=RY fun i j _ _ _ _ _ hc q=>by have h1:(0:Int)<j:=hc.1;have h2:j<1073741824:=hc.2;exact floordiv_int (by lia) (by rw[Int.fdiv_eq_ediv_of_nonneg i (by lia)];exact q) (.inl (PyProof.noPylong_small (by lia)))
theorem Hm:A1 X (binaryOp .Mod) (rI (fun _ j=>0<j) fun i j=>.int (i%j)):=RY fun i j _ _ _ _ _ hc q=>by have h1:(0:Int)<j:=hc;exact mod_int' (by lia) (by rw[Int.fmod_eq_emod_of_nonneg i (by lia)];exact q)
theorem V9:A1 X (binaryOp .Pow) (rI Um fun i j=>.int (i ^ j.toNat)):=RY fun _ _ _ _ _ _ _ hc q=>pow_int_small hc.1 hc.2.1 hc.2.2 q
noncomputable def L8:V->V->Bool
 | .non,.non=>true | .non,.int _=>true | .int _,.non=>true | .non,.bl _=>true | .bl _,.non=>true | .non,.str _=>true | .str _,.non=>true
 | .int _,.int _=>true | .bl _,.bl _=>true | .str _,.str _=>true | .byt _,.byt _=>true
 | .int _,.str _=>true | .str _,.int _=>true | .bl _,.str _=>true | .str _,.bl _=>true
 | _,_=>false
inductive JP (x:V)(y:V)(H:Hp)(Q:VK):Prop
 | mk:(L8 x y=true)->(Q (.bl (decide (x=y))) H)->JP x y H Q
def eI:R2:=fun x y H Q=>JP x y H Q
inductive Iz (x:V)(y:V)(H:Hp)(Q:VK):Prop
 | mk:(L8 x y=true)->(Q (.bl (!decide (x=y))) H)->Iz x y H Q
def eJ:R2:=fun x y H Q=>Iz x y H Q
theorem VS :decide (V.int i=V.int j)=(i==j):=by rw[Bool.eq_iff_iff];simp
theorem XZ :decide (V.bl i=V.bl j)=(i==j):=by rw[Bool.eq_iff_iff];simp
theorem Vz :decide (V.str i=V.str j)=(i==j):=by rw[Bool.eq_iff_iff];simp
theorem X9 :decide (V.byt i=V.byt j)=(i.toList==j.toList):=by rw[Bool.eq_iff_iff];cases i;cases j;simp
theorem A6 (I:AA X pins σ H s)(q:Q (.bl k) H)(e:k=k'):EP X pins σ Q (.bool k') s:=by subst e;exact{.bl k,H,I,0,q}
theorem BG:A1 X (compareOp .Eq) eI:=by
 intro pins s σ H x y v u Q I rx ry h;obtain⟨hs,q⟩:=h;cases x with
 | non=>
  cases rx;cases y with
  | non=>cases ry;exact PySem.EqNone.eq_none_none (A6 I q (by simp))
  | bl j=>cases ry;exact PySem.EqNone.eq_none_bool (A6 I q (by simp))
  | int j=>obtain⟨t',rfl⟩:=ry;exact PySem.EqNone.eq_none_int (A6 I q (by simp))
  | str j=>obtain⟨t',rfl⟩:=ry;exact PySem.EqNone.eq_none_str (A6 I q (by simp))
  | _=>exact absurd (show false=true from hs) zm
 | bl i=>
  cases rx;cases y with
  | non=>cases ry;exact PySem.EqNone.eq_bool_none (A6 I q (by simp))
  | bl j=>cases ry;exact eq_bool (A6 I q XZ)
  | str j=>obtain⟨t',rfl⟩:=ry;exact PySem.EqMixed.eq_bool_str (A6 I q (by simp))
  | _=>exact absurd (show false=true from hs) zm
 | int i=>
  obtain⟨t,rfl⟩:=rx;cases y with
  | non=>cases ry;exact PySem.EqNone.eq_int_none (A6 I q (by simp))
  | int j=>obtain⟨t',rfl⟩:=ry;exact eq_int (A6 I q VS)
  | str j=>obtain⟨t',rfl⟩:=ry;exact PySem.EqMixed.eq_int_str (A6 I q (by simp))
  | _=>exact absurd (show false=true from hs) zm
 | str i=>
  obtain⟨t,rfl⟩:=rx;cases y with
  | non=>cases ry;exact PySem.EqNone.eq_str_none (A6 I q (by simp))
  | bl j=>cases ry;exact PySem.EqMixed.eq_str_bool (A6 I q (by simp))
  | int j=>obtain⟨t',rfl⟩:=ry;exact PySem.EqMixed.eq_str_int (A6 I q (by simp))
  | str j=>obtain⟨t',rfl⟩:=ry;exact eq_str (A6 I q Vz)
  | _=>exact absurd (show false=true from hs) zm
 | byt i=>
  obtain⟨t,rfl⟩:=rx;cases y with
  | byt j=>obtain⟨t',rfl⟩:=ry;exact PySem.W.eq_bytes (A6 I q X9)
  | _=>exact absurd (show false=true from hs) zm
 | _=>cases y <;> exact absurd (show false=true from hs) zm
theorem N0:A1 X (compareOp .NotEq) eJ:=by
 intro pins s σ H x y v u Q I rx ry h;obtain⟨hs,q⟩:=h;cases x with
 | non=>
  cases rx;cases y with
  | non=>cases ry;exact PySem.EqNone.ne_none_none (A6 I q (by simp))
  | bl j=>cases ry;exact PySem.EqNone.ne_none_bool (A6 I q (by simp))
  | int j=>obtain⟨t',rfl⟩:=ry;exact PySem.EqNone.ne_none_int (A6 I q (by simp))
  | str j=>obtain⟨t',rfl⟩:=ry;exact PySem.EqNone.ne_none_str (A6 I q (by simp))
  | _=>exact absurd (show false=true from hs) zm
 | bl i=>
  cases rx;cases y with
  | non=>cases ry;exact PySem.EqNone.ne_bool_none (A6 I q (by simp))
  | bl j=>cases ry;exact ne_bool (A6 I q (congrArg not XZ))
  | str j=>obtain⟨t',rfl⟩:=ry;exact PySem.EqMixed.ne_bool_str (A6 I q (by simp))
  | _=>exact absurd (show false=true from hs) zm
 | int i=>
  obtain⟨t,rfl⟩:=rx;cases y with
  | non=>cases ry;exact PySem.EqNone.ne_int_none (A6 I q (by simp))
  | int j=>obtain⟨t',rfl⟩:=ry;exact ne_int (A6 I q (congrArg not VS))
  | str j=>obtain⟨t',rfl⟩:=ry;exact PySem.EqMixed.ne_int_str (A6 I q (by simp))
  | _=>exact absurd (show false=true from hs) zm
 | str i=>
  obtain⟨t,rfl⟩:=rx;cases y with
  | non=>cases ry;exact PySem.EqNone.ne_str_none (A6 I q (by simp))
  | bl j=>cases ry;exact PySem.EqMixed.ne_str_bool (A6 I q (by simp))
  | int j=>obtain⟨t',rfl⟩:=ry;exact PySem.EqMixed.ne_str_int (A6 I q (by simp))
  | str j=>obtain⟨t',rfl⟩:=ry;exact ne_str (A6 I q (congrArg not Vz))
  | _=>exact absurd (show false=true from hs) zm
 | byt i=>
  obtain⟨t,rfl⟩:=rx;cases y with
  | byt j=>obtain⟨t',rfl⟩:=ry;exact PySem.W.ne_bytes (A6 I q (congrArg not X9))
  | _=>exact absurd (show false=true from hs) zm
 | _=>cases y <;> exact absurd (show false=true from hs) zm
theorem Mr:A1 X (compareOp .Lt) (IW fun i j=>.bl (decide (i<j))):=HL fun _ _ _ _ _ _ _ q=>lt_int q
theorem Qi:A1 X (compareOp .LtE) (IW fun i j=>.bl (decide (i<=j))):=HL fun _ _ _ _ _ _ _ q=>le_int q
theorem Hl:A1 X (compareOp .Gt) (IW fun i j=>.bl (decide (j<i))):=HL fun _ _ _ _ _ _ _ q=>gt_int q
theorem Qb:A1 X (compareOp .GtE) (IW fun i j=>.bl (decide (j<=i))):=HL fun _ _ _ _ _ _ _ q=>ge_int q
theorem Dq:A1 X (compareOp .Is) (fun x y H Q=>y=.non/\Q (.bl (decide (x=.non))) H):=by
 intro pins s σ H x y v u Q I rx ry h;obtain⟨rfl,q⟩:=h;cases ry;refine is_none_gen (A6 I q ?_);cases x <;> first
  | (cases rx;rfl)
  | (obtain⟨t,rfl⟩:=rx;rfl)
theorem Ff:A1 X (compareOp .IsNot) (fun x y H Q=>y=.non/\Q (.bl (!decide (x=.non))) H):=by
 intro pins s σ H x y v u Q I rx ry h;obtain⟨rfl,q⟩:=h;cases ry;refine isnot_none_gen (A6 I q ?_);cases x <;> first
  | (cases rx;rfl)
  | (obtain⟨t,rfl⟩:=rx;rfl)
theorem AN (b)(h:op ≠ .In:=by decide)(h2:op ≠ .NotIn:=by decide):behindInMarks op b=false:=by
 have e1:(op==CmpOp.In)=false:=by cases op <;> first | rfl | exact absurd rfl h
 have e2:(op==CmpOp.NotIn)=false:=by cases op <;> first | rfl | exact absurd rfl h2
 cases b <;> simp[behindInMarks,e1,e2]
theorem BN (ho:A1 X (compareOp op) r)(ha:PE X a ta)(hb:PE X b tb)(hm:behindInMarks op b=false):PE X (.Compare a [op] [b] pos) (PB r ta tb):=by intro pins s σ H Q I h;exact wpAny_Compare1 (Ln ha hb I h fun v u s2 x y H2 I2 rx ry q=>ho pins s2 σ H2 x y v u Q I2 rx ry q) hm
inductive Xc (Q:Bool->Hp->Prop)(x:V)(H':Hp):Prop
 | mk:∀k,(x=.bl k)->(Q k H')->Xc Q x H'
def PN (t:TE):TT:=fun σ H Q=>t σ H fun x H'=>Xc Q x H'
theorem AR (ho:A1 X (compareOp op) r)(ha:PE X a ta)(hb:PE X b tb)(hm:behindInMarks op b=false):PT X (.Compare a [op] [b] pos) (PN (PB r ta tb)):=by
 intro pins s σ H Q I h;refine wpAny_isTrue_Compare1 (AL (ha pins s σ H _ I h) fun v s1 ⟨x,H1,I1,r1,q1⟩=>AL (hb pins s1 σ H1 _ I1 q1) fun u s2 ⟨y,H2,I2,r2,q2⟩=>
  AL (ho pins s2 σ H2 x y v u _ I2 r1 r2 q2) fun c s3 ⟨z,H3,I3,r3,k,e,q3⟩=>?_) hm
 subst e;cases r3;exact Gw ⟨H3,I3,q3⟩
inductive WE (r':R2)(tc:TE)(σ:St)(Q:VK)(y:V)(z:V)(H3:Hp):Prop
 | mk:∀k,(z=.bl k)->((if k=true then tc σ H3 fun w' H4=>r' y w' H4 Q else Q (.bl false) H3))->WE r' tc σ Q y z H3
def LM (r r':R2)(ta tb tc:TE):TE:=fun σ H Q=>ta σ H fun x H1=>tb σ H1 fun y H2=>r x y H2 fun z H3=>WE r' tc σ Q y z H3
theorem ZA (ho:A1 X (compareOp op) r)(jW:A1 X (compareOp op') r')(ha:PE X a ta)(hb:PE X b tb)(hc:PE X c tc)
 (hm:lastMarks [op,op'] [b,c]=false:=by with_unfolding_all rfl):PE X (.Compare a [op,op'] [b,c] pos) (LM r r' ta tb tc):=by
 intro pins s σ H Q I h;refine Compare_chain (AL (ha pins s σ H _ I h) fun v s1 ⟨x,H1,I1,r1,q1⟩=>chain_link (AL (hb pins s1 σ H1 _ I1 q1) fun u s2 ⟨y,H2,I2,r2,q2⟩=>
  AL (ho pins s2 σ H2 x y v u _ I2 r1 r2 q2) fun d s3 ⟨z,H3,I3,r3,k,e,q3⟩=>?_)) hm
 subst e;cases r3;refine Gw ?_;cases k with
 | false=>exact ite_ff {.bl false,H3,I3,0,q3}
 | true=>exact ite_tt (chain_last (AL (hc pins s3 σ H3 _ I3 q3) fun w' s4 ⟨z',H4,I4,r4,q4⟩=>jW pins s4 σ H4 y z' u w' Q I4 r2 r4 q4))
theorem Q3:(sizeLine:Nat)<2 ^ 63:=by rw[sizeLine_eq];decide
theorem DF (r:AO [x] us):∃u,us=[u]/\AS x u:=by
 cases r with
 | cons r1 r2=>cases r2;exact{1,r1}
theorem Mv (r:AO [x,y] us):∃u w',us=[u,w']/\AS x u/\AS y w':=by
 cases r with
 | cons r1 r2=>
  cases r2 with
  | cons r3 r4=>cases r4;exact{6,r1,r3}
inductive OK (xs:List V)(H:Hp)(Q:VK):Prop
 | mk:∀i j,(xs=[.int i,.int j])->(Q (.int (if j<i then j else i)) H)->OK xs H Q
theorem Xe (hc:X.calm=true):CH X (.builtin "min") OK:=by
 intro pins s σ H xs us Q I r h;obtain⟨i,j,rfl,q⟩:=h;obtain⟨u,w',rfl,⟨t,rfl⟩,⟨t',rfl⟩⟩:=Mv r;refine min_two_ints (I.ok.hd hc) fun h' tk k=>{_,H,I.kept k,?_,q};by_cases hj:j<i
 . rw[if_pos hj,if_pos hj];exact{1}
 . rw[if_neg hj,if_neg hj];exact{1}
structure MU (h:Heap)(x dx C:Addr)(mA:By):Prop where
 obj:h.get? x=some (PySem.W.instObj C dx)
 ns:h.Ns1 dx mA
 ne:dx≠x
theorem dY {h:Heap}(n:h.Ns1 dx mA):∃od,h.get? dx=some od/\∀name,PySem.W.lookIn name od=some (mA name):=by
 obtain⟨o,es,ep,ho,hd,hk,_,hm⟩:=n;refine{o,ho,fun name=>?_};have e:=hm name;unfold nsFind findBy at e;rw[<-Array.find?_toList] at e;unfold PySem.W.lookIn;rw[hd];dsimp only;split
 . rename_i y q
   rw[q] at e;exact congrArg some e
 . rename_i q
   rw[q] at e;have a:es.toList.any (·.refKey)=false:=by rw[List.any_eq_false];intro y hy;obtain⟨z,t,hkey⟩:=hk y (Array.mem_toList_iff.mp hy);simp[DictEntry.refKey,hkey]
   have a':¬ es.toList.any (·.refKey)=true:=by rw[a];exact zm
   rw[if_neg a'];exact congrArg some e
theorem MU.look (I:MU h x dx C mA):∃od,PySem.W.InstAt h x (PySem.W.instObj C dx) C (some od)/\∀name,PySem.W.lookIn name od=some (mA name):=
 let ⟨od,ho,hl⟩:=dY I.ns
 {od,{I.obj,3,ho},hl}
noncomputable def EM (f:Str)(v:V):List (Str×V)->List (Str×V)
 | []=>[(f,v)]
 | (g,x)::r=>if g=f then (g,v)::r else (g,x)::EM f v r
theorem YU (f g)(v):∀fs:List (Str×V),(EM f v fs).lookup g=if g=f then some v else fs.lookup g
 | []=>by
  show List.lookup g [(f,v)]=_;by_cases h:g=f
  . have hb:(g==f)=true:=beq_iff_eq.mpr h;simp only[List.lookup,hb,if_pos h]
  . have hb:(g==f)=false:=beq_eq_false_iff_ne.mpr h;simp only[List.lookup,hb,if_neg h]
 | (k,x)::r=>by
  have ih:=YU f g v r;rw[show EM f v ((k,x)::r)=(if k=f then (k,v)::r else (k,x)::EM f v r) from rfl]
  by_cases hk:k=f
  . rw[if_pos hk];by_cases h:g=k
    . have hb:(g==k)=true:=beq_iff_eq.mpr h;simp only[List.lookup,hb,if_pos (h.trans hk)]
    . have hb:(g==k)=false:=beq_eq_false_iff_ne.mpr h;simp only[List.lookup,hb,if_neg (fun e:g=f=>h (e.trans hk.symm))]
  . rw[if_neg hk];by_cases h:g=k
    . have hb:(g==k)=true:=beq_iff_eq.mpr h;simp only[List.lookup,hb,if_neg (fun e:g=f=>hk (h.symm.trans e))]
    . have hb:(g==k)=false:=beq_eq_false_iff_ne.mpr h;simp only[List.lookup,hb];exact ih
theorem Se (f)(v):∀fs:List (Str×V),f∈(EM f v fs).map (·.1)/\∀g,g∈fs.map (·.1)->g∈(EM f v fs).map (·.1)
 | []=>{by simp[EM],fun g h=>by simp at h}
 | (k,x)::r=>by
  obtain⟨i1,i2⟩:=Se f v r;rw[show EM f v ((k,x)::r)=(if k=f then (k,v)::r else (k,x)::EM f v r) from rfl]
  by_cases hk:k=f
  . rw[if_pos hk];subst hk;exact{by simp,fun g h=>by simpa using h}
  . rw[if_neg hk];refine{?_,fun g h=>?_}
    . rw[Cn];exact zd _ i1
    . rw[Cn] at h ⊢;rcases zb.mp h with e | e
      . exact zb.mpr (.inl e)
      . exact zd _ (i2 g e)
theorem CW.some_of (r:CW (some v) o):∃u,o=some u/\AS v u:=by
 cases o with
 | none=>exact (show False from r).elim
 | some u=>exact{u,0,r}
theorem Zb (r:AS v u):PySem.W.handedIn u=true:=by
 cases v with
 | non=>cases (show u=Value.none from r);rfl
 | bl b=>cases (show u=Value.bool b from r);rfl
 | int i=>obtain⟨t,e⟩:=(show ∃t,u=Value.int i t from r);cases e;rfl
 | str x=>obtain⟨t,e⟩:=(show ∃t,u=Value.str x t from r);cases e;rfl
 | byt b=>obtain⟨t,e⟩:=(show ∃t,u=Value.bytes b t from r);cases e;rfl
 | flt b=>obtain⟨t,e⟩:=(show ∃t,u=Value.float b t from r);cases e;rfl
 | ref a=>cases (show u=Value.ref a from r);rfl
 | ty n=>cases (show u=Value.type n from r);rfl
theorem Zw (hok:Ap P w H h)(e:H a=some (.ins C dx fs)):∃mA,MU h a dx C mA/\(∀f,CW (fs.lookup f) (mA f))/\PySem.Within mA (fs.map (·.1))/\fs.length<=1000/\H dx=some (.own a):=by obtain⟨d,z,ne,ob,mA,n,r,q⟩:=(show Ax P w H h a (.ins C dx fs) from hok a _ e);exact{mA,⟨ob,n,ne⟩,r,q,z,d}
structure U1 (K:AK)(C:Addr):Prop where
 pg:PySem.W.plainGet K C Str.empty=true
 hd:PySem.W.hasDictIn K C=true
 po:PySem.W.plainOver K C=true
 sa:PySem.W.findIn K (.ref C) "__setattr__"=some (some (.builtin "object.__setattr__"))
theorem U1.get {K:AK}(c:U1 K C)(f):PySem.W.plainGet K C f=true:=c.pg
theorem ae (hb:attributeBase e f env (eval e env)=eval e env)
 (h:wpAny (model prog w) A (eval e env) (fun o s₁=>wpAny (model prog w) A (getAttr o f true) Q E s₁) E s):wpAny (model prog w) A (eval (.Attribute e f pos) env) Q E s:=
 Attribute_any_ h (by rw[arm_eval_Attribute,hb])
inductive Dr (K:AK)(H:Hp):V->Value->Prop where
 | non:Dr K H .non (.type "NoneType")
 | bl (x:Bool):Dr K H (.bl x) (.type "bool")
 | int (i:Int):Dr K H (.int i) (.type "int")
 | str (x:Str):Dr K H (.str x) (.type "str")
 | flt (x:UInt64):Dr K H (.flt x) (.type "float")
 | lst {a:Addr}{xs:List V}(e:H a=some (.lst xs)):Dr K H (.ref a) (.type "list")
 | frz {a:Addr}{o:Obj}{xs:List V}(e:H a=some (.frz o (.lst xs))):Dr K H (.ref a) (.type "list")
 | tup {a:Addr}{xs:List V}(e:H a=some (.tup xs)):Dr K H (.ref a) (.type "tuple")
 | dK {a:Addr}{eO:List (AQ×V)}(e:H a=some (.dK eO)):Dr K H (.ref a) (.type "dict")
 | dT {a:Addr}{eO:List (List AQ×V)}(e:H a=some (.dT eO)):Dr K H (.ref a) (.type "dict")
 | ins {a C dx:Addr}{fs:List (Str×V)}(e:H a=some (.ins C dx fs))(cl:U1 K C)(ha:PySem.W.findIn K (.ref C) "__class__"=some (some (.builtin "object.__class__")))
  (hn:PySem.W.specialIn K (.builtin "object.__class__") "__get__"=some (some (.builtin "getset_descriptor.__get__"))) (htk:PySem.W.takesIn K (.builtin "object.__class__")=some true)
  (hm:PySem.W.mroIn K C (.type "object")=some true):Dr K H (.ref a) (.ref C)
theorem Z7 (I:AA X pins σ H s)(rx:AS x u)(ty:Dr X.K H x t)(e:PySem.W.kitOne X.K t c=some b)(h:∀tk,Q (.bool b) { s with toks:=tk }):
 wpAny (model X.prog X.w) A (call (.builtin "isinstance") [u,c]) Q E s:=by
 cases ty with
 | non=>cases (show u=Value.none from rx);exact PySem.W.kia_one PySem.W.kitx_none I.kIn True.intro e (fun z=>nomatch z) h
 | bl y=>cases (show u=Value.bool y from rx);exact PySem.W.kia_one PySem.W.kitx_bool I.kIn True.intro e (fun z=>nomatch z) h
 | int i=>obtain⟨t,q⟩:=(show ∃t,u=Value.int i t from rx);cases q;exact PySem.W.kia_one PySem.W.kitx_int I.kIn True.intro e (fun z=>nomatch z) h
 | str y=>obtain⟨t,q⟩:=(show ∃t,u=Value.str y t from rx);cases q;exact PySem.W.kia_one PySem.W.kitx_str I.kIn True.intro e (fun z=>nomatch z) h
 | flt y=>obtain⟨t,q⟩:=(show ∃t,u=Value.float y t from rx);cases q;exact PySem.W.kia_one PySem.W.kitx_float I.kIn True.intro e (fun z=>nomatch z) h
 | @lst a xs ea=>cases (show u=Value.ref a from rx);obtain⟨_,_,n,_,h1⟩:=(show Ax X.prog X.w H s.heap a (.lst xs) from I.hok a _ ea);exact PySem.W.kia_one PySem.W.kitx_list I.kIn {_,h1,0} e (fun z=>nomatch z) h
 | @frz a ob xs ea=>cases (show u=Value.ref a from rx);obtain⟨_,_,_,n,_,h1⟩:=(show Ax X.prog X.w H s.heap a (.frz ob (.lst xs)) from I.hok a _ ea);exact PySem.W.kia_one PySem.W.kitx_list I.kIn {_,h1,0} e (fun z=>nomatch z) h
 | @tup a xs ea=>cases (show u=Value.ref a from rx);obtain⟨_,_,_,p⟩:=(show Ax X.prog X.w H s.heap a (.tup xs) from I.hok a _ ea);obtain⟨o,h1,h2,_⟩:=p;exact PySem.W.kia_one PySem.W.kitx_tuple I.kIn ⟨o,h1,h2⟩ e (fun z=>nomatch z) h
 | @dK a eO ea=>cases (show u=Value.ref a from rx);obtain⟨_,_,vs,_,p⟩:=(show Ax X.prog X.w H s.heap a (.dK eO) from I.hok a _ ea);obtain⟨o,es,ep,h1,h2,_⟩:=p;exact PySem.W.kia_one PySem.W.kitx_dict I.kIn ⟨o,h1,h2.1⟩ e (fun z=>nomatch z) h
 | @dT a eO ea=>cases (show u=Value.ref a from rx);obtain⟨_,_,xs,_,o,es,ep,h1,h2,_⟩:=(show Ax X.prog X.w H s.heap a (.dT eO) from I.hok a _ ea);exact PySem.W.kia_one PySem.W.kitx_dict I.kIn ⟨o,h1,h2.1⟩ e (fun z=>nomatch z) h
 | @ins a C dx fs ea cl ha hn htk hm=>cases (show u=Value.ref a from rx);obtain⟨mA,O,_⟩:=Zw I.hok ea;obtain⟨od,J,_⟩:=O.look;exact PySem.W.kia_one (PySem.W.kitx_own (cl.get _) cl.hd ha hn htk hm) I.kIn J e (fun z=>nomatch z) h
structure BB (k:Nat)(A:Around):Prop where
 hd:A.handled=none
 dp:A.depth+3*k+5<recursionLimit
 un:A.units+16*k+200<cLine
 gd:A.guards=some []
theorem BB.mono (r:BB k A)(h:j<=k):BB j A:={r.hd,by have:=r.dp;lia,by have:=r.un;lia,r.gd}
theorem BB.deeper (r:BB (k+1) A)(env:Env):BB k (A.deeper env):=
 {r.hd,by have:=r.dp;show A.depth+1+3*k+5<_;lia,by have:=r.un;show A.units+3+16*k+200<_;lia,r.gd}
theorem ZX {A:Around}:(A.under (.builtin "type.__call__" {.ref C::us,kw})).depth=A.depth+1:=by
 first | rfl | simp[Around.under,Code.weight,Code.isCreation,Code.isGuard,Code.isCaller,Code.frames,Code.isFrame,guardIds]
theorem dM {A:Around}:(A.under (.builtin "type.__call__" {.ref C::us,kw})).units=A.units+1:=by
 first | rfl | simp[Around.under,Code.cUnits,Code.frames,Code.isFrame]
theorem BB.make (r:BB (k+1) A)(C)(us)(kw):BB k (A.under (.builtin "type.__call__" {.ref C::us,kw})):=
 {r.hd,by have:=r.dp;rw[ZX];lia,by have:=r.un;rw[dM];lia,by first | exact r.gd | (simp[Around.under,Code.guards,Code.isGuard,guardIds,pushGuards];exact r.gd)}
theorem BB.depth (r:BB k A):A.depth<recursionLimit:=by have:=r.dp;lia
theorem BB.units (r:BB k A):A.units+64<cLine:=by have:=r.un;lia
theorem BB.units0 (r:BB k A):A.units<cLine:=by have:=r.un;lia
def N6:TA:=fun _ H Q=>Q [] H
def Tz (ta:TE)(tr:TA):TA:=fun σ H Q=>ta σ H fun x H1=>tr σ H1 fun xs H2=>Q (x::xs) H2
theorem zM:PA X [] N6:=fun _ _ _ _ H Q I h=>Calls.spliced_nil {[],H,I,.nil,h}
theorem zC (ha:PE X e te)(hr:PA X es t)(hs:starEach (e::es) X.env=(false,eval e X.env)::starEach es X.env:=by rfl):PA X (e::es) (Tz te t):=by intro pos pins s σ H Q I h;rw[hs];show wpAny _ _ (spliced ((false,eval e X.env)::backTo pos (starEach es X.env))) _ _ s;refine Calls.spliced_cons (AL (ha pins s σ H _ I h) fun u s1 ⟨x,H1,I1,r1,q1⟩=>?_);exact AL (hr pos pins s1 σ H1 _ I1 q1) fun us s2 ⟨xs,H2,I2,r2,q2⟩=>{x::xs,H2,I2,.cons r1 r2,q2}
inductive X3 (Q:VK)(xs:List V)(H1:Hp):Prop
 | mk:(xs.length<=sizeLine)->(∀p,H1 p=none->Q (.ref p) (upd H1 p (.tup xs)))->X3 Q xs H1
def VI (t:TA):TE:=fun σ H Q=>t σ H fun xs H1=>X3 Q xs H1
inductive Yc (Q:VK)(xs:List V)(H1:Hp):Prop
 | mk:(xs.length<=sizeLine)->(∀p,H1 p=none->Q (.ref p) (upd H1 p (.lst xs)))->Yc Q xs H1
def OS (t:TA):TE:=fun σ H Q=>t σ H fun xs H1=>Yc Q xs H1
theorem Af {x1} (h:PA X es t):PE X (.Tuple es x1 pos) (VI t):=by intro pins s σ H Q I hq;refine wpAny_Tuple_spliced (AL (h pos pins s σ H _ I hq) fun us s1 ⟨xs,H1,I1,r,z,q⟩=>{by rw[<-r.length];exact z,?_});have hf:H1 s1.heap.objs.size=none:=I1.hok.fresh (zK _);refine{.ref s1.heap.objs.size,upd H1 s1.heap.objs.size (.tup xs),I1.laid (t':=s1.toks) (fun b u e=>zL _ e) (zK _) ?_,0,q _ hf};exact{{z,_,zU _ rfl,0},us,r,{_,zU _ rfl,7}}
theorem BO (h:PA X es t):PE X (.List es pos) (OS t):=by intro pins s σ H Q I hq;refine wpAny_List_spliced (AL (h pos pins s σ H _ I hq) fun us s1 ⟨xs,H1,I1,r,z,q⟩=>{by rw[<-r.length];exact z,?_});have hf:H1 s1.heap.objs.size=none:=I1.hok.fresh (zK _);refine{.ref s1.heap.objs.size,upd H1 s1.heap.objs.size (.lst xs),I1.laid (t':=s1.toks) (fun b u e=>zL _ e) (zK _) ?_,0,q _ hf};exact⟨z,us,0,r,zU _ rfl⟩
abbrev Sp:=List V->Hp->VK->XK->Prop
abbrev JA:=List Env->Hp->Shared->XK->Value->Shared->Prop
structure JY (P:Program)(w:World)(K:AK)(mg:By)(base:Heap)(A:Around)(outer:List Env)(s:Shared)(H:Hp):Prop where
 frames:A.frames=some outer
 mod:Mod K mg base
 bs:∀b o,base.get? b=some o->s.heap.get? b=some o/\H b=none
 bsz:base.objs.size<=s.heap.objs.size
 funs:s.heap.FunFrames base outer
 frf:∀b∈A2 outer,H b=none
 hok:Ap P w H s.heap
 bare:AllBare s.gens
def CE (outer:List Env)(P:Program)(w:World)(H:Hp)(s:Shared)(Q:VK)(u:Value)(s':Shared):Prop:=
 ∃v H',s'.os=s.os/\AllBare s'.gens/\Un (A2 outer) [] H H' s.heap s'.heap/\Ap P w H' s'.heap/\AS v u/\Q v H'
def CR (CX:JA)(outer:List Env)(P:Program)(w:World)(H:Hp)(s:Shared)(Q:VK)(E:XK)(r:Result)(s':Shared):Prop:=
 match r with
 | .ok (.ret u)=>CE outer P w H s Q u s'
 | .ok _=>False
 | .error e=>CX outer H s E e s'
structure AG (P:Program)(w:World)(K:AK)(mg:By)(base:Heap)(CX:JA)(k:Nat)(f:Addr)(fd:FuncData)(ps:List Str)(sp:Sp):Prop where
 len:∀vs H Q E,sp vs H Q E->vs.length=ps.length
 run:∀(A:Around)(outer:List Env)(s:Shared)(H:Hp)(args:Args)(us:List Value)(vs:List V)(Q:VK)(E:XK),BB k A->JY P w K mg base A outer s H->BindsTo s fd args (ps.zip us)->AO vs us->sp vs H Q E ->
  codeAny (model P w) A (.call (.ref f) args) (CR CX outer P w H s Q E) s
theorem AG.mono {K:AK}(F:AG P w K mg base CX j f fd ps sp)(h:j<=k:=by decide):
 AG P w K mg base CX k f fd ps sp:={F.len,fun A outer s H args us vs Q E hr=>F.run A outer s H args us vs Q E (hr.mono h)}
theorem AG.imp {K:AK}(F:AG P w K mg base CX k f fd ps sp)
 (h:∀vs H Q E,sp' vs H Q E->sp vs H Q E):AG P w K mg base CX k f fd ps sp':=
 {fun vs H Q E q=>F.len vs H Q E (h _ _ _ _ q),fun A outer s H args us vs Q E hr he hb hv hs=>F.run A outer s H args us vs Q E hr he hb hv (h _ _ _ _ hs)}
theorem JY.make {K:AK}(e:JY P w K mg base A outer s H)(C)(us)(kw):
 JY P w K mg base (A.under (.builtin "type.__call__" {.ref C::us,kw})) outer s H:={by first | exact e.frames | (simpa [Around.under,Code.envs,Code.isFrame,pushEnvs] using e.frames),e.mod,e.bs,e.bsz,e.funs,e.frf,e.hok,e.bare}
theorem AA.env0 (I:AA X pins σ H s):JY X.prog X.w X.K X.mg X.base X.A X.stack s H:=
 {I.ok.frames,I.ok.mod,I.bs,BX I.ok.bsz I.sz,I.stack,I.stkFree,I.hok,I.bare}
theorem AA.after (I:AA X pins σ H s)(h:CE X.stack X.prog X.w H s Q u s'):EP X pins σ Q u s':=by obtain⟨v,H',os,bare,un,hok,r,q⟩:=h;obtain⟨hh,g,d,t,os'⟩:=s';obtain rfl:os'=s.os:=os;exact{v,H',I.call (h':=hh) (g':=g) (d':=d) (t':=t) (ch:=[]) un hok bare (fun b z=>absurd z (by simp)),r,q}
def JN (sp:Sp)(dvs:List V)(E:XK)(t:TA):TE:=fun σ H Q=>t σ H fun vs H1=>sp (vs++dvs) H1 Q E
def BR (K:AK)(fd:FuncData)(ps:List Str)(ds:List Value):Prop:=
 ∀s us,K.In s.heap->(us++ds).length=ps.length->BindsTo s fd {us,[]} (ps.zip (us++ds))
theorem BR.all {K:AK}(h:∀us:List Value,us.length=ps.length->bindArgs fd {us,[]}=pure (ps.zip us)):BR K fd ps []:=fun s us _ hl=>by rw[zv] at hl ⊢;exact .of_eq (h us hl)
def Qg (CX:JA)(X:Cx)(E:XK):Prop:=∀pins σ H s e s',AA X pins σ H s->CX X.stack H s E e s'->X.xe e s'
theorem Lw (F:AG X.prog X.w X.K X.mg X.base CX k f fd ps sp)(hr:BB k X.A)(hb:BR X.K fd ps ds)(hd:AO dvs ds)(hx:Qg CX X E)
 (I:AA X pins σ H s)(r:AO vs us)(h:sp (vs++dvs) H Q E):wpAny (model X.prog X.w) X.A (call (.ref f) us) (EP X pins σ Q) X.xe s:=by
 have r2:AO (vs++dvs) (us++ds):=r.append hd;have hl:(us++ds).length=ps.length:=by rw[<-r2.length];exact F.len _ _ _ _ h
 refine C9 (codeAny_mono (F.run X.A X.stack s H {us,[]} (us++ds) (vs++dvs) Q E hr I.env0 (hb s us I.kIn hl) r2 h) fun r s' hq=>?_);cases r with
 | error e=>exact hx pins σ H s e s' I hq
 | ok fl=>
  cases fl with
  | ret u=>exact I.after hq
  | next=>exact False.elim hq
  | brk=>exact False.elim hq
  | cont=>exact False.elim hq
theorem CP (F:AG X.prog X.w X.K X.mg X.base CX k f fd ps sp)(hr:BB k X.A)(hg:Gl X x)(hm:X.mg x=some (.ref f))(hk:PySem.W.keepIn X.K (.ref f)=true)(hb:BR X.K fd ps ds)(hd:AO dvs ds)(hx:Qg CX X E)
 (ha:PA X (e::es) t)(jO:(x==("__debug__" : Str))=false:=by decide) (he:starEach (e::es) X.env=(false,eval e X.env)::starEach es X.env:=by rfl)(gN:(backTo pos (starEach es X.env)).any (·.1)=false:=by rfl):
 PE X (.Call (.Name x p) (e::es) [] pos) (JN sp dvs E t):=by
 intro pins s σ H Q I h;refine IE (Ni I hg hm ?_ jO);refine PySem.W.callWith_K (h₀:=X.base) I.ok.mod.kin hk (AL (ha pos pins s σ H _ I h) fun us s1 ⟨vs,H1,I1,r,q⟩=>{I1.kIn,?_}) he gN;exact Lw F hr hb hd hx I1 r q
structure zw (N P:List Str)(sc:Scope):Prop where
 kind:sc.kind=.function
 co:sc.isCoroutine=false
 gen:sc.isGenerator=false
 nd:N.Nodup
 pre:N.take P.length=P
 par:∀x∈P,sc.names.lookup x=some .local\/sc.names.lookup x=some .cell
 nofree:∀y∈sc.names,y.2 ≠ .free
theorem AV (a:sc.kind=.function:=by rfl)(b:sc.isCoroutine=false:=by rfl)(c:sc.isGenerator=false:=by rfl)(d:N.Nodup:=by decide +kernel)(e:N.take P.length=P:=by rfl)(f:∀x∈P,sc.names.lookup x=some .local\/sc.names.lookup x=some .cell:=by decide +kernel)(g:∀y∈sc.names,y.2 ≠ .free:=by decide +kernel):zw N P sc:=⟨a,b,c,d,e,f,g⟩
theorem Yi {kindOf:Str->Option NameKind}:∀{binds:List (Str×Value)}{m:By},(∀v,(x,v)∉binds)->bindL kindOf binds m x=m x
 | [],_,_=>rfl
 | (n,v)::r,m,h=>by
  unfold bindL;rw[Yi fun w hw=>h w (zd _ hw)];split
  . have:x≠n:=by rintro rfl;exact h v zX
    simp[this]
  . rfl
theorem Wn {kindOf:Str->Option NameKind}:∀{binds:List (Str×Value)}{m:By},(∀v,(x,v)∉binds)->bindC kindOf binds m x=m x
 | [],_,_=>rfl
 | (n,v)::r,m,h=>by
  unfold bindC;rw[Wn fun w hw=>h w (zd _ hw)];split
  . rfl
  . have:x≠n:=by rintro rfl;exact h v zX
    simp[this]
theorem Wj {kindOf:Str->Option NameKind}:∀{P:List Str}{vs:List Value}{i:Nat}{m:By},P.Nodup->P[i]?=some x->vs[i]?=some v->kindOf x=some .local ->
 bindL kindOf (P.zip vs) m x=some v
 | [],_,_,_,_,h,_,_=>by simp at h
 | _::_,[],_,_,_,_,h,_=>by simp at h
 | p::P,w::vs,0,m,nd,h1,h2,hk=>by simp at h1 h2;subst h1;subst h2;show bindL kindOf ((p,w)::P.zip vs) m p=_;unfold bindL;rw[Yi fun v hv=>(D8.mp nd).1 (List.of_mem_zip hv).1,if_pos hk];simp
 | p::P,w::vs,i+1,m,nd,h1,h2,hk=>by show bindL kindOf ((p,w)::P.zip vs) m x=_;unfold bindL;exact Wj (i:=i) (D8.mp nd).2 (by simpa using h1) (by simpa using h2) hk
theorem Xd {kindOf:Str->Option NameKind}:∀{P:List Str}{vs:List Value}{i:Nat}{m:By},P.Nodup->P[i]?=some x->vs[i]?=some v->kindOf x≠some .local ->
 bindC kindOf (P.zip vs) m x=some v
 | [],_,_,_,_,h,_,_=>by simp at h
 | _::_,[],_,_,_,_,h,_=>by simp at h
 | p::P,w::vs,0,m,nd,h1,h2,hk=>by simp at h1 h2;subst h1;subst h2;show bindC kindOf ((p,w)::P.zip vs) m p=_;unfold bindC;rw[Wn fun v hv=>(D8.mp nd).1 (List.of_mem_zip hv).1,if_neg hk];simp
 | p::P,w::vs,i+1,m,nd,h1,h2,hk=>by show bindC kindOf ((p,w)::P.zip vs) m x=_;unfold bindC;exact Xd (i:=i) (D8.mp nd).2 (by simpa using h1) (by simpa using h2) hk
noncomputable def start (N:List Str)(vs:List V):St:=vs.map some++List.replicate (N.length-vs.length) none
noncomputable def Dh (CX:JA)(P:Program)(w:World)(K:AK)(mg:By)(base:Heap)(N:List Str)(qual:Str)(scope:Scope)(f:Addr)(cd:Value)(A:Around)(outer:List Env)(s:Shared)(H:Hp)(E:XK):Cx where
 prog:=P
 w:=w
 K:=K
 mg:=mg
 base:=base
 A:=A.deeper (envOfC qual scope s.heap.objs.size f cd)
 N:=N
 s₀:=s
 H₀:=H
 env:=envOfC qual scope s.heap.objs.size f cd
 outer:=outer
 stack:=envOfC qual scope s.heap.objs.size f cd::outer
 ex:=[]
 calm:=true
 fn:=fun _=>true
 pn:=[]
 xe:=fun e s'=>wpAny (model P w) (A.deeper (envOfC qual scope s.heap.objs.size f cd)) (leaving (envOfC qual scope s.heap.objs.size f cd) e) (fun _ s''=>CX outer H s E e s'') (fun e' s''=>CX outer H s E e' s'') s'
theorem Yj {sc:Scope}(h:sc.names.lookup x=some .cell):∃c,(cellsFrom n sc.names []).lookup x=some c:=by have q:=PySem.W.cellsFrom_some sc.names n [] (.inl h);exact Jv.mp q
theorem cI {K:AK}
 (S:zw N ps scope)(hd:A.handled=none)(e0:JY P w K mg base A outer s H)(hl:vs.length=ps.length)(r:AO vs us)
 (x:InCallC s s.heap.objs.size (bindL (envOfC qual scope s.heap.objs.size f cd).kindOf (ps.zip us) fun _=>none) (cellsFrom (s.heap.objs.size+1) scope.names []) (bindC (envOfC qual scope s.heap.objs.size f cd).kindOf (ps.zip us) fun _=>none) s1):
 AA (Dh CX P w K mg base N qual scope f cd A outer s H E) [] (start N vs) H s1:=by
 have gN:ps.length<=N.length:=by have:=congrArg List.length S.pre;rw[zp] at this;lia
 obtain⟨h1,tk,rfl,hk⟩:=x.done;have noA:∀b:Addr,b∉(Dh CX P w K mg base N qual scope f cd A outer s H E).ex:=fun b z=>absurd (show b∈([]:List Addr) from z) (by simp);refine{{e0.mod,S.kind,3,zK _,fun y z c h1 h2=>?_,fun y hy=>?_,fun y c _ h=>?_,fun _=>hd,Around.frames_deeper e0.frames,.inr {3},fun b z=>absurd z (noA b),e0.bs,e0.bsz,fun b _ _=>noA b,fun b z=>absurd z (noA b),e0.funs,e0.frf},0,e0.bare,Un.kept hk,{_,x.toInCall.ns,fun i y v h1 h2 h3=>?_},fun y c h=>{_,x.cell y c h},e0.hok.fresh (zK _),fun y c h=>?_,fun p hp=>absurd (show p∈([]:B6) from hp) (by simp),e0.hok.kept hk,?_}
 . exact name_of_addr x.apart (PySem.mem_of_lookup h1) (PySem.mem_of_lookup h2)
 . have hy:scope.names.lookup y=some .cell\/scope.names.lookup y=some .free:=hy;rcases hy with hy | hy
   . exact Yj hy
   . exact absurd rfl (S.nofree _ (PySem.mem_of_lookup hy))
 . exact CT (x.above y c (PySem.mem_of_lookup h))
 . have hi:i<vs.length:=by
    unfold start at h2;by_cases hi:i<vs.length
    . exact hi
    . rw[za (by simpa using hi)] at h2;rw[Mg] at h2;split at h2 <;> cases h2
   have ha:vs[i]?=some v:=by
    unfold start at h2;rw[ze (by simpa using hi),zN] at h2;cases e:vs[i]? with
    | none=>rw[e] at h2;cases h2
    | some a=>rw[e] at h2;cases h2;rfl
   obtain⟨u,hu,rv⟩:=r.get ha;have hp:ps[i]?=some y:=by rw[<-S.pre,List.getElem?_take_of_lt (by lia)];exact h1
   have ndP:ps.Nodup:=by rw[<-S.pre];exact S.nd.sublist (List.take_sublist _ _)
   refine{u,rv,?_};rcases S.par y (zQ hp) with k | k
   . exact .inl {k,Wj ndP hp hu k}
   . obtain⟨c,e⟩:=Yj (n:=s.heap.objs.size+1) k;refine .inr {.inl k,c,e,?_};have q:=x.cell y c e;rw[Xd ndP hp hu (by show scope.names.lookup y≠_;rw[k];decide)] at q;exact q
 . exact e0.hok.fresh (CT (x.above y c (PySem.mem_of_lookup h)))
 . unfold start;show _=N.length;rw[zH,zB,Cj]
   lia
theorem IZ {CX:JA}{P:Program}{w:World}{K:AK}{mg:By}{base:Heap}{k:Nat}{f:Addr}{name qual:Str}{params:Arguments}{body:List Stmt}{scope:Scope}{dV kV doc pm fg ct oc:Value}{an od:Option Addr}
 {osl:Array (Option Value)}{N ps:List Str}{sp:Sp}(lk:K.lookup f=some {oc,od,.func (PySem.W.fnOf name qual params body scope dV kV doc pm an fg ct),osl})(iz:PySem.W.codeIn K fg qual=true)(S:zw N ps scope)
 (len:∀vs H Q E,sp vs H Q E->vs.length=ps.length)
 (gT:∀A outer s H vs Q E,BB k (A.deeper (envOfC qual scope s.heap.objs.size f fg))->sp vs H Q E ->
  ∃t,CY (Dh CX P w K mg base N qual scope f fg A outer s H E) body t/\t { nx:=fun _ H'=>Q .non H',rt:=Q } (start N vs) H):
 AG P w K mg base CX (k+1) f (PySem.W.fnOf name qual params body scope dV kV doc pm an fg ct) ps sp:=by
 refine{len,fun A outer s H args us vs Q E hr e0 hb r gW=>?_};have hl:=len _ _ _ _ gW;have KX:K.In s.heap:=e0.mod.kin.keeps fun b o e=>(e0.bs b o e).1;have lim:s.heap.NoLimit:=e0.mod.nolimit.keeps fun b o e=>(e0.bs b o e).1;have hkind:∀y∈ps.zip us,scope.names.lookup y.1=some .local\/(scope.names.lookup y.1=some .cell/\((cellsFrom (s.heap.objs.size+1) scope.names []).lookup y.1).isSome=true):=fun ⟨n,v⟩ hy=>by
  rcases S.par n (List.of_mem_zip hy).1 with q | q
  . exact .inl q
  . exact .inr {q,PySem.W.cellsFrom_some _ _ _ (.inl q)}
 refine codeAny_call_function hr.depth (KX _ _ lk) rfl S.co S.gen rfl (PySem.W.codeRec_of KX iz) (hb _ _ _ _ ?_);refine wpAny_newFunctionEnv_cells S.kind hkind fun env he s1 x=>?_;subst he;refine{lim.keeps x.toInCall.keep,codeAny_func ?_};obtain⟨t,ht,hq⟩:=gT A outer s H vs Q E (hr.deeper _) gW;have I:AA (Dh CX P w K mg base N qual scope f fg A outer s H E) [] (start N vs) H s1:=cI S hr.hd e0 hl r x;refine BE (ht [] s1 (start N vs) H _ I hq) (fun fl s' hs=>?_) fun e s' hs=>hs;have fin:∀{σ':St}{H':Hp}{v:V}{u:Value},AA (Dh CX P w K mg base N qual scope f fg A outer s H E) [] σ' H' s'->AS v u->Q v H'->CE outer P w H s Q u s':=
  fun {σ' H' v u} J rv q=>⟨v,H',J.os,J.bare,J.base,J.hok,rv,q⟩
 cases fl with
 | ret u=>obtain⟨v,σ',H',J,rv,q⟩:=hs;exact fin J rv q
 | next=>obtain⟨σ',H',J,q⟩:=hs;exact fin (v:=V.non) (u:=Value.none) J rfl q
 | brk=>obtain⟨_,_,_,q⟩:=hs;exact False.elim q
 | cont=>obtain⟨_,_,_,q⟩:=hs;exact False.elim q
section
variable {X:Cx}{x:Str}{p pos:Pos}{e:Expr}{es:List Expr}{t:TA}{id T:String}{r:List V->Hp->VK->Prop}
def Yy (r:List V->Hp->VK->Prop)(t:TA):TE:=fun σ H Q=>t σ H fun vs H1=>r vs H1 Q
theorem zy (hc:CH X (.builtin id) r)(hm:X.mg x=none)(ha:PA X (e::es) t)(hg:Gl X x:=by rfl)(hv:bootBuiltins x=some (.builtin id):=by decide +kernel)(hn:x ≠ "__name__" := by decide) (jO:(x==("__debug__" : Str))=false:=by decide)
 (he:starEach (e::es) X.env=(false,eval e X.env)::starEach es X.env:=by rfl)(gN:(backTo pos (starEach es X.env)).any (·.1)=false:=by rfl):PE X (.Call (.Name x p) (e::es) [] pos) (Yy r t):=by
 intro pins s σ H Q I h;refine IE (Em I hg hm hv ?_ hn jO);exact PyProof.Rows.callWith_builtin1 (AL (ha pos pins s σ H _ I h) fun us s1 ⟨vs,H1,I1,r1,q1⟩=>hc pins s1 σ H1 vs us Q I1 r1 q1) he gN
theorem Cq (hc:CH X (.type T) r)(hm:X.mg x=none)(ha:PA X (e::es) t)(hg:Gl X x:=by rfl)(hv:bootBuiltins x=some (.type T):=by decide +kernel)(hn:x ≠ "__name__" := by decide) (jO:(x==("__debug__" : Str))=false:=by decide)
 (he:starEach (e::es) X.env=(false,eval e X.env)::starEach es X.env:=by rfl)(gN:(backTo pos (starEach es X.env)).any (·.1)=false:=by rfl):PE X (.Call (.Name x p) (e::es) [] pos) (Yy r t):=by
 intro pins s σ H Q I h;refine IE (Em I hg hm hv ?_ hn jO);exact PyProof.Rows.callWith_type1 (AL (ha pos pins s σ H _ I h) fun us s1 ⟨vs,H1,I1,r1,q1⟩=>hc pins s1 σ H1 vs us Q I1 r1 q1) he gN
end
section
variable {κ:Type} [DecidableEq κ]
noncomputable def Ah (eO:List (κ×V))(k:κ):Option V:=(eO.find? fun kv=>decide (kv.1=k)).map (·.2)
noncomputable def BH (eO:List (κ×V))(k:κ)(v:V):List (κ×V):=
 if (eO.any fun kv=>decide (kv.1=k))=true then eO.map (fun kv=>if kv.1=k then (kv.1,v) else kv) else eO++[(k,v)]
theorem WJ :Ah ([]:List (κ×V)) k=none:=rfl
theorem EX {r:List (κ×V)}(e:p.1=k):Ah (p::r) k=some p.2:=by simp[Ah,IJ,e]
theorem EZ {r:List (κ×V)}(e:¬ p.1=k):Ah (p::r) k=Ah r k:=by simp[Ah,IJ,e]
theorem IF (k:κ):∀eO:List (κ×V),(eO.any fun kv=>decide (kv.1=k))=(Ah eO k).isSome
 | []=>rfl
 | p::r=>by
  rw[List.any_cons];by_cases e:p.1=k
  . simp only[EX e,zO e,Bool.true_or,Option.isSome_some]
  . rw[EZ e,zS e,Bool.false_or];exact IF k r
theorem Vm (k j:κ)(y):∀eO:List (κ×V),Ah (eO.map fun kv=>if kv.1=k then (kv.1,y) else kv) j=(Ah eO j).map fun x=>if j=k then y else x
 | []=>rfl
 | p::r=>by
  have ih:=Vm k j y r;rw[Cn];by_cases h:p.1=k
  . rw[if_pos h];by_cases e:p.1=j
    . rw[EX (p:=(p.1,y)) e,EX e,EC,if_pos (e.symm.trans h)]
    . rw[EZ (p:=(p.1,y)) e,EZ e,ih]
  . rw[if_neg h];by_cases e:p.1=j
    . rw[EX (p:=p) e,EX e,EC,if_neg (fun z=>h (e.trans z))]
    . rw[EZ (p:=p) e,EZ e,ih]
theorem XR (k j:κ)(y):∀eO:List (κ×V),Ah eO k=none->Ah (eO++[(k,y)]) j=if j=k then some y else Ah eO j
 | [],_=>by
  by_cases e:k=j
  . rw[if_pos e.symm];exact EX (p:=(k,y)) e
  . rw[if_neg (fun z=>e z.symm)];exact EZ (p:=(k,y)) e
 | p::r,hn=>by
  rw[List.cons_append];have hk:¬ p.1=k:=fun z=>by rw[EX z] at hn;cases hn
  rw[EZ hk] at hn;have ih:=XR k j y r hn;by_cases e:p.1=j
  . rw[EX e,EX e,if_neg (fun z=>hk (e.trans z))]
  . rw[EZ e,EZ e,ih]
theorem TC (eO)(k j:κ)(y):Ah (BH eO k y) j=if j=k then some y else Ah eO j:=by
 unfold BH;by_cases a:(eO.any fun kv=>decide (kv.1=k))=true
 . rw[if_pos a,Vm];rw[IF] at a;by_cases e:j=k
   . obtain⟨x,hx⟩:=Jv.mp a;rw[if_pos e,e,hx,EC,if_pos rfl]
   . rw[if_neg e];cases Ah eO j with
     | none=>rfl
     | some x=>rw[EC,if_neg e]
 . rw[if_neg a];refine XR k j y eO ?_;rw[IF] at a;cases q:Ah eO k with
   | none=>rfl
   | some x=>rw[q] at a;exact (a rfl).elim
theorem Jl (eO)(k:κ)(v):(BH eO k v).length<=eO.length+1:=by
 unfold BH;split
 . rw[zB];lia
 . rw[zH,zk,List.length_nil];lia
theorem SS {k:κ}(v)(h:Ah eO k=none):BH eO k v=eO++[(k,v)]:=by unfold BH;rw[IF,h];exact if_neg (by decide)
theorem CW.isSome_eq (r:CW o u):o.isSome=u.isSome:=by
 cases o with
 | none=>cases u with
  | none=>rfl
  | some _=>exact (show False from r).elim
 | some _=>cases u with
  | none=>exact (show False from r).elim
  | some _=>rfl
theorem CW.getD (r:CW o u)(rd:AS d d'):AS (o.getD d) (u.getD d'):=by
 cases o with
 | none=>cases u with
  | none=>exact rd
  | some _=>exact (show False from r).elim
 | some _=>cases u with
  | none=>exact (show False from r).elim
  | some _=>exact r
theorem KV.val (r:KV eO vs)(k:κ):CW (Ah eO k) (valueAt vs k):=by
 unfold KV at r
 induction r with
 | nil=>exact True.intro
 | @cons p q ps qs h t ih=>
  obtain⟨h1,h2⟩:=h;by_cases e:p.1=k
  . have e':q.1=k:=h1.symm.trans e;have b:valueAt (q::qs) k=some q.2:=by simp[valueAt,IJ,e']
    rw[EX e,b];exact h2
  . have e':¬ q.1=k:=fun z=>e (h1.trans z);have b:valueAt (q::qs) k=valueAt qs k:=by simp[valueAt,IJ,e']
    rw[EZ e,b];exact ih
theorem KV.any (r:KV eO vs)(k:κ):(eO.any fun kv=>decide (kv.1=k))=vs.any fun kv=>decide (kv.1=k):=by
 unfold KV at r
 induction r with
 | nil=>rfl
 | cons h t ih=>rw[List.any_cons,List.any_cons,ih,h.1]
theorem KV.repl (r:KV eO vs)(k:κ)(ry:AS y u):
 KV (eO.map fun kv=>if kv.1=k then (kv.1,y) else kv) (vs.map fun kv=>if kv.1=k then (kv.1,u) else kv):=by
 unfold KV at r ⊢
 induction r with
 | nil=>exact .nil
 | @cons p q ps qs h t ih=>
  rw[Cn,Cn];refine .cons ?_ ih;obtain⟨h1,h2⟩:=h;by_cases e:p.1=k
  . rw[if_pos e,if_pos (h1.symm.trans e)];exact⟨h1,ry⟩
  . rw[if_neg e,if_neg (fun z=>e (h1.trans z))];exact⟨h1,h2⟩
theorem KV.put (r:KV eO vs)(k:κ)(ry:AS y u):KV (BH eO k y) (stored vs k u):=by
 unfold BH stored;rw[r.any k];by_cases e:(vs.any fun kv=>decide (kv.1=k))=true
 . rw[if_pos e,if_pos e];exact r.repl k ry
 . rw[if_neg e,if_neg e];exact Paired.snoc r {0,ry}
theorem KV.length {vs:List (κ×Value)}(r:KV eO vs):eO.length=vs.length:=Paired.length r
end
theorem Jx (r:AS (kV k) u):(BL P w).is k u=true:=by
 cases k with
 | inl i=>obtain⟨t,e⟩:=(show ∃t,u=Value.int i t from r);subst e;exact aw P w i t
 | inr x=>obtain⟨t,e⟩:=(show ∃t,u=Value.str x t from r);subst e;exact ZV P w x t
theorem YX :∀{ks:List AQ}{us:List Value},AO (ks.map kV) us->ItemsAre (BL P w) ks us
 | [],_,r=>by rw[List.map_nil] at r;cases r;exact .nil
 | k::ks,_,r=>by
  rw[Cn] at r;cases r with
  | cons h t=>exact .cons (Jx h) (YX t)
abbrev KT (H:Hp):List (List AQ×V)->List (List AQ×Addr×Value)->Prop:=Paired fun p q=>p.1=q.1/\H q.2.1=some (.tup (p.1.map kV))/\AS p.2 q.2.2
theorem KT.val (r:KT H eO xs)(k):CW (Ah eO k) ((atKey xs k).map (·.2)):=by
 induction r with
 | nil=>exact True.intro
 | @cons p q ps qs h t ih=>
  obtain⟨h1,_,h2⟩:=h;by_cases e:p.1=k
  . have e':q.1=k:=h1.symm.trans e;have b:atKey (q::qs) k=some q.2:=by simp[atKey,IJ,e']
    rw[EX e,b];exact h2
  . have e':¬ q.1=k:=fun z=>e (h1.trans z);have b:atKey (q::qs) k=atKey qs k:=by simp[atKey,IJ,e']
    rw[EZ e,b];exact ih
theorem KT.repl (r:KT H eO xs)(k)(ry:AS y u):
 KT H (eO.map fun kv=>if kv.1=k then (kv.1,y) else kv) (xs.map (putAt k u)):=by
 induction r with
 | nil=>exact .nil
 | @cons p q ps qs h t ih=>
  rw[Cn,Cn];refine .cons ?_ ih;obtain⟨h1,h2,h3⟩:=h;unfold putAt;by_cases e:p.1=k
  . rw[if_pos e,if_pos (h1.symm.trans e)];exact⟨h1,h2,ry⟩
  . rw[if_neg e,if_neg (fun z=>e (h1.trans z))];exact⟨h1,h2,h3⟩
theorem KT.put (r:KT H eO xs)(k)(hb:H b=some (.tup (k.map kV)))(ry:AS y u):
 KT H (BH eO k y) (storedH xs k b u):=by
 have e:(eO.any fun kv=>decide (kv.1=k))=(atKey xs k).isSome:=by rw[IF,(r.val k).isSome_eq,Option.isSome_map]
 unfold BH storedH;rw[e];by_cases q:(atKey xs k).isSome=true
 . rw[if_pos q,if_pos q];exact r.repl k ry
 . rw[if_neg q,if_neg q];exact Paired.snoc r {0,hb,ry}
theorem KT.keeps (r:KT H eO xs)(ht:∀b ys,H b=some (.tup ys)->H' b=some (.tup ys)):KT H' eO xs:=
 Paired.mapP r fun _ _ z=>{z.1,ht _ _ z.2.1,z.2.2}
theorem Iq (ok:Ap P w H h)(e:Rd H a u):Ax P w H h a u:=e.ok ok
theorem Jm (ok:Ap P w H h)(e:Rd H a (.dK eO)):eO.length<=sizeLine/\(a==sysModules)=false/\∃vs,KV eO vs/\h.DictOf (BL P w) a vs:=
 show Ax P w H h a (.dK eO) from Iq ok e
theorem O0 (ok:Ap P w H h)(e:H a=some (.dK eO)):eO.length<=sizeLine/\(a==sysModules)=false/\∃vs,KV eO vs/\h.DictOf (BL P w) a vs:=Jm ok (.inl e)
theorem Mu (ok:Ap P w H h)(e:H a=some (.tup (ks.map kV))):(tupleKind (BL P w)).is h ks a:=by obtain⟨_,its,r,o,h1,h2,n,h3⟩:=(show Ax P w H h a (.tup (ks.map kV)) from ok a _ e);exact{o,its.toArray,n,h1,h2,h3,by simpa using YX r}
theorem JV (ok:Ap P w H h)(e:Rd H a (.dT eO)):eO.length<=sizeLine/\(a==sysModules)=false /\
 ∃xs,KT H eO xs/\h.DictOfH (tupleKind (BL P w)) a xs:=by
 obtain⟨z,y,xs,r,o,es,ep,h1,h2,h3,h4,h5⟩:=(show Ax P w H h a (.dT eO) from Iq ok e);refine{z,y,xs,r,o,es,ep,h1,h2,h3,h4,fun x hx=>?_,h5};have all:∀{l:List (List AQ×V)}{m:List (List AQ×Addr×Value)},KT H l m->∀x∈m,(tupleKind (BL P w)).is h x.1 x.2.1:=by
  intro l m q
  induction q with
  | nil=>intro x hx;exact nomatch hx
  | @cons p q ps qs hq t ih=>
   intro x hx;rcases zb.mp hx with e | hx
   . subst e;exact Mu ok (by rw[<-hq.1];exact hq.2.1)
   . exact ih x hx
 exact all r x hx
theorem Pa (ok:Ap P w H h)(e:H a=some (.dT eO)):eO.length<=sizeLine/\(a==sysModules)=false /\
 ∃xs,KT H eO xs/\h.DictOfH (tupleKind (BL P w)) a xs:=JV ok (.inl e)
def BK (H:Hp)(a:Addr)(y:V)(r:Option V):Prop:=
 (∃eO k,Rd H a (.dK eO)/\y=kV k/\r=Ah eO k)\/∃eO k b,Rd H a (.dT eO)/\y=.ref b/\H b=some (.tup (k.map kV))/\r=Ah eO k
def IG (H:Hp)(a:Addr)(y v:V)(H':Hp):Prop:=
 (∃eO k,H a=some (.dK eO)/\y=kV k/\eO.length<sizeLine/\H'=upd H a (.dK (BH eO k v))) \/
 ∃eO k b,H a=some (.dT eO)/\y=.ref b/\H b=some (.tup (k.map kV))/\eO.length<sizeLine/\H'=upd H a (.dT (BH eO k v))
theorem BK.k {k:AQ}(e:H a=some (.dK eO)):BK H a (kV k) (Ah eO k):=.inl {eO,k,.inl e,3}
theorem BK.t {k:List AQ}(e:H a=some (.dT eO))(eb:H b=some (.tup (k.map kV))):BK H a (.ref b) (Ah eO k):=.inr {eO,k,b,.inl e,0,eb,0}
theorem IG.t (e:H a=some (.dT eO))(eb:H b=some (.tup (k.map kV)))(hl:eO.length<sizeLine):
 IG H a (.ref b) v (upd H a (.dT (BH eO k v))):=.inr {eO,k,b,e,0,eb,hl,0}
theorem AA.big (I:AA X pins σ H s):sysModules<s.heap.objs.size:=by have h:mainGlobals<s.heap.objs.size:=(I.mod.glob.keeps I.bk).lt;exact Nat.lt_trans (by decide) h
theorem cL (hu:A.units+1<cLine)(I:AA X pins σ H s)(g:BK H a y (some v))(ry:AS y u)(h:∀w' s',AA X pins σ H s'->AS v w'->Q w' s'):
 wpAny (model X.prog X.w) A (getItem (.ref a) u) Q E s:=by
 rcases g with ⟨eO,k,e,ey,l⟩ | ⟨eO,k,b,e,ey,eb,l⟩
 . subst ey;obtain⟨z,hd,vs,rel,dd⟩:=Jm I.hok e;obtain⟨w',hw,jF⟩:=CW.some_of (v:=v) (o:=valueAt vs k) (by rw[l];exact rel.val k);exact wpAny_getItem_of (Jx ry) dd.mapOf hw (h w' _ (I.tok _) jF)
 . subst ey;cases (show u=Value.ref b from ry);obtain⟨z,hd,xs,rel,dd⟩:=JV I.hok e;obtain⟨w',hw,jF⟩:=CW.some_of (v:=v) (o:=(atKey xs k).map (·.2)) (by rw[l];exact rel.val k);obtain⟨p,hp,gk⟩:=M8.mp hw;refine wpAny_getItem_heap (tupleKind_room_in1 hu) (Mu I.hok eb) dd hp ?_;rw[gk];exact h w' _ (I.tok _) jF
theorem Us (hu:A.units+1<cLine)(I:AA X pins σ H s)(g:BK H a y o)(ry:AS y u)(h:∀s',AA X pins σ H s'->Q (.bool o.isSome) s'):
 wpAny (model X.prog X.w) A (compareOp .In u (.ref a)) Q E s:=by
 rcases g with ⟨eO,k,e,ey,l⟩ | ⟨eO,k,b,e,ey,eb,l⟩
 . subst ey;obtain⟨z,hd,vs,rel,dd⟩:=Jm I.hok e;refine wpAny_in_of (Jx ry) hd dd.mapOf ?_;rw[<-(rel.val k).isSome_eq,<-l];exact h _ (I.tok _)
 . subst ey;cases (show u=Value.ref b from ry);obtain⟨z,hd,xs,rel,dd⟩:=JV I.hok e;refine wpAny_in_heap (tupleKind_room_in1 hu) (Mu I.hok eb) hd dd ?_;have q:=(rel.val k).isSome_eq;rw[Option.isSome_map] at q;rw[<-q,<-l];exact h _ (I.tok _)
theorem aQ (hu:A.units+1<cLine)(I:AA X pins σ H s)(g:BK H a y o)(ry:AS y u)(h:∀s',AA X pins σ H s'->Q (.bool (!o.isSome)) s'):
 wpAny (model X.prog X.w) A (compareOp .NotIn u (.ref a)) Q E s:=by
 rcases g with ⟨eO,k,e,ey,l⟩ | ⟨eO,k,b,e,ey,eb,l⟩
 . subst ey;obtain⟨z,hd,vs,rel,dd⟩:=Jm I.hok e;refine wpAny_notIn_of (Jx ry) hd dd.mapOf ?_;rw[<-(rel.val k).isSome_eq,<-l];exact h _ (I.tok _)
 . subst ey;cases (show u=Value.ref b from ry);obtain⟨z,hd,xs,rel,dd⟩:=JV I.hok e;refine wpAny_notIn_heap (tupleKind_room_in1 hu) (Mu I.hok eb) hd dd ?_;have q:=(rel.val k).isSome_eq;rw[Option.isSome_map] at q;rw[<-q,<-l];exact h _ (I.tok _)
theorem Vr (I:AA X pins σ H s)(mu:IV (H a))(hs:Heap.SameBut a s.heap h')(he:∃q,h'.get? a=some q)(new:Ax X.prog X.w (upd H a ob) h' a ob):
 AA X pins σ (upd H a ob) { s with heap:=h',toks:=t' }:=
 I.write (x:=a) (e:=a) mu (.inl rfl) (fun b q hb z=>(hs.2 b hb).trans z) he new
theorem YE (z:eO.length<=sizeLine)(hd:(a==sysModules)=false)(rel:KV eO vs)(dd:h'.DictOf (BL P w) a vs):
 Ax P w H' h' a (.dK eO):=⟨z,hd,vs,rel,dd⟩
theorem dJ (hu:A.units+1<cLine)(I:AA X pins σ H s)(g:IG H a y v H')(ry:AS y u)(rv:AS v r)(h:∀s',AA X pins σ H' s'->Q () s'):
 wpAny (model X.prog X.w) A (setItem (.ref a) u r) Q E s:=by
 rcases g with ⟨eO,k,e,ey,l,eH⟩ | ⟨eO,k,b,e,ey,eb,l,eH⟩
 . subst ey eH;obtain⟨z,hd,vs,rel,dd⟩:=O0 I.hok e;have hz:vs.length<=sizeLine:=by rw[<-rel.length];exact z
   have hl:(BH eO k v).length<=sizeLine:=by have:=Jl eO k v;lia
   refine wpAny_setItem_pairs (hsz:=hz) (Jx ry) dd fun h' dd' hs=>h _ ?_;have he:∃q,h'.get? a=some q:=let {q,4,hq,_}:=dd';⟨q,hq⟩;exact Vr I (by rw[e];exact True.intro) hs he (YE hl hd (rel.put k rv) dd')
 . subst ey eH;cases (show u=Value.ref b from ry);obtain⟨z,hd,xs,rel,dd⟩:=Pa I.hok e;have hz:xs.length<=sizeLine:=by rw[<-Paired.length rel];exact z
   have hl:(BH eO k v).length<=sizeLine:=by have:=Jl eO k v;lia
   refine wpAny_setItem_heap (hsz:=hz) (tupleKind_room_in1 hu) (Mu I.hok eb) dd fun h' dd' hs=>h _ ?_;obtain⟨q,es,ep,hq,h2,h3,h4,_,h5⟩:=dd';refine Vr I (by rw[e];exact True.intro) hs ⟨q,hq⟩ {hl,hd,_,(rel.put k eb rv).keeps fun c ys ec=>?_,q,es,ep,hq,h2,h3,h4,h5};rw[zj (Bu ec e (fun z=>nomatch z))];exact ec
def Pb (i:Expr):Prop:=∀ov iv,subscripted i false ov iv=operate [ov,iv] (getItem ov iv)
theorem cM {id:String}
 (hl:typeLookup (.type T) "__getitem__"=pure (some (.builtin id))) (hs:Pb slice)
 (h:wpAny (model prog w) A (eval value env) (fun o s₁=>wpAny (model prog w) A (eval slice env) (fun i s₂=>s₂.TypeIs o T/\wpAny (model prog w) A (getItem o i) Q E s₂) E s₁) E s):
 wpAny (model prog w) A (eval (.Subscript value slice pos) env) Q E s:=by
 refine Subscript_ (BE h (fun o s₁ h₁=>BE h₁ (fun i s₂ h₂=>?_) fun _ _ x=>x) fun _ _ x=>x);obtain⟨hT,h₂⟩:=h₂;unfold subscriptTail;refine zA ?_;rw[getitemInPython_of_ne hT.not_modules];refine zA (wpAny_specialOf hT hl ?_);have fin:wpAny (model prog w) A (subscripted slice false o i) (fun r s₃=>wpAny (model prog w) A (letTemporaryGo value o r >>= fun _=>pure r) Q E s₃) E s₂:=by rw[hs o i];exact wpAny_operating (BE h₂ (fun r s₃ h₃=>zA (wpAny_letTemporaryGo (zE h₃))) fun _ _ x=>x)
 first
  | exact zE (zA fin)
  | exact zA (zE (zA fin))
  | exact zA fin
theorem bW (I:AA X pins σ H s)(g:BK H a y o):s.TypeIs (.ref a) "dict" := by
 rcases g with ⟨eO,k,e,_,_⟩ | ⟨eO,k,b,e,_,_,_⟩
 . obtain⟨_,_,vs,_,dd⟩:=Jm I.hok e;exact dd.typeIs
 . obtain⟨_,_,xs,_,dd⟩:=JV I.hok e;exact dd.typeIs
def OY (td ty:TE):TE:=fun σ H Q=>td σ H fun x H1=>ty σ H1 fun y H2=>∃a v,x=.ref a/\BK H2 a y (some v)/\Q v H2
def Uq (ty td:TE):TE:=fun σ H Q=>ty σ H fun y H1=>td σ H1 fun x H2=>∃a o,x=.ref a/\BK H2 a y o/\Q (.bl o.isSome) H2
def aB (ty td:TE):TE:=fun σ H Q=>ty σ H fun y H1=>td σ H1 fun x H2=>∃a o,x=.ref a/\BK H2 a y o/\Q (.bl (!o.isSome)) H2
def Oh (td ty tv:TE):TS:=fun D σ H=>tv σ H fun v H1=>td σ H1 fun x H2=>ty σ H2 fun y H3=>∃a H4,x=.ref a/\IG H3 a y v H4/\D.nx σ H4
theorem Ja (hu:X.A.units+1<cLine)(ho:PE X o td)(hi:PE X i ty)(hs:Pb i):PE X (.Subscript o i pos) (OY td ty):=by intro pins s σ H Q I h;refine cM PySem.F.slot_dict_getitem.lookup hs (AL (ho pins s σ H _ I h) fun u s1 ⟨x,H1,I1,rx,q1⟩=>AL (hi pins s1 σ H1 _ I1 q1) fun iv s2 ⟨y,H2,I2,ry,a,v,ex,g,q2⟩=>?_);subst ex;obtain rfl:u=Value.ref a:=rx;exact{bW I2 g,cL hu I2 g ry fun w' s3 I3 jF=>⟨v,H2,I3,jF,q2⟩}
theorem Na (hu:X.A.units+1<cLine)(hi:PE X i ty)(ho:PE X o td):PC X .In i o (Uq ty td):=by intro pins s σ H Q I h;refine AL (hi pins s σ H _ I h) fun iv s1 ⟨y,H1,I1,ry,q1⟩=>AL (ho pins s1 σ H1 _ I1 q1) fun u s2 ⟨x,H2,I2,rx,a,ov,ex,g,q2⟩=>?_;subst ex;obtain rfl:u=Value.ref a:=rx;exact Us hu I2 g ry fun s3 I3=>{.bl ov.isSome,H2,I3,0,q2}
theorem Xk (hu:X.A.units+1<cLine)(hi:PE X i ty)(ho:PE X o td):PC X .NotIn i o (aB ty td):=by intro pins s σ H Q I h;refine AL (hi pins s σ H _ I h) fun iv s1 ⟨y,H1,I1,ry,q1⟩=>AL (ho pins s1 σ H1 _ I1 q1) fun u s2 ⟨x,H2,I2,rx,a,ov,ex,g,q2⟩=>?_;subst ex;obtain rfl:u=Value.ref a:=rx;exact aQ hu I2 g ry fun s3 I3=>{.bl (!ov.isSome),H2,I3,0,q2}
theorem Nu (hu:X.A.units+1<cLine)(ho:PE X o td)(hi:PE X i ty)(hv:PE X value tv)(hs:swapsWith value (some (.Subscript o i pos')) pos.line X.env=pure false):
 PS X (.Assign [.Subscript o i pos'] value pos) (Oh td ty tv):=by
 intro pins s σ H D I h;refine wpAny_Assign_Subscript (AL (hv pins s σ H _ I h) fun r s1 ⟨v,H1,I1,rv,q1⟩=>AL (ho pins s1 σ H1 _ I1 q1) fun u s2 ⟨x,H2,I2,rx,q2⟩=>AL (hi pins s2 σ H2 _ I2 q2) fun iv s3 ⟨y,H3,I3,ry,a,H4,ex,g,q3⟩=>?_) hs;subst ex;obtain rfl:u=Value.ref a:=rx;exact dJ hu I3 g ry rv fun s4 I4=>⟨σ,H4,I4,q3⟩
theorem Zh (h:Heap)(hb:sysModules<h.objs.size):Ax P w H (h.push { cls:=.type "dict",data:=.dict #[] }) h.objs.size (.dK []):=
 {zh _,beq_eq_false_iff_ne.mpr (Ne.symm (zi hb)),[],.nil,Heap.DictOf.new h}
theorem dh (h:Heap)(hb:sysModules<h.objs.size):Ax P w H (h.push { cls:=.type "dict",data:=.dict #[] }) h.objs.size (.dT []):=
 ⟨zh _,beq_eq_false_iff_ne.mpr (Ne.symm (zi hb)),[],.nil,_,#[],0,zU _ rfl,{0,3},rfl,rfl,List.nodup_nil⟩
def Ly:TE:=fun _ H Q=>∀p,H p=none->Q (.ref p) (upd H p (.dK []))
def MG:TE:=fun _ H Q=>∀p,H p=none->Q (.ref p) (upd H p (.dT []))
theorem bO:PE X (.Dict [] [] pos) Ly:=fun pins s σ H Q I h=>
 wpAny_Dict_empty {.ref s.heap.objs.size,_,I.laid (a:=s.heap.objs.size) (o:=.dK []) (t':=s.toks) (fun _ _ q=>zL _ q) (zK _) (Zh s.heap I.big),0,h _ (I.hok.fresh (zK _))}
theorem Xu:PE X (.Dict [] [] pos) MG:=fun pins s σ H Q I h=>
 wpAny_Dict_empty {.ref s.heap.objs.size,_,I.laid (a:=s.heap.objs.size) (o:=.dT []) (t':=s.toks) (fun _ _ q=>zL _ q) (zK _) (dh s.heap I.big),0,h _ (I.hok.fresh (zK _))}
structure M1 (X:Cx)(o:Expr)(m:Str)(apos:Pos)(e:Expr)(eX:Pos):Prop where
 base:attributeBase o m X.env (eval o X.env)=eval o X.env
 few:((backTo eX (starEach [e] X.env)).all (fun x=>!x.1) && (backToKw eX (keywordEach [] X.env)).all (fun x=>x.1.isSome)
  && decide (([e]:List Expr).length+([]:List Keyword).length+(if ([]:List Keyword).isEmpty then 0 else 1)<30))=true
 line:(apos.endLine==eX.line)=true
 trees:backTo eX (starEach [e] X.env)=[(false,eval e X.env)]
def IsD (H:Hp)(a:Addr):Prop:=(∃eO,Rd H a (.dK eO))\/∃eO,Rd H a (.dT eO)
theorem Lk (I:AA X pins σ H s)(d:IsD H a):
 s.TypeIs (.ref a) "dict"/\(∀b,Value.ref a=.ref b->∃ob,s.heap.get? b=some ob/\ob.dict=none)/\(a==sysModules)=false:=by
 rcases d with ⟨eO,e⟩ | ⟨eO,e⟩
 . obtain⟨_,hd,vs,_,dd⟩:=Jm I.hok e;refine{dd.typeIs,fun b q=>?_,hd};cases q;obtain⟨ob,_,_,h1,h2,_⟩:=dd;exact⟨ob,h1,h2.2.1⟩
 . obtain⟨_,hd,xs,_,dd⟩:=JV I.hok e;refine{dd.typeIs,fun b q=>?_,hd};cases q;obtain⟨ob,_,_,h1,h2,_⟩:=dd;exact⟨ob,h1,h2.2.1⟩
theorem Kn (hu:A.units+1<cLine)(I:AA X pins σ H s)(g:BK H a y o)(ry:AS y u)(h:∀w' s',AA X pins σ H s'->AS (o.getD .non) w'->Q w' s'):
 wpAny (model X.prog X.w) A (call (.builtin "dict.get") [.ref a,u]) Q E s:=by
 rcases g with ⟨eO,k,e,ey,l⟩ | ⟨eO,k,b,e,ey,eb,l⟩
 . subst ey;obtain⟨z,hd,vs,rel,dd⟩:=Jm I.hok e;refine call_meetsIn PySem.F.slot_dict_get dd.typeIs PySem.F.entry_dict_get (PySem.F.args_dict_get_2 _ _) (meets_dict_get (BL X.prog X.w) a (Jx ry) hd) {_,dd.mapOf,h _ _ (I.tok _) ?_};rw[l];exact (rel.val k).getD rfl
 . subst ey;cases (show u=Value.ref b from ry);obtain⟨z,hd,xs,rel,dd⟩:=JV I.hok e;refine call_meetsIn PySem.F.slot_dict_get dd.typeIs PySem.F.entry_dict_get (PySem.F.args_dict_get_2 _ _) (meetsH_dict_get (tupleKind (BL X.prog X.w)) a b hd) {tupleKind_room_in1 hu,k,xs,Mu I.hok eb,dd,h _ _ (I.tok _) ?_};rw[l];exact (rel.val k).getD rfl
def LN (td ty:TE):TE:=fun σ H Q=>td σ H fun x H1=>∃a,x=.ref a/\IsD H1 a/\ty σ H1 fun y H2=>∃o,BK H2 a y o/\Q (o.getD .non) H2
theorem bD (hu:X.A.units+1<cLine)(ho:PE X o td)(he:PE X e ty)(m:M1 X o "get" apos e eX):PE X (.Call (.Attribute o "get" apos) [e] [] eX) (LN td ty):=by intro pins s σ H Q I h;refine wpAny_Call_method m.base m.few m.line PySem.F.plainAttrs_dict PySem.F.slot_dict_get PySem.F.type_dict_get (AL (ho pins s σ H _ I h) fun u s1 ⟨x,H1,I1,rx,a,ex,d,q1⟩=>?_);subst ex;obtain rfl:u=Value.ref a:=rx;obtain⟨t1,t2,_⟩:=Lk I1 d;refine{t1,t2,?_};rw[m.trees];refine Calls.callWith_builtin rfl (Calls.evalArgs_plain (Calls.spliced_cons (AL (he pins s1 σ H1 _ I1 q1) fun iv s2 ⟨y,H2,I2,ry,ov,g,q2⟩=>Calls.spliced_nil ?_)));exact Kn hu I2 g ry fun w' s3 I3 jF=>{_,H2,I3,jF,q2}
end L2
namespace HT
open PySem PyProof.Rows
noncomputable def lexLt:List Int->List Int->Bool
 | [],[]=>false
 | [],_::_=>true
 | _::_,[]=>false
 | x::xs,y::ys=>if x=y then lexLt xs ys else decide (x<y)
theorem lexLt_cons (x y)(xs ys):lexLt (x::xs) (y::ys)=if x=y then lexLt xs ys else decide (x<y):=rfl
theorem bE:lexLt [] []=false:=rfl
theorem ar (y)(ys):lexLt [] (y::ys)=true:=rfl
theorem bB (x)(xs):lexLt (x::xs) []=false:=rfl
theorem cp (A)(s)(a)(t:Tok)(c)(u:Tok):∃e,SeqAt.EqAt A s (.int a t) (.int c u) e/\(e=true↔a=c):=
 {(a==c),SeqAt.EqAt.int_int a t c u,by simp}
theorem Zp (A)(s)(a)(t:Tok)(c)(u:Tok)(prog)(w)(E)(Q)(h:Q (.bool (decide (a<c))) s):
 wpAny (model prog w) A (richCompare .Lt (.int a t) (.int c u)) Q E s:=
 (PyProof.Rows.lt_int h:wpAny (model prog w) A (compareOp .Lt (.int a t) (.int c u)) Q E s)
section
open PySem.SeqAt
open PySem.AutoSeq1 (wpAny_loadPart')
open PySem.MeetsSeq PySem.MeetsSeq2 PySem.MeetsSeq3
theorem dA (l b)(items items2)(n n2)(dd dd2)(sl jE)(ns ms)(hi:IntsAre items.toList ns)(hj:IntsAre items2.toList ms):
 Meets (Builtin.«tuple.__lt__» {[.ref l,.ref b],[]})
  (fun _ R s=>s.heap.get? l=some { cls:=.type "tuple",dict:=dd,data:=.seq items n,slots:=sl }/\s.heap.get? b=some { cls:=.type "tuple",dict:=dd2,data:=.seq items2 n2,slots:=jE } /\
   R (.ok (.ret (.bool (lexLt ns ms)))) s):=
 .of_wp fun prog w A R s h=>by
  obtain⟨hp,g,d,tk,os⟩:=s;obtain⟨hl,hb,h⟩:=h;have f2:=AutoSeq1.sub_tuple_tuple;have z1:items.size=ns.length:=by rw[<-hi.length];simp
  have z2:items2.size=ms.length:=by rw[<-hj.length];simp
  wp_walk using wpAny_loadPart' hl,wpAny_loadPart' hb,wpAny_forIn_list _ (fun rest b s'=>b.1=none/\s'=⟨hp,g,d,tk,os⟩/\∃(vs ws:List Value)(ns' iJ:List Int),rest=vs.zip ws /\
   IntsAre vs ns'/\IntsAre ws iJ/\ns'.length+items2.size=iJ.length+items.size/\R (.ok (.ret (.bool (lexLt ns' iJ)))) ⟨hp,g,d,tk,os⟩) _
  case turn=>
   rintro ⟨y,x⟩ rest b s' ⟨gY,rfl,vs,ws,ns',iJ,hz,hvi,hwi,hlen,hR⟩;cases hvi with
   | nil=>rw[List.zip_nil_left] at hz;cases hz
   | cons a t hvi'=>
    cases hwi with
    | nil=>rw[List.zip_nil_right] at hz;cases hz
    | cons c u hwi'=>
     rw[List.zip_cons_cons] at hz;injection hz with hyx hJ;injection hyx with hy hx;subst hy hx;rw[lexLt_cons] at hR;simp only[zk] at hlen;obtain⟨e,he,hiff⟩:=cp A.in1 ⟨hp,g,d,tk,os⟩ a t c u;refine zA (he prog w _ _ ?_);cases e with
     | true=>
      rw[if_pos (hiff.mp rfl)] at hR
      wp_walk
      exact{3,_,9,hJ,hvi',hwi',by lia,hR}
     | false=>
      rw[if_neg (fun q=>absurd (hiff.mpr q) zm)] at hR;have hri:=Zp A.in1 ⟨hp,g,d,tk,os⟩ a t c u prog w
      wp_walk using hri
      exact{1,by simpa using hR}
  case fin=>
   rintro ⟨b1,b2⟩ s' ⟨gY,rfl,vs,ws,ns',iJ,hz,hvi,hwi,hlen,hR⟩;simp only at gY;subst gY;have hv:lexLt ns' iJ=decide (items.size<items2.size):=by
    cases hvi with
    | nil=>
     cases hwi with
     | nil=>simp only[List.length_nil] at hlen;rw[bE];exact (zS (by lia)).symm
     | cons c u hw=>simp only[List.length_nil,zk] at hlen;rw[ar];exact (zO (by lia)).symm
    | cons a t hv=>
     cases hwi with
     | nil=>simp only[List.length_nil,zk] at hlen;rw[bB];exact (zS (by lia)).symm
     | cons c u hw=>rw[List.zip_cons_cons] at hz;cases hz
   rw[hv] at hR
   wp_walk
   exact{1,by simpa [Builtin.Tuple.tupleCompareSizes] using hR}
  case h=>
   exact{3,items.toList,items2.toList,ns,ms,0,hi,hj,by lia,h}
end
theorem lt_tupInts (hl:IsTup s.heap l items)(hb:IsTup s.heap b items2)(hi:IntsAre items.toList ns)(hj:IntsAre items2.toList ms)
 (hu:A.units<cLine)(h:Q (.bool (lexLt ns ms)) s):wpAny (model prog w) A (compareOp .Lt (.ref l) (.ref b)) Q E s:=by
 obtain⟨⟨cls,dd,data,sl⟩,ho,hc,n,hd⟩:=id hl;obtain⟨⟨cls2,dd2,data2,jE⟩,iF,i0,n2,hd2⟩:=id hb;simp only at hc hd i0 hd2;subst hc hd i0 hd2;exact richCompare_meets_room (op:=.Lt) {_,ho,0} {_,iF,0} PySem.F.slot_tuple_lt PySem.F.entry_tuple_lt (PySem.F.args_tuple_lt_2 _ _) (dA l b items items2 n n2 dd dd2 sl jE ns ms hi hj)
  ⟨ho,iF,show Value.bool (lexLt ns ms)≠Value.notImplemented/\Q (.bool (lexLt ns ms)) s from {(fun x=>nomatch x),h}⟩ hu
theorem cat_tup (ht:IsTup s.heap t vs.toArray)(hb:IsTup s.heap b ws.toArray)(hv:vs≠[])
 (h1:ws=[]->Q (.ref t) s)(h2:ws≠[]->Q (.ref s.heap.objs.size) { s with heap:=s.heap.push { cls:=.type "tuple",data:=.seq (vs++ws).toArray } })
 (hsz:vs.length+ws.length<=sizeLine):wpAny (model prog w) A (binaryOp .Add (.ref t) (.ref b)) Q E s:=by
 obtain⟨⟨cls,dd,data,sl⟩,ho,hc,n,hd⟩:=id ht;obtain⟨⟨cls2,dd2,data2,jE⟩,iF,i0,n2,hd2⟩:=id hb;simp only at hc hd i0 hd2;subst hc hd i0 hd2;have e:vs.toArray++ws.toArray=(vs++ws).toArray:=by simp
 by_cases hw:ws=[]
 . exact concat_meets {_,ho,0} {_,iF,0} noFill_tuple_add seq_tuple_add PySem.F.slot_tuple_add PySem.F.entry_tuple_add (PySem.F.args_tuple_add_2 _ _)
    (tuple_addW1 t b vs.toArray ws.toArray n n2 dd dd2 sl jE (by simpa using hv) (by simp[hw])) {ho,iF,h1 hw}
 . refine concat_meets {_,ho,0} {_,iF,0} noFill_tuple_add seq_tuple_add PySem.F.slot_tuple_add PySem.F.entry_tuple_add (PySem.F.args_tuple_add_2 _ _)
    (tuple_addW2 t b vs.toArray ws.toArray n n2 dd dd2 sl jE (by simpa using hv) (by simpa using hw) (by rw[zP,zP];exact hsz)) {ho,iF,?_}
   rw[e];exact h2 hw
noncomputable def sIx (n d:Nat):Option Int->Nat
 | none=>d
 | some v=>if v<0 then (v+(n:Int)).toNat else min v.toNat n
theorem sIx_none (n d):sIx n d none=d:=rfl
theorem sIx_nat (n d k:Nat):sIx n d (some (k:Int))=min k n:=by
 show (if (k:Int)<0 then ((k:Int)+(n:Int)).toNat else min (k:Int).toNat n)=min k n
 rw[if_neg (by lia),Bm]
theorem MS (n d)(hd:d<=n)(o):sIx n d o<=n:=by
 cases o with
 | none=>exact hd
 | some v=>
  show (if v<0 then (v+(n:Int)).toNat else min v.toNat n)<=n
  by_cases hv:v<0
  . rw[if_pos hv];lia
  . rw[if_neg hv];exact Nat.min_le_right _ _
theorem Xn (v)(n d:Nat):(if v<0 then max (v+(n:Int)) 0 else min v (n:Int))=((sIx n d (some v):Nat):Int):=by
 show (if v<0 then max (v+(n:Int)) 0 else min v (n:Int))=(((if v<0 then (v+(n:Int)).toNat else min v.toNat n):Nat):Int)
 by_cases hv:v<0
 . simp only[if_pos hv];lia
 . simp only[if_neg hv];lia
theorem ba (lo hi) (n:Nat):Builtin.Slice.sliceAdjust lo hi 1 (n:Int)=(((sIx n 0 lo:Nat):Int),((sIx n n hi:Nat):Int)):=by
 have h1:¬ ((1:Int)<0):=by lia
 unfold Builtin.Slice.sliceAdjust;simp only[h1,if_false];refine Prod.ext ?_ ?_
 . cases lo with
   | none=>rfl
   | some v=>exact Xn v n 0
 . cases hi with
   | none=>rfl
   | some v=>exact Xn v n n
theorem bX (i j:Nat):Builtin.Slice.slicePlaces (i:Int) (j:Int) 1=j-i:=by
 unfold Builtin.Slice.slicePlaces;have h1:(1:Int) > 0:=by lia
 simp only[h1,if_true,Int.ediv_one];split <;> lia
theorem YT (p:IsPart v o) (h:Q o s):wpAny (model prog w) A (Builtin.Slice.slicePartIndex v) Q E s:=by
 cases p with
 | none=>exact slicePart_none h
 | int i t=>exact slicePart_int h
theorem Vl {lo:Option Int}{n:Nat}(hs:s.heap.IsSliceOf sl vl vu .none)(pl:IsPart vl lo)(pu:IsPart vu hi)
 (h:Q (((sIx n 0 lo:Nat):Int),1,sIx n n hi-sIx n 0 lo) s):wpAny (model prog w) A (Builtin.Slice.sliceApplied (.ref sl) (pure (n:Int))) Q E s:=by
 obtain⟨os,jk,hcs,hds⟩:=id hs;unfold Builtin.Slice.sliceApplied Builtin.Slice.sliceFields;refine zA (zA (wpAny_field jk hds (x:=vl) rfl (zA (wpAny_field jk hds (x:=vu) rfl (zA (wpAny_field jk hds (x:=.none) rfl (zE ?_)))))));refine zA (slicePart_none ?_);show wpAny _ _ (if ((1:Int)==0)=true then _ else _) _ _ s
 rw[if_neg (by decide)];refine zA (YT pl (zA (YT pu (zA (zE ?_)))));show wpAny _ _ (match Builtin.Slice.sliceAdjust lo hi 1 (n:Int) with | (lo,hi)=>pure (lo,(1:Int),Builtin.Slice.slicePlaces lo hi 1)) _ _ s
 rw[ba lo hi n];show wpAny _ _ (pure (((sIx n 0 lo:Nat):Int),(1:Int),Builtin.Slice.slicePlaces ((sIx n 0 lo:Nat):Int) ((sIx n n hi:Nat):Int) 1)) _ _ s;rw[bX];exact zE h
theorem ah (xs:Array Value)(i k:Nat):((List.range k).filterMap fun (m:Nat)=>xs[((i:Int)+(m:Int)*1).toNat]?).toArray=((xs.toList.drop i).take k).toArray:=by
 have e:(fun (m:Nat)=>xs[((i:Int)+(m:Int)*1).toNat]?)=fun m=>xs[i+m]?:=by
  funext m;have:((i:Int)+(m:Int)*1).toNat=i+m:=by lia
  rw[this]
 rw[e];have:=pick_run xs i k;rw[List.filterMap_map] at this;have e2:((fun x=>xs[x]?)∘fun x=>i+x)=fun m=>xs[i+m]?:=rfl;rw[e2] at this;rw[this]
theorem getItem_tuple_cut {lo:Option Int}(ht:IsTup s.heap t items)(hs:s.heap.IsSliceOf sl vl vu .none)(pl:IsPart vl lo)(pu:IsPart vu hi)
 (hw:¬ (sIx items.size 0 lo=0/\sIx items.size items.size hi=items.size))
 (h:Q (.ref s.heap.objs.size) { s with heap:=s.heap.push { cls:=.type "tuple",data:=.seq ((items.toList.drop (sIx items.size 0 lo)).take (sIx items.size items.size hi-sIx items.size 0 lo)).toArray } })
 (hsz:items.size<=sizeLine):wpAny (model prog w) A (getItem (.ref t) (.ref sl)) Q E s:=by
 have i9:sizeOk (.seq ((items.toList.drop (sIx items.size 0 lo)).take (sIx items.size items.size hi-sIx items.size 0 lo)).toArray):=by
  show ((items.toList.drop (sIx items.size 0 lo)).take (sIx items.size items.size hi-sIx items.size 0 lo)).toArray.size<=sizeLine;rw[zP,zp,List.length_drop,Array.length_toList]
  lia
 have hj:sIx items.size items.size hi<=items.size:=MS _ _ (zK _) hi;obtain⟨os,jk,hcs,hds⟩:=id hs;have hTs:s.TypeIs (.ref sl) "slice" := ⟨os,jk,hcs⟩;unfold getItem
 try with_reducible refine BD ?_
 first | refine zA (zE ?_) | skip
 refine zA (wpAny_sequenceKey ht.typeIs (by decide) ?_);refine zA (Ek (name:=Str.ofString "__getitem__") ht.typeIs PyProof.Rows.slot_tuple_getitem
  (Cf PyProof.Rows.slot_tuple_getitem ht.typeIs entry_tuple_getitem ?_ (args_tuple_getitem _ _)))
 show wpAny _ _ (Builtin.Tuple.tupleItemsOf (.ref t) >>= _) _ _ s;refine zA (tupleItemsOf_ ht ?_);refine zA (Ct hTs ?_);rw[if_pos (by decide)];refine zA (Vl hs pl pu ?_);have iG:¬ ((((sIx items.size 0 lo:Nat):Int)==0 && (1:Int)==1 && (sIx items.size items.size hi-sIx items.size 0 lo)==items.size)=true):=by intro q;rw[G0,G0] at q;have q1:((sIx items.size 0 lo:Nat):Int)=0:=eq_of_beq q.1.1;have q2:sIx items.size items.size hi-sIx items.size 0 lo=items.size:=eq_of_beq q.2;exact hw {by lia,by lia}
 show wpAny _ _ (if (((sIx items.size 0 lo:Nat):Int)==0 && (1:Int)==1 && (sIx items.size items.size hi-sIx items.size 0 lo)==items.size)=true then _ else _) _ _ s
 rw[if_neg iG,ah]
 first
  | exact zA (m:=Builtin.Tuple.tupleExact _) (Cg (zE {1,zE h}) i9)
  | exact zA (m:=Builtin.Tuple.tupleExact _) (Cg (zA (zE (zE {1,zE h}))) i9)
  | exact zA (zA (m:=Builtin.Tuple.tupleExact _) (Cg (zE (zE {1,zE h})) i9))
  | exact zA (zA (m:=Builtin.Tuple.tupleExact _) (Cg (zE {1,zE h}) i9))
end HT
namespace L2
open PySem PySem.Spec PyProof.Rows
abbrev TO:=St->Hp->(Option Int->Hp->Prop)->Prop
def PO (X:Cx)(e:Option Expr)(t:TO):Prop:=
 ∀pins s σ H Q,AA X pins σ H s->t σ H Q ->
  wpAny (model X.prog X.w) X.A (evalPart e X.env) (fun u s'=>∃o H',AA X pins σ H' s'/\IsPart u o/\Q o H') X.xe s
def Zt:TO:=fun _ H Q=>Q none H
def OE (t:TE):TO:=fun σ H Q=>t σ H fun x H1=>∃i,x=.int i/\Q (some i) H1
theorem DH :∀{us:List Value},AO (ns.map V.int) us->IntsAre us ns:=by
 induction ns with
 | nil=>intro us r;rw[List.map_nil] at r;cases r;exact .nil
 | cons n ns ih=>
  intro us r;rw[Cn] at r;cases r with
  | cons r1 r2=>obtain⟨t,e⟩:=r1;subst e;exact .cons n t (ih r2)
section
variable {X:Cx}{e:Expr}{te:TE}{lo hi:Option Expr}{tl th:TO}{pos p2:Pos}
theorem Gm:PO X none Zt:=by intro pins s σ H Q I h;rw[evalPart_none];exact zE {none,H,I,.none,h}
theorem Gv (h:PE X e te):PO X (some e) (OE te):=by intro pins s σ H Q I hw;rw[evalPart_some];refine AL (h pins s σ H _ I hw) fun u s1 ⟨x,H1,I1,r1,q1⟩=>?_;obtain⟨i,rfl,q⟩:=q1;obtain⟨t,rfl⟩:=r1;exact{some i,H1,I1,.int i t,q}
def Oj (X:Cx)(r:V->Option Int->Option Int->Hp->VK->Prop):Prop:=
 ∀pins s σ H x v vl vu lo hi sl Q,AA X pins σ H s->AS x v->s.heap.IsSliceOf sl vl vu .none->IsPart vl lo->IsPart vu hi->r x lo hi H Q ->
  ∃T id,typeLookup (.type T) "__getitem__"=pure (some (.builtin id))/\s.TypeIs v T/\wpAny (model X.prog X.w) X.A (getItem v (.ref sl)) (EP X pins σ Q) X.xe s
def eD (r:V->Option Int->Option Int->Hp->VK->Prop)(te:TE)(tl th:TO):TE:=fun σ H Q=>te σ H fun x H1=>tl σ H1 fun l H2=>th σ H2 fun u H3=>r x l u H3 Q
theorem Gj (hr:Oj X r)(he:PE X e te)(hl:PO X lo tl)(hu:PO X hi th):PE X (.Subscript e (.Slice lo hi none p2) pos) (eD r te tl th):=by intro pins s σ H Q I h;refine Subscript_ (AL (he pins s σ H _ I h) fun v s1 ⟨x,H1,I1,r1,q1⟩=>?_);refine wpAny_Slice (AL (hl pins s1 σ H1 _ I1 q1) fun vl s2 ⟨l,H2,I2,pl,q2⟩=>AL (hu pins s2 σ H2 _ I2 q2) fun vu s3 ⟨u,H3,I3,pu,q3⟩=>?_);rw[evalPart_none];refine zE ?_;have I4:AA X pins σ H3 { s3 with heap:=s3.heap.push { cls:=.type "slice",data:=.fields #[vl,vu,.none] } }:=I3.kept (t':=s3.toks) fun b ob q=>zL _ q;obtain⟨T,id,hT,ht,hg⟩:=hr pins { s3 with heap:=s3.heap.push { cls:=.type "slice",data:=.fields #[vl,vu,.none] } } σ H3 x v vl vu l u s3.heap.objs.size Q I4 r1 (Heap.IsSliceOf.new ..) pl pu q3;show wpAny (model X.prog X.w) X.A (subscriptTail e (.Slice lo hi none p2) v (.ref s3.heap.objs.size)) (EP X pins σ Q) X.xe { s3 with heap:=s3.heap.push { cls:=.type "slice",data:=.fields #[vl,vu,.none] } };exact tail_any (ops:=[.ref s3.heap.objs.size,v]) ht hT hg (by with_unfolding_all rfl)
noncomputable def B3 (xs:List V)(lo hi:Option Int):List V:=(xs.drop (HT.sIx xs.length 0 lo)).take (HT.sIx xs.length xs.length hi-HT.sIx xs.length 0 lo)
theorem V7 (xs)(lo hi):(B3 xs lo hi).length<=xs.length:=by
 unfold B3;rw[zp,List.length_drop]
 lia
def Uy (K:AK):V->Option Int->Option Int->Hp->VK->Prop:=fun x lo hi H Q=>∃a xs,x=.ref a/\AB K H a xs /\
 ¬ (HT.sIx xs.length 0 lo=0/\HT.sIx xs.length xs.length hi=xs.length)/\∀p,H p=none->Q (.ref p) (upd H p (.tup (B3 xs lo hi)))
theorem Kw:Oj X (Uy X.K):=by
 intro pins s σ H x v vl vu lo hi sl Q I rx hs pl pu h;obtain⟨a,xs,rfl,hx,hw,q⟩:=h;cases rx;obtain⟨its,r,ht,hz⟩:=I.tuple hx;have hlen:its.toArray.size=xs.length:=by rw[zP];exact r.length.symm
 refine{"tuple",_,PyProof.Rows.slot_tuple_getitem.lookup,ht.typeIs,?_};refine HT.getItem_tuple_cut ht hs pl pu (by rw[hlen];exact hw) ?_ (by rw[hlen];exact hz);rw[hlen];refine{.ref s.heap.objs.size,_,I.laid (t':=s.toks) (o:=.tup (B3 xs lo hi)) (fun b ob q=>zL _ q) (zK _) ?_,0,q _ (I.hok.fresh (zK _))};exact{{BX (V7 xs lo hi) hz,_,zU _ rfl,0},_,(r.drop (HT.sIx xs.length 0 lo)).take (HT.sIx xs.length xs.length hi-HT.sIx xs.length 0 lo),IsTup.new _ _}
def Ob (K:AK):R2:=fun x y H Q=>∃a b xs ys,x=.ref a/\y=.ref b/\AB K H a xs/\AB K H b ys/\xs≠[]/\xs.length+ys.length<=sizeLine /\
 (ys=[]->Q (.ref a) H)/\(ys≠[]->∀p,H p=none->Q (.ref p) (upd H p (.tup (xs++ys))))
theorem AO.nil_iff (r:AO xs us):us=[]↔xs=[]:=by
 cases r with
 | nil=>simp
 | cons _ _=>simp
theorem bc:A1 X (binaryOp .Add) (Ob X.K):=by intro pins s σ H x y v u Q I rx ry h;obtain⟨a,b,xs,ys,rfl,rfl,ha,hb,hx,hz,q1,q2⟩:=h;cases rx;cases ry;obtain⟨its,r1,p1,_⟩:=I.tuple ha;obtain⟨fZ,r2,p2,_⟩:=I.tuple hb;refine HT.cat_tup p1 p2 (fun z=>hx (r1.nil_iff.mp z)) (fun z=>{.ref a,H,I,0,q1 (r2.nil_iff.mp z)}) (fun z=>?_) (by rw[<-r1.length,<-r2.length];exact hz);refine{.ref s.heap.objs.size,_,I.laid (t':=s.toks) (o:=.tup (xs++ys)) (fun b ob q=>zL _ q) (zK _) ?_,0,q2 (fun w=>z (r2.nil_iff.mpr w)) _ (I.hok.fresh (zK _))};exact{{by rw[zH];exact hz,_,zU _ rfl,0},_,r1.append r2,IsTup.new _ _}
end
noncomputable def HW (n:Nat)(i:Int):Option Nat:=if 0<=i then (if i<n then some i.toNat else none) else if -(n:Int)<=i then some (i+n).toNat else none
noncomputable def BI {α:Type}(xs:List α)(i:Int):Option α:=(HW xs.length i).bind fun j=>xs[j]?
theorem Vn (h:HW n i=some j):seqIndex? i n=some j/\j<n/\-(n:Int)<=i/\i<n:=by
 unfold HW at h;by_cases h0:0<=i
 . rw[if_pos h0] at h;by_cases h1:i<n
   . rw[if_pos h1] at h;have e:i.toNat=j:=zV h;exact{by rw[seqIndex_of h0 h1,e],by lia,by lia,h1}
   . rw[if_neg h1] at h;cases h
 . rw[if_neg h0] at h;by_cases h1 : -(n:Int)<=i
   . rw[if_pos h1] at h;have e:(i+n).toNat=j:=zV h;exact{by rw[seqIndex_neg (by lia) h1,e],by lia,h1,by lia}
   . rw[if_neg h1] at h;cases h
theorem X6 (h:BI xs i=some v):∃j,seqIndex? i xs.length=some j/\xs[j]?=some v/\j<xs.length/\-(xs.length:Int)<=i/\i<xs.length:=by
 unfold BI at h;cases e:HW xs.length i with
 | none=>rw[e] at h;cases h
 | some j=>rw[e] at h;obtain⟨h1,h2,h3,h4⟩:=Vn e;exact⟨j,h1,h,h2,h3,h4⟩
theorem CV {j:Nat}(h:xs[j]?=some v):BI xs (j:Int)=some v:=by
 have hj:j<xs.length:=(zG.mp h).1;have e:HW xs.length (j:Int)=some j:=by unfold HW;rw[if_pos (by lia),if_pos (by lia)];simp
 unfold BI;rw[e];exact h
def YJ (b:Expr):Prop:=∀o i,subscripted b false o i=operate [o,i] (getItem o i)
def KY (X:Cx)(r:R2):Prop:=
 ∀value slice pins s σ H x y v u Q,AA X pins σ H s->AS x v->AS y u->r x y H Q ->
  subscripted slice false v u=operate [v,u] (getItem v u)->wpAny (model X.prog X.w) X.A (subscriptTail value slice v u) (EP X pins σ Q) X.xe s
def Og (X:Cx)(id:String)(r:V->List V->Hp->VK->Prop):Prop:=
 ∀pins s σ H x xs v us Q,AA X pins σ H s->AS x v->AO xs us->r x xs H Q ->
  wpAny (model X.prog X.w) X.A (call (.builtin id) (v::us)) (EP X pins σ Q) X.xe s
section
variable {X:Cx}{a b:Expr}{ta tb:TE}{pos:Pos}
theorem O6 (hr:KY X r)(ha:PE X a ta)(hb:PE X b tb)(hs:YJ b):PE X (.Subscript a b pos) (PB r ta tb):=by intro pins s σ H Q I h;exact Subscript_ (Ln ha hb I h fun v u s2 x y H2 I2 rx ry q=>hr a b pins s2 σ H2 x y v u Q I2 rx ry q (hs _ _))
inductive XG (K:AK)(x:V)(y:V)(H:Hp)(Q:VK):Prop
 | mk:∀p xs i v,(x=.ref p)->(y=.int i)->(AD K H p xs)->(BI xs i=some v)->(Q v H)->XG K x y H Q
def OO (K:AK):R2:=fun x y H Q=>XG K x y H Q
inductive XO (K:AK)(x:V)(y:V)(H:Hp)(Q:VK):Prop
 | mk:∀p xs i v,(x=.ref p)->(y=.int i)->(AB K H p xs)->(BI xs i=some v)->(Q v H)->XO K x y H Q
def MF (K:AK):R2:=fun x y H Q=>XO K x y H Q
theorem AY:KY X (OO X.K):=by
 intro value slice pins s σ H x y v u Q I rx ry h hs;obtain⟨p,xs,i,z,rfl,rfl,hq,he,q⟩:=h;cases rx;obtain⟨t,rfl⟩:=ry;obtain⟨its,r,pl,hz⟩:=I.list hq;obtain⟨j,h1,h2,h3,h4,h5⟩:=X6 he;obtain⟨w,ew,jF⟩:=r.get h2;have hl:=r.length;have hn:=Q3;have fin:EP X pins σ Q w s:=⟨z,H,I,jF,q⟩;by_cases h0:0<=i
 . have hj:i.toNat=j:=by rw[seqIndex_of h0 h5] at h1;exact zV h1
   exact item_listR pl.isList h0 (by lia) (by rw[hj];simpa using ew) fin hs
 . have hj:(i+(its.toArray.size:Int)).toNat=j:=by rw[seqIndex_neg (by lia) h4] at h1;rw[zP,<-hl];exact zV h1
   exact subscriptTail_builtinR (x:=w) pl.isList.typeIs slot_list_getitem.lookup
    (wpAny_getItem_list_neg (Q:=fun r s'=>r=w/\EP X pins σ Q r s') pl.isList (by lia) (by rw[zP] <;> lia) (by lia) (by rw[hj];simpa using ew) {0,fin}) hs
theorem AU:KY X (MF X.K):=by
 intro value slice pins s σ H x y v u Q I rx ry h hs;obtain⟨p,xs,i,z,rfl,rfl,hq,he,q⟩:=h;cases rx;obtain⟨t,rfl⟩:=ry;obtain⟨its,r,pl,hz⟩:=I.tuple hq;obtain⟨j,h1,h2,h3,h4,h5⟩:=X6 he;obtain⟨w,ew,jF⟩:=r.get h2;have hl:=r.length;have hn:=Q3;have fin:EP X pins σ Q w s:=⟨z,H,I,jF,q⟩;exact subscriptTail_builtinR (x:=w) pl.typeIs slot_tuple_getitem.lookup
  (getItem_tuple (j:=j) (Q:=fun r s'=>r=w/\EP X pins σ Q r s') pl (by lia) (by lia) (by rw[zP,<-hl];exact h1) (by simpa using ew) {0,fin}) hs
theorem cz (its:List Value)(n j)(u):Obj.mapSeq (·.setIfInBounds j u) { cls:=.type "list",data:=.seq its.toArray n }={ cls:=.type "list",data:=.seq (its.set j u).toArray n }:=by simp[Obj.mapSeq]
theorem AA.lst {pins:B6}{σ:St}{H:Hp}{s:Shared}{p:Addr}{xs:List V}(I:AA X pins σ H s)(h:H p=some (.lst xs)):
 ∃its n,AO xs its/\s.heap.get? p=some { cls:=.type "list",data:=.seq its.toArray n }/\xs.length<=sizeLine:=by
 obtain⟨z,its,n,r,e⟩:=I.hok p _ h;exact⟨its,n,r,e,z⟩
theorem AA.lstUpd {its:List Value}(I:AA X pins σ H s)(h:H p=some (.lst xs))
 (ho:s.heap.get? p=some { cls:=.type "list",data:=.seq its.toArray n }) (hf:f { cls:=.type "list",data:=.seq its.toArray n }={ cls:=.type "list",data:=.seq its'.toArray n' }) (r:AO ys its')(hz:ys.length<=sizeLine)(t):
 AA X pins σ (upd H p (.lst ys)) { s with heap:=s.heap.update p f,toks:=t }:=by
 have e:(s.heap.update p f).get? p=some { cls:=.type "list",data:=.seq its'.toArray n' }:=by rw[Ck f ho (by rw[hf] <;> rfl),hf]
 refine I.write (x:=p) (e:=p) (by rw[h];trivial) (.inl rfl) (fun b u hb q=>(Gz _ _ (Ne.symm hb)).trans q) {_,e} ?_;exact⟨hz,its',n',r,e⟩
def OQ:V->V->V->Hp->(Hp->Prop)->Prop:=fun o i v H Q=>∃p xs k j,o=.ref p/\i=.int k/\H p=some (.lst xs)/\HW xs.length k=some j/\Q (upd H p (.lst (xs.set j v)))
theorem My:Oa X OQ:=by
 intro pins s σ H o i v ov iv u Q I ro ri rv h;obtain⟨p,xs,k,j,rfl,rfl,hp,hj,q⟩:=h;cases ro;obtain⟨t,rfl⟩:=ri;obtain⟨its,n,r,ho,hz⟩:=I.lst hp;obtain⟨h1,h2,h3,h4⟩:=Vn hj;have hl:=r.length;have hn:=Q3;have I':AA X pins σ (upd H p (.lst (xs.set j v))) { s with heap:=s.heap.update p (Obj.mapSeq (·.setIfInBounds j u)) }:=
  I.lstUpd hp ho (cz its n j u) (r.set rv j) (by rw[List.length_set];exact hz) s.toks
 by_cases h0:0<=k
 . have hk:k.toNat=j:=by rw[seqIndex_of h0 h4] at h1;exact zV h1
   exact PySem.W.ki_setAt ho h0 (by lia) (by rw[zP,<-hl];exact h4) (by rw[hk];exact{_,I',q})
 . have hk:(k+(its.toArray.size:Int)).toNat=j:=by rw[seqIndex_neg (by lia) h3] at h1;rw[zP,<-hl];exact zV h1
   exact PySem.W.ki_setBack ho (by lia) (by rw[zP,<-hl];exact h3) (by lia) (by rw[hk];exact{_,I',q})
theorem ZL (lo hi)(n):(sliceBounds lo hi none n).1=((HT.sIx n 0 lo:Nat):Int)/\(sliceBounds lo hi none n).2.1=((HT.sIx n n hi:Nat):Int)/\(sliceBounds lo hi none n).2.2=1:=by
 refine{?_,?_,0}
 . cases lo with
   | none=>simp[sliceBounds,HT.sIx]
   | some i=>
    simp only[sliceBounds,HT.sIx,Option.getD_none,show (1:Int) > 0 by decide,if_true];by_cases h:i<0
    . simp only[h,if_true] <;> lia
    . simp only[h,if_false] <;> lia
 . cases hi with
   | none=>simp[sliceBounds,HT.sIx]
   | some i=>
    simp only[sliceBounds,HT.sIx,Option.getD_none,show (1:Int) > 0 by decide,if_true];by_cases h:i<0
    . simp only[h,if_true] <;> lia
    . simp only[h,if_false] <;> lia
theorem dN (its:List Value)(lo hi):slicePick its.toArray lo hi none=((its.drop (HT.sIx its.length 0 lo)).take (HT.sIx its.length its.length hi-HT.sIx its.length 0 lo)).toArray:=by obtain⟨h1,h2,h3⟩:=ZL lo hi its.toArray.size;unfold slicePick;rw[h1,h2,h3];simp only[sliceRange_one,pick_run,zP] <;> rfl
def VH (K:AK):V->Option Int->Option Int->Hp->VK->Prop:=fun x lo hi H Q=>∃a xs,x=.ref a/\AD K H a xs/\∀p,H p=none->Q (.ref p) (upd H p (.lst (B3 xs lo hi)))
theorem RD:Oj X (VH X.K):=by intro pins s σ H x v vl vu lo hi sl Q I rx hs pl pu h;obtain⟨a,xs,rfl,hx,q⟩:=h;cases rx;obtain⟨its,r,ht,hz⟩:=I.list hx;have hlen:=r.length;refine{"list",_,slot_list_getitem.lookup,ht.isList.typeIs,?_};refine wpAny_getItem_list_slice ht.isList hs pl pu .none (by simp) ?_ (by rw[zP] <;> lia);rw[dN,<-hlen];refine{.ref s.heap.objs.size,_,I.laid (t':=s.toks) (o:=.lst (B3 xs lo hi)) (fun b ob q=>zL _ q) (zK _) ?_,0,q _ (I.hok.fresh (zK _))};exact⟨BX (V7 xs lo hi) hz,_,0,(r.drop (HT.sIx xs.length 0 lo)).take (HT.sIx xs.length xs.length hi-HT.sIx xs.length 0 lo),zU _ rfl⟩
noncomputable def Fj:V->Bool
 | .non=>true
 | .bl _=>true
 | .int _=>true
 | .str _=>true
 | _=>false
noncomputable def Gb:V->V->Bool
 | .non,.non=>true
 | .bl a,.bl b=>a==b
 | .bl a,.int b=>(if a then 1 else 0)==b
 | .int a,.bl b=>a==(if b then 1 else 0)
 | .int a,.int b=>a==b
 | .str a,.str b=>a==b
 | _,_=>false
theorem KZ (ry:AS y u)(rx:AS x v)(fy:Fj y=true)(fx:Fj x=true):SeqAt.EqAt A s u v (Gb y x):=by
 cases y with
 | non=>
  cases ry;cases x with
  | non=>cases rx;exact SeqAt.EqAt.same _
  | bl b=>cases rx;exact SeqAt.EqAt.none_bool b
  | int b=>obtain⟨t,rfl⟩:=rx;exact SeqAt.EqAt.none_int b t
  | str b=>obtain⟨t,rfl⟩:=rx;exact SeqAt.EqAt.none_str b t
  | _=>exact absurd (show false=true from fx) zm
 | bl a=>
  cases ry;cases x with
  | non=>cases rx;exact SeqAt.EqAt.bool_none a
  | bl b=>cases rx;exact SeqAt.EqAt.bool_bool a b
  | int b=>obtain⟨t,rfl⟩:=rx;exact SeqAt.EqAt.bool_int a b t
  | str b=>obtain⟨t,rfl⟩:=rx;exact SeqAt.EqAt.bool_str a b t
  | _=>exact absurd (show false=true from fx) zm
 | int a=>
  obtain⟨t',rfl⟩:=ry;cases x with
  | non=>cases rx;exact SeqAt.EqAt.int_none a t'
  | bl b=>cases rx;exact SeqAt.EqAt.int_bool a t' b
  | int b=>obtain⟨t,rfl⟩:=rx;exact SeqAt.EqAt.int_int a t' b t
  | str b=>obtain⟨t,rfl⟩:=rx;exact SeqAt.EqAt.int_str a t' b t
  | _=>exact absurd (show false=true from fx) zm
 | str a=>
  obtain⟨t',rfl⟩:=ry;cases x with
  | non=>cases rx;exact SeqAt.EqAt.str_none a t'
  | bl b=>cases rx;exact SeqAt.EqAt.str_bool a t' b
  | int b=>obtain⟨t,rfl⟩:=rx;exact SeqAt.EqAt.str_int a t' b t
  | str b=>obtain⟨t,rfl⟩:=rx;exact SeqAt.EqAt.str_str a t' b t
  | _=>exact absurd (show false=true from fx) zm
 | _=>exact absurd (show false=true from fy) zm
noncomputable def DI (x:V)(u:Value):Bool:=match u with
 | .none=>Gb .non x
 | .bool b=>Gb (.bl b) x
 | .int i _=>Gb (.int i) x
 | .str z _=>Gb (.str z) x
 | _=>false
theorem XC (r:AS y u)(f:Fj y=true):DI x u=Gb y x:=by
 cases y with
 | non=>cases r;rfl
 | bl b=>cases r;rfl
 | int i=>obtain⟨t,rfl⟩:=r;rfl
 | str z=>obtain⟨t,rfl⟩:=r;rfl
 | _=>exact absurd (show false=true from f) zm
theorem NT :∀{xs:List V}{us:List Value},AO xs us->xs.all Fj=true->us.any (DI x)=xs.any fun y=>Gb y x
 | _,_,.nil,_=>rfl
 | y::xs,u::us,.cons r t,f=>by rw[List.all_cons,G0] at f;rw[List.any_cons,List.any_cons,XC r f.1,NT t f.2]
theorem Nm (rx:AS x v)(fx:Fj x=true):∀{xs:List V}{us:List Value},AO xs us->xs.all Fj=true->∀u∈us,SeqAt.EqAt A s u v (DI x u)
 | _,_,.nil,_=>fun u hu=>by cases hu
 | y::xs,u::us,.cons r t,f=>fun u' hu=>by
  rw[List.all_cons,G0] at f;rcases zb.mp hu with rfl | hu
  . rw[XC r f.1];exact KZ r rx f.1 fx
  . exact Nm rx fx t f.2 u' hu
noncomputable def Bw (x:V)(xs:List V):Bool:=xs.any fun y=>Gb y x
def Rv (K:AK)(neg:Bool):R2:=fun x y H Q=>∃p xs,y=.ref p/\(AD K H p xs\/AB K H p xs)/\Fj x=true/\xs.all Fj=true/\Q (.bl (if neg then !Bw x xs else Bw x xs)) H
theorem UO:A1 X (compareOp .In) (Rv X.K false):=by
 intro pins s σ H x y v u Q I rx ry h;obtain⟨p,xs,rfl,hq,fx,fs,q⟩:=h;cases ry;rcases hq with hq | hq
 . obtain⟨its,r,pl,hz⟩:=I.list hq;refine SeqAt.in_listAt (DI x) pl.isList (fun w hw=>Nm rx fx r fs w (by simpa using hw)) {.bl _,H,I,0,?_};rw[show its.toArray.any (DI x)=its.any (DI x) by simp,NT r fs];exact q
 . obtain⟨its,r,pl,hz⟩:=I.tuple hq;refine SeqAt.in_tupleAt (DI x) pl (fun w hw=>Nm rx fx r fs w (by simpa using hw)) {.bl _,H,I,0,?_};rw[show its.toArray.any (DI x)=its.any (DI x) by simp,NT r fs];exact q
theorem Ju:A1 X (compareOp .NotIn) (Rv X.K true):=by
 intro pins s σ H x y v u Q I rx ry h;obtain⟨p,xs,rfl,hq,fx,fs,q⟩:=h;cases ry;rcases hq with hq | hq
 . obtain⟨its,r,pl,hz⟩:=I.list hq;refine SeqAt.notIn_listAt (DI x) pl.isList (fun w hw=>Nm rx fx r fs w (by simpa using hw)) {.bl _,H,I,0,?_};rw[show its.toArray.any (DI x)=its.any (DI x) by simp,NT r fs];exact q
 . obtain⟨its,r,pl,hz⟩:=I.tuple hq;refine SeqAt.notIn_tupleAt (DI x) pl (fun w hw=>Nm rx fx r fs w (by simpa using hw)) {.bl _,H,I,0,?_};rw[show its.toArray.any (DI x)=its.any (DI x) by simp,NT r fs];exact q
inductive P6 (K:AK)(xs:List V)(H:Hp)(Q:VK):Prop
 | mk:∀p ys,(xs=[.ref p])->((AD K H p ys\/AB K H p ys))->(Q (.int ys.length) H)->P6 K xs H Q
theorem Bz:CH X (.builtin "len") (P6 X.K):=by
 intro pins s σ H xs us Q I r h;obtain⟨p,ys,rfl,hq,q⟩:=h;obtain⟨u,rfl,rx⟩:=DF r;cases rx;have hn:=Q3;rcases hq with hq | hq
 . obtain⟨its,r',pl,hz⟩:=I.list hq;have hlen:=r'.length;exact Calls.call_len_list pl.isList (by simp only[zP] <;> lia) {.int ys.length,H,I.tok _,{s.toks+1,by rw[zP,hlen]},q}
 . obtain⟨its,r',pl,hz⟩:=I.tuple hq;have hlen:=r'.length;exact len_tuple pl (by simp only[zP] <;> lia) {.int ys.length,H,I.tok _,{s.toks+1,by rw[zP,hlen]},q}
inductive Pw (K:AK)(xs:List V)(H:Hp)(Q:VK):Prop
 | mk:∀p ys,(xs=[.ref p])->((AD K H p ys\/AB K H p ys))->(∀l,H l=none->Q (.ref l) (upd H l (.lst ys)))->Pw K xs H Q
theorem Q2:CH X (.type "list") (Pw X.K):=by
 intro pins s σ H xs us Q I r h;obtain⟨p,ys,rfl,hq,q⟩:=h;obtain⟨u,rfl,rx⟩:=DF r;cases rx;have fin:∀(its:List Value),AO ys its->ys.length<=sizeLine->∀(h':Heap)(c':Nat),(∀b o',s.heap.get? b=some o'->h'.get? b=some o') ->
  h'.get? s.heap.objs.size=some { cls:=.type "list",dict:=none,data:=.seq its.toArray c',slots:=#[] }->EP X pins σ Q (.ref s.heap.objs.size) { s with heap:=h' }:=fun its r' hz h' c' kp e=>
  {.ref s.heap.objs.size,_,I.laid (t':=s.toks) kp (zK _) (show Ax X.prog X.w _ h' _ (.lst ys) from ⟨hz,its,c',r',e⟩),0,q _ (I.hok.fresh (zK _))}
 rcases hq with hq | hq
 . obtain⟨its,r',pl,hz⟩:=I.list hq;have hlen:=r'.length;obtain⟨o,ho,hc,n,hd⟩:=pl.isList;exact call_list_seq p (.inl rfl) ho hc hd (fun h' c' kp e=>fin its r' hz h' c' kp e) (by simp only[zP] <;> lia)
 . obtain⟨its,r',pl,hz⟩:=I.tuple hq;have hlen:=r'.length;obtain⟨o,ho,hc,n,hd⟩:=pl;exact call_list_seq p (.inr rfl) ho hc hd (fun h' c' kp e=>fin its r' hz h' c' kp e) (by simp only[zP] <;> lia)
inductive Of (K:AK)(xs:List V)(H:Hp)(Q:VK):Prop
 | mk:∀p ys,(xs=[.ref p])->(((AD K H p ys/\∀l,H l=none->Q (.ref l) (upd H l (.tup ys)))\/(AB K H p ys/\Q (.ref p) H)))->Of K xs H Q
theorem F7:CH X (.type "tuple") (Of X.K):=by
 intro pins s σ H xs us Q I r h;obtain⟨p,ys,rfl,h⟩:=h;obtain⟨u,rfl,rx⟩:=DF r;cases rx;rcases h with ⟨hq,q⟩ | ⟨hq,q⟩
 . obtain⟨its,r',pl,hz⟩:=I.list hq;have hlen:=r'.length;refine call_tuple_list pl.isList (fun h' kp=>?_) (by simp only[zP] <;> lia);have I1:AA X pins σ H { s with heap:=h' }:=I.kept (t':=s.toks) kp;have I2:AA X pins σ (upd H h'.objs.size (.tup ys)) { s with heap:=h'.push { cls:=.type "tuple",data:=.seq its.toArray } }:=
    I1.laid (t':=s.toks) (fun b o e=>zL _ e) (zK _) (show Ax X.prog X.w _ _ _ (.tup ys) from {{hz,_,zU _ rfl,0},its,r',IsTup.new _ _})
   exact{.ref h'.objs.size,_,I2,0,q _ (I1.hok.fresh (zK _))}
 . obtain⟨its,r',pl,hz⟩:=I.tuple hq;exact call_tuple_same pl {.ref p,H,I,0,q}
def Uj (K:AK)(T:String)(x:V)(H:Hp):Prop:=match x with
 | .str _=>T="str"
 | .int _=>T="int"
 | .ref p=>(T="list"/\∃xs,AD K H p xs)\/(T="tuple"/\∃o,K.lookup p=some o/\o.cls=.type "tuple"/\o.dict=none) \/
  (T="dict"/\((∃eO,H p=some (.dK eO))\/∃eO,H p=some (.dT eO)))\/(T="set"/\∃S n,H p=some (.set S n))
 | _=>False
theorem WS (I:AA X pins σ H s)(r:AS x v)(ty:Uj X.K T x H):
 s.TypeIs v T/\∀a,v=.ref a->∃ob,s.heap.get? a=some ob/\ob.dict=none:=by
 cases x with
 | str z=>obtain⟨t,rfl⟩:=r;cases (show T="str" from ty);exact{typeIs_str s z t,fun _ e=>nomatch e}
 | int i=>obtain⟨t,rfl⟩:=r;cases (show T="int" from ty);exact{typeIs_int s i t,fun _ e=>nomatch e}
 | ref p=>
  cases r;rcases ty with ⟨rfl,xs,hq⟩ | ⟨rfl,o,hk,hc,hd⟩ | ⟨rfl,hk⟩ | ⟨rfl,S,n,hk⟩
  . obtain⟨its,_,pl,_⟩:=I.list hq;refine{pl.isList.typeIs,fun a e=>?_};cases e;obtain⟨o,n,e,c,hd,_⟩:=pl;exact⟨o,e,hd⟩
  . refine{{o,I.kIn p o hk,hc},fun a e=>?_};cases e;exact{o,I.kIn _ o hk,hd}
  . have z:∃o,s.heap.get? p=some o/\o.ExactDict:=by
     rcases hk with ⟨eO,hk⟩ | ⟨eO,hk⟩
     . obtain⟨_,_,_,_,o,_,_,e,ex,_⟩:=I.hok p _ hk;exact⟨o,e,ex⟩
     . obtain⟨_,_,_,_,o,_,_,e,ex,_⟩:=I.hok p _ hk;exact⟨o,e,ex⟩
    obtain⟨o,e,ex⟩:=z;refine{⟨o,e,ex.1⟩,fun a e2=>?_};cases e2;exact⟨o,e,ex.2.1⟩
  . obtain⟨o,_,_,_,e,ex,_⟩:=I.hok p _ hk;refine{⟨o,e,ex.1⟩,fun a e2=>?_};cases e2;exact⟨o,e,ex.2.1⟩
 | _=>exact False.elim ty
def U8 (K:AK)(T:String)(r:V->List V->Hp->VK->Prop)(to:TE):TE:=fun σ H Q=>to σ H fun x H1=>Uj K T x H1/\r x [] H1 Q
inductive Ij (K:AK)(T:String)(r:V->List V->Hp->VK->Prop)(t:TA)(σ:St)(Q:VK)(x:V)(H1:Hp):Prop
 | mk:(Uj K T x H1)->(t σ H1 fun xs H2=>r x xs H2 Q)->Ij K T r t σ Q x H1
def eB (K:AK)(T:String)(r:V->List V->Hp->VK->Prop)(to:TE)(t:TA):TE:=fun σ H Q=>to σ H fun x H1=>Ij K T r t σ Q x H1
variable {o e:Expr}{es:List Expr}{to:TE}{t:TA}{name:Str}{apos eX:Pos}{T id:String}{r:V->List V->Hp->VK->Prop}
theorem LC (pa:PlainAttrs T)(slot:Slot T name id)(hty:typeOf (.builtin id)=pure (.type "method_descriptor")) (hm:Og X id r)(ho:PE X o to)
 (iW:attributeBase o name X.env (eval o X.env)=eval o X.env:=by rfl)(iR:(apos.endLine==eX.line)=true:=by rfl):PE X (.Call (.Attribute o name apos) [] [] eX) (U8 X.K T r to):=by
 intro pins s σ H Q I h;refine wpAny_Call_method0_late iW iR (AL (ho pins s σ H _ I h) fun v s1 ⟨x,H1,I1,r1,ty,q1⟩=>?_);obtain⟨h1,h2⟩:=WS I1 r1 ty;exact{T,id,pa,slot,hty,h1,h2,Calls.callWith_builtin rfl (PySem.evalArgs_none (hm pins s1 σ H1 x [] v [] Q I1 r1 .nil q1))}
theorem Cz (pa:PlainAttrs T)(slot:Slot T name id)(hty:typeOf (.builtin id)=pure (.type "method_descriptor")) (hm:Og X id r)(ho:PE X o to)(ha:PA X (e::es) t)
 (iW:attributeBase o name X.env (eval o X.env)=eval o X.env:=by rfl)
 (hfew:((backTo eX (starEach (e::es) X.env)).all (fun x=>!x.1) && (backToKw eX (keywordEach [] X.env)).all (fun x=>x.1.isSome)
  && decide ((e::es).length+([]:List Keyword).length+(if ([]:List Keyword).isEmpty then 0 else 1)<30))=true:=by rfl)
 (iR:(apos.endLine==eX.line)=true:=by rfl)(hs:starEach (e::es) X.env=(false,eval e X.env)::starEach es X.env:=by rfl)(iu:(backTo eX (starEach es X.env)).any (·.1)=false:=by rfl):
 PE X (.Call (.Attribute o name apos) (e::es) [] eX) (eB X.K T r to t):=by
 intro pins s σ H Q I h;refine wpAny_Call_method_late iW hfew iR rfl (AL (ho pins s σ H _ I h) fun v s1 ⟨x,H1,I1,r1,ty,q1⟩=>?_);obtain⟨h1,h2⟩:=WS I1 r1 ty;refine{T,id,pa,slot,hty,h1,h2,?_};have hA:=ha eX pins s1 σ H1 _ I1 q1;rw[hs] at hA ⊢;refine Calls.callWith_builtin (by show (false || (backTo eX (starEach es X.env)).any (·.1))=false;rw[iu] <;> rfl) (Calls.evalArgs_plain ?_);exact AL hA fun us s2 ⟨vs,H2,I2,r2,q2⟩=>hm pins s2 σ H2 x vs v us Q I2 r1 r2 q2
end
def PK (X:Cx)(id:String)(r:V->List V->Hp->VK->Prop):Prop:=
 ∀pins s σ H x xs v us Q,AA X pins σ H s->AS x v->AO xs us->r x xs H Q ->
  wpAny (model X.prog X.w) X.A (call (.builtin id) (v::us)) (EP X pins σ Q) X.xe s
theorem AO.one:∀{x:V}{us:List Value},AO [x] us->∃u,us=[u]/\AS x u
 | _,_,.cons r .nil=>{1,r}
theorem AO.zero:∀{us:List Value},AO [] us->us=[]
 | _,.nil=>rfl
theorem AO.eraseIdx:∀{xs:List V}{us:List Value}(i:Nat),AO xs us->AO (xs.eraseIdx i) (us.eraseIdx i)
 | _,_,_,.nil=>.nil
 | _,_,0,.cons _ t=>t
 | _,_,i+1,.cons r t=>.cons r (AO.eraseIdx i t)
theorem AO.reverse (h:AO xs us):AO xs.reverse us.reverse:=by
 induction h with
 | nil=>exact .nil
 | cons r t ih=>rw[List.reverse_cons,List.reverse_cons];exact AO.append ih (.cons r .nil)
theorem YY {α:Type}:∀(l:List α)(i:Nat),(l.eraseIdx i).length<=l.length
 | [],_=>zK _
 | _::_,0=>Ci _
 | _::r,i+1=>Nat.succ_le_succ (YY r i)
theorem AA.lset {its:List Value}(I:AA X pins σ H s)(hH:H l=some (.lst xs))
 (e:s.heap.get? l=some { cls:=.type "list",data:=.seq its.toArray n }) (hf:f its.toArray=its'.toArray)(hv:AO ys its')(hz:ys.length<=sizeLine):
 AA X pins σ (upd H l (.lst ys)) { s with heap:=s.heap.update l (Obj.mapSeq f),toks:=t' }:=by
 have q:=PySem.IsL.update e f;rw[hf] at q;refine I.write (x:=l) (e:=l) (by rw[hH];exact trivial) (.inl rfl) (fun b' u hb hu=>(Gz s.heap (Obj.mapSeq f) (Ne.symm hb)).trans hu) {_,q} ?_;exact{hz,its',_,hv,q}
theorem AA.lnew (I:AA X pins σ H s)(hv:AO ys its)(hz:ys.length<=sizeLine):
 AA X pins σ (upd H s.heap.objs.size (.lst ys)) { s with heap:=s.heap.push { cls:=.type "list",data:=.seq its.toArray },toks:=t' }:=
 I.laid (fun _ _ q=>zL _ q) (zK _) ⟨hz,its,0,hv,zU _ rfl⟩
theorem AA.fresh (I:AA X pins σ H s):H s.heap.objs.size=none:=I.hok.fresh (zK _)
theorem AA.lstM (I:AA X pins σ H s)(hH:H l=some (.lst xs)):xs.length<=sizeLine/\∃its n,AO xs its/\xs.length=its.length/\s.heap.get? l=some { cls:=.type "list",data:=.seq its.toArray n }:=by obtain⟨z,its,n,r,e⟩:=I.hok l _ hH;exact⟨z,its,n,r,r.length,e⟩
theorem Wt (h:n<=sizeLine):Builtin.List.listTooLong n=false:=by unfold Builtin.List.listTooLong;exact zS (by lia)
inductive YL (x:V)(vs:List V)(H:Hp)(Q:VK):Prop
 | mk:∀l xs y,(x=.ref l)->(vs=[y])->(H l=some (.lst xs))->(xs.length<sizeLine)->(Q .non (upd H l (.lst (xs++[y]))))->YL x vs H Q
def bf:V->List V->Hp->VK->Prop:=fun x vs H Q=>YL x vs H Q
theorem Eg:PK X "list.append" bf:=by
 intro pins s σ H x vs v us Q I rx rv h;obtain⟨l,xs,y,rfl,rfl,hH,hz,q⟩:=h;cases rx;obtain⟨u,rfl,ru⟩:=rv.one;obtain⟨z,its,n,r,hl,e⟩:=I.lstM hH;refine call_meets F.slot_list_append {_,e,0} F.entry_list_append (F.args_list_append_2 _ _) (PySem.list_append l its.toArray n u (by rw[zP];lia)) {e,?_};refine{.non,_,I.lset (its':=its++[u]) hH e (by simp) (r.append (.cons ru .nil)) ?_,0,q};rw[zH,Me]
 lia
def ZQ:V->List V->Hp->VK->Prop:=fun x vs H Q=>∃l b xs zs,x=.ref l/\vs=[.ref b]/\H l=some (.lst xs)/\H b=some (.lst zs)/\xs.length+zs.length<=sizeLine/\Q .non (upd H l (.lst (xs++zs)))
theorem YS:PK X "list.extend" ZQ:=by
 intro pins s σ H x vs v us Q I rx rv h;obtain⟨l,b,xs,zs,rfl,rfl,hH,hB,hz,q⟩:=h;cases rx;obtain⟨u,rfl,ru⟩:=rv.one;cases ru;obtain⟨z,its,n,r,hl,e⟩:=I.lstM hH;obtain⟨z2,fZ,n2,r2,gJ,e2⟩:=I.lstM hB;have hsz:its.toArray.size+fZ.toArray.size<=sizeLine:=by rw[zP,zP];lia
 have iP:¬ (!its.toArray.isEmpty && Builtin.List.listTooLong (its.toArray.size+fZ.toArray.size))=true:=by rw[Wt hsz,Bool.and_false];exact zm
 refine call_meets F.slot_list_extend {_,e,0} F.entry_list_extend (F.args_list_extend_2 _ _)
  (AutoSeq1.list_extend_list_list_0 l its.toArray n b fZ.toArray n2 iP (by rw[zP];lia) (by lia)) {e,e2,?_}
 refine{.non,_,I.lset (its':=its++fZ) hH e (by simp) (r.append r2) ?_,0,q};rw[zH]
 lia
def KS:V->List V->Hp->VK->Prop:=fun x vs H Q=>∃l xs i k y,x=.ref l/\vs=[.int i]/\H l=some (.lst xs)/\-(2 ^ 63)<=i/\i<2 ^ 63/\seqIndex? i xs.length=some k/\xs[k]?=some y/\Q y (upd H l (.lst (xs.eraseIdx k)))
theorem XJ:PK X "list.pop" KS:=by
 intro pins s σ H x vs v us Q I rx rv h;obtain⟨l,xs,i,k,y,rfl,rfl,hH,h1,h2,hk,hy,q⟩:=h;cases rx;obtain⟨u,rfl,ru⟩:=rv.one;obtain⟨t,rfl⟩:=ru;obtain⟨z,its,n,r,hl,e⟩:=I.lstM hH;obtain⟨w,hw,jF⟩:=r.get hy;refine call_meets F.slot_list_pop {_,e,0} F.entry_list_pop (F.args_list_pop_2 _ _)
  (MeetsSeq.list_pop_at l its.toArray n i t k w (fitsIndex_both h1 h2) (by rw[zP,<-hl];exact hk) (by rw[<-Array.getElem?_toList];exact hw) (by rw[zP];lia)) {e,?_}
 refine{y,_,I.lset (its':=its.eraseIdx k) hH e ?_ (r.eraseIdx k) ?_,jF,q}
 . show its.toArray.eraseIdxIfInBounds k=(its.eraseIdx k).toArray;rw[List.eraseIdxIfInBounds_toArray]
 . have:=YY xs k
   lia
def dI:V->List V->Hp->VK->Prop:=fun x vs H Q=>∃l xs,x=.ref l/\vs=[]/\H l=some (.lst xs)/\Q .non (upd H l (.lst xs.reverse))
theorem af:PK X "list.reverse" dI:=by
 intro pins s σ H x vs v us Q I rx rv h;obtain⟨l,xs,rfl,rfl,hH,q⟩:=h;cases rx;have hus:=rv.zero;subst hus;obtain⟨z,its,n,r,hl,e⟩:=I.lstM hH;refine call_meets F.slot_list_reverse {_,e,0} F.entry_list_reverse (F.args_list_reverse_1 _) (AutoSeq1.list_reverse_list_0 l its.toArray n (by rw[zP];lia)) {e,?_};refine{.non,_,I.lset (its':=its.reverse) hH e (by simp) r.reverse ?_,0,q};rw[List.length_reverse]
 lia
def VO:R2:=fun x y H Q=>∃l b xs zs,x=.ref l/\y=.ref b/\H l=some (.lst xs)/\H b=some (.lst zs)/\xs.length+zs.length<=sizeLine/\∀p,H p=none->Q (.ref p) (upd H p (.lst (xs++zs)))
theorem Nl:A1 X (binaryOp .Add) VO:=by
 intro pins s σ H x y v u Q I rx ry h;obtain⟨l,b,xs,zs,rfl,rfl,hH,hB,hz,q⟩:=h;cases rx;cases ry;obtain⟨z,its,n,r,hl,e⟩:=I.lstM hH;obtain⟨z2,fZ,n2,r2,gJ,e2⟩:=I.lstM hB;refine PySem.P.add_list e e2 ?_ (by rw[zP,zP];lia);have ea:its.toArray++fZ.toArray=(its++fZ).toArray:=by simp
 rw[ea];exact{.ref _,_,I.lnew (t':=s.toks) (r.append r2) (by rw[zH];lia),0,q _ I.fresh}
end L2
namespace Att
open PySem PySem.W PySem.Calls PyProof.Rows
theorem ZZ :∀ns vs,WellAll P h vs (ns.map WData.int)->IntsAre vs ns:=by
 intro ns
 induction ns with
 | nil=>intro vs w;rw[List.map_nil] at w;cases w;exact .nil
 | cons n ns ih=>
  intro vs w;rw[Cn] at w;cases w with
  | cons a b=>cases a;exact .cons _ _ (ih _ b)
theorem Zq {l:OpenLaw}(hn:l.most=some n)
 (hpre:l.row.toRowW.claim.pre args=true)(hwl:WellAll P h vals args):
 ∃a vs ns,vals=[Value.ref a]/\args=[WData.list (ns.map WData.int)]/\h.get? a=some { cls:=.type "list",data:=.seq vs.toArray }/\IntsAre vs ns/\ns.length<=n:=by
 have hsh:WShape.hasAll [] args [.list .int]=true:=(pre_splitW hpre).1;have hc:l.pre.holds [] { args:=args }=true:=(pre_splitW hpre).2;obtain⟨d,r,rfl,h1,h2⟩:=hasAllW_cons hsh;obtain rfl:=hasAllW_nil h2;obtain⟨xs,rfl,h3⟩:=hasW_list h1;obtain⟨ns,rfl⟩:=items_int h3;have hlen:ns.length<=n:=by
  unfold OpenLaw.pre at hc;have h4:(WTm.not (.lt (.lit (.int (n:Int))) (.len (.arg 0)))).holds [] { args:=[.list (ns.map .int)] }=true:=by have h4:=(holds_andW hc).1;rw[hn] at h4;exact h4
  have h5:=condW_of h4 (w_not (w_lt w_lit (w_len_list (w_arg rfl))));rw[zB] at h5;refine Nat.le_of_not_lt fun q=>?_;have q':(n:Int)<((ns.length:Nat):Int):=by lia
  first
   | (rw[zO q'] at h5;exact absurd h5 (by decide))
   | (simp at h5;lia)
 cases hwl with
 | cons w1 w2=>
  cases w2;cases w1 with
  | list ho gF=>exact{4,ns,3,ho,ZZ ns _ gF,hlen}
theorem cC (l:OpenLaw)(args):l.row.toRowW.claim.post args (.bool true) args=true:=
 postW_of (r:=l.row.toRowW) (X:=(true==true))
  (show WShape.has [] (.bool true) .bool=true by first | rfl | decide | simp[WShape.has,WShape.arms,WShape.armsAll])
  (show (WTm.eq .res (.lit (.bool true))).value [] { args:=args,res:=some (.bool true),after:=args }=some (.bool (true==true)) from w_eq_bool (w_res rfl) w_lit) rfl
theorem attach_call {l:OpenLaw}
 (hn:l.most=some n)(hdf:d.params.defaults=[])
 (call:∀w s₀ s₁ mg mb fa o pm cd doc a vs ns,
  Ground q loose [] XP w s₀ mg mb s₁.heap->YP w s₁.heap ->
  s₁.heap.get? fa=some o->o.data=.func (docDef d.name d.params d.body d.scope pm cd doc)->s₁.heap.CodeRec cd d.name->mg d.name=some (.ref fa) ->
  s₁.heap.get? a=some { cls:=.type "list",data:=.seq vs.toArray }->IntsAre vs ns->ns.length<=n->s₁.gens=#[] ->
  codeAny (model l.prog w) callerA (.call (.ref fa) {[.ref a],[]}) (fun r s'=>r=.ok (.ret (.bool true))/\OldK s₁.heap s'.heap/\s'.os=s₁.os/\AllBare s'.gens) s₁):
 WalkO q loose XP YP l.row.toRowW d [] (fun f vs=>PySem.call f vs):=by
 intro w s₀ s₁ mg mb G Y fa o pm cd doc dV kV ho hd iz hD hmg hg args vals as hpre hlay hrd hwl hlo;obtain rfl:dV=.none:=Dflts.none hD hdf;obtain rfl:kV=.none:=Dflts.noKw hD;obtain⟨a,vs,ns,rfl,rfl,hobj,hints,hlen⟩:=Zq hn hpre hwl;refine enter_call (codeAny_mono (call w s₀ s₁ mg mb fa o pm cd doc a vs ns G Y ho (fd_plain hd) iz hmg hobj hints hlen hg) fun r s' hq=>?_);obtain⟨rfl,h2,h3,h4⟩:=hq;exact{.inl {.bool true,.bool true,[],0,fun _=>rfl,.bool true,cC l _,fun _=>{Jo,fun _ hm=>(nomatch hm)}},h2,h3,h4}
end Att
namespace L2
open PySem PySem.Spec PyProof.Rows
theorem Wr:∀{vs:List Value}{ns:List Int},IntsAre vs ns->AO (ns.map V.int) vs
 | _,_,.nil=>.nil
 | _,_,.cons n t h=>.cons {t,0} (Wr h)
def KU (H:Hp):Prop:=∀b,H b=none\/∃o xs,H b=some (.frz o (.lst xs))
theorem aF {K:AK}
 (KX:K.In s₁.heap)(gX:s₁.heap.Ns mainGlobals mg)(hb:s₁.heap.Ns builtinsNs mb)(hbb:∀x:Str,x ≠ "__name__"->mb x=bootBuiltins x) (hlim:s₁.heap.NoLimit)(hg:s₁.gens=#[])
 (ha:s₁.heap.get? a=some { cls:=.type "list",data:=.seq vs.toArray }) (hi:IntsAre vs ns)(hl:ns.length<=sizeLine)(hr:BB k callerA)
 (F:∀base:Heap,K.In base->base.Ns mainGlobals mg->AG P w K mg base CX k fa fd [x] sp)(hbind:∀s u,BindsTo s fd {[u],[]} [(x,u)])
 (gW:∀H:Hp,KU H->AD K H a (ns.map V.int)->sp [.ref a] H (fun v _=>v=.bl true) fun _ _ _=>False)
 (hCX:∀H e s',CX [] H s₁ (fun _ _ _=>False) e s'->False):
 codeAny (model P w) callerA (.call (.ref fa) {[.ref a],[]}) (fun r s'=>r=.ok (.ret (.bool true))/\OldK s₁.heap s'.heap/\s'.os=s₁.os/\AllBare s'.gens) s₁:=by
 have rv:=Wr hi;have lenV:=hi.length;have core:∀H:Hp,KU H->AD K H a (ns.map V.int)->Ap P w H s₁.heap->(∀b,H b≠none->b=a)->(H a≠none->K.lookup a=none) ->
  codeAny (model P w) callerA (.call (.ref fa) {[.ref a],[]}) (fun r s'=>r=.ok (.ret (.bool true))/\OldK s₁.heap s'.heap/\s'.os=s₁.os/\AllBare s'.gens) s₁:=by
  intro H hO hS hok hA hK;have base_of:∀{b:Addr}{o:Obj},s₁.heap.get? b=some o->H b=none->(Gh s₁.heap H).get? b=some o:=fun e n=>Zj e n;have noA:∀{b:Addr}{o:Obj}{es:Array DictEntry}{ep:Nat},s₁.heap.get? b=some o->o.data=.dict es ep->H b=none:=fun {b o es ep} e d=>by
   cases q:H b with
   | none=>rfl
   | some u=>have e':b=a:=hA b (by rw[q];simp);subst e';rw[ha] at e;cases e;have d':Data.seq vs.toArray _=Data.dict es ep:=d;cases d'
  have nsK:∀{b:Addr}{m:By},s₁.heap.Ns b m->(Gh s₁.heap H).Ns b m:=fun {b m} ⟨o,es,ep,e,d,r⟩=>{o,es,ep,base_of e (noA e d),d,r};have hKb:K.In (Gh s₁.heap H):=fun b o e=>base_of (KX b o e) (by
   cases q:H b with
   | none=>rfl
   | some u=>have e':b=a:=hA b (by rw[q];simp);subst e';rw[hK (by rw[q];simp)] at e;cases e)
  have hM:Mod K mg (Gh s₁.heap H):=⟨hKb,nsK gX,{mb,nsK hb,hbb},let ⟨mc,h1,h2⟩:=hlim;{mc,nsK h1,h2}⟩;have e0:JY P w K mg (Gh s₁.heap H) callerA [] s₁ H:={0,hM,fun b o e=>cT e,Nat.le_of_eq (dU _ _),trivial,fun b hb=>absurd (show b∈([]:List Addr) from hb) (by simp),hok,.of_eq hg};refine codeAny_mono ((F _ hKb (nsK gX)).run callerA [] s₁ H {[.ref a],[]} [.ref a] [.ref a] _ _ hr e0 (hbind s₁ (.ref a)) (.cons rfl .nil) (gW H hO hS)) fun r s' h=>?_;cases r with
  | error e=>exact (hCX H e s' h).elim
  | ok fl=>
   cases fl with
   | next=>exact False.elim h
   | brk=>exact False.elim h
   | cont=>exact False.elim h
   | ret u=>
    obtain⟨v,H',os,bare,un,hok',r',q⟩:=h;have q':v=.bl true:=q;subst q';obtain rfl:u=Value.bool true:=r';refine{0,OldK.of_keep fun b o e=>?_,os,bare};cases q:H b with
    | none=>exact un.keep b o e q (by intro z;exact absurd (show b∈([]:List Addr) from z) (by simp)) (by simp)
    | some u=>
     rcases hO b with z | ⟨ob,xs,z⟩
     . rw[q] at z;cases z
     . have z2:=un.frzs b ob _ z;obtain⟨e1,_⟩:=hok b _ z;obtain⟨e2,_⟩:=hok' b _ z2;rw[e] at e1;cases e1;exact e2
 cases hk:K.lookup a with
 | some o=>have e:=KX a o hk;rw[ha] at e;cases e;refine core (fun _=>none) (fun _=>.inl rfl) (.inr {_,vs.toArray,_,hk,0,3,by rw[zP,lenV];exact hl,by simpa using rv}) (fun b u z=>by have z':(none:Option HO)=some u:=z;cases z') (fun b z=>absurd rfl z) fun z=>absurd rfl z
 | none=>
  refine core (fun b=>if b=a then some (.frz { cls:=.type "list",data:=.seq vs.toArray } (.lst (ns.map V.int))) else none) (fun b=>?_) (.inl (.inr {{ cls:=.type "list",data:=.seq vs.toArray },if_pos rfl})) (fun b u z=>?_) (fun b z=>?_) fun _=>hk
  . by_cases hb:b=a
    . exact .inr {4,if_pos hb}
    . exact .inl (if_neg hb)
  . by_cases hb:b=a
    . have z':=(if_pos hb).symm.trans z;cases z';subst hb;exact{ha,by rw[zB];exact hl,vs,_,rv,ha}
    . have z':=(if_neg hb).symm.trans z;cases z'
  . by_cases hb:b=a
    . exact hb
    . exact absurd (if_neg hb) z
theorem walk_of {l:PySem.W.OpenLaw}{K:Params->AK}{CX:World->JA}{sp:World->Sp}
 (hn:l.most=some n)(hn2:n<=sizeLine)(hdf:d.params.defaults=[])(hr:BB k callerA)
 (hY:∀w h,YP w h->(K w.params).In h)
 (F:∀w mg fa h,(K w.params).In h->h.Ns mainGlobals mg->mg d.name=some (.ref fa) ->
  ∃fd:FuncData,(∀s u,BindsTo s fd {[u],[]} [(x,u)]) /\
   ∀base:Heap,(K w.params).In base->base.Ns mainGlobals mg->AG l.prog w (K w.params) mg base (CX w) k fa fd [x] (sp w))
 (gW:∀w H a(ns:List Int),ns.length<=n->KU H->AD (K w.params) H a (ns.map V.int)->sp w [.ref a] H (fun v _=>v=.bl true) fun _ _ _=>False)
 (hCX:∀w H s e s',CX w [] H s (fun _ _ _=>False) e s'->False):
 PySem.W.WalkO q loose XP YP l.row.toRowW d [] (fun f vs=>PySem.call f vs):=by
 refine Att.attach_call hn hdf fun w s₀ s₁ mg mb fa o pm cd doc a vs ns G Y ho hd iz hmg hobj hints hlen hg=>?_;have KX:=hY w _ Y;obtain⟨fd,hb,hF⟩:=F w mg fa _ KX G.T.g hmg;exact aF KX G.T.g G.T.b G.T.builtins G.T.nolimit hg hobj hints (BX hlen hn2) hr hF hb (fun H hO hS=>gW w H a ns hlen hO hS) fun H e s'=>hCX w H s₁ e s'
abbrev AJ:JA:=fun _ _ _ _ _ _=>False
abbrev E0:XK:=fun _ _ _=>False
theorem Eu :Qg AJ X E0:=fun _ _ _ _ _ _ _ h=>h.elim
structure BY (K:AK)(x qual:Str)(st:Stmt)(f:Addr)(fd:FuncData):Prop where
 ex:∃(oc:Value)(od:Option Addr)(kV doc pm:Value)(an:Option Addr)(fg ct:Value)(osl:Array (Option Value)),
  fd=PySem.W.fnOf x qual (defArgs st) (defBody st) (defScope st) .none kV doc pm an fg ct/\K.lookup f=some {oc,od,.func fd,osl}/\PySem.W.codeIn K fg qual=true
 kp:PySem.W.keepIn K (.ref f)=true
section
variable {P:Program}{w:World}{K:AK}{mg:By}{base:Heap}
theorem BY.ok {st:Stmt}(F:BY K x qual st f fd)(S:zw N ps (defScope st))(len:∀vs H Q E,sp vs H Q E->vs.length=ps.length)
 (gT:∀fg A outer s H vs Q E,BB k (A.deeper (envOfC qual (defScope st) s.heap.objs.size f fg))->sp vs H Q E ->
  ∃t,CY (Dh AJ P w K mg base N qual (defScope st) f fg A outer s H E).nox (defBody st) t/\t { nx:=fun _ H'=>Q .non H',rt:=Q } (start N vs) H):AG P w K mg base AJ (k+1) f fd ps sp:=by
 obtain⟨oc,od,kV,doc,pm,an,fg,ct,osl,rfl,lk,iz⟩:=F.ex;refine IZ lk iz S len fun A outer s H vs Q E hr gW=>?_;obtain⟨t,h,q⟩:=gT fg A outer s H vs Q E hr gW;exact⟨t,h.nox,q⟩
theorem BY.binds {st:Stmt}(F:BY K x qual st f fd)
 (h:∀kV doc pm an fg ct us,us.length=ps.length->bindArgs (PySem.W.fnOf x qual (defArgs st) (defBody st) (defScope st) .none kV doc pm an fg ct) {us,[]}=pure (ps.zip us)):BR K fd ps []:=by
 obtain⟨oc,od,kV,doc,pm,an,fg,ct,osl,rfl,lk,iz⟩:=F.ex;exact .all (h kV doc pm an fg ct)
theorem WG {st:Stmt}{kV:Value}(l:K.lookup f=some {oc,od,.func (PySem.W.fnOf x qual (defArgs st) (defBody st) (defScope st) .none kV doc pm an fg ct),osl})
 (c:PySem.W.codeIn K fg qual=true)(k:PySem.W.keepIn K (.ref f)=true):BY K x qual st f (PySem.W.fnOf x qual (defArgs st) (defBody st) (defScope st) .none kV doc pm an fg ct):={{oc,od,kV,doc,pm,an,fg,ct,osl,0,l,c},k}
end
theorem Ey (hr:BB k A):A.units+1<cLine:=Cv (Nat.add_le_add_left (by decide:1<=64) _) hr.units
theorem pv (i)(hN:X.N[i]?=some x:=by rfl)(hv:Ui X.env.scope x:=by first | exact Or.inl rfl | exact Or.inr (Or.inl rfl) | exact Or.inr (Or.inr rfl))(hd:(x==("__debug__" : Str))=false:=by decide)
 (iz:(x==("__classdict__" : Str))=false:=by decide):PE X (.Name x pos) (P1 i):=L5 hN hv hd iz
theorem AZ {A:Prop}(h:B):if false=true then A else B:=by rw[if_neg zm];exact h
theorem Ak {A:Prop}(h:A):if true=true then A else B:=by rw[if_pos rfl];exact h
theorem Bj {A:Prop} [Decidable c] (h1:c->A)(h2:¬ c->B):if c then A else B:=by
 by_cases h:c
 . rw[if_pos h];exact h1 h
 . rw[if_neg h];exact h2 h
def AE (H H':Hp):Prop:=∀b o,H b=some o->H' b=some o
theorem AE.refl (H):AE H H:=fun _ _ h=>h
theorem AE.trans (a:AE H H1)(b:AE H1 H2):AE H H2:=fun c o h=>b c o (a c o h)
section
variable {κ:Type} [DecidableEq κ]
theorem bh {k:κ}(h:Ah eO k=none):¬ k∈eO.map (·.1):=by intro m;obtain⟨p,hp,e⟩:=DS.mp m;have q:(eO.any fun kv=>decide (kv.1=k))=true:=List.any_eq_true.mpr {p,hp,zO e};rw[IF,h] at q;exact absurd q (by simp)
theorem YW:∀{l:List κ}{k:κ},l.Nodup->¬ k∈l->(l++[k]).Nodup
 | [],k,_,_=>by simp
 | a::r,k,h,hk=>by
  obtain⟨h1,h2⟩:=D8.mp h;show (a::(r++[k])).Nodup;refine D8.mpr {fun m=>?_,YW h2 fun m=>hk (zb.mpr (Or.inr m))};rcases zg.mp m with q | q
  . exact h1 q
  . exact hk (zb.mpr (Or.inl (zl.mp q).symm))
theorem Z4 {k:κ}(v)(hn:(eO.map (·.1)).Nodup)(h:Ah eO k=none):((BH eO k v).map (·.1)).Nodup:=by rw[SS v h,zT];exact YW hn (bh h)
end
end L2
set_option Elab.async false
set_option linter.all false
set_option maxRecDepth 100000
set_option maxHeartbeats 4000000
namespace L2
open PySem PySem.Spec PyProof.Rows
theorem Wb (I:Nat->Shared->Prop)
 (turn:∀n s,I n s->wpAny (model prog w) A (pyNext it) (fun r s₁=>match r with
  | none=>R (.ok .next) s₁
  | some v=>wpAny (model prog w) A (letOwnedTupleGo target it v) (fun _ s₁'=>wpAny (model prog w) A (assign target env v) (fun _ s₂=>
   wpAny (model prog w) A (forIn ifs true fun c r=>if r=true then do let ok <-isTrue c env (eval c env);pure (ForInStep.yield ok) else pure (ForInStep.yield r)) (fun ok s₃=>
    if ok=true then wpAny (model prog w) A (eval elt env) (fun x s₄=>
     wpAny (model prog w) A (call (.builtin "list.append") [acc,x]) (fun _ s₅=>∃m,m<n/\I m s₅) (fun _ _=>False) s₄) (fun _ _=>False) s₃
    else ∃m,m<n/\I m s₃) (fun _ _=>False) s₂) (fun _ _=>False) s₁') (fun _ _=>False) s₁) (fun _ _=>False) s)
 (n)(h:I n s):codeAny (model prog w) A (.compLoop (.ListComp elt [⟨target,iter,ifs,0⟩] scope pos) 0 it acc env) R s:=by
 refine codeAny_loop rfl I (fun n s hI=>?_) n h;show wpAny _ A ((compTurn (.ListComp elt [⟨target,iter,ifs,0⟩] scope pos) 0 it acc env).onRaise (fun x=>do noteFrame x env;theTreesLotGoes x)) _ _ s
 refine wpAny_noted ?_;rw[compTurn_list];refine zA (wpAny_standAt (zA (BE (turn n s hI) (fun r s₁ h₁=>?_) fun _ _ h'=>h'.elim)));cases r with
 | none=>exact zE h₁
 | some v=>
  refine zA (BE h₁ (fun _ s₁' h₁'=>?_) fun _ _ h'=>h'.elim);refine zA (BE h₁' (fun _ s₂ h₂=>zA (BE h₂ (fun ok s₃ h₃=>?_) fun _ _ h'=>h'.elim)) fun _ _ h'=>h'.elim);cases ok with
  | false=>exact zE {0,h₃}
  | true=>exact zA (zA (BE h₃ (fun x s₄ h₄=>zA (BE h₄ (fun _ s₅ h₅=>zE (zE {0,h₅})) fun _ _ h'=>h'.elim)) fun _ _ h'=>h'.elim))
def HV (X:Cx)(ifs:List Expr)(t:TT):Prop:=
 ∀pins s σ H Q,AA X pins σ H s->t σ H Q ->
  wpAny (model X.prog X.w) X.A (forIn ifs true fun c r=>if r=true then do let ok <-isTrue c X.env (eval c X.env);pure (ForInStep.yield ok) else pure (ForInStep.yield r)) (TP X pins σ Q) X.xe s
def P2:TT:=fun _ H Q=>Q true H
theorem Bf {A B:Hp->Prop}(h:A H):P2 σ H (fun b H3=>if b=true then A H3 else B H3):=by
 show (if true=true then A H else B H)
 exact Ak h
theorem Bc :HV X [] P2:=fun _ _ _ H _ I h=>wpAny_tests_nil ⟨H,I,h⟩
theorem C0 (h:PT X c t):HV X [c] t:=fun pins s σ H Q I q=>wpAny_tests_one (h pins s σ H Q I q)
noncomputable def BW (cells:List (Str×Addr)):List (Str×NameKind)->List (Str×Addr)->List (Str×Addr)
 | [],acc=>acc
 | (n,k)::r,acc=>if (k == .free)=true then (match cells.lookup n with | some c=>BW cells r ((n,c)::acc) | none=>BW cells r acc) else BW cells r acc
theorem QH :∀names acc,(BW cells names acc).lookup x=some c->acc.lookup x=some c\/cells.lookup x=some c
 | [],acc,h=>.inl h
 | (n,k)::r,acc,h=>by
  unfold BW at h;split at h
  . cases hc:cells.lookup n with
    | none=>rw[hc] at h;exact QH r acc h
    | some c'=>
     rw[hc] at h;rcases QH r _ h with q | q
     . rw[EY] at q;cases hx:x==n with
       | true=>
        rw[hx] at q;have e:x=n:=by simpa using hx
        have e2:c'=c:=by simpa using q
        rw[e,hc,e2];exact .inr rfl
       | false=>rw[hx] at q;exact .inl q
     . exact .inr q
  . exact QH r acc h
theorem Ql :∀names acc,(∃c,acc.lookup x=some c)->∃c,(BW cells names acc).lookup x=some c
 | [],acc,h=>h
 | (n,k)::r,acc,h=>by
  unfold BW;split
  . cases hc:cells.lookup n with
    | none=>exact Ql r acc h
    | some c'=>
     refine Ql r _ ?_;rw[EY];cases hx:x==n with
     | true=>exact{c',0}
     | false=>exact h
  . exact Ql r acc h
theorem NW (hx:∃c,cells.lookup x=some c):∀names acc,(x,NameKind.free)∈names->∃c,(BW cells names acc).lookup x=some c
 | [],acc,h=>by simp at h
 | (n,k)::r,acc,h=>by
  rcases zb.mp h with e | h
  . cases e;obtain⟨c,hc⟩:=hx;unfold BW;rw[if_pos (by rfl),hc];exact Ql r _ {c,by rw[EY];simp}
  . unfold BW;split
    . cases hc:cells.lookup n with
      | none=>exact NW hx r acc h
      | some c'=>exact NW hx r _ h
    . exact NW hx r acc h
theorem SA :∀names acc,(∀y∈names,y.2=.free->∃c,env.cells.lookup y.1=some c) ->
 (forIn names acc fun (x:Str×NameKind)(cs:List (Str×Addr))=>(if (x.2 == .free)=true then (do let a <-cellOf env x.1;pure (ForInStep.yield ((x.1,a)::cs))) else pure (ForInStep.yield cs):Sem (ForInStep (List (Str×Addr)))))=pure (BW env.cells names acc)
 | [],acc,_=>rfl
 | (n,k)::r,acc,h=>by
  rw[List.forIn_cons];have hr:∀y∈r,y.2=.free->∃c,env.cells.lookup y.1=some c:=fun y hy=>h y (zd _ hy);unfold BW;cases hk:(k==NameKind.free) with
  | true=>obtain⟨c,hc⟩:=h (n,k) zX (by simpa using hk);simp only[hk,if_true,cellOf,hc,pure_bind];exact SA r _ hr
  | false=>simp only[hk,Hz,if_false,pure_bind];exact SA r _ hr
theorem WN (h:∀y∈scope.names,y.2=.free->∃c,env.cells.lookup y.1=some c):closureFor scope env=pure (BW env.cells scope.names []):=by have e:=SA scope.names [] h;simp only[closureFor];simp only[bind_pure];exact e
theorem Ng {env:Env}:∀(names:List (Str×NameKind)),
 (names.map fun (n,k)=>if (k==NameKind.free && env.scope.kind == .function && env.kindOf n==some .cell) then (n,NameKind.cell) else (n,k)).lookup x =
  (names.lookup x).map fun k=>if (k==NameKind.free && env.scope.kind == .function && env.kindOf x==some .cell)=true then NameKind.cell else k
 | []=>rfl
 | (n,k)::r=>by
  have ih:=Ng (env:=env) (x:=x) r;rw[Cn];show List.lookup x ((if (k==NameKind.free && env.scope.kind == .function && env.kindOf n==some .cell)=true then (n,NameKind.cell) else (n,k))::_)=_
  by_cases c:(k==NameKind.free && env.scope.kind == .function && env.kindOf n==some .cell)=true
  . rw[if_pos c,EY,EY];cases hx:x==n with
    | true=>
     have e:x=n:=by simpa using hx
     subst e;show some NameKind.cell=Option.map _ (some k);rw[EC,if_pos c]
    | false=>exact ih
  . rw[if_neg c,EY,EY];cases hx:x==n with
    | true=>
     have e:x=n:=by simpa using hx
     subst e;show some k=Option.map _ (some k);rw[EC,if_neg c]
    | false=>exact ih
noncomputable def BM (X:Cx)(pl:B6)(N':List Str)(scope:Scope)(fp:List Addr)(s3:Shared)(H3:Hp):Cx where
 prog:=X.prog
 w:=X.w
 K:=X.K
 mg:=X.mg
 base:=X.base
 A:=X.A
 N:=N'
 s₀:=s3
 H₀:=H3
 env:=compEnvC scope (BW X.env.cells scope.names []) s3.heap.objs.size X.env
 outer:=X.stack
 stack:=X.stack
 ex:=fp
 fn:=fun _=>false
 calm:=X.calm
 pn:=pl
 xe:=fun _ _=>False
def EW (X:Cx)(scope:Scope):List Str->List Nat->Prop
 | [],[]=>True
 | x::cn,j::ci=>X.N[j]?=some x/\X.env.kindOf x=some .cell/\scope.names.lookup x=some .free/\EW X scope cn ci
 | _,_=>False
theorem EW.get :∀{cn:List Str}{ci:List Nat}{k:Nat}{x:Str},EW X scope cn ci->cn[k]?=some x->∃j,ci[k]?=some j/\X.N[j]?=some x/\X.env.kindOf x=some .cell/\scope.names.lookup x=some .free
 | [],_,_,_,_,h=>by simp at h
 | _::_,[],_,_,c,_=>c.elim
 | y::cn,j::ci,0,x,c,h=>by
  obtain⟨a,b,b',_⟩:=c;have e:y=x:=by simpa using h
  subst e;exact{j,0,a,b,b'}
 | y::cn,j::ci,k+1,x,c,h=>by obtain⟨j',h1,h2⟩:=EW.get (k:=k) c.2.2.2 (by simpa using h);exact{j',by simpa using h1,h2}
structure Jp (X:Cx)(scope:Scope):Prop where
 kind:scope.kind=.function
 nocell:∀y∈scope.names,y.2 ≠ .cell
 names:∀y∈scope.names,y.2=.local->scope.names.lookup y.1=some .local
 free:∀y∈scope.names,y.2=.free->X.env.kindOf y.1=some .cell
section
variable {X:Cx}{pins:B6}{σ:St}{H3:Hp}{s3:Shared}{scope:Scope}{fp:List Addr}{N' own cn:List Str}{ci:List Nat}{cv:List V}
theorem VT (ok:X.Ok)(S:Jp X scope)(h:(relabel scope X.env).names.lookup x=some .cell\/(relabel scope X.env).names.lookup x=some .free):
 ∃c,(BW X.env.cells scope.names []).lookup x=some c:=by
 have e:(relabel scope X.env).names.lookup x=(scope.names.lookup x).map fun k=>if (k==NameKind.free && X.env.scope.kind == .function && X.env.kindOf x==some .cell)=true then NameKind.cell else k:=Ng scope.names
 have hf:scope.names.lookup x=some .free:=by
  cases q:scope.names.lookup x with
  | none=>rw[e,q] at h;simp at h
  | some k=>
   by_cases hk:k=.free
   . rw[hk]
   . have hb:(k==NameKind.free)=false:=by simpa using hk
     rw[e,q] at h;simp only[EC,hb,Bool.false_and,Hz,if_false,J7] at h;rcases h with h | h
     . exact absurd h (S.nocell _ (PySem.mem_of_lookup q))
     . exact absurd h hk
 exact NW (ok.has x (.inl (S.free _ (PySem.mem_of_lookup hf) rfl))) scope.names [] (PySem.mem_of_lookup hf)
theorem IL (h:(BW X.env.cells scope.names []).lookup x=some c):X.env.cells.lookup x=some c:=by
 rcases QH _ _ h with q | q
 . simp at q
 . exact q
theorem Zn (I:AA X pins σ H3 s3)(S:Jp X scope)(f:∀b∈fp,DB X pins H3 b)(fz:∀b∈fp,b<s3.heap.objs.size):(BM X (X.pn++pins) N' scope fp s3 H3).Ok where
 mod:=I.ok.mod
 kind:=S.kind
 glob:=I.ok.glob
 blt:=I.ok.blt
 above:=zK _
 inj:=fun x y c h1 h2=>I.ok.inj x y c (IL h1) (IL h2)
 has:=fun x h=>VT I.ok S h
 cab:=fun x c h=>by cases h
 hd:=I.ok.hd
 frames:=I.ok.frames
 stk:=.inl rfl
 exf:=fun b hb=>{zi (fz b hb),fun x c h=>(f b hb).2.2.2.2.1 x c (IL h)}
 bs:=I.bs
 bsz:=BX I.ok.bsz I.sz
 noex:=fun b o e hb=>by
  rcases (f b hb).2.2.2.1 with z | z
  . exact I.ok.noex b o e z
  . exact absurd (zo (zZ e) (BX I.ok.bsz z)) (ER _)
 exfs:=fun b hb z=>by
  rcases zb.mp (I.stkSub b z) with q | q
  . exact (f b hb).2.1 q
  . exact (f b hb).2.2.1 q
 funs:=I.stack
 frf:=I.stkFree
theorem Zo (I:AA X pins σ H3 s3)(S:Jp X scope)(f:∀b∈fp,DB X pins H3 b)(fz:∀b∈fp,b<s3.heap.objs.size)
 (hN:N'=own++cn)(hc:EW X scope cn ci)(hv:ci.map (fun j=>σ[j]?)=cv.map fun v=>some (some v))(hl:cn.length=ci.length)
 (gX:h1.Ns s3.heap.objs.size (fun _=>none))(hk:∀b o,s3.heap.get? b=some o->h1.get? b=some o):
 AA (BM X (X.pn++pins) N' scope fp s3 H3) [] (List.replicate own.length none++cv.map some) H3 { s3 with heap:=h1,toks:=t }:=by
 have jh:cv.length=ci.length:=by have:=congrArg List.length hv;simpa using this.symm
 refine{Zn I S f fz,0,I.bare,Un.kept hk,{_,gX,fun i x v e1 e2 e3=>?_},fun x c e=>?_,I.hok.fresh (zK _),fun x c e=>I.freeC x c (IL e),fun p hp=>?_,I.hok.kept hk,?_}
 . -- a captured name
   have hi:own.length<=i:=by
    by_cases hi:own.length<=i
    . exact hi
    . rw[ze (by simpa using hi),Mg] at e2;split at e2 <;> cases e2
   rw[za (by simpa using hi),Cj,zN] at e2;have e1':(own++cn)[i]?=some x:=by rw[<-hN];exact e1
   rw[za hi] at e1';obtain⟨j,hj,hNj,hkx,jt⟩:=hc.get e1';have hcv:cv[i-own.length]?=some v:=by
    cases q:cv[i-own.length]? with
    | none=>rw[q] at e2;cases e2
    | some v'=>rw[q] at e2;cases e2;rfl
   have hσ:σ[j]?=some (some v):=by have:=congrArg (fun l:List (Option (Option V))=>l[i-own.length]?) hv;simp only[zN,hj,hcv,EC,J7] at this;exact this
   obtain⟨m,_,gO⟩:=I.loc;obtain⟨u,r,q⟩:=gO j x v hNj hσ (.inr (.inl hkx));have hkd:(relabel scope X.env).names.lookup x=some .cell\/(relabel scope X.env).names.lookup x=some .free:=by
    have e:(relabel scope X.env).names.lookup x=(scope.names.lookup x).map fun k=>if (k==NameKind.free && X.env.scope.kind == .function && X.env.kindOf x==some .cell)=true then NameKind.cell else k:=Ng scope.names
    rw[e,jt,EC];by_cases cc:(NameKind.free==NameKind.free && X.env.scope.kind == .function && X.env.kindOf x==some .cell)=true
    . rw[if_pos cc];exact .inl rfl
    . rw[if_neg cc];exact .inr rfl
   obtain⟨c',iH⟩:=VT I.ok S hkd;refine{u,r,.inr {hkd,c',iH,?_}};rcases q with ⟨z,_⟩ | ⟨_,c,hcc,o,ho,hd⟩
   . rw[hkx] at z;cases z
   . have e:c=c':=zV (hcc.symm.trans (IL iH));subst e;exact{o,hk c o ho,hd}
 . obtain⟨v,o,ho,hd⟩:=I.cell x c (IL e);exact{v,o,hk c o ho,hd}
 . have ij:p∈X.pn++pins:=by rw[zv] at hp;exact hp
   obtain⟨e,n,ne,nf,d⟩:=I.pin p ij;refine{hk _ _ e,n,zi (zZ e),fun z=>?_,d};rcases zb.mp (I.stkSub p.1 z) with q | q
   . exact ne q
   . exact nf q
 . show (List.replicate own.length none++cv.map some).length=N'.length;rw[hN,zH,zH,Cj,zB,jh,hl]
def RC (J:It)(own:Nat)(cv:List V)(g:TG)(ti:TT)(te:TE)(D:Addr)(H1:Hp)(Q:VK):Prop:=∃W:Nat->Nat->List V->Hp->Prop,(∃m,W 0 m [] (upd H1 D (.lst [])))/\∀i m ys H,W i m ys H ->
 (J.stop i H/\Q (.ref D) H)\/(J.go i H/\ys.length<sizeLine/\∃N:List V->Hp->Prop,(∀iZ H',N iZ H'->∃m',m'<m/\W (i+1) m' iZ H') /\
  ∀x H',J.yld i H x H'->g x (List.replicate own none++cv.map some) H' fun σ2 H2=>(σ2.length=own+cv.length/\σ2.drop own=cv.map some) /\
   ti σ2 H2 fun b H3=>if b=true then te σ2 H3 fun y H4=>H4 D=some (.lst ys)/\N (ys++[y]) (upd H4 D (.lst (ys++[y]))) else N ys H3)
def Ny (own:Nat)(ci:List Nat)(wi:TI)(g:TG)(ti:TT)(te:TE):TE:=fun σ H Q=>wi σ H fun J H1=>∃cv:List V,ci.map (fun j=>σ[j]?)=cv.map (fun v=>some (some v)) /\
 ∀D,H1 D=none->RC J own cv g ti te D H1 Q
theorem WO (gK:X.calm=true)(S:Jp X scope)(hc:EW X scope cn ci)(hl:cn.length=ci.length)
 (hi:PI X target iter wi)(hg:∀pl fp s3 H3,PG (BM X pl (own++cn) scope fp s3 H3) target g)(ht:∀pl fp s3 H3,HV (BM X pl (own++cn) scope fp s3 H3) ifs ti)
 (he:∀pl fp s3 H3,PE (BM X pl (own++cn) scope fp s3 H3) elt te)(hs:∀x,foldedSetIterable iter X.env x=pure x)(I:AA X pins σ H s)(h:Ny own.length ci wi g ti te σ H Q)
 (fin:∀D C H5 s6 m6,AA X pins σ H5 s6->s6.heap.Ns C m6->H5 C=none->C≠X.env.locals->X.s₀.heap.objs.size<=C->(∀x c,X.env.cells.lookup x=some c->c≠C) ->
  (∀p∈X.pn++pins,p.1≠C)->Q (.ref D) H5->compPost (model X.prog X.w) X.A X.xe use Q0 (.ref D) C (.ok .next) s6):
 wpAny (model X.prog X.w) X.A (comprehension (.ListComp elt [⟨target,iter,ifs,0⟩] scope pos) scope X.env eX (newList []) false (eval iter X.env) use) Q0 X.xe s:=by
 have jy:closureFor scope X.env=pure (BW X.env.cells scope.names []):=WN fun y hy hf=>I.ok.has y.1 (.inl (S.free y hy hf));refine wpAny_comprehension_free (use:=use) rfl hs jy S.kind S.names ?_;refine AL (hi pins s σ H _ I h) fun v s1 h1=>AL h1 fun itv s2 h2=>?_;obtain⟨it,fp,tn,J,H2,e,I2,T,st2,f2,cv,hv,hD⟩:=h2;subst e;have jh:cv.length=ci.length:=by have:=congrArg List.length hv;simpa using this.symm
 have I3:=I2.lnew (ys:=[]) (its:=[]) (t':=s2.toks) .nil (zh _);obtain⟨W,⟨m0,w0⟩,turn⟩:=hD s2.heap.objs.size I2.fresh;have fz:∀b∈fp,b<s2.heap.objs.size:=fun b hb=>by obtain⟨o,ho,_⟩:=T.obj _ _ st2 b hb;exact zZ ho
 refine Cg ?_;refine wpAny_newFunctionEnv S.nocell (by intro y hy;simp at hy) (fun h4 jm hsb4=>?_) S.kind;generalize hs3:({ s2 with heap:=s2.heap.push { cls:=.type "list",dict:=none,data:=.seq ([]:List Value).toArray } }:Shared)=s3 at jm hsb4 ⊢;have jR:AA X pins σ (upd H2 s2.heap.objs.size (.lst [])) s3:=by rw[<-hs3];exact I3
 have hsz3:s3.heap.objs.size=s2.heap.objs.size+1:=by rw[<-hs3];exact Cp ..
 have k23:∀b o,s2.heap.get? b=some o->s3.heap.get? b=some o:=fun b o e=>by rw[<-hs3];exact zL _ e
 have k34:∀b o,s3.heap.get? b=some o->h4.get? b=some o:=fun b o e=>hsb4.extBut b o (zi (zZ e)) (zL _ e);have nD:∀b∈fp,b≠s2.heap.objs.size:=fun b hb=>zi (fz b hb);have f3:∀b∈fp,DB X pins (upd H2 s2.heap.objs.size (.lst [])) b:=fun b hb=>{by rw[zj (nD b hb)];exact (f2 b hb).1,(f2 b hb).2};have fz3:∀b∈fp,b<s3.heap.objs.size:=fun b hb=>by rw[hsz3];exact Ec (fz b hb)
 have I4:AA (BM X (X.pn++pins) (own++cn) scope fp s3 (upd H2 s2.heap.objs.size (.lst []))) [] (List.replicate own.length none++cv.map some) (upd H2 s2.heap.objs.size (.lst [])) { s3 with heap:=h4,toks:=s3.toks+([]:List (Str×Value)).length }:=
  Zo jR S f3 fz3 rfl hc hv hl jm k34
 have st4:tn 0 h4:=T.keep _ _ _ st2 fun b hb o e=>k34 b o (k23 b o e);generalize hX:BM X (X.pn++pins) (own++cn) scope fp s3 (upd H2 s2.heap.objs.size (.lst []))=X' at I4;have hg':PG X' target g:=by rw[<-hX];exact hg _ _ _ _
 have ht':HV X' ifs ti:=by rw[<-hX];exact ht _ _ _ _
 have iU:PE X' elt te:=by rw[<-hX];exact he _ _ _ _
 have i4:X'.prog=X.prog:=by rw[<-hX];rfl
 have eW:X'.w=X.w:=by rw[<-hX];rfl
 have eK:X'.K=X.K:=by rw[<-hX];rfl
 have eA:X'.A=X.A:=by rw[<-hX];rfl
 have eE:X'.env=compEnvC scope (BW X.env.cells scope.names []) s3.heap.objs.size X.env:=by rw[<-hX];rfl
 have eXe:X'.xe=fun _ _=>False:=by rw[<-hX];rfl
 have eC:X'.calm=true:=by rw[<-hX];exact gK
 have eex:X'.ex=fp:=by rw[<-hX];rfl
 have epn:X'.pn=X.pn++pins:=by rw[<-hX];rfl
 have es0:X'.s₀=s3:=by rw[<-hX];rfl
 have eH0:X'.H₀=upd H2 s2.heap.objs.size (.lst []):=by rw[<-hX];rfl
 have efs:X'.fs=A2 X.stack:=by rw[<-hX];rfl
 have ok':=I4.ok;have gQ:∀{H':Hp},(∀b∈fp,H' b=none)->∀b∈fp,DB X' [] H' b:=fun hn b hb=>by
  have gY:b∈X'.ex:=by rw[eex];exact hb
  refine{hn b hb,(ok'.exf b gY).1,ok'.exfs b gY,.inl gY,(ok'.exf b gY).2,fun p hp=>?_};rw[epn,zv] at hp;exact (f2 b hb).2.2.2.2.2 p hp
 have wk:∀(σ2:St),(σ2.length=own.length+cv.length/\σ2.drop own.length=cv.map some)->∀{pl:B6}{H':Hp}{s':Shared},AA X' pl σ2 H' s'->AA X' pl (List.replicate own.length none++cv.map some) H' s':=fun σ2 hq pl H' s' I'=>by
  refine I'.weak (by rw[hq.1,zH,Cj,zB]) fun i v hi=>?_;by_cases eU:i<own.length
  . rw[ze (by simpa using eU),Mg] at hi;split at hi <;> cases hi
  . rw[za (by simpa using eU),Cj,<-hq.2,List.getElem?_drop] at hi;rw[show own.length+(i-own.length)=i by lia] at hi;exact hi
 have loop:codeAny (model X.prog X.w) X.A (.compLoop (.ListComp elt [⟨target,iter,ifs,0⟩] scope pos) 0 (.ref it) (.ref s2.heap.objs.size) (compEnvC scope (BW X.env.cells scope.names []) s3.heap.objs.size X.env))
  (compPost (model X.prog X.w) X.A X.xe use Q0 (.ref s2.heap.objs.size) s3.heap.objs.size) { s3 with heap:=h4,toks:=s3.toks+([]:List (Str×Value)).length }:=by
  refine Wb (fun n s'=>∃i ys H',AA X' [] (List.replicate own.length none++cv.map some) H' s'/\tn i s'.heap/\(∀b∈fp,H' b=none)/\W i n ys H') ?_ m0
   ⟨0,[],_,I4,st4,fun b hb=>(f3 b hb).1,w0⟩
  rintro n s5 ⟨i,ys,H5,I5,jT,fr5,w5⟩;rcases turn i n ys H5 w5 with ⟨stop,qn⟩ | ⟨go,hsz,N,hN,step⟩
  . have d:=T.done X' i4 eW eK eC i [] s5 _ H5 (fun _ _=>False) I5 (gQ fr5) jT stop;rw[eA] at d;refine AL d fun r s6 ⟨hr,I6⟩=>?_;subst hr;obtain⟨m6,hn6,_⟩:=I6.loc;rw[eE] at hn6;have hn6':s6.heap.Ns s3.heap.objs.size m6:=hn6;have un6:Un (A2 X.stack) fp (upd H2 s2.heap.objs.size (.lst [])) H5 s3.heap s6.heap:=by have b6:=I6.base;rw[efs,eex,eH0,es0] at b6;exact b6
    have os6:s6.os=s3.os:=by have o6:=I6.os;rw[es0] at o6;exact o6
    have hok6:Ap X.prog X.w H5 s6.heap:=by have o6:=I6.hok;rw[i4,eW] at o6;exact o6
    have I7:AA X pins σ H5 s6:=jR.call' (ch:=fp) os6 un6 hok6 I6.bare fun b hb=>{(f2 b hb).2.2.2.1,(f2 b hb).2.1,(f2 b hb).2.2.2.2.1,(f2 b hb).2.2.2.2.2};have fr6:H5 s3.heap.objs.size=none:=by have q:=I6.free;rw[eE] at q;exact q
    refine fin s2.heap.objs.size s3.heap.objs.size H5 s6 m6 I7 hn6' fr6 (Nat.ne_of_gt jR.lt) jR.sz (fun x c e=>?_) (fun p hp=>?_) qn
    . obtain⟨_,o,ho,_⟩:=jR.cell x c e;exact zi (zZ ho)
    . exact zi (zZ (jR.pin p hp).1)
  . have d:=T.item X' i4 eW eK eC i [] s5 _ H5 (fun _ _=>False) I5 (gQ fr5) jT go;rw[eA] at d;refine AL d fun r s6 ⟨u,hr,h6⟩=>?_;subst hr;refine AL h6 fun _ s7 ⟨x,H7,I7,r7,y7,st7,fr7⟩=>?_;have I7':=I7.pinned (gQ fr7) (T.obj _ _ st7);have g7:=hg' _ s7 _ H7 x u _ I7' r7 (step x H7 y7);rw[i4,eW,eA,eE,eXe] at g7;refine AL g7 fun _ s8 ⟨σ8,H8,I8,q8,ti8⟩=>?_;have t8:=ht' _ s8 σ8 H8 _ I8 ti8;rw[i4,eW,eA,eE,eXe] at t8;refine AL t8 fun ok s9 ⟨H9,I9,q9⟩=>?_;have again:∀{iZ:List V}{H':Hp}{s':Shared},AA X' ([]++Mo fp s7.heap) σ8 H' s'->N iZ H' ->
     ∃m,m<n/\∃i ys H',AA X' [] (List.replicate own.length none++cv.map some) H' s'/\tn i s'.heap/\(∀b∈fp,H' b=none)/\W i m ys H':=fun {iZ H' s'} I' n'=>by
     obtain⟨m',hm,w'⟩:=hN iZ H' n';refine{m',hm,i+1,iZ,H',(wk σ8 q8 I').unpinned,T.keep _ _ _ st7 fun b hb o e=>(I'.pin (b,o) (zn _ (zn _ (Mq hb e)))).1,fun b hb=>?_,w'};obtain⟨o,e,_⟩:=T.obj _ _ st7 b hb;exact (I'.pin (b,o) (zn _ (zn _ (Mq hb e)))).2.1
    cases ok with
    | false=>exact again I9 q9
    | true=>have e9:=iU _ s9 σ8 H9 _ I9 q9;rw[i4,eW,eA,eE,eXe] at e9;refine AL e9 fun u10 iE ⟨y,H10,i5,r10,jQ,n10⟩=>?_;have a10:=Eg (X:=X') _ iE σ8 H10 (.ref s2.heap.objs.size) [y] (.ref s2.heap.objs.size) [u10] (fun _ H'=>N (ys++[y]) H') i5 rfl (.cons r10 .nil) {8,jQ,hsz,n10};rw[i4,eW,eA,eXe] at a10;exact AL a10 fun _ s11 ⟨_,H11,I11,_,n11⟩=>again I11 n11
 exact codeAny_compStart_list loop (T.self X.A 0 _ _ _ st4 loop)
theorem BQ (gK:X.calm=true)(S:Jp X scope)(hc:EW X scope cn ci)(hl:cn.length=ci.length)
 (hi:PI X target iter wi)(hg:∀pl fp s3 H3,PG (BM X pl (own++cn) scope fp s3 H3) target g)(ht:∀pl fp s3 H3,HV (BM X pl (own++cn) scope fp s3 H3) ifs ti)
 (he:∀pl fp s3 H3,PE (BM X pl (own++cn) scope fp s3 H3) elt te)(hs:∀x,foldedSetIterable iter X.env x=pure x:=by intro _;rfl):
 PE X (.ListComp elt [⟨target,iter,ifs,0⟩] scope pos) (Ny own.length ci wi g ti te):=by
 intro pins s σ H Q I h;rw[eval_ListComp];exact WO gK S hc hl hi hg ht he hs I h fun D C H5 s6 m6 I7 hn fr nL ge nC nP q=>{m6,hn,fun h' ig=>{.ref D,H5,I7.turned (t':=s6.toks) (it:=C) (fun b o hb e=>ig.extBut b o hb e) fr nL (.inr ge) nC nP,0,q}}
theorem Ea (hN:X.N.Nodup)(hix:X.N[i]?=some x)(hx:GK X.env.scope x)(gK:X.calm=true)(S:Jp X scope)(hc:EW X scope cn ci)(hl:cn.length=ci.length)
 (hi:PI X target iter wi)(hg:∀pl fp s3 H3,PG (BM X pl (own++cn) scope fp s3 H3) target g)(ht:∀pl fp s3 H3,HV (BM X pl (own++cn) scope fp s3 H3) ifs ti)
 (he:∀pl fp s3 H3,PE (BM X pl (own++cn) scope fp s3 H3) elt te)(hs:∀x,foldedSetIterable iter X.env x=pure x:=by intro _;rfl)
 (hsw:swapsWith (.ListComp elt [⟨target,iter,ifs,0⟩] scope eX) (some (.Name x pos')) pos.line X.env=pure true:=by rfl)
 (hf:X.fn x=true\/X.env.scope.names.lookup x=some .local:=by first | exact .inl rfl | exact .inr rfl | assumption):
 PS X (.Assign [.Name x pos'] (.ListComp elt [⟨target,iter,ifs,0⟩] scope eX) pos) (E9 (Ny own.length ci wi g ti te) (Jb i)):=by
 intro pins s σ H D I h;rw[exec_Assign_Name_used _ _ _ _ hsw];refine zA (wpAny_standAt (zA ?_));show wpAny _ X.A (do let _ <-comprehension (.ListComp elt [⟨target,iter,ifs,0⟩] scope eX) scope X.env _ (newList []) false (eval iter X.env) (some (assign (.Name x pos') X.env))) _ _ s
 refine zA (BE (WO (use:=some (assign (.Name x pos') X.env)) (Q0:=fun _ s'=>SP X pins D .next s') gK S hc hl hi hg ht he hs I h (fun D' C H5 s6 m6 I7 hn fr nL ge nC nP q=>?_)) (fun _ s' hq=>zE (zE hq)) fun _ _ e=>e);obtain⟨oC,es,ep,hoC,hd,r1⟩:=hn;have nf:C∉X.fs:=fun hb=>by obtain⟨_,o,ho,_⟩:=I7.ok.funs.mem hb;exact absurd (zo (zZ ho) ge) (ER _)
 have I7':AA X (pins++[(C,oC)]) σ H5 s6:=I7.pins_of fun p hp=>by
  rcases zg.mp hp with z | z
  . exact I7.pin p (zn _ z)
  . rw[zl.mp z];exact{hoC,fr,nL,nf,fun v e=>by rw[hd] at e;cases e}
 show wpAny _ X.A (assign (.Name x pos') X.env (.ref D')) _ _ s6;refine wpAny_assign_Name (Jd I7' hN hix hx (show AS (.ref D') (.ref D') from rfl) (fun s' I'=>?_) hf);have hC':=(I'.pin (C,oC) (zn _ (zn _ (zl.mpr rfl)))).1;refine{m6,⟨oC,es,ep,hC',hd,r1⟩,fun h' ig=>{_,H5,?_,q}};have I2:AA X pins (σ.set i (some (.ref D'))) H5 s':=I'.pins_of fun p hp=>I'.pin p (zn _ (DP _ hp));exact I2.turned (t':=s'.toks) (it:=C) (fun b o hb e=>ig.extBut b o hb e) fr nL (.inr ge) nC nP
end
noncomputable def Pd (outer inner:Scope):Bool:=inner.names.all fun y=>(y.2 != .cell) && (y.2 != .local || inner.names.lookup y.1==some .local) && (y.2 != .free || outer.names.lookup y.1==some .cell)
theorem Az (hk:scope.kind=.function)(h:Pd X.env.scope scope=true):Jp X scope:=by
 have a:=J8.mp h;refine{hk,fun y hy e=>?_,fun y hy e=>?_,fun y hy e=>?_}
 . have:=a y hy;rw[e] at this;simp at this
 . have:=a y hy;rw[e] at this;simpa using this
 . have:=a y hy;rw[e] at this;have h2:X.env.scope.names.lookup y.1=some .cell:=by simpa using this
   exact h2
theorem EK {l:List Str}(h:decide l.Nodup=true):l.Nodup:=of_decide_eq_true h
theorem CQ:KY (BM X pl N' sc fp s3 H3) (MF X.K):=AU
theorem Qh:KY (BM X pl N' sc fp s3 H3) (OO X.K):=AY
theorem UT (hc:X.calm=true)(h:OU (BM X pl N' sc fp s3 H3) es t)
 (hn:(assignEach es (BM X pl N' sc fp s3 H3).env).length=n:=by rfl)(hst:(assignEach es (BM X pl N' sc fp s3 H3).env).findIdx? (·.1)=none:=by rfl):PG (BM X pl N' sc fp s3 H3) (.Tuple es k pos) (Pg X.K n t):=CC hc h hn hst
theorem QS:A1 (BM X pl N' sc fp s3 H3) (compareOp .NotIn) (Rv X.K true):=Ju
theorem Nf {K:AK}(Pv:Nat->List V->Hp->Prop)(h0:Pv 0 [] (upd H1 D (.lst [])))(hl:∀i ys H,Pv i ys H->AD K H a xs)(hz:∀i ys H,Pv i ys H->ys.length<sizeLine)
 (hs:∀i x ys H,xs[i]?=some x->Pv i ys H->g x (List.replicate own none++cv.map some) H fun σ2 H2=>(σ2.length=own+cv.length/\σ2.drop own=cv.map some) /\
  ti σ2 H2 fun b H3=>if b=true then te σ2 H3 fun y H4=>H4 D=some (.lst ys)/\Pv (i+1) (ys++[y]) (upd H4 D (.lst (ys++[y]))) else Pv (i+1) ys H3)
 (hd:∀ys H,Pv xs.length ys H->Q (.ref D) H):
 RC (ND K a) own cv g ti te D H1 Q:=by
 refine{fun i m ys H=>m=xs.length-i/\i<=xs.length/\Pv i ys H,{xs.length,0,zh _,h0},?_};rintro i m ys H ⟨rfl,hi,p⟩;have q:=hl i ys H p;by_cases eU:i<xs.length
 . refine .inr {{xs,xs[i],q,by simp[eU]},hz i ys H p,Pv (i+1),fun iZ H' p'=>{xs.length-(i+1),by lia,0,eU,p'},fun x H' y=>?_};obtain⟨e,y⟩:=y;subst e;exact hs i x ys _ (y xs q) p
 . have e:i=xs.length:=by lia
   subst e;exact .inl {{xs,q,zK _},hd ys H p}
theorem BJ {K:AK}(Pv:Nat->List V->Hp->Prop)(h0:Pv 0 [] (upd H1 D (.lst [])))(hl:∀i ys H,Pv i ys H->AB K H a xs)(hz:∀i ys H,Pv i ys H->ys.length<sizeLine)
 (hs:∀i x ys H,xs[i]?=some x->Pv i ys H->g x (List.replicate own none++cv.map some) H fun σ2 H2=>(σ2.length=own+cv.length/\σ2.drop own=cv.map some) /\
  ti σ2 H2 fun b H3=>if b=true then te σ2 H3 fun y H4=>H4 D=some (.lst ys)/\Pv (i+1) (ys++[y]) (upd H4 D (.lst (ys++[y]))) else Pv (i+1) ys H3)
 (hd:∀ys H,Pv xs.length ys H->Q (.ref D) H):
 RC (NF K a) own cv g ti te D H1 Q:=by
 refine{fun i m ys H=>m=xs.length-i/\i<=xs.length/\Pv i ys H,{xs.length,0,zh _,h0},?_};rintro i m ys H ⟨rfl,hi,p⟩;have q:=hl i ys H p;by_cases eU:i<xs.length
 . refine .inr {{xs,xs[i],q,by simp[eU]},hz i ys H p,Pv (i+1),fun iZ H' p'=>{xs.length-(i+1),by lia,0,eU,p'},fun x H' y=>?_};obtain⟨e,y⟩:=y;subst e;exact hs i x ys _ (y xs q) p
 . have e:i=xs.length:=by lia
   subst e;exact .inl {{xs,q,zK _},hd ys H p}
theorem IP {lo:Int}(Pv:Nat->List V->Hp->Prop)(h0:Pv 0 [] (upd H1 D (.lst [])))(hz:∀i ys H,Pv i ys H->ys.length<sizeLine)
 (hs:∀i ys H,i<n->Pv i ys H->g (.int (lo+i)) (List.replicate own none++cv.map some) H fun σ2 H2=>(σ2.length=own+cv.length/\σ2.drop own=cv.map some) /\
  ti σ2 H2 fun b H3=>if b=true then te σ2 H3 fun y H4=>H4 D=some (.lst ys)/\Pv (i+1) (ys++[y]) (upd H4 D (.lst (ys++[y]))) else Pv (i+1) ys H3)
 (hd:∀ys H,Pv n ys H->Q (.ref D) H):
 RC (IU lo n) own cv g ti te D H1 Q:=by
 refine{fun i m ys H=>m=n-i/\i<=n/\Pv i ys H,{n,0,zh _,h0},?_};rintro i m ys H ⟨rfl,hi,p⟩;by_cases eU:i<n
 . refine .inr {eU,hz i ys H p,Pv (i+1),fun iZ H' p'=>{n-(i+1),by lia,0,eU,p'},fun x H' y=>?_};obtain⟨e,y⟩:=y;subst e;subst y;exact hs i ys _ eU p
 . have e:i=n:=by lia
   subst e;exact .inl {zK _,hd ys H p}
end L2
namespace SortT
open PySem.W PyProof.Rows
noncomputable def ev {α:Type}(lt:Nat->Nat->Bool):KasT α->α
 | .ret a=>a
 | .ask i j k=>ev lt (k (lt i j))
theorem Mj (lt:Nat->Nat->Bool)(f:α->KasT β):∀t:KasT α,ev lt (t.bind f)=ev lt (f (ev lt t))
 | .ret _=>rfl
 | .ask i j k=>Mj lt f (k (lt i j))
section
variable {O:KeyOrd}{key:Nat->O.α}
noncomputable def kk (key:Nat->O.α)(p:Array Nat)(i:Nat):O.α:=key (p.getD i 0)
def Sr (key:Nat->O.α)(p:Array Nat)(n:Nat):Prop:=∀i j,i<=j->j<n->O.kle (kk key p i) (kk key p j)
def Fl (key:Nat->O.α)(p:Array Nat)(n:Nat):Prop:=∀i j,i<=j->j<n->O.kle (kk key p j) (kk key p i)
theorem Np (h:p[i]?=q[j]?):kk key p i=kk key q j:=by unfold kk;rw[Array.getD_eq_getD_getElem?,Array.getD_eq_getD_getElem?,h]
theorem TR (hj:j<=p.size)(k):kk key (kas_rev p i j) k=if i<=k/\k<j then kk key p (i+j-1-k) else kk key p k:=by
 have e:=getElem?_mirror_all (i:=i) hj k;unfold kas_rev;by_cases h1:i<=k/\k<j
 . rw[if_pos h1] at e ⊢;exact Np e
 . rw[if_neg h1] at e ⊢;exact Np e
theorem TF (hj:j<=p.size)(he:∀k,i<=k->k<j->kk key p k=kk key p (j-1))(k):kk key (kas_rev p i j) k=kk key p k:=by
 rw[TR hj];split
 . rw[he _ (by lia) (by lia),he k (by lia) (by lia)]
 . rfl
theorem XF (hs:src<p.size)(hd:d<=src)(k):
 kk key (bubble p src d) k=if k=src-d then kk key p src else if src-d<k/\k<=src then kk key p (k-1) else kk key p k:=by
 have e:=getElem?_bubble hs d hd k;by_cases h1:k=src-d
 . rw[if_pos h1] at e ⊢;exact Np e
 . rw[if_neg h1] at e ⊢;by_cases h2:src-d<k/\k<=src
   . rw[if_pos h2] at e ⊢;exact Np e
   . rw[if_neg h2] at e ⊢;exact Np e
noncomputable def Bg (key:Nat->O.α)(i j:Nat):Bool:=O.blt (key i) (key j)
theorem Fx (p)(i j):(kas_rev p i j).Perm p:=mirror_perm _ _ _ _
theorem UI (p)(i j):(kas_rev p i j).size=p.size:=(Fx p i j).size_eq
theorem US :∀f n,1<=n->Sr key p n->∃m,ev (Bg key) (kas_asc p f n)=m/\n<=m/\m<=n+f/\Sr key p m/\(m=n+f\/O.klt (kk key p m) (kk key p (m-1)))
 | 0,n,_,hs=>{n,0,zK _,zK _,hs,.inl rfl}
 | f+1,n,h1,hs=>by
  show ∃m,ev (Bg key) (if Bg key (p.getD n 0) (p.getD (n-1) 0)=true then KasT.ret n else kas_asc p f (n+1))=m/\_
  cases hl:Bg key (p.getD n 0) (p.getD (n-1) 0) with
  | true=>exact{n,by simp[ev],zK _,by lia,hs,.inr hl}
  | false=>
   have ig:Sr key p (n+1):=fun i j gS hj=>by
    by_cases hjn:j<n
    . exact hs i j gS hjn
    . have hj':j=n:=by lia
      subst hj';by_cases gq:i=j
      . subst gq;exact KeyOrd.kle_refl _
      . exact KeyOrd.kle_trans (hs i (j-1) (by lia) (by lia)) hl
   obtain⟨m,e,a,b,c,d⟩:=US f (n+1) (by lia) ig;refine{m,by simpa using e,by lia,by lia,c,?_};rcases d with d | d
   . exact .inl (by lia)
   . exact .inr d
theorem Vi (h1:1<=n)(hn:n<=nrem)(hz:nrem<=p.size)(hs:Fl key p n):
 ∃m q,ev (Bg key) (kas_tail3 n nrem p)=(m,q)/\q.Perm p/\1<=m/\m<=nrem/\Sr key q m:=by
 unfold kas_tail3;have ig:Sr key (kas_rev p 0 n) n:=fun i j gS hj=>by rw[TR (by lia),TR (by lia),if_pos (by lia),if_pos (by lia)];exact hs _ _ (by lia) (by lia)
 obtain⟨m,e,a,b,c,_⟩:=US (nrem-n) n h1 ig;exact{m,kas_rev p 0 n,by rw[Mj,e];rfl,Fx _ _ _,by lia,by lia,c}
theorem Q6:∀f n q p,1<=n->n+f<=p.size->Fl key p n->q+1<=n->(∀i,n-(q+1)<=i->i<n->kk key p i=kk key p (n-1)) ->
 ∃p' n' q',ev (Bg key) (kas_desc f p n q)=(p',n',q')/\p'.Perm p/\n<=n'/\n'<=n+f/\Fl key p' n'/\q'+1<=n'/\(∀i,n'-(q'+1)<=i->i<n'->kk key p' i=kk key p' (n'-1))
 | 0,n,q,p,_,_,hs,hq,he=>{p,n,q,0,.refl _,zK _,zK _,hs,hq,he}
 | f+1,n,q,p,h1,hz,hs,hq,he=>by
  show ∃p' n' q',ev (Bg key) (if Bg key (p.getD n 0) (p.getD (n-1) 0)=true then _ else KasT.ask _ _ _)=(p',n',q')/\_
  cases hl:Bg key (p.getD n 0) (p.getD (n-1) 0) with
  | true=>
   have step:∀xs:Array Nat,(∀k,kk key xs k=kk key p k)->Fl key xs (n+1):=fun xs hk i j gS hj=>by
    rw[hk,hk];by_cases hjn:j<n
    . exact hs i j gS hjn
    . have hj':j=n:=by lia
      subst hj';by_cases gq:i=j
      . subst gq;exact KeyOrd.kle_refl _
      . exact KeyOrd.kle_trans (KeyOrd.kle_of_klt hl) (hs i (j-1) (by lia) (by lia))
   by_cases hq0:q > 0
   . have hk:=TF (key:=key) (p:=p) (i:=n-(q+1)) (j:=n) (by lia) he;obtain⟨p',n',q',e,a,b,c,d⟩:=Q6 f (n+1) 0 (kas_rev p (n-(q+1)) n) (by lia) (by rw[UI];lia) (step _ hk) (by lia) (fun i h1 h2=>by congr 1;lia);exact{p',n',q',by simpa [hq0] using e,a.trans (Fx _ _ _),by lia,by lia,d}
   . obtain⟨p',n',q',e,a,b,c,d⟩:=Q6 f (n+1) 0 p (by lia) (by lia) (step _ fun _=>rfl) (by lia) (fun i h1 h2=>by congr 1;lia);exact{p',n',q',by simpa [hq0] using e,a,by lia,by lia,d}
  | false=>
   show ∃p' n' q',ev (Bg key) (if Bg key (p.getD (n-1) 0) (p.getD n 0)=true then KasT.ret (p,n,q) else kas_desc f p (n+1) (q+1))=(p',n',q')/\_
   cases hr:Bg key (p.getD (n-1) 0) (p.getD n 0) with
   | true=>exact{p,n,q,by simp[ev],.refl _,zK _,by lia,hs,hq,he}
   | false=>
    have heq:kk key p n=kk key p (n-1):=KeyOrd.kle_antisymm hr hl;have ig:Fl key p (n+1):=fun i j gS hj=>by
     by_cases hjn:j<n
     . exact hs i j gS hjn
     . have hj':j=n:=by lia
       subst hj';by_cases gq:i=j
       . subst gq;exact KeyOrd.kle_refl _
       . rw[heq];exact hs i (j-1) (by lia) (by lia)
    obtain⟨p',n',q',e,a,b,c,d⟩:=Q6 f (n+1) (q+1) p (by lia) (by lia) ig (by lia) (fun i h1 h2=>by
     rw[show n+1-1=n by lia];by_cases hix:i=n
     . subst hix;rfl
     . rw[heq];exact he i (by lia) (by lia))
    exact{p',n',q',by simpa using e,a,by lia,by lia,d}
theorem Xp (hn:n+1<=nrem)(hz:nrem<=p.size)(hs:Fl key p (n+1)):
 ∃m q,ev (Bg key) (kas_descPart n nrem p)=(m,q)/\q.Perm p/\1<=m/\m<=nrem/\Sr key q m:=by
 unfold kas_descPart;rw[Mj];obtain⟨p',n',q',e,a,b,c,d,hq,he⟩:=Q6 (nrem-(n+1)) (n+1) 0 p (by lia) (by lia) hs (by lia) (fun i h1 h2=>by congr 1;lia);rw[e];dsimp only;have hz':p'.size=p.size:=a.size_eq;by_cases hq0:q' > 0
 . rw[if_pos hq0];have hk:=TF (key:=key) (p:=p') (i:=n'-(q'+1)) (j:=n') (by lia) he;obtain⟨m,r,e2,a2,b2,c2,d2⟩:=Vi (key:=key) (p:=kas_rev p' (n'-(q'+1)) n') (n:=n') (nrem:=nrem) (by lia) (by lia) (by rw[UI];lia) (fun i j gS hj=>by rw[hk,hk];exact d i j gS hj);exact{m,r,e2,a2.trans ((Fx _ _ _).trans a),b2,c2,d2}
 . rw[if_neg hq0];obtain⟨m,r,e2,a2,b2,c2,d2⟩:=Vi (key:=key) (p:=p') (n:=n') (nrem:=nrem) (by lia) (by lia) (by lia) d;exact{m,r,e2,a2.trans a,b2,c2,d2}
theorem ZG (h1:1<=nrem)(hz:nrem<=p.size):∃m q,ev (Bg key) (kas_count nrem p)=(m,q)/\q.Perm p/\1<=m/\m<=nrem/\Sr key q m:=by
 unfold kas_count;rw[Mj];obtain⟨n,e,a,b,hsn,hor⟩:=US (key:=key) (p:=p) (nrem-1) 1 (zK _) (fun i j gS hj=>by have:i=j:=(by lia);subst this;exact KeyOrd.kle_refl _);rw[e];by_cases hnn:n=nrem
 . rw[if_pos (by simpa using hnn)];exact{n,p,0,.refl _,a,by lia,hsn}
 . rw[if_neg (by simpa using hnn)];have eU:O.klt (kk key p n) (kk key p (n-1)):=hor.resolve_left (by lia);by_cases BA:n > 1
   . rw[if_pos BA];show ∃m q,ev (Bg key) (if Bg key (p.getD 0 0) (p.getD (n-1) 0)=true then KasT.ret (n,p) else kas_descPart n nrem (kas_rev p 0 n))=(m,q)/\_
     cases hr:Bg key (p.getD 0 0) (p.getD (n-1) 0) with
     | true=>exact{n,p,by simp[ev],.refl _,a,by lia,hsn}
     | false=>
      have gF:∀k,0<=k->k<n->kk key p k=kk key p (n-1):=fun k _ hk=>
       KeyOrd.kle_antisymm (hsn k (n-1) (by lia) (by lia)) (KeyOrd.kle_trans hr (hsn 0 k (by lia) hk))
      have hk:=TF (key:=key) (p:=p) (i:=0) (j:=n) (by lia) gF;obtain⟨m,q,e2,a2,b2,c2,d2⟩:=Xp (key:=key) (p:=kas_rev p 0 n) (n:=n) (nrem:=nrem) (by lia) (by rw[UI];lia) (fun i j gS hj=>by
       rw[hk,hk];by_cases hjn:j<n
       . rw[gF i (by lia) (by lia),gF j (by lia) hjn];exact KeyOrd.kle_refl _
       . have hj':j=n:=by lia
         subst hj';by_cases gq:i=j
         . subst gq;exact KeyOrd.kle_refl _
         . rw[gF i (by lia) (by lia)];exact KeyOrd.kle_of_klt eU)
      exact{m,q,by simpa using e2,a2.trans (Fx _ _ _),b2,c2,d2}
   . rw[if_neg BA];have iw:n=1:=by lia
     subst iw;refine Xp (by lia) hz fun i j gS hj=>?_;by_cases gq:i=j
     . subst gq;exact KeyOrd.kle_refl _
     . have hi0:i=0:=by lia
       have hj1:j=1:=by lia
       subst hi0;subst hj1;exact KeyOrd.kle_of_klt eU
theorem SE (hs:Sr key p k):∀f l r,l<=r->r<=k->r-l<=f->(∀i,i<l->O.kle (kk key p i) (kk key p k))->(∀i,r<=i->i<k->O.klt (kk key p k) (kk key p i)) ->
 ∃m,ev (Bg key) (kas_place p k f l r)=m/\m<=k/\(∀i,i<m->O.kle (kk key p i) (kk key p k))/\(∀i,m<=i->i<k->O.klt (kk key p k) (kk key p i))
 | 0,l,r,hlr,hrk,hf,hlo,hhi=>{l,0,by lia,hlo,fun i h1 h2=>hhi i (by lia) h2}
 | f+1,l,r,hlr,hrk,hf,hlo,hhi=>by
  unfold kas_place;by_cases hge:l ≥ r
  . rw[if_pos hge];exact{l,0,by lia,hlo,fun i h1 h2=>hhi i (by lia) h2}
  . rw[if_neg hge];show ∃m,ev (Bg key) (if Bg key (p.getD k 0) (p.getD ((l+r)/2) 0)=true then kas_place p k f l ((l+r)/2) else kas_place p k f ((l+r)/2+1) r)=m/\_
    cases hl:Bg key (p.getD k 0) (p.getD ((l+r)/2) 0) with
    | true=>obtain⟨m,e,x⟩:=SE hs f l ((l+r)/2) (by lia) (by lia) (by lia) hlo (fun i h1 h2=>KeyOrd.klt_of_klt_of_kle hl (hs _ _ h1 h2));exact{m,by simpa using e,x}
    | false=>obtain⟨m,e,x⟩:=SE hs f ((l+r)/2+1) r (by lia) (by lia) (by lia) (fun i h1=>KeyOrd.kle_trans (hs i ((l+r)/2) (by lia) (by lia)) (show O.kle _ _ from hl)) hhi;exact{m,by simpa using e,x}
theorem Xz:∀f p k,k+f=p.size->Sr key p k->∃q,ev (Bg key) (kas_bin f p k)=q/\q.Perm p/\Sr key q (k+f)
 | 0,p,k,_,hs=>{p,0,.refl _,hs}
 | f+1,p,k,hz,hs=>by
  unfold kas_bin;rw[Mj];obtain⟨l,e,hlk,hlo,hhi⟩:=SE (key:=key) hs k 0 k (by lia) (by lia) (by lia) (fun i h=>by lia) (fun i h1 h2=>by lia);rw[e];have ig:Sr key (bubble p k (k-l)) (k+1):=fun i j gS hj=>by
   rw[XF (by lia) (by lia),XF (by lia) (by lia),show k-(k-l)=l by lia]
   repeat' split
   all_goals first
    | (exfalso;lia)
    | exact KeyOrd.kle_refl _
    | exact hlo _ (by lia)
    | exact KeyOrd.kle_of_klt (hhi _ (by lia) (by lia))
    | exact hs _ _ (by lia) (by lia)
  obtain⟨q,e2,a,b⟩:=Xz f (bubble p k (k-l)) (k+1) (by rw[(bubble_perm p k (k-l)).size_eq];lia) ig;exact{q,e2,a.trans (bubble_perm _ _ _),by rw[show k+(f+1)=k+1+f by lia];exact b}
theorem aN (n)(h1:1<=n):∃q,ev (Bg key) (kas_sort n)=q/\q.Perm (List.range n).toArray/\Sr key q n:=by
 unfold kas_sort;rw[Mj];have hz:(List.range n).toArray.size=n:=by simp
 obtain⟨m,q,e,a,b,c,d⟩:=ZG (key:=key) (p:=(List.range n).toArray) h1 (by lia);rw[e];dsimp only;have hq:q.size=n:=by rw[a.size_eq,hz]
 by_cases hm:m<n
 . rw[if_pos hm];obtain⟨r,e2,a2,b2⟩:=Xz (key:=key) (n-max m 1) q (max m 1) (by lia) (by rw[show max m 1=m by lia];exact d);exact{r,e2,a2.trans a,by rw[show max m 1+(n-max m 1)=n by lia] at b2;exact b2}
 . rw[if_neg hm];have:m=n:=by lia
   subst this;exact{q,0,a,d}
end
def Bv {α:Type}(n:Nat)(R:α->Prop):KasT α->Prop
 | .ret a=>R a
 | .ask i j k=>i<n/\j<n/\∀b,Bv n R (k b)
theorem Bv.bind {R:α->Prop}(hf:∀a,R a->Bv n R' (f a)):∀t,Bv n R t->Bv n R' (t.bind f)
 | .ret a,h=>hf a h
 | .ask _ _ k,h=>{h.1,h.2.1,fun b=>Bv.bind hf (k b) (h.2.2 b)}
def Bd (n:Nat)(p:Array Nat):Prop:=∀i,p.getD i 0<n
theorem Bd.perm (h:Bd n q)(hp:p.Perm q):Bd n p:=fun i=>by
 have h0:0<n:=Cv (zh _) (h 0);by_cases hi:i<p.size
 . have e:p.getD i 0=p[i]:=by simp[Array.getD,hi]
   rw[e];have hm:p[i]∈q.toList:=(Array.perm_iff_toList_perm.mp hp).mem_iff.mp (by simp);obtain⟨j,hj,ej⟩:=zr hm;have hj':j<q.size:=by simpa using hj
   have:=h j;rw[show q.getD j 0=q[j] by simp[Array.getD,hj']] at this;rw[<-ej];simpa using this
 . have e:p.getD i 0=0:=by simp[Array.getD,hi]
   rw[e];exact h0
theorem UH (hp:Bd n p):∀f m,Bv n (fun _=>True) (kas_asc p f m)
 | 0,_=>trivial
 | f+1,m=>{hp _,hp _,fun b=>by
  cases b with
  | true=>exact trivial
  | false=>exact UH hp f (m+1)}
theorem Q9 :∀f p m q,Bd n p->Bv n (fun r=>Bd n r.1) (kas_desc f p m q)
 | 0,_,_,_,hp=>hp
 | f+1,p,m,q,hp=>{hp _,hp _,fun b=>by
  cases b with
  | true=>
   show Bv n _ (if q > 0 then kas_desc f (kas_rev p (m-(q+1)) m) (m+1) 0 else kas_desc f p (m+1) 0)
   split
   . exact Q9 f _ _ _ (hp.perm (Fx _ _ _))
   . exact Q9 f _ _ _ hp
  | false=>
   refine{hp _,hp _,fun d=>?_};cases d with
   | true=>exact hp
   | false=>exact Q9 f _ _ _ hp}
theorem Yg (hp:Bd n p):Bv n (fun r=>Bd n r.2) (kas_tail3 m nrem p):=by unfold kas_tail3;exact Bv.bind (R:=fun _=>True) (R':=fun r=>Bd n r.2) (f:=fun k=>KasT.ret (k,kas_rev p 0 m)) (fun a _=>hp.perm (Fx p 0 m)) _ (UH (hp.perm (Fx p 0 m)) _ _)
theorem Xw (hp:Bd n p):Bv n (fun r=>Bd n r.2) (kas_descPart m nrem p):=
 Bv.bind (fun r hr=>by
  split
  . exact Yg (hr.perm (Fx _ _ _))
  . exact Yg hr) _ (Q9 _ _ _ _ hp)
theorem bZ (hp:Bd n p):Bv n (fun r=>Bd n r.2) (kas_count nrem p):=
 Bv.bind (fun r _=>by
  split
  . exact hp
  . split
    . refine{hp _,hp _,fun b=>?_};cases b with
      | true=>exact hp
      | false=>exact Xw (hp.perm (Fx _ _ _))
    . exact Xw hp) _ (UH hp _ _)
theorem SR (hp:Bd n p):∀f l r,Bv n (fun _=>True) (kas_place p k f l r)
 | 0,_,_=>trivial
 | f+1,l,r=>by
  unfold kas_place;split
  . exact trivial
  . refine{hp _,hp _,fun b=>?_};cases b with
    | true=>exact SR hp f _ _
    | false=>exact SR hp f _ _
theorem VR :∀f p k,Bd n p->Bv n (fun _=>True) (kas_bin f p k)
 | 0,_,_,_=>trivial
 | f+1,p,k,hp=>Bv.bind (fun l _=>VR f _ _ (hp.perm (bubble_perm _ _ _))) _ (SR hp _ _ _)
theorem cU (h:0<n):Bv n (fun _=>True) (kas_sort n):=
 Bv.bind (fun r hr=>by
  split
  . exact VR _ _ _ hr
  . exact trivial) _ (bZ fun i=>by
    by_cases hi:i<n
    . simp[Array.getD,hi]
    . simp[Array.getD,hi];exact h)
end SortT
namespace SortT
open PySem PySem.W PySem.Calls PyProof.Rows
theorem Ig (hc:∀i j C,i<n->j<n->C (lt i j) s->cmp i j C s):
 ∀t:KasT α,Bv n R t->Q (ev lt t) s->t.kasWp cmp Q s
 | .ret _,_,h=>h
 | .ask i j k,w,h=>hc i j _ w.1 w.2.1 (Ig hc (k (lt i j)) (w.2.2 _) h)
structure Put {O:KeyOrd}(key:Nat->O.α)(n:Nat)(out:List Nat):Prop where
 perm:out.Perm (List.range n)
 rise:∀(i j a b:Nat),i<=j->out[i]?=some a->out[j]?=some b->O.kle (key a) (key b)
theorem MT {O:KeyOrd}{key:Nat->O.α}{n:Nat}{q:Array Nat}(hp:q.Perm (List.range n).toArray)(hs:Sr key q n):Put key n q.toList:=by
 have hl:q.toList.Perm (List.range n):=Array.perm_iff_toList_perm.mp hp;refine{hl,fun i j a b gS ha hb=>?_};have hz:q.size=n:=by have:=hp.size_eq;simpa using this
 have hj:j<q.toList.length:=(zG.mp hb).1;have hj':j<n:=by rw[<-hz];simpa using hj
 have h:=hs i j gS hj';have ga:q.getD i 0=a:=by rw[Array.getD_eq_getD_getElem?,<-Array.getElem?_toList,ha];rfl
 have gb:q.getD j 0=b:=by rw[Array.getD_eq_getD_getElem?,<-Array.getElem?_toList,hb];rfl
 unfold kk at h;rw[ga,gb] at h;exact h
structure Asks (prog:Program)(w:World)(A:Around)(s:Shared)(a:Addr)(vs:List Value){O:KeyOrd}(key:Nat->O.α)(κ:SortKind):Prop where
 kind:∀(h':Heap)(Q:SortKind->Shared->Prop)(E:B8),(∀b o,b≠a->s.heap.get? b=some o->h'.get? b=some o)->Q κ { s with heap:=h' }->wpAny (model prog w) A (keyKind' vs.toArray) Q E { s with heap:=h' }
 less:∀(h':Heap)(i j:Nat)(Q:Bool->Shared->Prop)(E:B8),(∀b o,b≠a->s.heap.get? b=some o->h'.get? b=some o)->i<vs.length->j<vs.length->Q (O.blt (key i) (key j)) { s with heap:=h' } ->
  wpAny (model prog w) A (keyLt' κ (vs.getD i Value.none) (vs.getD j Value.none)) Q E { s with heap:=h' }
theorem list_sort {a:Addr}{vs:List Value}{n:Nat}{P:PySem.Fin->Shared->Prop}{O:KeyOrd}{key:Nat->O.α}{κ:SortKind}(ho:s.heap.get? a=some (seqObj "list" vs.toArray n)) (ik:vs.length<64)
 (ask:2<=vs.length->Asks prog w A s a vs key κ)
 (h:∀out:List Nat,Put key vs.length out->P (.done (.ret .none)) { s with heap:=sortedHeap s.heap a vs (out.map fun i=>vs.getD i Value.none).toArray }):
 wpAny (model prog w) A (Builtin.«list.sort» {[.ref a],[]}) P E s:=by
 rw[list_sort_plain];have ha:a<s.heap.objs.size:=zZ ho;refine zA (listItems_at ho rfl ?_);refine zA (listUpdate_at ho rfl ?_ (by rw[zP,sizeLine_eq];lia) (zh _));obtain⟨e1,ho1⟩:∃e1,(s.heap.update a (Obj.mapSeq fun _=>#[])).get? a=some (seqObj "list" #[] e1):={_,get?_update_seq ho (fun _=>#[])};refine zA (seqEpoch_at ho1 rfl ?_);refine zA (wpAny_newTuple ?_ (by show vs.length<=_;rw[sizeLine_eq];lia));refine zA (wpAny_newList ?_ (zh _));refine BD ?_;have ho6:(((s.heap.update a (Obj.mapSeq fun _=>#[])).push (seqObj "tuple" vs.toArray 0)).push (seqObj "list" #[] 0)).get? a=some (seqObj "list" #[] e1):=by rw[Heap.get?_push_ne _ _ _ (by rw[size_push',Heap.size_update];exact zi (Ec ha)),Heap.get?_push_ne _ _ _ (by rw[Heap.size_update];exact zi ha)];exact ho1
 have keep:∀b o,b≠a->s.heap.get? b=some o->(((s.heap.update a (Obj.mapSeq fun _=>#[])).push (seqObj "tuple" vs.toArray 0)).push (seqObj "list" #[] 0)).get? b=some o:=fun b o hb e=>by refine zL _ (zL _ ?_);rw[Heap.get?_update_ne _ _ _ _ hb];exact e
 show wpAny (model prog w) A _ P E { s with heap:=((s.heap.update a (Obj.mapSeq fun _=>#[])).push (seqObj "tuple" vs.toArray 0)).push (seqObj "list" #[] 0) };dsimp only;by_cases h2:vs.toArray.size<2
 . rw[if_pos h2,if_pos h2];refine zA (zE ?_);rw[StateT.run_pure];refine zA (zE ?_);dsimp only;refine zA (seqEpoch_at ho6 rfl ?_);refine zA (listUpdate_at ho6 rfl ?_ (zh _) (by rw[Array.size_map];show (pairsOf vs).size<=_;rw[pairsOf_size,sizeLine_eq];lia));simp only[bne_self_eq_false,Hz,if_false];refine zE ?_;have hlen:vs.length<2:=by simpa using h2
   have hout:(arrOf (SortSt.mk' general' (vs.toArray.zip vs.toArray) #[] 7 none)).map (·.2)=((List.range vs.length).map fun i=>vs.getD i Value.none).toArray:=by
    show (vs.toArray.zip vs.toArray).map (·.2)=_
    match vs,hlen with
    | [],_=>simp
    | [v],_=>simp
    | _::_::_,h=>exfalso;simp only[zk] at h;lia
   have fin:=h (List.range vs.length) {.refl _,fun i j x y gS hx hy=>by
    have hj:j<(List.range vs.length).length:=(zG.mp hy).1;rw[DG] at hj;have e:i=j:=by lia
    subst e;rw[hx] at hy;cases hy;exact KeyOrd.kle_refl _}
   rw[<-hout] at fin;exact fin
 . rw[if_neg h2,if_neg h2];have h2':2<=vs.length:=by
    have:¬ vs.length<2:=by simpa using h2
    lia
   have K:=ask h2';refine zA (K.kind _ _ _ keep ?_);obtain⟨q,eq,hp,hs⟩:=aN (key:=key) vs.length (by lia);have run:(kas_sort vs.length).kasWp (kas_ask prog w A κ vs) (fun p s'=>p=q/\s'={ s with heap:=((s.heap.update a (Obj.mapSeq fun _=>#[])).push (seqObj "tuple" vs.toArray 0)).push (seqObj "list" #[] 0) })
    { s with heap:=((s.heap.update a (Obj.mapSeq fun _=>#[])).push (seqObj "tuple" vs.toArray 0)).push (seqObj "list" #[] 0) }:=
    Ig (lt:=Bg key) (n:=vs.length) (fun i j C hi hj hC=>K.less _ i j C _ keep hi hj hC) _ (cU (by lia)) {eq,0}
   refine zA (BE (kat_run (ks:=vs) (vs:=vs) (Q:=fun ip s'=>∃p:Array Nat,p.size=vs.length/\arrOf ip=p.map (kas_item (vs.toArray.zip vs.toArray))/\failedOf ip=none/\p=q/\s'={ s with heap:=((s.heap.update a (Obj.mapSeq fun _=>#[])).push (seqObj "tuple" vs.toArray 0)).push (seqObj "list" #[] 0) })
    rfl h2' ik (fun p' ip s' a1 a2 a3 a4=>⟨p',a1,a2,a3,a4⟩) run) ?_ fun _ _ e=>e)
   rintro ⟨⟨⟩,ip⟩ s' ⟨p,hsz,har,hf,rfl,rfl⟩;dsimp only;refine zA (seqEpoch_at ho6 rfl ?_);refine zA (listUpdate_at ho6 rfl ?_ (zh _) (by rw[Array.size_map,har,Array.size_map,hsz,sizeLine_eq];lia));rw[hf];simp only[bne_self_eq_false,Hz,if_false];refine zE ?_;have hout:=kat_snds (ks:=vs) (vs:=vs) rfl har;have fin:=h p.toList (MT hp hs);rw[<-hout] at fin;exact fin
theorem sorted_list {l:Addr}{vs:List Value}{Q:B8}{O:KeyOrd}{key:Nat->O.α}{κ:SortKind}(hl:s.heap.IsList l vs.toArray)(ik:vs.length<64)
 (ask:2<=vs.length->∀(s':Shared)(a:Addr),(∀b o,s.heap.get? b=some o->b≠a)->(∀b o,s.heap.get? b=some o->s'.heap.get? b=some o)->Asks prog w A.in1.in1 s' a vs key κ)
 (h:∀(D:Addr)(h':Heap)(out:List Nat)(c:Nat),Put key vs.length out->s.heap.objs.size<=D->(∀b o,s.heap.get? b=some o->h'.get? b=some o) ->
  h'.get? D=some (seqObj "list" (out.map fun i=>vs.getD i Value.none).toArray c)->Q (.ref D) { s with heap:=h' }):
 wpAny (model prog w) A (call (.builtin "sorted") [.ref l]) Q E s:=by
 refine Calls.call_function_entry kind_sorted plain_sorted entry_sorted (args_sorted1 _) ?_;unfold Builtin.«sorted»;refine zA (m:=checkCount "sorted" 1 1 _) (zE ?_);refine zA (collect_list hl ?_ (by rw[sizeLine_eq];lia));refine zA (wpAny_newList ?_ (by rw[sizeLine_eq];lia));have hsz:((s.heap.push (seqObj "list" #[] 0)).update s.heap.objs.size (Obj.mapSeq (· ++ vs.toArray))).objs.size=s.heap.objs.size+1:=by rw[Heap.size_update,size_push']
 have jK:(((s.heap.push (seqObj "list" #[] 0)).update s.heap.objs.size (Obj.mapSeq (· ++ vs.toArray))).push (seqObj "list" vs.toArray 0)).get? (s.heap.objs.size+1)=some (seqObj "list" vs.toArray 0):=by rw[<-hsz];exact zU _ rfl
 have keep:∀b o,s.heap.get? b=some o->(((s.heap.push (seqObj "list" #[] 0)).update s.heap.objs.size (Obj.mapSeq (· ++ vs.toArray))).push (seqObj "list" vs.toArray 0)).get? b=some o:=fun b o q=>by have eU:b<s.heap.objs.size:=zZ q;rw[Heap.get?_push_ne _ _ _ (by rw[hsz];exact zi (Ec eU)),Heap.get?_update_ne _ _ _ _ (zi eU),Heap.get?_push_ne _ _ _ (zi eU)];exact q
 show wpAny _ _ _ _ _ { s with heap:=((s.heap.push (seqObj "list" #[] 0)).update s.heap.objs.size (Obj.mapSeq (· ++ vs.toArray))).push (seqObj "list" vs.toArray 0) };rw[hsz];refine zA (BD (Cf slot_list_sort {_,jK,0} entry_list_sort (list_sort (O:=O) (key:=key) (κ:=κ) jK ik (fun h2=>ask h2 _ _ (fun b o e=>zi (Ec (zZ e))) keep) fun out hp=>{1,?_}) (args_list_sort _)));refine zE {1,?_};obtain⟨c,hc⟩:=sortedAll_at s.heap vs (out.map fun i=>vs.getD i Value.none).toArray;exact h _ _ out c hp (Ci _) (fun b o e=>sortedAll_old e) hc
end SortT
namespace DRaw
open PySem PySem.W PySem.Calls PyProof.Rows
def At (h:Heap)(d:Addr)(es:Array DictEntry)(ep:Nat):Prop:=∃o,h.get? d=some o/\o.ExactDict/\o.data=.dict es ep
theorem At.keep (x:At h d es ep)(k:∀o,h.get? d=some o->h'.get? d=some o):At h' d es ep:=
 let ⟨o,ho,r⟩:=x;{o,k o ho,r}
theorem At.lt (x:At h d es ep):d<h.objs.size:=let {_,ho,_}:=x;zZ ho
theorem At.typeIs {s:Shared}(x:At s.heap d es ep):s.TypeIs (.ref d) "dict" := let {o,ho,hc,_}:=x;⟨o,ho,hc.1⟩
theorem iter (hd:(d==sysModules)=false)(hm:At s.heap d es ep)
 (hQ:Q (.ref s.heap.objs.size) { s with heap:=s.heap.push { cls:=.type "dict_keyiterator",data:=.fields #[.ref d,.int 0 0,.int es.size 0,.int ep 0] } }):
 wpAny (model prog w) A (pyIter (.ref d)) Q E s:=by
 obtain⟨o,ho,hc,gz⟩:=id hm;have hT:=hm.typeIs;refine wpAny_pyIter_slot hT F.slot_dict_iter (Cf F.slot_dict_iter hT F.entry_dict_iter ?_ (F.args_dict_iter_1 _));unfold Builtin.«dict.__iter__»;refine zA ?_;unfold Builtin.Dict.dictSlotNone;refine zA (wpAny_notOrdered_dict hT ?_);show wpAny _ _ (pure (Value.ref d)) _ _ s;refine zE ?_;show wpAny _ _ (Builtin.Dict.showsAll d >>= _) _ _ s;unfold Builtin.Dict.showsAll;rw[if_neg (by rw[hd];exact zm)];refine zA (zE ?_);refine zA (wpAny_dictEntries ho gz ?_);refine zA (wpAny_dictEpoch ho gz ?_);refine zA (Cg (zE {1, "dict_keyiterator",_,{_,zU _ rfl,0},F.slot_dict_keyiterator_next.lookup,?_}));simpa [rawInt] using hQ
theorem next (hit:s.heap.IsKeyIter it d i es.size ep)(hm:At s.heap d es ep)(hlt':i<es.size)
 (hQ:∀h',h'.IsKeyIter it d (i+1) es.size ep->Heap.SameBut it s.heap h'->Q (some es[i].key) { s with heap:=h' }):wpAny (model prog w) A (pyNext (.ref it)) Q E s:=by
 obtain⟨o,ho,hc,hd⟩:=id hit;obtain⟨od,hod,iz,jB⟩:=id hm;unfold pyNext;refine zA (Gq (Ek (name:=Str.ofString "__next__") hit.typeIs F.slot_dict_keyiterator_next
  (Cf F.slot_dict_keyiterator_next hit.typeIs F.entry_dict_keyiterator_next ?_ (F.args_dict_keyiterator_next_1 _))))
 refine zA (zE ?_);refine zA ?_;refine zA ?_
 first | refine zA (RG hit.typeIs (zE ?_)) | refine zA (wpAny_typeNameOf_keyiter hit.typeIs (zE ?_))
 refine zA (wpAny_fieldsOf ho hd ?_);have hown:Builtin.Dict_items.ownsTuple "dict_keyiterator"=false:=by decide
 simp only[hown,Hz,if_false];show wpAny _ _ (if (Value.ref d==Value.none)=true then _ else _) _ _ s
 rw[if_neg (show ¬ ((Value.ref d==Value.none)=true) from zm)];refine zA (zE ?_);refine zA (wpAny_dictEntries hod jB ?_);rw[if_neg (by simp)];refine zA (zE ?_);refine zA (wpAny_dictEpoch hod jB ?_);rw[if_neg (by simp)];refine zE ?_;simp only[show ¬ ((i:Int)<0) from by lia,if_false,Bm,Array.getElem?_eq_getElem hlt'];refine zA ?_
 first | refine zA (RG hit.typeIs (zE ?_)) | refine zA (wpAny_typeNameOf_keyiter hit.typeIs (zE ?_))
 refine zA (wpAny_isOneOf_keyiter hit.typeIs ?_);show wpAny _ _ (setField (.ref it) 1 (rawInt ((i:Int)+1)) >>= _) _ _ s;refine zA (Fg ho hd (by simp) ?_);have gM:(s.heap.update it (Obj.mapFields (·.setIfInBounds 1 (rawInt ((i:Int)+1))))).IsKeyIter it d (i+1) es.size ep:=
  {_,Ck _ ho (Obj.isFreed_of_fields (Obj.data_mapFields hd _)),(Obj.cls_mapFields ..).trans hc,by rw[Obj.data_mapFields hd];simp[rawInt]}
 refine zA (BD ?_);refine zA (wpAny_isOneOf_keyiter (s:={ s with heap:=s.heap.update it (Obj.mapFields (·.setIfInBounds 1 (rawInt ((i:Int)+1)))) }) gM.typeIs ?_);show wpAny _ _ (pure es[i].key) _ _ _;exact zE (zE {1,zE (hQ _ gM (EH ..))})
theorem stop (hh:A.handled=none)(hit:s.heap.IsKeyIter it d i es.size ep)(hm:At s.heap d es ep)(hge:es.size<=i)
 (hQ:∀h',Heap.ExtBut it s.heap h'->Q none { s with heap:=h' }):wpAny (model prog w) A (pyNext (.ref it)) Q E s:=by
 obtain⟨o,ho,hc,hd⟩:=id hit;obtain⟨od,hod,iz,jB⟩:=id hm;unfold pyNext;refine zA (Gq (Ek (name:=Str.ofString "__next__") hit.typeIs F.slot_dict_keyiterator_next
  (Cf F.slot_dict_keyiterator_next hit.typeIs F.entry_dict_keyiterator_next ?_ (F.args_dict_keyiterator_next_1 _))))
 refine zA (zE ?_);refine zA ?_;refine zA ?_
 first | refine zA (RG hit.typeIs (zE ?_)) | refine zA (wpAny_typeNameOf_keyiter hit.typeIs (zE ?_))
 refine zA (wpAny_fieldsOf ho hd ?_);have hown:Builtin.Dict_items.ownsTuple "dict_keyiterator"=false:=by decide
 simp only[hown,Hz,if_false];show wpAny _ _ (if (Value.ref d==Value.none)=true then _ else _) _ _ s
 rw[if_neg (show ¬ ((Value.ref d==Value.none)=true) from zm)];refine zA (zE ?_);refine zA (wpAny_dictEntries hod jB ?_);rw[if_neg (by simp)];refine zA (zE ?_);refine zA (wpAny_dictEpoch hod jB ?_);rw[if_neg (by simp)];refine zE ?_;simp only[show ¬ ((i:Int)<0) from by lia,if_false,Bm,Array.getElem?_eq_none hge];refine zA ?_
 first | refine zA (RG hit.typeIs (zE ?_)) | refine zA (wpAny_typeNameOf_keyiter hit.typeIs (zE ?_))
 show wpAny _ _ (setField (.ref it) 0 .none >>= _) _ _ s;refine zA (Fg ho hd (by simp) ?_);show wpAny _ _ (newExc (.type "StopIteration") [] >>= _) _ _ _;refine zA ?_;simp only[newExc,newTuple];refine zA (Cg ?_ (by size_fits));refine zA (m:=firstArgMember _ _) (wpAny_of_eq (a:=Value.none) (by first | rfl | (simp only[firstArgMember];rfl)) ?_);refine Cg ?_ (by size_fits);simp only[raiseNew];refine zA (wpAny_handled ?_);rw[show A.in1.handled=none from hh];refine zA (zE (wpAny_throw ?_));refine zA (Dd (T := "StopIteration") (b:=true) {_,zU _ rfl,0} isSubtype_stop ?_);exact zE (hQ _ (((EH ..).extBut.push _).push _))
theorem Py (hh:A.handled=none)(I:Addr)(ft:d≠I):Walks prog w A I [I,d] [I] es.size (fun i v=>∃e,es[i]?=some e/\v=e.key) (fun i h=>h.IsKeyIter I d i es.size ep/\At h d es ep) where
 sub:=fun b hb=>by simp at hb;simp[hb]
 frame:=fun _ _ _ st hk=>{st.1.at fun o e=>hk I (by simp) o e,st.2.keep fun o e=>hk d (by simp) o e}
 item:=fun i s Q E hi st hQ=>next st.1 st.2 hi fun h' gM ig=>
  hQ _ h' s.toks {es[i],by simp[hi],0} {gM,st.2.keep fun o e=>ig.extBut d o ft e} fun b o hb e=>ig.extBut b o (fun h=>hb (by simp[h])) e
 done:=fun s Q E st hQ=>stop hh st.1 st.2 (zK _) fun h' iU=>hQ h' s.toks fun b o hb e=>iU b o (fun h=>hb (by simp[h])) e
 self:=fun _ _ _ _ st hQ=>wpAny_pyIter_keyiter st.1 hQ
theorem src (lo:(d==sysModules)=false):KdlSrc prog w "dict" d d es.size (fun i v=>∃e,es[i]?=some e/\v=e.key) (fun h=>At h d es ep) where
 type:=fun _ hm=>hm.typeIs
 there:=fun _ hm=>⟨hm.lt,hm.lt⟩
 keep:=fun _ _ hm hk=>hm.keep fun o e=>hk d (.inl rfl) o e
 notList:=by decide
 notTuple:=by decide
 hint:=fun _ _ _ _ hm hq=>kdl_hint_dict hm.typeIs hq
 iter:=fun _ _ hh hm=>{4,(fun _ _ hq=>iter lo hm hq),Py hh _ (zi hm.lt),{{_,zU _ rfl,3},hm.keep fun o e=>zL _ e}}
end DRaw
namespace SortT
open PySem PySem.W PySem.Calls PyProof.Rows
theorem sorted_dict {prog:Program}{w:World}{A:Around}{E:B8}{s:Shared}{d:Addr}{es:Array DictEntry}{ep:Nat}{vs:List Value}{Q:B8}{O:KeyOrd}{key:Nat->O.α}{κ:SortKind}
 (hh:A.handled=none)(lo:(d==sysModules)=false)(hm:DRaw.At s.heap d es ep)(hvs:vs=es.toList.map (·.key))(ik:vs.length<64)
 (ask:2<=vs.length->∀(s':Shared)(a:Addr),(∀b o,s.heap.get? b=some o->b≠a)->(∀b o,s.heap.get? b=some o->s'.heap.get? b=some o)->Asks prog w A.in1.in1 s' a vs key κ)
 (h:∀(h1:Heap)(D:Addr)(h':Heap)(t':Nat)(out:List Nat)(c:Nat),Put key vs.length out->(∀b o,s.heap.get? b=some o->h1.get? b=some o)->h1.objs.size<=D->(∀b o,h1.get? b=some o->h'.get? b=some o) ->
  h'.get? D=some (seqObj "list" (out.map fun i=>vs.getD i Value.none).toArray c)->Q (.ref D) { s with heap:=h',toks:=t' }):
 wpAny (model prog w) A (call (.builtin "sorted") [.ref d]) Q E s:=by
 have hlen:vs.length=es.size:=by rw[hvs];simp
 refine call_function_entry kind_sorted plain_sorted entry_sorted (args_sorted1 _) ?_;unfold Builtin.«sorted»;refine zA (m:=checkCount "sorted" 1 1 _) (zE ?_);refine zA (kdu_collect (A:=A.in1) (DRaw.src (es:=es) (ep:=ep) lo) hh hm (by rw[sizeLine_eq];lia) fun h1 tk acc hk hacc=>?_);have el:acc.toList=vs:=by
  apply List.ext_getElem?;intro j;by_cases hj:j<es.size
  . have hz:j<acc.size:=by rw[hacc.1];exact hj
    obtain⟨e,he,hv⟩:=hacc.2 j acc[j] (by simp[hz]);rw[Array.getElem?_toList,Array.getElem?_eq_getElem hz,hv,hvs,zN,Array.getElem?_toList,he];rfl
  . rw[Cu (by rw[Array.length_toList,hacc.1];lia),Cu (by lia)]
 rw[el];refine zA (wpAny_newList ?_ (by rw[sizeLine_eq];lia));have jK:(h1.push (seqObj "list" vs.toArray 0)).get? h1.objs.size=some (seqObj "list" vs.toArray 0):=zU _ rfl;have keep1:∀b o,h1.get? b=some o->(h1.push (seqObj "list" vs.toArray 0)).get? b=some o:=fun b o q=>zL _ q;refine zA (BD (Cf slot_list_sort {_,jK,0} entry_list_sort (list_sort (O:=O) (key:=key) (κ:=κ) jK ik
  (fun h2=>ask h2 _ _ (fun b o e=>zi (zZ (hk b o e))) fun b o e=>keep1 b o (hk b o e)) fun out hp=>{1,?_}) (args_list_sort _)))
 refine zE {1,?_};obtain⟨c,hc⟩:=sortedHeap_at (vs:=vs) (out:=(out.map fun i=>vs.getD i Value.none).toArray) jK;refine h h1 _ _ _ out c hp hk (zK _) (fun b o e=>?_) hc;have hb:b<h1.objs.size:=zZ e;rw[sortedHeap_old (zi hb) (by rw[Cp];exact Ec hb)];exact keep1 b o e
end SortT
namespace L2
open PySem PySem.Spec PyProof.Rows
theorem Vx:∀a:List Int,HT.lexLt a a=false
 | []=>rfl
 | x::r=>by rw[HT.lexLt_cons,if_pos rfl];exact Vx r
theorem Sx:∀a b c:List Int,HT.lexLt a b=true->HT.lexLt b c=true->HT.lexLt a c=true
 | [],[],_,h,_=>by cases h
 | [],_::_,[],_,h=>by cases h
 | [],_::_,_::_,_,_=>rfl
 | _::_,[],_,h,_=>by cases h
 | _::_,_::_,[],_,h=>by cases h
 | x::a,y::b,z::c,h1,h2=>by
  rw[HT.lexLt_cons] at h1 h2 ⊢;by_cases e1:x=y
  . subst e1;rw[if_pos rfl] at h1;by_cases e2:x=z
    . subst e2;rw[if_pos rfl] at h2 ⊢;exact Sx a b c h1 h2
    . rw[if_neg e2] at h2 ⊢;exact h2
  . rw[if_neg e1] at h1;have l1:x<y:=of_decide_eq_true h1;by_cases e2:y=z
    . subst e2;rw[if_neg e1];exact h1
    . rw[if_neg e2] at h2;have l2:y<z:=of_decide_eq_true h2;rw[if_neg (by lia)];exact zO (by lia)
theorem UK:∀a b:List Int,HT.lexLt a b=false->HT.lexLt b a=false->a=b
 | [],[],_,_=>rfl
 | [],_::_,h,_=>by cases h
 | _::_,[],_,h=>by cases h
 | x::a,y::b,h1,h2=>by
  rw[HT.lexLt_cons] at h1 h2;by_cases e:x=y
  . subst e;rw[if_pos rfl] at h1 h2;rw[UK a b h1 h2]
  . rw[if_neg e] at h1;rw[if_neg (Ne.symm e)] at h2;have l1:=of_decide_eq_false h1;have l2:=of_decide_eq_false h2
    lia
theorem Y3 (a b c)(h:HT.lexLt a c=true):HT.lexLt a b=true\/HT.lexLt b c=true:=by
 cases h1:HT.lexLt a b with
 | true=>exact .inl rfl
 | false=>
  cases h2:HT.lexLt b a with
  | true=>exact .inr (Sx b a c h2 h)
  | false=>rw[<-UK a b h1 h2];exact .inr h
noncomputable def Gr:KeyOrd:={List Int,HT.lexLt,Vx,Sx,Y3,UK}
def QL (ms:List (List Int)):Prop:=ms.Pairwise fun a b=>HT.lexLt b a=false
def Ao (H:Hp):List V->List (List Int)->Prop
 | [],[]=>True
 | x::xs,k::ks=>(∃a,x=.ref a/\H a=some (.tup (k.map V.int))/\k≠[])/\Ao H xs ks
 | _,_=>False
theorem Ao.length :∀{xs:List V}{ks:List (List Int)},Ao H xs ks->xs.length=ks.length
 | [],[],_=>rfl
 | [],_::_,h=>h.elim
 | _::_,[],h=>h.elim
 | _::_,_::_,h=>by rw[zk,zk,Ao.length h.2]
theorem Ao.get :∀{xs:List V}{ks:List (List Int)}{i:Nat}{x:V},Ao H xs ks->xs[i]?=some x->∃a k,x=.ref a/\ks[i]?=some k/\H a=some (.tup (k.map V.int))/\k≠[]
 | [],_,_,_,_,h=>by simp at h
 | _::_,[],_,_,h,_=>h.elim
 | y::_,k::_,0,x,h,e=>by
  obtain⟨⟨a,h1,h2,h3⟩,_⟩:=h;have e':y=x:=by simpa using e
  subst e';exact{a,k,h1,0,h2,h3}
 | _::_,_::_,i+1,x,h,e=>by obtain⟨a,k,h1,h2,h3⟩:=Ao.get (i:=i) h.2 (by simpa using e);exact{a,k,h1,by simpa using h2,h3}
theorem Ao.mk :∀{xs:List V}{ks:List (List Int)},xs.length=ks.length->(∀(i:Nat)x(k:List Int),xs[i]?=some x->ks[i]?=some k->∃a,x=V.ref a/\H a=some (.tup (k.map V.int))/\k≠[])->Ao H xs ks
 | [],[],_,_=>trivial
 | [],_::_,e,_=>by simp at e
 | _::_,[],e,_=>by simp at e
 | x::xs,k::ks,e,h=>{h 0 x k rfl rfl,Ao.mk (by simpa using e) fun i x' k' h1 h2=>h (i+1) x' k' (by simpa using h1) (by simpa using h2)}
theorem Ao.keep (h:Ao H xs ks)(k:∀b ys,H b=some (.tup ys)->H' b=some (.tup ys)):Ao H' xs ks:=
 Ao.mk h.length fun i x c h1 h2=>by obtain⟨a,c',e1,e2,e3,e4⟩:=h.get h1;rw[h2] at e2;cases e2;exact{a,e1,k a _ e3,e4}
theorem Ao.snoc :∀{xs:List V}{ks:List (List Int)}{x:V}{k:List Int},Ao H xs ks->(∃a,x=.ref a/\H a=some (.tup (k.map V.int))/\k≠[])->Ao H (xs++[x]) (ks++[k])
 | [],[],_,_,_,h=>⟨h,trivial⟩
 | [],_::_,_,_,t,_=>t.elim
 | _::_,[],_,_,t,_=>t.elim
 | _::_,_::_,_,_,t,h=>{t.1,Ao.snoc t.2 h}
theorem Yk :∀ns ms us ws i,IntsAre us ns->IntsAre ws ms->fin=decide (ns.length<ms.length)->Q (HT.lexLt ns ms) s ->
 PySem.W.KatLex prog w A true fin Q (us.zip ws) i s
 | [],[],_,_,_,.nil,.nil,e,q=>by subst e;exact q
 | [],_::_,_,_,_,.nil,.cons _ _ _,e,q=>by subst e;exact q
 | _::_,[],_,_,_,.cons _ _ _,.nil,e,q=>by subst e;exact q
 | n::ns,m::ms,_,_,i,.cons _ t hu,.cons _ u hw,e,q=>by
  rw[HT.lexLt_cons] at q;refine PySem.W.kat_cons (wpAny_eqBool_int ?_);by_cases h:n=m
  . rw[if_pos h] at q;rw[show (n==m)=true by simpa using h];exact PySem.W.kat_yes (Yk ns ms _ _ (i+1) hu hw (by rw[e];simp) q)
  . rw[if_neg h] at q;rw[show (n==m)=false by simpa using h];refine PySem.W.kat_no ?_;cases i with
    | zero=>exact oneLt_int q
    | succ j=>exact PySem.W.kat_one _ _ (PyProof.Rows.lt_int q)
theorem V2 (I:AA X pins σ H s)(T:Ao H ys ks)(r:AO ys vs)(ft:0<vs.length)
 (fa:∀b o,s.heap.get? b=some o->b≠a)(kp:∀b o,s.heap.get? b=some o->s'.heap.get? b=some o):SortT.Asks X.prog X.w A s' a vs (O:=Gr) (fun i=>ks.getD i []) (tuples' true):=by
 have hl:=T.length;have hv:=r.length;have at_:∀(h':Heap),(∀b o,b≠a->s'.heap.get? b=some o->h'.get? b=some o)->∀i,i<vs.length->∃(p:Addr)(k:List Int)(us:List Value)(o:Obj)(n:Nat),vs[i]?=some (Value.ref p)/\ks[i]?=some k/\k≠[]/\IntsAre us k/\h'.get? p=some o/\o.cls=.type "tuple"/\o.data=.seq us.toArray n:=fun h' kh i hi=>by
  have hy:i<ys.length:=by lia
  obtain⟨p,k,e1,e2,e3,e4⟩:=T.get (i:=i) (x:=ys[i]) (by simp[hy]);obtain⟨u,hu,ru⟩:=r.get (i:=i) (x:=ys[i]) (by simp[hy]);rw[e1] at ru;cases (show u=Value.ref p from ru);obtain⟨_,its,rv,o,ho,hc,n,hd⟩:=I.hok p _ e3;exact{p,k,its,o,n,hu,e2,e4,DH rv,kh p o (fa p o ho) (kp p o ho),hc,hd}
 refine{fun h' Q E kh q=>?_,fun h' i j Q E kh hi hj q=>?_}
 . -- all keys are tuples whose first items are ints
   have tups:∀(m:Nat),m<=vs.length->∃fs:List Value,PySem.W.KatTups h' (vs.drop (vs.length-m)) fs/\fs.length=m/\∀f∈fs,∃x t,f=Value.int x t:=by
    intro m
    induction m with
    | zero=>intro _;exact{[],by rw[Nat.sub_zero,List.drop_length];exact trivial,0,fun f hf=>by simp at hf}
    | succ m ih=>
     intro hm;obtain⟨fs,t,e,hf⟩:=ih (by lia);obtain⟨p,k,us,o,n,hu,hk,hk0,hI,ho,hc,hd⟩:=at_ h' kh (vs.length-(m+1)) (by lia);have ed:vs.drop (vs.length-(m+1))=Value.ref p::vs.drop (vs.length-m):=by
      have eU:vs.length-(m+1)<vs.length:=by lia
      rw[M6 eU,show vs.length-(m+1)+1=vs.length-m by lia];have:vs[vs.length-(m+1)]=Value.ref p:=by rw[zD eU] at hu;exact zV hu
      rw[this]
     cases hI with
     | nil=>exact absurd rfl hk0
     | cons x tx hI'=>
      refine{Value.int x tx::fs,by rw[ed];exact PySem.W.KatTups.cons ho hc hd rfl t,by rw[zk,e],fun f jM=>?_};rcases zb.mp jM with rfl | jM
      . exact{x,tx,0}
      . exact hf f jM
   obtain⟨fs,t,e,hf⟩:=tups vs.length (zK _);rw[Fz,List.drop_zero] at t;refine PySem.W.kat_kind (T:=Value.type "int") t (by lia) (fun v hv=>?_) (by rfl) q;obtain⟨x,tx,rfl⟩:=hf v hv;exact PySem.W.Looks.of_pure rfl
 . obtain⟨p,k,us,o,n,hu,hk,_,hI,ho,hc,hd⟩:=at_ h' kh i hi;obtain⟨p2,k2,us2,o2,n2,hu2,hk2,_,hI2,iF,i0,hd2⟩:=at_ h' kh j hj;have e1:vs.getD i Value.none=.ref p:=by rw[zJ,hu];rfl
   have e2:vs.getD j Value.none=.ref p2:=by rw[zJ,hu2];rfl
   have g1:ks.getD i []=k:=by rw[zJ,hk];rfl
   have g2:ks.getD j []=k2:=by rw[zJ,hk2];rfl
   rw[e1,e2];refine PySem.W.kat_lt (s:={ s' with heap:=h' }) ho hd iF hd2 ?_;have q':Q (HT.lexLt k k2) { s' with heap:=h' }:=by
    have:Gr.blt (ks.getD i []) (ks.getD j [])=HT.lexLt k k2:=by rw[g1,g2];rfl
    rw[<-this];exact q
   have l1:=hI.length;have l2:=hI2.length;exact Yk k k2 us us2 0 hI hI2 (by simp only[zP];rw[l1,l2]) q'
theorem Wf (T:Ao H ys ks)(r:AO ys vs)(p:SortT.Put (O:=Gr) (fun i=>ks.getD i []) vs.length out):
 ∃zs ms,Ao H zs ms/\ms.Perm ks/\QL ms/\AO zs (out.map fun i=>vs.getD i Value.none)/\zs.length=ys.length:=by
 have hl:=T.length;have hv:=r.length;have hb:∀i∈out,i<vs.length:=fun i hi=>Eo.mp (p.perm.mem_iff.mp hi);refine{out.map fun i=>ys.getD i .non,out.map fun i=>ks.getD i [],Ao.mk (by rw[zB,zB]) fun j x k hx hk=>?_,?_,?_,?_,?_}
 . rw[zN] at hx hk;cases e:out[j]? with
   | none=>rw[e] at hx;cases hx
   | some i=>
    rw[e] at hx hk;have hi:=hb i (zQ e);have hy:i<ys.length:=by lia
    obtain⟨a,c,e1,e2,e3,e4⟩:=T.get (i:=i) (x:=ys[i]) (by simp[hy]);have ex:ys.getD i .non=x:=zV hx;have ek:ks.getD i []=k:=zV hk;rw[zJ,zD hy] at ex;rw[zJ,e2] at ek;have ex':ys[i]=x:=ex;have ek':c=k:=ek;subst ek';exact{a,by rw[<-ex'];exact e1,e3,e4}
 . have h1:=p.perm.map fun i=>ks.getD i [];have h2:(List.range vs.length).map (fun i=>ks.getD i [])=ks:=by
    rw[show vs.length=ks.length by lia];apply List.ext_getElem?;intro j;rw[zN];by_cases hj:j<ks.length
    . rw[NC hj,zD hj];simp[hj]
    . rw[Cu (by rw[DG];lia),Cu (by lia)];rfl
   rw[h2] at h1;exact h1
 . refine Ef.mpr fun i j hi hj gS=>?_;rw[zB] at hi hj;have:=p.rise i j out[i] out[j] (CT gS) (by simp) (by simp);have h3:HT.lexLt (ks.getD out[j] []) (ks.getD out[i] [])=false:=this;simpa using h3
 . have:∀l:List Nat,(∀i∈l,i<vs.length)->AO (l.map fun i=>ys.getD i .non) (l.map fun i=>vs.getD i Value.none):=by
    intro l
    induction l with
    | nil=>intro _;exact .nil
    | cons i l ih=>
     intro h;have hi:=h i zX;have hy:i<ys.length:=by lia
     obtain⟨u,hu,ru⟩:=r.get (i:=i) (x:=ys[i]) (by simp[hy]);refine .cons ?_ (ih fun j hj=>h j (zd _ hj));show AS (ys.getD i V.non) (vs.getD i Value.none);rw[zJ,zD hy,zJ,hu];exact ru
   exact this out hb
 . rw[zB,p.perm.length_eq,DG];lia
theorem Qn (I:AA X pins σ H s)(hD:s.heap.objs.size<=D)(kp:∀b o,s.heap.get? b=some o->h'.get? b=some o)
 (ho:h'.get? D=some (seqObj "list" us.toArray c)) (r:AO zs us)(hz:zs.length<=sizeLine):AA X pins σ (upd H D (.lst zs)) { s with heap:=h',toks:=t' }:=
 I.laid kp hD (show Ax X.prog X.w _ _ _ (.lst zs) from ⟨hz,us,c,r,ho⟩)
inductive OZ (K:AK)(xs:List V)(H:Hp)(Q:VK):Prop
 | mk:∀p ys ks,(xs=[.ref p])->(AD K H p ys)->(Ao H ys ks)->(ks.length<64)->(∀l zs ms,H l=none->Ao H zs ms->ms.Perm ks->QL ms->Q (.ref l) (upd H l (.lst zs)))->OZ K xs H Q
theorem cX:CH X (.builtin "sorted") (OZ X.K):=by intro pins s σ H xs us Q I r h;obtain⟨p,ys,ks,rfl,hq,T,ik,q⟩:=h;obtain⟨u,rfl,rx⟩:=DF r;cases rx;obtain⟨its,r',pl,hz⟩:=I.list hq;have hl:=T.length;have hv:=r'.length;refine SortT.sorted_list (O:=Gr) (key:=fun i=>ks.getD i []) (κ:=tuples' true) pl.isList (by lia) (fun h2 s' a fa kp=>V2 I T r' (by lia) fa kp) fun D h' out c pt hD kp ho=>?_;obtain⟨zs,ms,T2,hp,hr,rz,hlz⟩:=Wf T r' pt;exact{.ref D,_,Qn (t':=s.toks) I hD kp ho rz (by lia),0,q D zs ms (I.hok.fresh hD) T2 hp hr}
inductive Oq (xs:List V)(H:Hp)(Q:VK):Prop
 | mk:∀p eO ks,(xs=[.ref p])->(H p=some (.dT eO))->(eO.map (·.1)=ks.map (List.map Sum.inl))->((∀k∈ks,k≠[]))->(ks.length<64)->(∀l zs ms,H l=none->Ao H zs ms->ms.Perm ks->QL ms->Q (.ref l) (upd H l (.lst zs)))->Oq xs H Q
theorem Z8 (hc:X.calm=true):CH X (.builtin "sorted") Oq:=by
 intro pins s σ H xs us Q I r h;obtain⟨p,eO,ks,rfl,hd,hks,hk0,ik,q⟩:=h;obtain⟨u,rfl,rx⟩:=DF r;cases rx;obtain⟨hz,lo,xs,rel,o,es,ep,ho,hx,gz,hU,hnd⟩:=I.hok p _ hd;have key:∀(eO:List (List AQ×V))(xs:List (List AQ×Addr×Value))(ks:List (List Int)),KT H eO xs->eO.map (·.1)=ks.map (List.map Sum.inl)->(∀k∈ks,k≠[]) ->
  Ao H (xs.map fun q=>V.ref q.2.1) ks/\AO (xs.map fun q=>V.ref q.2.1) ((xs.map (entryOfKey (tupleKind (BL X.prog X.w)))).map (·.key)):=by
  intro eO xs ks rel
  induction rel generalizing ks with
  | nil=>
   intro e _;cases ks with
   | nil=>exact{trivial,.nil}
   | cons k ks=>simp at e
  | cons hpq _ ih=>
   intro e h0;cases ks with
   | nil=>simp at e
   | cons k ks=>simp only[Cn,List.cons.injEq] at e;obtain⟨T,V⟩:=ih ks e.2 fun c hc=>h0 c (zd _ hc);obtain⟨e1,e2,_⟩:=hpq;refine{{{1,?_,h0 k zX},T},.cons rfl V};rw[e2,e.1,List.map_map];rfl
 obtain⟨T,rv⟩:=key eO xs ks rel hks hk0;have hl:=T.length;have hv:=rv.length;have evs:(xs.map (entryOfKey (tupleKind (BL X.prog X.w)))).map (·.key)=es.toList.map (·.key):=by rw[hU]
 refine SortT.sorted_dict (O:=Gr) (key:=fun i=>ks.getD i []) (κ:=tuples' true) (vs:=(xs.map (entryOfKey (tupleKind (BL X.prog X.w)))).map (·.key)) (I.ok.hd hc) lo ⟨o,ho,hx,gz⟩ evs (by lia) (fun h2 s' a fa kp=>V2 I T rv (by lia) fa kp) fun h1 D h' t' out c pt k1 hD k2 ho=>?_;obtain⟨zs,ms,T2,hp,hr,rz,hlz⟩:=Wf T rv pt;have I1:AA X pins σ H { s with heap:=h1,toks:=s.toks }:=I.kept k1;refine{.ref D,_,Qn (s:={ s with heap:=h1,toks:=s.toks }) (t':=t') I1 hD k2 ho rz ?_,0,q D zs ms (I1.hok.fresh hD) T2 hp hr};have:sizeLine=16777216:=rfl
 lia
mutual
inductive Ag (H:Hp):V->PyData->Prop
 | non:Ag H .non .none
 | bl (b:Bool):Ag H (.bl b) (.bool b)
 | int (i:Int):Ag H (.int i) (.int i)
 | str (x:Str):Ag H (.str x) (.str x)
 | tup {a:Addr}{xs:List V}{ds:List PyData}:H a=some (.tup xs)->Bh H xs ds->Ag H (.ref a) (.tuple ds)
 | lst {a:Addr}{xs:List V}{ds:List PyData}:H a=some (.lst xs)->Bh H xs ds->Ag H (.ref a) (.list ds)
inductive Bh (H:Hp):List V->List PyData->Prop
 | nil:Bh H [] []
 | cons {x:V}{xs:List V}{d:PyData}{ds:List PyData}:Ag H x d->Bh H xs ds->Bh H (x::xs) (d::ds)
end
mutual
theorem Ag.reads (ok:Ap P w H h):∀{x:V}{d:PyData},Ag H x d->∀{u:Value},AS x u->∃as,Reads h u d as
 | _,_,.non,u,r=>by cases (show u=Value.none from r);exact{_,.none}
 | _,_,.bl b,u,r=>by cases (show u=Value.bool b from r);exact{_,.bool b}
 | _,_,.int i,u,r=>by obtain⟨t,rfl⟩:=r;exact{_,.int i t}
 | _,_,.str x,u,r=>by obtain⟨t,rfl⟩:=r;exact{_,.str x t}
 | _,_,.tup (a:=a) e s,u,r=>by cases (show u=Value.ref a from r);obtain⟨_,its,rv,o,ho,hc,n,hd⟩:=ok a _ e;obtain⟨as,ra⟩:=Bh.reads ok s rv;exact{_,.tuple ho hc hd (by simpa using ra)}
 | _,_,.lst (a:=a) e s,u,r=>by cases (show u=Value.ref a from r);obtain⟨_,its,n,rv,ho⟩:=ok a _ e;obtain⟨as,ra⟩:=Bh.reads ok s rv;exact{_,.list ho rfl rfl (by simpa using ra)}
theorem Bh.reads (ok:Ap P w H h):∀{xs:List V}{ds:List PyData},Bh H xs ds->∀{us:List Value},AO xs us->∃as,ReadsAll h us ds as
 | _,_,.nil,us,r=>by cases r;exact{_,.nil}
 | _,_,.cons s t,us,r=>by
  cases r with
  | cons r1 r2=>obtain⟨a1,h1⟩:=Ag.reads ok s r1;obtain⟨a2,h2⟩:=Bh.reads ok t r2;exact{_,.cons h1 h2}
end
theorem CU {i j pos} (hr:PA X es t):PA X (.Constant (.int i) j pos::es) (Tz (tC (.int i)) t):=zC zf hr (by rfl)
theorem LI {pos} (h:PA X xs t1)(hr:PA X es t):PA X (.List xs pos::es) (Tz (OS t1) t):=zC (BO h) hr (by rfl)
inductive Nz:List Expr->List Int->Prop where
 | nil:Nz [] []
 | cons {i:Int}{j:Nat}{pos:Pos}{es:List Expr}{ns:List Int}:Nz es ns->Nz (.Constant (.int i) j pos::es) (i::ns)
theorem Zu (h:Nz es ns):PA X es (fun _ H Q=>Q (ns.map V.int) H):=by
 induction h with
 | nil=>exact zM
 | cons _ ih=>intro pos pins s σ H Q I q;exact (CU ih) pos pins s σ H Q I q
inductive Nt:List Expr->List (List Int)->Prop where
 | nil:Nt [] []
 | cons {xs:List Expr}{ns:List Int}{pos:Pos}{es:List Expr}{nss:List (List Int)}:Nz xs ns->ns.length<=sizeLine->Nt es nss->Nt (.List xs pos::es) (ns::nss)
def Xa:List (List Int)->TA
 | []=>N6
 | ns::r=>fun σ H Q=>∀p,H p=none->Xa r σ (upd H p (.lst (ns.map V.int))) fun xs H2=>Q (.ref p::xs) H2
theorem bL (h:Nt es nss):PA X es (Xa nss):=by
 induction h with
 | nil=>exact zM
 | cons hx hl _ ih=>intro pos pins s σ H Q I q;exact (LI (Zu hx) ih) pos pins s σ H Q I {by rw[zB];exact hl,fun p hp=>q p hp}
end L2
namespace WM
theorem QV {α:Type} [DecidableEq α]:∀{l₁ l₂:List α},l₁.Nodup->(∀x∈l₁,x∈l₂)->l₁.length<=l₂.length
 | [],_,_,_=>zh _
 | x::r,l₂,h,s=>by
  obtain⟨h1,h2⟩:=D8.mp h;have hx:x∈l₂:=s x zX;have ih:=QV (l₁:=r) (l₂:=l₂.erase x) h2 fun y hy=>by have ft:y≠x:=fun e=>h1 (e ▸ hy);exact (List.mem_erase_of_ne ft).mpr (s y (zd _ hy))
  rw[List.length_erase_of_mem hx] at ih;have:0<l₂.length:=List.length_pos_of_mem hx;rw[zk]
  lia
noncomputable def lowTo (n:Nat):List Int:=(List.range n).map fun (i:Nat)=>(i:Int)
theorem M7 :x∈lowTo n↔0<=x/\x<n:=by
 unfold lowTo;rw[DS];constructor
 . rintro ⟨i,hi,rfl⟩;have:=Eo.mp hi
   lia
 . rintro ⟨h0,h1⟩;exact{x.toNat,Eo.mpr (by lia),by lia}
theorem LH {n:Nat}{l:List Int}(h:l.Nodup)(hb:∀x∈l,0<=x/\x<n):l.length<=n:=by have:=QV h (l₂:=lowTo n) fun x hx=>M7.mpr (hb x hx);simpa [lowTo] using this
theorem SV:∀{l₁ l₂:List Int},l₁.Pairwise (· < ·)->l₂.Pairwise (· < ·)->(∀x,x∈l₁↔x∈l₂)->l₁=l₂
 | [],[],_,_,_=>rfl
 | [],y::_,_,_,h=>by have:=(h y).mpr zX;simp at this
 | x::_,[],_,_,h=>by have:=(h x).mp zX;simp at this
 | x::r,y::q,h1,h2,h=>by
  obtain⟨a1,b1⟩:=Gy.mp h1;obtain⟨a2,b2⟩:=Gy.mp h2;have e:x=y:=by
   rcases zb.mp ((h x).mp zX) with e | e
   . exact e
   . rcases zb.mp ((h y).mpr zX) with e' | e'
     . exact e'.symm
     . have:=a2 x e;have:=a1 y e';lia
  subst e;refine congrArg (x :: ·) (SV b1 b2 fun z=>?_);constructor
  . intro hz;rcases zb.mp ((h z).mp (zd _ hz)) with e | e
    . subst e;have:=a1 z hz;lia
    . exact e
  . intro hz;rcases zb.mp ((h z).mpr (zd _ hz)) with e | e
    . subst e;have:=a2 z hz;lia
    . exact e
theorem QY (n):(lowTo n).Pairwise (· < ·):=by unfold lowTo;rw[Fq];exact List.pairwise_lt_range.imp fun h=>by lia
abbrev T3:=Int×Int×Int
noncomputable def tl (t:T3):List Int:=[t.1,t.2.1,t.2.2]
structure GW (n:Int)(ts:List T3):Prop where
 n1:1<=n
 n24:n<=24
 len:ts.length<64
 rng:∀t∈ts,0<=t.1/\t.1<t.2.1/\t.2.1<n/\1<=t.2.2/\t.2.2<=99
 dis:ts.Pairwise fun s t=>¬ (s.1=t.1/\s.2.1=t.2.1)
def Ai (ts:List T3)(x y l:Int):Prop:=(x,y,l)∈ts\/(y,x,l)∈ts
theorem Ai.symm (h:Ai ts x y l):Ai ts y x l:=h.elim .inr .inl
theorem GW.uniq (g:GW n ts)(h:Ai ts x y l)(h':Ai ts x y l'):l=l':=by
 have key:∀{ts:List T3},ts.Pairwise (fun s t=>¬ (s.1=t.1/\s.2.1=t.2.1))->∀{a b l l':Int},(a,b,l)∈ts->(a,b,l')∈ts->l=l':=by
  intro ts
  induction ts with
  | nil=>intro _ a b l l' h;simp at h
  | cons t r ih=>
   intro hp a b l l' h h';obtain⟨q,hr⟩:=Gy.mp hp;rcases zb.mp h with e | e
   . rcases zb.mp h' with e' | e'
     . rw[<-e] at e';injection e' with _ e2;injection e2 with _ e3;exact e3.symm
     . exact absurd (by rw[<-e];exact{3}) (q _ e')
   . rcases zb.mp h' with e' | e'
     . exact absurd (by rw[<-e'];exact{3}) (q _ e)
     . exact ih hr e e'
 rcases h with h | h <;> rcases h' with h' | h'
 . exact key g.dis h h'
 . have:=g.rng _ h;have:=g.rng _ h';simp only at *;lia
 . have:=g.rng _ h;have:=g.rng _ h';simp only at *;lia
 . exact key g.dis h h'
theorem GW.adj (g:GW n ts)(h:Ai ts x y l):0<=x/\x<n/\0<=y/\y<n/\x≠y/\1<=l/\l<=99:=by rcases h with h | h <;> (have:=g.rng _ h;simp only at *;lia)
noncomputable def fd (p:Int):List T3->List (List Int)
 | []=>[]
 | t::r=>(if t.1=p then [[t.2.1,t.2.2]] else [])++(if t.2.1=p then [[t.1,t.2.2]] else [])++fd p r
theorem So (p):∀a b:List T3,fd p (a++b)=fd p a++fd p b
 | [],b=>rfl
 | t::r,b=>by show _++_++fd p (r++b)=_;rw[So p r b];simp[fd,Dk]
theorem Jq :∀{ts:List T3},k∈fd p ts↔∃y l,k=[y,l]/\Ai ts p y l
 | []=>by simp[fd,Ai]
 | (a,b,c)::r=>by
  have ih:=Jq (p:=p) (k:=k) (ts:=r);show k∈_++_++fd p r↔_;rw[zg,zg,ih];simp only;constructor
  . rintro ((h | h) | ⟨y,l,e,h⟩)
    . split at h
      . rename_i e;simp at h;subst e;exact{b,c,h,.inl zX}
      . simp at h
    . split at h
      . rename_i e;simp at h;subst e;exact{a,c,h,.inr zX}
      . simp at h
    . exact{y,l,e,h.elim (fun z=>.inl (zd _ z)) fun z=>.inr (zd _ z)}
  . rintro ⟨y,l,e,h⟩;rcases h with h | h
    . rcases zb.mp h with q | q
      . injection q with q1 q2;injection q2 with q2 q3;subst q1 q2 q3;exact .inl (.inl (by simp[e]))
      . exact .inr {y,l,e,.inl q}
    . rcases zb.mp h with q | q
      . injection q with q1 q2;injection q2 with q2 q3;subst q1 q2 q3;exact .inl (.inr (by simp[e]))
      . exact .inr {y,l,e,.inr q}
theorem Q1 {n:Int}(p:Int):∀{ts:List T3},(∀t∈ts,t.1<t.2.1)->(fd p ts).length<=ts.length
 | [],_=>zK _
 | t::r,h=>by
  have ih:=Q1 (n:=n) p (ts:=r) fun t ht=>h t (zd _ ht);have h0:=h t zX;show (_++_++fd p r).length<=_;rw[zH,zH,zk];have:(if t.1=p then [[t.2.1,t.2.2]] else ([]:List (List Int))).length+(if t.2.1=p then [[t.1,t.2.2]] else ([]:List (List Int))).length<=1:=by split <;> split <;> simp <;> lia
  lia
noncomputable def hd (k:List Int):Int:=k.getD 0 0
theorem br (g:GW n ts)(p):((fd p ts).map hd).Nodup:=by
 have key:∀(ts:List T3),(∀t∈ts,t.1<t.2.1)->ts.Pairwise (fun s t=>¬ (s.1=t.1/\s.2.1=t.2.1))->((fd p ts).map hd).Nodup:=by
  intro ts
  induction ts with
  | nil=>intro _ _;exact List.nodup_nil
  | cons t r ih=>
   intro eU hp;obtain⟨q,hr⟩:=Gy.mp hp;have h0:=eU t zX;have gD:∀t∈r,t.1<t.2.1:=fun t ht=>eU t (zd _ ht);have ih':=ih gD hr;have no:∀y c,(∀l,Ai r p y l->False)->([y,c]:List Int)=[y,c]->¬ y∈(fd p r).map hd:=by intro y c hn _ hm;obtain⟨k,hk,e⟩:=DS.mp hm;obtain⟨y',l,ek,ha⟩:=Jq.mp hk;subst ek;have:y'=y:=e;subst this;exact hn l ha
   show ((_++_++fd p r).map hd).Nodup;by_cases h1:t.1=p
   . have h2:¬ t.2.1=p:=by lia
     rw[if_pos h1,if_neg h2];show (t.2.1::(fd p r).map hd).Nodup;refine D8.mpr {no _ t.2.2 (fun l ha=>?_) rfl,ih'};rcases ha with ha | ha
     . exact q _ ha {h1,0}
     . have:=gD _ ha;simp only at this;lia
   . by_cases h2:t.2.1=p
     . rw[if_neg h1,if_pos h2];show (t.1::(fd p r).map hd).Nodup;refine D8.mpr {no _ t.2.2 (fun l ha=>?_) rfl,ih'};rcases ha with ha | ha
       . have:=gD _ ha;simp only at this;lia
       . exact q _ ha {0,h2}
     . rw[if_neg h1,if_neg h2];exact ih'
 exact key ts (fun t ht=>(g.rng t ht).2.1) g.dis
inductive Way (ts:List T3):Int->Int->Int->Prop where
 | nil (x:Int):Way ts x x 0
 | cons {x z y l d:Int}:Ai ts x z l->Way ts z y d->Way ts x y (l+d)
theorem Way.nn (g:GW n ts)(h:Way ts x y d):0<=d:=by
 induction h with
 | nil=>exact Df _
 | cons ha _ ih=>have:=g.adj ha;lia
theorem Way.one (h:Ai ts x y l):Way ts x y l:=by have:=Way.cons h (.nil y);rwa [Int.add_zero] at this
theorem Way.trans (h:Way ts x y d)(h':Way ts y z e):Way ts x z (d+e):=by
 induction h with
 | nil=>rw[Bt];exact h'
 | cons ha _ ih=>rw[Int.add_assoc];exact .cons ha (ih h')
theorem Way.symm (h:Way ts x y d):Way ts y x d:=by
 induction h with
 | nil=>exact .nil _
 | cons ha _ ih=>have:=ih.trans (.one ha.symm);rwa [Int.add_comm] at this
theorem Way.snoc (h:Way ts x y d)(ha:Ai ts y z l):Way ts x z (d+l):=h.trans (.one ha)
def IsD (ts:List T3)(x y d:Int):Prop:=Way ts x y d/\∀e,Way ts x y e->d<=e
def Cs (ts:List T3)(x y:Int):Option Int->Prop
 | some d=>IsD ts x y d
 | none=>∀d,¬ Way ts x y d
theorem IsD.uniq (h:IsD ts x y d)(h':IsD ts x y e):d=e:=Int.le_antisymm (h.2 _ h'.1) (h'.2 _ h.1)
theorem Cs.uniq (h:Cs ts x y o)(h':Cs ts x y o'):o=o':=by
 cases o with
 | none=>
  cases o' with
  | none=>rfl
  | some e=>exact absurd h'.1 (h e)
 | some d=>
  cases o' with
  | none=>exact absurd h.1 (h' d)
  | some e=>exact congrArg some (IsD.uniq h h')
theorem IsD.symm (h:IsD ts x y d):IsD ts y x d:={h.1.symm,fun e he=>h.2 e he.symm}
theorem Jc (g:GW n ts)(x):IsD ts x x 0:={.nil x,fun _ h=>h.nn g}
structure Dj (ts:List T3)(s:Int)(kn wt:Int->Option Int):Prop where
 kd:∀p d,kn p=some d->IsD ts s p d
 wk:∀p d,wt p=some d->kn p=none/\Way ts s p d
 ord:∀p d q e,kn p=some d->wt q=some e->d<=e
 nb:∀p d q l,kn p=some d->Ai ts p q l->(∃e,kn q=some e)\/∃e,wt q=some e/\e<=d+l
 st:(∃d,kn s=some d)\/wt s=some 0
theorem Dj.front (g:GW n ts)(h:Dj ts s kn wt)(w:Way ts s y d):(∃e,kn y=some e)\/∃q e,wt q=some e/\e<=d:=by
 have key:∀{x y d:Int},Way ts x y d->∀dx,kn x=some dx->(∃e,kn y=some e)\/∃q e,wt q=some e/\e<=dx+d:=by
  intro x y d w
  induction w with
  | nil=>intro dx hx;exact .inl ⟨dx,hx⟩
  | cons ha w' ih=>
   intro dx hx
   rename_i x z y l d
   have hl:=g.adj ha;have hw:=w'.nn g;rcases h.nb x dx z l hx ha with ⟨e,he⟩ | ⟨e,he,hle⟩
   . have hez:e<=dx+l:=(h.kd z e he).2 _ ((h.kd x dx hx).1.snoc ha);rcases ih e he with q | ⟨q,e',hq,hle⟩
     . exact .inl q
     . exact .inr {q,e',hq,by lia}
   . exact .inr {z,e,he,by lia}
 rcases h.st with ⟨ds,hs⟩ | hs
 . have:ds=0:=IsD.uniq (h.kd s ds hs) (Jc g s);subst this;rcases key w 0 hs with q | ⟨q,e,a,b⟩
   . exact .inl q
   . exact .inr {q,e,a,by lia}
 . exact .inr ⟨s,0,hs,w.nn g⟩
theorem Dj.pick (g:GW n ts)(h:Dj ts s kn wt)(hp:wt p=some d)(hm:∀q e,wt q=some e->d<=e):IsD ts s p d:=by
 obtain⟨hk,hw⟩:=h.wk p d hp;refine{hw,fun e he=>?_};rcases h.front g he with ⟨e',q⟩ | ⟨q,e',hq,hle⟩
 . rw[hk] at q;cases q
 . exact Int.le_trans (hm q e' hq) hle
theorem Dj.done (g:GW n ts)(h:Dj ts s kn wt)(hw:∀q,wt q=none)(y):Cs ts s y (kn y):=by
 cases e:kn y with
 | some d=>exact h.kd y d e
 | none=>
  intro d w;rcases h.front g w with ⟨e',q⟩ | ⟨q,e',hq,_⟩
  . rw[e] at q;cases q
  . rw[hw] at hq;cases hq
structure Dm (ts:List T3)(s p d:Int)(kn wt:Int->Option Int)(seen:Int->Prop):Prop where
 kd:∀q e,kn q=some e->IsD ts s q e
 wk:∀q e,wt q=some e->kn q=none/\Way ts s q e
 ord:∀q e r f,kn q=some e->wt r=some f->e<=f
 nb:∀q e r l,kn q=some e->Ai ts q r l->(q=p/\¬ seen r)\/(∃f,kn r=some f)\/∃f,wt r=some f/\f<=e+l
 st:∃e,kn s=some e
 pd:kn p=some d
 mx:∀q e,kn q=some e->e<=d
theorem Dj.enter (g:GW n ts)(h:Dj ts s kn wt)(hp:wt p=some d)(hm:∀q e,wt q=some e->d<=e):
 Dm ts s p d (fun q=>if q=p then some d else kn q) (fun q=>if q=p then none else wt q) (fun _=>False):=by
 have hd:=h.pick g hp hm;have hk:=(h.wk p d hp).1;refine{fun q e hq=>?_,fun q e hq=>?_,fun q e r f hq hr=>?_,fun q e r l hq ha=>?_,?_,if_pos rfl,fun q e hq=>?_}
 . by_cases ir:q=p
   . rw[if_pos ir] at hq;cases hq;rw[ir];exact hd
   . rw[if_neg ir] at hq;exact h.kd q e hq
 . by_cases ir:q=p
   . rw[if_pos ir] at hq;cases hq
   . rw[if_neg ir] at hq ⊢;exact h.wk q e hq
 . by_cases hrp:r=p
   . rw[if_pos hrp] at hr;cases hr
   . rw[if_neg hrp] at hr;by_cases ir:q=p
     . rw[if_pos ir] at hq;cases hq;exact hm r f hr
     . rw[if_neg ir] at hq;exact h.ord q e r f hq hr
 . by_cases ir:q=p
   . exact .inl {ir,fun z=>z}
   . rw[if_neg ir] at hq;by_cases hrp:r=p
     . exact .inr (.inl {d,if_pos hrp})
     . rcases h.nb q e r l hq ha with ⟨f,hf⟩ | ⟨f,hf,hle⟩
       . exact .inr (.inl {f,by rw[if_neg hrp];exact hf})
       . exact .inr (.inr {f,by rw[if_neg hrp];exact hf,hle})
 . by_cases gW:s=p
   . exact{d,if_pos gW}
   . rcases h.st with ⟨e,he⟩ | he
     . exact{e,by rw[if_neg gW];exact he}
     . -- s waits with 0: then d is 0 too,and p is come to by a way of 0
       have h0:=hm s 0 he;have:=hd.1.nn g;have hd0:d=0:=by lia
       subst hd0;exfalso;have:∀{x y d:Int},Way ts x y d->d=0->x=y:=by
        intro x y d w;cases w with
        | nil=>intro _;rfl
        | cons ha w'=>intro e;have:=g.adj ha;have:=w'.nn g;lia
       exact gW (this hd.1 rfl)
 . by_cases ir:q=p
   . rw[if_pos ir] at hq;cases hq;exact Df _
   . rw[if_neg ir] at hq;exact h.ord q e p d hq hp
theorem Dm.skip (h:Dm ts s p d kn wt seen)(hr:∃f,kn r=some f):Dm ts s p d kn wt (fun x=>seen x\/x=r):=
 {h.kd,h.wk,h.ord,fun q e x l hq ha=>by
  rcases h.nb q e x l hq ha with ⟨a,b⟩ | c
  . by_cases hx:x=r
    . subst hx;exact .inr (.inl hr)
    . exact .inl {a,fun z=>z.elim b hx}
  . exact .inr c,h.st,h.pd,h.mx}
theorem Dm.wait (g:GW n ts)(h:Dm ts s p d kn wt seen)(ha:Ai ts p r l)(hr:kn r=none)
 (hf:(wt r=none/\f=d+l)\/∃e,wt r=some e/\f=min (d+l) e):Dm ts s p d kn (fun x=>if x=r then some f else wt x) (fun x=>seen x\/x=r):=by
 have hl:=g.adj ha;have hway:Way ts s r (d+l):=(h.kd p d h.pd).1.snoc ha;have hf1:f<=d+l:=by
  rcases hf with ⟨_,e⟩ | ⟨e,_,e'⟩
  . lia
  . lia
 have hf2:Way ts s r f:=by
  rcases hf with ⟨_,rfl⟩ | ⟨e,he,rfl⟩
  . exact hway
  . by_cases hle:d+l<=e
    . rw[Int.min_eq_left hle];exact hway
    . rw[Int.min_eq_right (by lia)];exact (h.wk r e he).2
 have hf3:d<=f:=by
  rcases hf with ⟨_,rfl⟩ | ⟨e,he,rfl⟩
  . lia
  . have:=h.ord p d r e h.pd he;lia
 refine{h.kd,fun q e hq=>?_,fun q e x y hq hx=>?_,fun q e x k hq hax=>?_,h.st,h.pd,h.mx}
 . by_cases hqr:q=r
   . rw[if_pos hqr] at hq;cases hq;rw[hqr];exact⟨hr,hf2⟩
   . rw[if_neg hqr] at hq;exact h.wk q e hq
 . by_cases hxr:x=r
   . rw[if_pos hxr] at hx;cases hx;have:=h.mx q e hq;lia
   . rw[if_neg hxr] at hx;exact h.ord q e x y hq hx
 . by_cases hxr:x=r
   . subst hxr;refine .inr (.inr {f,if_pos rfl,?_});rcases h.nb q e x k hq hax with ⟨a,_⟩ | ⟨y,hy⟩ | ⟨y,hy,hle⟩
     . subst a;rw[h.pd] at hq;cases hq;rw[g.uniq hax ha];exact hf1
     . rw[hr] at hy;cases hy
     . rcases hf with ⟨e1,_⟩ | ⟨e1,he1,e2⟩
       . rw[e1] at hy;cases hy
       . rw[he1] at hy;cases hy;lia
   . rcases h.nb q e x k hq hax with ⟨a,b⟩ | c | ⟨y,hy,hle⟩
     . exact .inl {a,fun z=>z.elim b hxr}
     . exact .inr (.inl c)
     . exact .inr (.inr {y,by rw[if_neg hxr];exact hy,hle})
theorem Dm.leave (h:Dm ts s p d kn wt seen)(hs:∀r l,Ai ts p r l->seen r):Dj ts s kn wt:=
 {h.kd,h.wk,h.ord,fun q e r l hq ha=>by
  rcases h.nb q e r l hq ha with ⟨a,b⟩ | c
  . subst a;exact absurd (hs r l ha) b
  . exact c,.inl h.st}
inductive B2 (ts:List T3)(k:Int):Int->Int->Int->Prop where
 | nil (x:Int):B2 ts k x x 0
 | tie {x y l:Int}:Ai ts x y l->B2 ts k x y l
 | cons {x z y l d:Int}:Ai ts x z l->z<k->B2 ts k z y d->B2 ts k x y (l+d)
theorem B2.way (h:B2 ts k x y d):Way ts x y d:=by
 induction h with
 | nil=>exact .nil _
 | tie ha=>exact .one ha
 | cons ha _ _ ih=>exact .cons ha ih
theorem Way.toK (g:GW n ts)(h:Way ts x y d):B2 ts n x y d:=by
 induction h with
 | nil=>exact .nil _
 | cons ha _ ih=>exact .cons ha (g.adj ha).2.2.2.1 ih
theorem B2.split (g:GW n ts)(h:B2 ts (k+1) x y d):B2 ts k x y d\/∃d1 d2,B2 ts k x k d1/\B2 ts k k y d2/\d1+d2<=d:=by
 induction h with
 | nil=>exact .inl (.nil _)
 | tie ha=>exact .inl (.tie ha)
 | cons ha hz w ih=>
  rename_i x z y l d
  by_cases hk:z<k
  . rcases ih with q | ⟨d1,d2,a,b,c⟩
    . exact .inl (.cons ha hk q)
    . exact .inr {l+d1,d2,.cons ha hk a,b,by lia}
  . have e:z=k:=by lia
    subst e;rcases ih with q | ⟨d1,d2,a,b,c⟩
    . exact .inr {l,d,.tie ha,q,Df _}
    . have:=a.way.nn g;exact .inr {l,d2,.tie ha,b,by lia}
theorem B2.zero (g:GW n ts)(h:B2 ts 0 x y d):(x=y/\d=0)\/Ai ts x y d:=by
 cases h with
 | nil=>exact .inl {3}
 | tie ha=>exact .inr ha
 | cons ha hz _=>have:=g.adj ha;lia
structure Fw (ts:List T3)(n:Int)(F:Int->Int->Option Int):Prop where
 snd:∀x y d,0<=x->x<n->0<=y->y<n->F x y=some d->Way ts x y d
def L4 (ts:List T3)(n k:Int)(F:Int->Int->Option Int):Prop:=∀x y d,0<=x->x<n->0<=y->y<n->B2 ts k x y d->∃e,F x y=some e/\e<=d
theorem Fw.len (g:GW n ts)(h:Fw ts n F)(c:L4 ts n n F)(hx:0<=x)(fK:x<n)(hy:0<=y)(fj:y<n):Cs ts x y (F x y):=by
 cases e:F x y with
 | some d=>refine{h.snd x y d hx fK hy fj e,fun e' he=>?_};obtain⟨f,hf,hle⟩:=c x y e' hx fK hy fj (he.toK g);rw[e] at hf;cases hf;exact hle
 | none=>intro d hd;obtain⟨f,hf,_⟩:=c x y d hx fK hy fj (hd.toK g);rw[e] at hf;cases hf
noncomputable def A8 (kn:List (Option Int))(p:Int):Option Int:=if 0<=p then kn.getD p.toNat none else none
noncomputable def DM (kn:List (Option Int)):Nat:=(kn.filter Option.isSome).length
theorem Wq (kn):DM kn<=kn.length:=C8 _ _
theorem YC (h0:0<=p)(h1:p.toNat<kn.length)(q):A8 (kn.set p.toNat o) q=if q=p then o else A8 kn q:=by
 unfold A8;by_cases hq:0<=q
 . rw[if_pos hq,if_pos hq,zJ,zJ,List.getElem?_set];by_cases e:q=p
   . subst e;simp[h1]
   . have:¬ p.toNat=q.toNat:=by lia
     rw[if_neg this,if_neg e]
 . rw[if_neg hq,if_neg (by lia),if_neg hq]
theorem Tj:∀{kn:List (Option Int)}{j:Nat}{d:Int},kn[j]?=some none->DM (kn.set j (some d))=DM kn+1
 | [],_,_,h=>by simp at h
 | o::r,0,d,h=>by
  have:o=none:=by simpa using h
  subst this;simp[DM,List.set]
 | o::r,j+1,d,h=>by
  have ih:=Tj (kn:=r) (j:=j) (d:=d) (by simpa using h);unfold DM at ih ⊢;rw[List.set_cons_succ];cases o with
  | none=>rw[IK (by simp),IK (by simp)];exact ih
  | some x=>rw[J0 (by simp),J0 (by simp),zk,zk,ih]
theorem aK (n):DM (List.replicate n none)=0:=by unfold DM;rw[List.filter_replicate];simp
theorem Nk (n)(q):A8 (List.replicate n none) q=none:=by
 unfold A8;split
 . rw[zJ,Mg];split <;> rfl
 . rfl
structure Dl (ts:List T3)(n s:Int)(kn:List (Option Int))(wt:Int->Option Int):Prop where
 dj:Dj ts s (A8 kn) wt
 ln:kn.length=n.toNat
 bk:∀p d,A8 kn p=some d->d<=99*DM kn
 bw:∀p e,wt p=some e->e<=99*DM kn/\0<=p/\p<n
structure Dn (ts:List T3)(n s p d:Int)(kn:List (Option Int))(wt:Int->Option Int)(seen:Int->Prop):Prop where
 dm:Dm ts s p d (A8 kn) wt seen
 ln:kn.length=n.toNat
 bk:∀q e,A8 kn q=some e->e<=99*DM kn
 bd:d+99<=99*DM kn
 bw:∀q e,wt q=some e->e<=99*DM kn/\0<=q/\q<n
theorem Dl.start (g:GW n ts)(h0:0<=s)(h1:s<n):Dl ts n s (List.replicate n.toNat none) (fun q=>if q=s then some 0 else none):=by
 refine{{fun p d h=>?_,fun p d h=>?_,fun p d q e h=>?_,fun p d q l h=>?_,.inr (if_pos rfl)},Cj,fun p d h=>?_,fun p e h=>?_}
 . rw[Nk] at h;cases h
 . by_cases e:p=s
   . rw[if_pos e] at h;cases h;rw[e];exact{Nk _ _,.nil s}
   . rw[if_neg e] at h;cases h
 . rw[Nk] at h;cases h
 . rw[Nk] at h;cases h
 . rw[Nk] at h;cases h
 . by_cases e:p=s
   . rw[if_pos e] at h;cases h;rw[e,aK];exact{by simp,h0,h1}
   . rw[if_neg e] at h;cases h
theorem Dl.enter (g:GW n ts)(h:Dl ts n s kn wt)(hp:wt p=some d)(hm:∀q e,wt q=some e->d<=e):
 kn[p.toNat]?=some none/\0<=p/\p<n/\DM (kn.set p.toNat (some d))=DM kn+1/\Dn ts n s p d (kn.set p.toNat (some d)) (fun q=>if q=p then none else wt q) (fun _=>False):=by
 obtain⟨hb,h0,h1⟩:=h.bw p d hp;have hl:=h.ln;have eU:p.toNat<kn.length:=by lia
 have hk:=(h.dj.wk p d hp).1;have hn:kn[p.toNat]?=some none:=by unfold A8 at hk;rw[if_pos h0,zJ,zD eU] at hk;rw[zD eU];exact congrArg some hk
 have hc:=Tj (d:=d) hn;have ef:A8 (kn.set p.toNat (some d))=fun q=>if q=p then some d else A8 kn q:=funext fun q=>YC h0 eU q
 refine{hn,h0,h1,hc,{?_,by rw[List.length_set];exact hl,fun q e hq=>?_,by rw[hc];lia,fun q e hq=>?_}}
 . rw[ef];exact h.dj.enter g hp hm
 . rw[ef] at hq;simp only at hq;rw[hc];by_cases e':q=p
   . rw[if_pos e'] at hq;cases hq;lia
   . rw[if_neg e'] at hq;have:=h.bk q e hq;lia
 . by_cases e':q=p
   . rw[if_pos e'] at hq;cases hq
   . rw[if_neg e'] at hq;have:=h.bw q e hq;rw[hc];exact{by lia,this.2}
theorem Dn.skip (h:Dn ts n s p d kn wt seen)(hr:A8 kn r=some f):Dn ts n s p d kn wt (fun x=>seen x\/x=r):=
 {h.dm.skip ⟨f,hr⟩,h.ln,h.bk,h.bd,h.bw}
theorem Dn.wait (g:GW n ts)(h:Dn ts n s p d kn wt seen)(ha:Ai ts p r l)(hr:A8 kn r=none):
 Dn ts n s p d kn (fun x=>if x=r then some (if (wt r).getD (d+l)<d+l then (wt r).getD (d+l) else d+l) else wt x) (fun x=>seen x\/x=r):=by
 have hl:=g.adj ha;have hf:(wt r=none/\(if (wt r).getD (d+l)<d+l then (wt r).getD (d+l) else d+l)=d+l)\/∃e,wt r=some e/\(if (wt r).getD (d+l)<d+l then (wt r).getD (d+l) else d+l)=min (d+l) e:=by
  cases e:wt r with
  | none=>exact .inl {0,by simp}
  | some x=>refine .inr {x,0,?_};simp only[Option.getD_some];split <;> lia
 refine{h.dm.wait g ha hr hf,h.ln,h.bk,h.bd,fun q e hq=>?_};by_cases e':q=r
 . rw[if_pos e'] at hq;have hd:=h.bd;have e2:=zV hq;refine{?_,by lia,by lia};split at e2 <;> lia
 . rw[if_neg e'] at hq;exact h.bw q e hq
theorem Dn.leave (h:Dn ts n s p d kn wt seen)(hs:∀r l,Ai ts p r l->seen r):Dl ts n s kn wt:=
 {h.dm.leave hs,h.ln,h.bk,h.bw}
structure MW (ts:List T3)(n s:Int)(kn:List (Option Int)):Prop where
 ln:kn.length=n.toNat
 len:∀y,0<=y->y<n->Cs ts s y (A8 kn y)
 bd:∀o∈kn,∀d,o=some d->0<=d/\d<=2376
theorem Dl.done (g:GW n ts)(h:Dl ts n s kn wt)(hw:∀q,wt q=none):MW ts n s kn:=by
 refine{h.ln,fun y _ _=>h.dj.done g hw y,fun o ho d e=>?_};obtain⟨j,hj,ej⟩:=zr ho;have hf:A8 kn (j:Int)=some d:=by unfold A8;rw[if_pos (by lia),zJ,Bm,zD hj,ej,e];rfl
 have h1:=h.bk _ _ hf;have h2:=(h.dj.kd _ _ hf).1.nn g;have h3:=Wq kn;have:=h.ln;have:=g.n24
 lia
noncomputable def Dv:Option Int->Option Int->Option Int
 | some a,some b=>some (a+b)
 | _,_=>none
noncomputable def Dz:Option Int->Option Int->Option Int
 | none,o=>o
 | some a,none=>some a
 | some a,some b=>some (if b<a then b else a)
theorem B2.mono (h:B2 ts k x y d)(hk:k<=k'):B2 ts k' x y d:=by
 induction h with
 | nil=>exact .nil _
 | tie ha=>exact .tie ha
 | cons ha hz _ ih=>exact .cons ha (by lia) ih
structure Fm (ts:List T3)(n k:Int)(F:Int->Int->Option Int)(done:Int->Int->Prop):Prop where
 fw:Fw ts n F
 cv:L4 ts n k F
 dn:∀x y d,0<=x->x<n->0<=y->y<n->done x y->B2 ts (k+1) x y d->∃e,F x y=some e/\e<=d
theorem bP (h:(∃e,o=some e/\e<=d)\/∃e,p=some e/\e<=d):∃e,Dz o p=some e/\e<=d:=by
 rcases h with ⟨e,rfl,h⟩ | ⟨e,rfl,h⟩
 . cases p with
   | none=>exact{e,0,h}
   | some b=>exact{1,by split <;> lia}
 . cases o with
   | none=>exact{e,0,h}
   | some a=>exact{1,by split <;> lia}
theorem ZN (h:Dz o p=some d):o=some d\/p=some d:=by
 cases o with
 | none=>exact .inr h
 | some a=>
  cases p with
  | none=>exact .inl h
  | some b=>
   have e:(if b<a then b else a)=d:=zV h
   split at e
   . exact .inr (by rw[e])
   . exact .inl (by rw[e])
theorem Wz (h:Dv o p=some d):∃a b,o=some a/\p=some b/\a+b=d:=by
 cases o with
 | none=>cases h
 | some a=>
  cases p with
  | none=>cases h
  | some b=>exact{a,b,3,zV h}
theorem Fm.step (g:GW n ts)(h:Fm ts n k F done)(ha:0<=a)(iY:a<n)(hb:0<=b)(gY:b<n)(hk:0<=k)(jY:k<n):
 Fm ts n k (fun x y=>if x=a/\y=b then Dz (F a b) (Dv (F a k) (F k b)) else F x y) (fun x y=>done x y\/(x=a/\y=b)):=by
 have snd:∀d,Dz (F a b) (Dv (F a k) (F k b))=some d->Way ts a b d:=fun d hd=>by
  rcases ZN hd with e | e
  . exact h.fw.snd a b d ha iY hb gY e
  . obtain⟨d1,d2,e1,e2,rfl⟩:=Wz e;exact (h.fw.snd a k d1 ha iY hk jY e1).trans (h.fw.snd k b d2 hk jY hb gY e2)
 have cov1:∀d,B2 ts (k+1) a b d->∃e,Dz (F a b) (Dv (F a k) (F k b))=some e/\e<=d:=fun d w=>by
  refine bP ?_;rcases w.split g with q | ⟨d1,d2,q1,q2,hle⟩
  . exact .inl (h.cv a b d ha iY hb gY q)
  . obtain⟨e1,f1,l1⟩:=h.cv a k d1 ha iY hk jY q1;obtain⟨e2,f2,l2⟩:=h.cv k b d2 hk jY hb gY q2;exact .inr {e1+e2,by rw[f1,f2];rfl,by lia}
 refine{{fun x y d hx fK hy fj e=>?_},fun x y d hx fK hy fj w=>?_,fun x y d hx fK hy fj hd w=>?_}
 . by_cases c:x=a/\y=b
   . rw[if_pos c] at e;rw[c.1,c.2];exact snd d e
   . rw[if_neg c] at e;exact h.fw.snd x y d hx fK hy fj e
 . by_cases c:x=a/\y=b
   . rw[if_pos c];rw[c.1,c.2] at w;exact cov1 d (w.mono (by lia))
   . rw[if_neg c];exact h.cv x y d hx fK hy fj w
 . by_cases c:x=a/\y=b
   . rw[if_pos c];rw[c.1,c.2] at w;exact cov1 d w
   . rw[if_neg c];exact h.dn x y d hx fK hy fj (hd.resolve_right c) w
theorem Fm.enter (h:Fw ts n F)(c:L4 ts n k F):Fm ts n k F (fun _ _=>False):={h,c,fun _ _ _ _ _ _ _ z=>z.elim}
theorem Fm.leave (h:Fm ts n k F done)(hd:∀x y,0<=x->x<n->0<=y->y<n->done x y):Fw ts n F/\L4 ts n (k+1) F:=
 {h.fw,fun x y d hx fK hy fj w=>h.dn x y d hx fK hy fj (hd x y hx fK hy fj) w}
def Ft (ts:List T3)(n:Int)(F:Int->Int->Option Int):Prop:=∀x y d,0<=x->x<n->0<=y->y<n->(F x y=some d↔(x=y/\d=0)\/Ai ts x y d)
theorem Ft.fw (g:GW n ts)(h:Ft ts n F):Fw ts n F/\L4 ts n 0 F:=by
 refine{{fun x y d hx fK hy fj e=>?_},fun x y d hx fK hy fj w=>?_}
 . rcases (h x y d hx fK hy fj).mp e with ⟨rfl,rfl⟩ | ha
   . exact .nil x
   . exact .one ha
 . refine{d,(h x y d hx fK hy fj).mpr ?_,Df _};rcases w.zero g with q | q
   . exact .inl q
   . exact .inr q
theorem Ft.nil (n)(h:∀x y,0<=x->x<n->0<=y->y<n->F x y=if x=y then some 0 else none):Ft [] n F:=fun x y d hx fK hy fj=>by
 rw[h x y hx fK hy fj];constructor
 . intro e;split at e
   . rename_i c;exact .inl {c,(zV e).symm}
   . cases e
 . rintro (⟨rfl,rfl⟩ | ha)
   . rw[if_pos rfl]
   . rcases ha with z | z <;> simp at z
theorem Ft.put (g:GW n (pre++(a,b,l)::post))(h:Ft pre n F):
 Ft (pre++[(a,b,l)]) n (fun x y=>if x=b/\y=a then some l else if x=a/\y=b then some l else F x y):=fun x y d hx fK hy fj=>by
 have hr:=g.rng (a,b,l) (by simp);simp only at hr;have sub:∀{x y d:Int},Ai pre x y d->Ai (pre++(a,b,l)::post) x y d:=fun z=>z.elim (fun z=>.inl (DP _ z)) fun z=>.inr (DP _ z);have own:Ai (pre++(a,b,l)::post) a b l:=.inl (by simp);have iX:Ai (pre++[(a,b,l)]) x y d↔Ai pre x y d\/(x=a/\y=b/\d=l)\/(x=b/\y=a/\d=l):=by
  unfold Ai;simp only[zg,zl,Prod.mk.injEq];constructor
  . rintro ((z | z) | (z | z))
    . exact .inl (.inl z)
    . exact .inr (.inl z)
    . exact .inl (.inr z)
    . exact .inr (.inr ⟨z.2.1,z.1,z.2.2⟩)
  . rintro ((z | z) | z | z)
    . exact .inl (.inl z)
    . exact .inr (.inl z)
    . exact .inl (.inr z)
    . exact .inr (.inr ⟨z.2.1,z.1,z.2.2⟩)
 rw[iX];show (if x=b/\y=a then some l else if x=a/\y=b then some l else F x y)=some d↔_
 by_cases c1:x=b/\y=a
 . rw[if_pos c1];constructor
   . intro e;exact .inr (.inr (.inr {c1.1,c1.2,(zV e).symm}))
   . rintro (⟨e,_⟩ | z | ⟨e1,e2,e3⟩ | ⟨_,_,e3⟩)
     . lia
     . have z':=sub z;rw[c1.1,c1.2] at z';rw[g.uniq z' own.symm]
     . rw[e3]
     . rw[e3]
 . rw[if_neg c1];by_cases c2:x=a/\y=b
   . rw[if_pos c2];constructor
     . intro e;exact .inr (.inr (.inl {c2.1,c2.2,(zV e).symm}))
     . rintro (⟨e,_⟩ | z | ⟨e1,e2,e3⟩ | ⟨_,_,e3⟩)
       . lia
       . have z':=sub z;rw[c2.1,c2.2] at z';rw[g.uniq z' own]
       . rw[e3]
       . rw[e3]
   . rw[if_neg c2,h x y d hx fK hy fj];constructor
     . rintro (z | z)
       . exact .inl z
       . exact .inr (.inl z)
     . rintro (z | z | z | z)
       . exact .inl z
       . exact .inr z
       . exact absurd ⟨z.1,z.2.1⟩ c2
       . exact absurd ⟨z.1,z.2.1⟩ c1
noncomputable def A3 (M:DT)(x y:Int):Option Int:=if 0<=x then A8 (M.getD x.toNat []) y else none
noncomputable def D7 (M:DT)(a b:Int)(v:Option Int):List (List (Option Int)):=M.set a.toNat ((M.getD a.toNat []).set b.toNat v)
structure C7 (n:Int)(M:DT):Prop where
 ln:M.length=n.toNat
 rw_:∀r∈M,r.length=n.toNat
theorem C7.row (h:C7 n M)(ha:0<=a)(iY:a<n):∃r,M[a.toNat]?=some r/\M.getD a.toNat []=r/\r.length=n.toNat:=by
 have hl:=h.ln;have eU:a.toNat<M.length:=by lia
 exact{M[a.toNat],zD eU,by rw[zJ,zD eU];rfl,h.rw_ _ (El eU)}
theorem C7.set (h:C7 n M)(ha:0<=a)(iY:a<n):C7 n (D7 M a b v):=by
 obtain⟨r,h1,h2,h3⟩:=h.row ha iY;refine{by unfold D7;rw[List.length_set];exact h.ln,fun q hq=>?_};unfold D7 at hq;rcases List.mem_or_eq_of_mem_set hq with z | z
 . exact h.rw_ q z
 . rw[z,List.length_set,h2,h3]
theorem Tx (h:C7 n M)(ha:0<=a)(iY:a<n)(hb:0<=b)(gY:b<n)(hx:0<=x)(fK:x<n):
 A3 (D7 M a b v) x y=if x=a/\y=b then v else A3 M x y:=by
 obtain⟨r,h1,h2,h3⟩:=h.row ha iY;have hl:=h.ln;unfold A3 D7;rw[if_pos hx,if_pos hx,zJ,List.getElem?_set];by_cases e:x=a
 . subst e;rw[if_pos rfl,if_pos (by lia),Option.getD_some,h2,YC hb (by lia)];by_cases e2:y=b
   . rw[if_pos e2,if_pos {0,e2}]
   . rw[if_neg e2,if_neg fun z=>e2 z.2]
 . rw[if_neg (by lia),if_neg fun z=>e z.1,<-zJ]
theorem Fm.congr (h:Fm ts n k F done)(e:∀x y,0<=x->x<n->0<=y->y<n->G x y=F x y)(hd:∀x y,0<=x->x<n->0<=y->y<n->done' x y->done x y):Fm ts n k G done':=
 {{fun x y d a b c d' z=>h.fw.snd x y d a b c d' (by rw[<-e x y a b c d'];exact z)},fun x y d a b c d' w=>by rw[e x y a b c d'];exact h.cv x y d a b c d' w,fun x y d a b c d' z w=>by rw[e x y a b c d'];exact h.dn x y d a b c d' (hd x y a b c d' z) w}
theorem Ft.congr (h:Ft ts n F)(e:∀x y,0<=x->x<n->0<=y->y<n->G x y=F x y):Ft ts n G:=fun x y d a b c d'=>by rw[e x y a b c d'];exact h x y d a b c d'
def Rows (ts:List T3)(n:Int)(M:DT):Prop:=M.length=n.toNat/\∀x,0<=x->x<n->MW ts n x (M.getD x.toNat [])
theorem cF (g:GW n ts)(x y)(hx:0<=x)(fK:x<n)(d)(h:IsD ts x y d):0<=d/\d<=2376:=by
 have ex:∀(m:Nat)(kn:List (Option Int))(wt:Int->Option Int),Dl ts n x kn wt->n.toNat-DM kn<=m->(∃L:List Int,∀q e,wt q=some e->q∈L)->∃kn',MW ts n x kn':=by
  intro m
  induction m with
  | zero=>
   intro kn wt D hm _;refine{kn,D.done g fun q=>?_};cases e:wt q with
   | none=>rfl
   | some d=>
    have hk:=(D.dj.wk q d e).1;obtain⟨_,h0,h1⟩:=D.bw q d e;have hl:=D.ln;have eU:q.toNat<kn.length:=by lia
    have hn:kn[q.toNat]?=some none:=by unfold A8 at hk;rw[if_pos h0,zJ,zD eU] at hk;rw[zD eU];exact congrArg some hk
    have h1:=Tj (d:=0) hn;have h2:=Wq (kn.set q.toNat (some 0));rw[List.length_set] at h2
    lia
  | succ m ih=>
   intro kn wt D hm hL;by_cases hw:∀q,wt q=none
   . exact{kn,D.done g hw}
   . -- pick the nearest
     obtain⟨L,hL⟩:=hL;have pick:∀L:List Int,(∃q∈L,(wt q).isSome)->∃p d,wt p=some d/\∀q∈L,∀e,wt q=some e->d<=e:=by
      intro L
      induction L with
      | nil=>rintro ⟨q,hq,_⟩;simp at hq
      | cons z L ihL=>
       rintro ⟨q,hq,hs⟩;by_cases hr:∃q∈L,(wt q).isSome
       . obtain⟨p,d,hp,gp⟩:=ihL hr;cases ez:wt z with
         | none=>
          refine{p,d,hp,fun q' gj e he=>?_};rcases zb.mp gj with rfl | gj
          . rw[ez] at he;cases he
          . exact gp q' gj e he
         | some dz=>
          by_cases hz:dz<d
          . refine{z,dz,ez,fun q' gj e he=>?_};rcases zb.mp gj with rfl | gj
            . rw[ez] at he;cases he;exact Df _
            . have:=gp q' gj e he;lia
          . refine{p,d,hp,fun q' gj e he=>?_};rcases zb.mp gj with rfl | gj
            . rw[ez] at he;cases he;lia
            . exact gp q' gj e he
       . rcases zb.mp hq with rfl | hq
         . obtain⟨d,hd⟩:=Jv.mp hs;refine{q,d,hd,fun q' gj e he=>?_};rcases zb.mp gj with rfl | gj
           . rw[hd] at he;cases he;exact Df _
           . exact absurd {q',gj,by rw[he];rfl} hr
         . exact absurd ⟨q,hq,hs⟩ hr
     obtain⟨p,d,hp,gp⟩:=pick L (by
      apply Nd;intro iG;refine hw fun q=>?_;cases e:wt q with
      | none=>rfl
      | some d=>exact absurd {q,hL q d e,by rw[e];rfl} iG)
     obtain⟨hn,h0,h1,hc,N⟩:=D.enter g hp (fun q e he=>gp q (hL q e he) e he);have all:∀(ns:List (Int×Int))(wt':Int->Option Int)(seen:Int->Prop),Dn ts n x p d (kn.set p.toNat (some d)) wt' seen->(∃L:List Int,∀q e,wt' q=some e->q∈L)->(∀r l,(r,l)∈ns->Ai ts p r l) ->
      ∃(wt'':Int->Option Int)(je:Int->Prop),Dn ts n x p d (kn.set p.toNat (some d)) wt'' je/\(∃L:List Int,∀q e,wt'' q=some e->q∈L)/\(∀r,seen r->je r)/\∀r l,(r,l)∈ns->je r:=by
      intro ns
      induction ns with
      | nil=>intro wt' seen N hL _;exact{wt',seen,N,hL,fun _ z=>z,fun r l z=>by simp at z}
      | cons t ns ih'=>
       intro wt' seen N hL' ha;obtain⟨r,l⟩:=t;have har:=ha r l zX;have iY:∀r l,(r,l)∈ns->Ai ts p r l:=fun r l z=>ha r l (zd _ z);cases ek:A8 (kn.set p.toNat (some d)) r with
       | some f=>
        obtain⟨w2,s2,N2,L2,m2,a2⟩:=ih' wt' _ (N.skip ek) hL' iY;refine{w2,s2,N2,L2,fun q z=>m2 q (.inl z),fun q l' z=>?_};rcases zb.mp z with e | z
        . cases e;exact m2 _ (.inr rfl)
        . exact a2 q l' z
       | none=>
        obtain⟨L',hL'⟩:=hL';obtain⟨w2,s2,N2,L2,m2,a2⟩:=ih' _ _ (N.wait g har ek) {r::L',fun q e he=>by
         by_cases e':q=r
         . rw[e'];exact zX
         . rw[if_neg e'] at he;exact zd _ (hL' q e he)} iY
        refine{w2,s2,N2,L2,fun q z=>m2 q (.inl z),fun q l' z=>?_};rcases zb.mp z with e | z
        . cases e;exact m2 _ (.inr rfl)
        . exact a2 q l' z
     have nbr:∃ns:List (Int×Int),(∀r l,(r,l)∈ns->Ai ts p r l)/\∀r l,Ai ts p r l->(r,l)∈ns:=by
      refine{(ts.filterMap fun t=>if t.1=p then some (t.2.1,t.2.2) else none)++(ts.filterMap fun t=>if t.2.1=p then some (t.1,t.2.2) else none),fun r l z=>?_,fun r l z=>?_}
      . rcases zg.mp z with z | z
        . obtain⟨⟨a,b,c⟩,ht,e⟩:=IB.mp z;split at e
          . rename_i c1
            have c1':a=p:=c1;have e':=zV e;simp only[Prod.mk.injEq] at e';obtain⟨rfl,rfl⟩:=e';subst c1';exact .inl ht
          . cases e
        . obtain⟨⟨a,b,c⟩,ht,e⟩:=IB.mp z;split at e
          . rename_i c1
            have c1':b=p:=c1;have e':=zV e;simp only[Prod.mk.injEq] at e';obtain⟨rfl,rfl⟩:=e';subst c1';exact .inr ht
          . cases e
      . rcases z with z | z
        . exact DP _ (IB.mpr {_,z,by simp})
        . exact zn _ (IB.mpr {_,z,by simp})
     obtain⟨ns,hns1,hns2⟩:=nbr;obtain⟨w2,s2,N2,L2,_,a2⟩:=all ns _ _ N {L,fun q e he=>by
      by_cases e':q=p
      . rw[if_pos e'] at he;cases he
      . rw[if_neg e'] at he;exact hL q e he} hns1
     exact ih _ _ (N2.leave fun r l ha=>a2 r l (hns2 r l ha)) (by lia) L2
 obtain⟨kn,K⟩:=ex n.toNat _ _ (Dl.start g hx fK) (by lia) {[x],fun q e he=>by
  by_cases e':q=x
  . simp[e']
  . rw[if_neg e'] at he;cases he}
 have hy:(0<=y/\y<n)\/y=x:=by
  have:∀{x y d:Int},Way ts x y d->x=y\/(0<=y/\y<n):=by
   intro x y d w
   induction w with
   | nil=>exact .inl rfl
   | cons ha _ ih=>
    rcases ih with rfl | q
    . have:=g.adj ha;exact .inr ⟨this.2.2.1,this.2.2.2.1⟩
    . exact .inr q
  rcases this h.1 with e | q
  . exact .inr e.symm
  . exact .inl q
 have fj:0<=y/\y<n:=hy.elim id fun e=>by lia
 have hl:=K.len y fj.1 fj.2;have hlen:=K.ln;have eU:y.toNat<kn.length:=by lia
 have e1:A8 kn y=kn[y.toNat]:=by unfold A8;rw[if_pos fj.1,zJ,zD eU];rfl
 have e2:=Cs.uniq hl (show Cs ts x y (some d) from h);exact K.bd _ (El eU) d (by rw[<-e1];exact e2)
theorem aL (g:GW n ts)(h:C7 n M)(f:Fw ts n (A3 M))(c:L4 ts n n (A3 M)):Rows ts n M:=by
 refine{h.ln,fun x hx fK=>?_};obtain⟨r,h1,h2,h3⟩:=h.row hx fK;have e:∀y,A3 M x y=A8 r y:=fun y=>by unfold A3;rw[if_pos hx,h2]
 rw[h2];refine{h3,fun y hy fj=>by rw[<-e];exact f.len g c hx fK hy fj,fun o ho d ed=>?_};obtain⟨j,hj,ej⟩:=zr ho;have hf:A8 r (j:Int)=some d:=by unfold A8;rw[if_pos (by lia),zJ,Bm,zD hj,ej,ed];rfl
 have hl:=f.len g c hx fK (y:=(j:Int)) (by lia) (by lia);rw[e,hf] at hl;exact cF g x j hx fK d hl
def Yn (ts:List T3)(x y p:Int):Prop:=∃a b,IsD ts x p a/\IsD ts p y b/\IsD ts x y (a+b)
def Bx (ts:List T3)(x y p:Int):Prop:=∃l b,Ai ts x p l/\IsD ts p y b/\IsD ts x y (l+b)
theorem Way.zero (g:GW n ts)(h:Way ts x y 0):x=y:=by
 have:∀{x y d:Int},Way ts x y d->d=0->x=y:=by
  intro x y d w;cases w with
  | nil=>intro _;rfl
  | cons ha w'=>intro e;have:=g.adj ha;have:=w'.nn g;lia
 exact this h rfl
theorem Way.in_ (g:GW n ts)(w:Way ts x y d)(hx:0<=x)(fK:x<n):0<=y/\y<n:=by
 induction w with
 | nil=>exact⟨hx,fK⟩
 | cons ha _ ih=>have:=g.adj ha;exact ih this.2.2.1 this.2.2.2.1
theorem NS (g:GW n ts)(h:IsD ts x y d):d=0↔x=y:=by
 constructor
 . intro e;subst e;exact h.1.zero g
 . intro e;subst e;exact IsD.uniq h (Jc g x)
theorem Way.least (g:GW n ts)(h:Way ts x y d):∃e,IsD ts x y e:=by
 have:∀(m:Nat)(d:Int),Way ts x y d->d.toNat<=m->∃e,IsD ts x y e:=by
  intro m
  induction m with
  | zero=>
   intro d hd hm;have:=hd.nn g;have e:d=0:=by lia
   subst e;exact⟨0,hd,fun f hf=>hf.nn g⟩
  | succ m ih=>
   intro d hd hm;by_cases hl:∃f,Way ts x y f/\f<d
   . obtain⟨f,hf,eU⟩:=hl;have:=hf.nn g;exact ih f hf (by lia)
   . refine{d,hd,fun f hf=>?_};apply Nd;intro hn;exact hl {f,hf,by lia}
 exact this _ d h (zK _)
theorem Bx.exists (g:GW n ts)(h:IsD ts x y d)(ft:x≠y):∃p,Bx ts x y p:=by
 obtain⟨hw,gp⟩:=h;cases hw with
 | nil=>exact absurd rfl ft
 | cons ha w=>
  rename_i z l e
  obtain⟨f,hf⟩:=w.least g;have h1:=hf.2 _ w;have h2:=gp _ (.cons ha hf.1);have:f=e:=by lia
  subst this;exact{z,l,f,ha,hf,.cons ha hf.1,gp}
theorem Bx.ne (g:GW n ts)(h:Bx ts x y p):x≠y:=by
 obtain⟨l,b,ha,hb,hd⟩:=h;intro e;subst e;have:=IsD.uniq hd (Jc g x);have:=g.adj ha;have:=hb.1.nn g
 lia
end WM
namespace L2
open PySem PySem.Spec PyProof.Rows
noncomputable def Hj:KeyOrd:={Int,fun a b=>decide (a<b),fun a=>zS (by lia),fun a b c h1 h2=>zO (by have:=of_decide_eq_true h1;have:=of_decide_eq_true h2;lia),
 fun a b c h=>by
  have h':a<c:=of_decide_eq_true h;by_cases ja:a<b
  . exact .inl (zO ja)
  . exact .inr (zO (by lia)),
 fun a b h1 h2=>by have:=of_decide_eq_false h1;have:=of_decide_eq_false h2;lia}
theorem Wh (hI:IntsAre vs ns)(h2:2<=vs.length):
 SortT.Asks prog w A s a vs (O:=Hj) (fun i=>ns.getD i 0) oneType':=by
 have hl:=hI.length;have at_:∀i,i<vs.length->∃t,vs.getD i Value.none=.int (ns.getD i 0) t:=fun i hi=>by obtain⟨n,hn⟩:∃n,ns[i]?=some n:={_,zD (by lia)};obtain⟨t,ht⟩:=hI.get i n hn;exact{t,by rw[zJ,zJ,ht,hn];rfl}
 refine{fun h' Q E kh q=>?_,fun h' i j Q E kh hi hj q=>?_}
 . rw[ksk_kind (keys:=vs.toArray) (kz:=ns) (by simpa using hI) (by simpa using h2)];exact zE q
 . obtain⟨t,e1⟩:=at_ i hi;obtain⟨u,e2⟩:=at_ j hj;rw[e1,e2];exact PySem.W.kat_lt_int q
theorem Wx (hI:IntsAre vs ns)(p:SortT.Put (O:=Hj) (fun i=>ns.getD i 0) vs.length out):
 ∃ms:List Int,ms.Perm ns/\ms.Pairwise (· <= ·)/\AO (ms.map V.int) (out.map fun i=>vs.getD i Value.none)/\ms.length=ns.length:=by
 have hl:=hI.length;have hb:∀i∈out,i<vs.length:=fun i hi=>Eo.mp (p.perm.mem_iff.mp hi);refine{out.map fun i=>ns.getD i 0,?_,?_,?_,?_}
 . have h1:=p.perm.map fun i=>ns.getD i 0;have h2:(List.range vs.length).map (fun i=>ns.getD i 0)=ns:=by
    rw[show vs.length=ns.length by lia];apply List.ext_getElem?;intro j;rw[zN];by_cases hj:j<ns.length
    . rw[NC hj,zD hj];simp[hj]
    . rw[Cu (by rw[DG];lia),Cu (by lia)];rfl
   rw[h2] at h1;exact h1
 . refine Ef.mpr fun i j hi hj gS=>?_;rw[zB] at hi hj;have:=p.rise i j out[i] out[j] (CT gS) (by simp) (by simp);have h3:decide (ns.getD out[j] 0<ns.getD out[i] 0)=false:=this;have h4:=of_decide_eq_false h3;rw[List.getElem_map,List.getElem_map]
   lia
 . have:∀l:List Nat,(∀i∈l,i<vs.length)->AO ((l.map fun i=>ns.getD i 0).map V.int) (l.map fun i=>vs.getD i Value.none):=by
    intro l
    induction l with
    | nil=>intro _;exact .nil
    | cons i l ih=>intro h;have hi:=h i zX;obtain⟨n,hn⟩:∃n,ns[i]?=some n:={_,zD (by lia)};obtain⟨t,ht⟩:=hI.get i n hn;refine .cons ?_ (ih fun j hj=>h j (zd _ hj));show AS (V.int (ns.getD i 0)) (vs.getD i Value.none);rw[zJ,zJ,ht,hn];exact{t,0}
   exact this out hb
 . rw[zB,p.perm.length_eq,DG];lia
noncomputable def oV:Option Int->V
 | none=>.non
 | some d=>.int d
theorem SW {n:Nat}{i:Int}(h0:0<=i)(h1:i<n):HW n i=some i.toNat:=by unfold HW;rw[if_pos h0,if_pos h1]
theorem CB (h0:0<=i)(h:xs[i.toNat]?=some v):BI xs i=some v:=by have:=CV h;rwa [Int.toNat_of_nonneg h0] at this
theorem To {ys:List Int}:((List.range (min xs.length ys.length)).all (fun j=>xs.getD j 0==ys.getD j 0) && xs.length==ys.length)=decide (xs=ys):=by
 by_cases h:xs=ys
 . subst h;simp
 . rw[zS h];by_cases hl:xs.length=ys.length
   . have:∃j,j<xs.length/\xs.getD j 0≠ys.getD j 0:=by apply Nd;intro hn;refine h (List.ext_getElem hl fun j h1 h2=>?_);apply Nd;intro ft;exact hn {j,h1,by simpa [zJ,h1,h2] using ft}
     obtain⟨j,hj,ft⟩:=this;rw[Bool.and_eq_false_iff];left;rw[List.all_eq_false];exact{j,by rw[Eo];lia,by simpa using ft}
   . simp[hl]
def VF (K:AK)(neg:Bool):R2:=fun x y H Q=>∃a b,∃(xs ys:List Int),x=.ref a/\y=.ref b/\AB K H a (xs.map V.int)/\AB K H b (ys.map V.int)/\Q (.bl (if neg then !decide (xs=ys) else decide (xs=ys))) H
theorem Th (h1:IntsAre us xs)(h2:IntsAre ws ys)(j)(a:j<us.toArray.size)(b:j<ws.toArray.size):SeqAt.EqAt A s us.toArray[j] ws.toArray[j] (xs.getD j 0==ys.getD j 0):=by
 have l1:=h1.length;have l2:=h2.length;rw[zP] at a b;obtain⟨n,hn⟩:∃n,xs[j]?=some n:={_,zD (by lia)};obtain⟨m,hm⟩:∃m,ys[j]?=some m:={_,zD (by lia)};obtain⟨t,ht⟩:=h1.get j n hn;obtain⟨u,hu⟩:=h2.get j m hm;have e1:us.toArray[j]=.int n t:=by rw[zD a] at ht;simpa using zV ht
 have e2:ws.toArray[j]=.int m u:=by rw[zD b] at hu;simpa using zV hu
 rw[e1,e2,zJ,zJ,hn,hm];exact SeqAt.EqAt.int_int n t m u
theorem MJ (hu:X.A.units<cLine):A1 X (compareOp .Eq) (VF X.K false):=by intro pins s σ H x y v u Q I rx ry h;obtain⟨a,b,xs,ys,rfl,rfl,ha,hb,q⟩:=h;cases rx;cases ry;obtain⟨its,r,pl,hz⟩:=I.tuple ha;obtain⟨fZ,r2,iq,hz2⟩:=I.tuple hb;have h1:=DH r;have h2:=DH r2;refine SeqAt.eq_tupleAt (e:=fun j=>xs.getD j 0==ys.getD j 0) pl iq hu (fun j a b=>Th h1 h2 j a b) {.bl _,H,I,0,?_};rw[zP,zP,h1.length,h2.length,To];exact q
def Ug (K:AK):R2:=fun x y H Q=>∃a b,∃(xs ys:List Int),x=.ref a/\y=.ref b/\AD K H a (xs.map V.int)/\AD K H b (ys.map V.int)/\Q (.bl (!decide (xs=ys))) H
theorem Lb (hu:X.A.units<cLine):A1 X (compareOp .NotEq) (Ug X.K):=by
 intro pins s σ H x y v u Q I rx ry h;obtain⟨a,b,xs,ys,rfl,rfl,ha,hb,q⟩:=h;cases rx;cases ry;obtain⟨its,r,pl,hz⟩:=I.list ha;obtain⟨fZ,r2,iq,hz2⟩:=I.list hb;have h1:=DH r;have h2:=DH r2;by_cases hl:its.length=fZ.length
 . refine PySem.EqBoolInt.of_rcne (SeqAt.RcNeAt.lists (e:=fun j=>xs.getD j 0==ys.getD j 0) pl.isList iq.isList (by rw[zP,zP];exact hl) hu (fun j a b=>Th h1 h2 j a b)) {.bl _,H,I,0,?_};rw[zP];have e:=To (xs:=xs) (ys:=ys);have l1:=h1.length;have l2:=h2.length;rw[show min xs.length ys.length=its.length by lia,show (xs.length==ys.length)=true by simpa using (by lia),Bool.and_true] at e;rw[e];exact q
 . refine PySem.EqBoolInt.of_rcne (SeqAt.RcNeAt.lists_lengths pl.isList iq.isList (by rw[zP,zP];simpa using hl) hu) {.bl _,H,I,0,?_};have ft:xs≠ys:=fun e=>hl (by rw[h1.length,h2.length,e]);rw[zS ft] at q;exact q
noncomputable def SQ (scope:Scope)(yc:Str)(cl:List (Str×Addr))(C:Addr)(env:Env):Env:=
 { scope:=relabel scope env,locals:=C,globals:=env.globals,cells:=(yc,C+1)::cl,qual:=env.qual,func:=none,code:=env.code,frame:=env.frame,builtins:=env.builtins }
theorem aj (hcf:∀n acc,cellsFrom n scope.names acc=(yc,n)::acc)
 (hQ:∀h':Heap,h'.Ns s.heap.objs.size (fun _=>none)->(∀b o,s.heap.get? b=some o->h'.get? b=some o)->h'.IsCell (s.heap.objs.size+1) none ->
  Q (newEnv scope s.heap.objs.size globals ((yc,s.heap.objs.size+1)::cl) qual none .none (some env) builtinsNs) { s with heap:=h',toks:=s.toks }):
 wpAny M A (newFunctionEnv scope globals cl [] qual none .none (some env)) Q E s:=by
 simp only[newFunctionEnv,Option.isSome_some,if_true];refine zA (wpAny_alloc ?_);refine zA (wpAny_layCells _ (fun name kind cells=>by cases hkc:kind==NameKind.cell <;> simp[hkc]) _ _ _ _ ?_);have ok:=cellsFrom_ok scope.names (s.heap.push { cls:=.type "dict",data:=.dict #[] }) (s.heap.objs.size+1) [] {fun _ _ hm=>(nomatch hm),Jo} (by rw[Cp];exact zK _);rw[Cp] at ok;rw[show ({ s with heap:=s.heap.push { cls:=.type "dict",data:=.dict #[] } }:Shared).heap.objs.size=s.heap.objs.size+1 from Cp ..];rw[hcf] at ok ⊢;refine zA ?_;rw[List.forIn_nil];refine zE (zE ?_);exact hQ _ ((Heap.Ns.new s.heap (.type "dict")).keeps (pushCells_keeps _ _)) (fun b o e=>pushCells_keeps _ _ b o (zL _ e)) (ok.empty _ _ zX).1
noncomputable def EF (X:Cx)(pl:B6)(N':List Str)(scope:Scope)(yc:Str)(fp:List Addr)(s3:Shared)(H3:Hp):Cx where
 prog:=X.prog
 w:=X.w
 K:=X.K
 mg:=X.mg
 base:=X.base
 A:=X.A
 N:=N'
 s₀:=s3
 H₀:=H3
 env:=SQ scope yc (BW X.env.cells scope.names []) s3.heap.objs.size X.env
 outer:=X.stack
 stack:=X.stack
 ex:=fp
 fn:=fun x=>x==yc
 calm:=X.calm
 pn:=pl
 xe:=fun _ _=>False
structure Mh (X:Cx)(scope:Scope)(yc:Str):Prop where
 kind:scope.kind=.function
 cf:∀n acc,cellsFrom n scope.names acc=(yc,n)::acc
 own:scope.names.lookup yc=some .cell
 one:∀y∈scope.names,y.2=.cell->y.1=yc
 names:∀y∈scope.names,y.2=.local->scope.names.lookup y.1=some .local
 free:∀y∈scope.names,y.2=.free->X.env.kindOf y.1=some .cell
section
variable {X:Cx}{pins:B6}{σ:St}{H3:Hp}{s3:Shared}{scope:Scope}{fp:List Addr}{N' own cn:List Str}{ci:List Nat}{cv:List V}{yc:Str}
theorem PM {c:Addr}(h:((yc,n)::cl).lookup x=some c):(x=yc/\c=n)\/(x≠yc/\cl.lookup x=some c):=by
 rw[EY] at h;cases hx:x==yc with
 | true=>rw[hx] at h;cases h;exact .inl {by simpa using hx,0}
 | false=>rw[hx] at h;exact .inr {by simpa using hx,h}
theorem WT {cl:List (Str×Addr)}(h:x≠yc):((yc,n)::cl).lookup x=cl.lookup x:=by rw[EY,show (x==yc)=false by simpa using h]
theorem YH (ok:X.Ok)(S:Mh X scope yc)(h:(relabel scope X.env).names.lookup x=some .cell\/(relabel scope X.env).names.lookup x=some .free):
 ∃c,((yc,n)::BW X.env.cells scope.names []).lookup x=some c:=by
 by_cases hxy:x=yc
 . subst hxy;exact{n,by rw[EY,beq_self_eq_true]}
 rw[WT hxy];have e:(relabel scope X.env).names.lookup x=(scope.names.lookup x).map fun k=>if (k==NameKind.free && X.env.scope.kind == .function && X.env.kindOf x==some .cell)=true then NameKind.cell else k:=Ng scope.names
 have hf:scope.names.lookup x=some .free:=by
  cases q:scope.names.lookup x with
  | none=>rw[e,q] at h;simp at h
  | some k=>
   by_cases hk:k=.free
   . rw[hk]
   . have hb:(k==NameKind.free)=false:=by simpa using hk
     rw[e,q] at h;simp only[EC,hb,Bool.false_and,Hz,if_false,J7] at h;rcases h with h | h
     . exact absurd (S.one _ (PySem.mem_of_lookup q) h) hxy
     . exact absurd h hk
 exact NW (ok.has x (.inl (S.free _ (PySem.mem_of_lookup hf) rfl))) scope.names [] (PySem.mem_of_lookup hf)
theorem Mi (I:AA X pins σ H3 s3)(h:((yc,n)::BW X.env.cells scope.names []).lookup x=some c):(x=yc/\c=n)\/(x≠yc/\X.env.cells.lookup x=some c/\c<s3.heap.objs.size):=by
 rcases PM h with z | ⟨z,e⟩
 . exact .inl z
 . have e':=IL e;obtain⟨v,o,ho,_⟩:=I.cell x c e';exact .inr {z,e',zZ ho}
theorem bo (I:AA X pins σ H3 s3)(S:Mh X scope yc)(f:∀b∈fp,DB X pins H3 b)(fz:∀b∈fp,b<s3.heap.objs.size):(EF X (X.pn++pins) N' scope yc fp s3 H3).Ok where
 mod:=I.ok.mod
 kind:=S.kind
 glob:=I.ok.glob
 blt:=I.ok.blt
 above:=zK _
 inj:=fun x y c h1 h2=>by
  rcases Mi I h1 with ⟨a,b⟩ | ⟨a,b,d⟩ <;> rcases Mi I h2 with ⟨a',b'⟩ | ⟨a',b',d'⟩
  . rw[a,a']
  . rw[b] at d';exact absurd d' (Nat.not_lt.mpr (Ci _))
  . rw[b'] at d;exact absurd d (Nat.not_lt.mpr (Ci _))
  . exact I.ok.inj x y c b b'
 has:=fun x h=>YH I.ok S h
 cab:=fun x c h e=>by
  have hx:x=yc:=by simpa using (show (x==yc)=true from h)
  rcases Mi I e with ⟨_,b⟩ | ⟨a,_⟩
  . rw[b];exact Ci _
  . exact absurd hx a
 hd:=I.ok.hd
 frames:=I.ok.frames
 stk:=.inl rfl
 exf:=fun b hb=>{zi (fz b hb),fun x c h=>by
  have:=fz b hb;rcases Mi I h with ⟨_,d⟩ | ⟨_,d,_⟩
  . intro z;rw[<-z,d] at this;exact absurd this (Nat.not_lt.mpr (Ci _))
  . exact (f b hb).2.2.2.2.1 x c d}
 bs:=I.bs
 bsz:=BX I.ok.bsz I.sz
 noex:=fun b o e hb=>by
  rcases (f b hb).2.2.2.1 with z | z
  . exact I.ok.noex b o e z
  . exact absurd (zo (zZ e) (BX I.ok.bsz z)) (ER _)
 exfs:=fun b hb z=>by
  rcases zb.mp (I.stkSub b z) with q | q
  . exact (f b hb).2.1 q
  . exact (f b hb).2.2.1 q
 funs:=I.stack
 frf:=I.stkFree
theorem aI (I:AA X pins σ H3 s3)(S:Mh X scope yc)(f:∀b∈fp,DB X pins H3 b)(fz:∀b∈fp,b<s3.heap.objs.size)
 (hN:N'=own++cn)(hc:EW X scope cn ci)(hv:ci.map (fun j=>σ[j]?)=cv.map fun v=>some (some v))(hl:cn.length=ci.length)
 (gX:h1.Ns s3.heap.objs.size (fun _=>none))(hk:∀b o,s3.heap.get? b=some o->h1.get? b=some o)(jy:h1.IsCell (s3.heap.objs.size+1) none):
 AA (EF X (X.pn++pins) N' scope yc fp s3 H3) [] (List.replicate own.length none++cv.map some) H3 { s3 with heap:=h1,toks:=t }:=by
 have jh:cv.length=ci.length:=by have:=congrArg List.length hv;simpa using this.symm
 refine{bo I S f fz,0,I.bare,Un.kept hk,{_,gX,fun i x v e1 e2 e3=>?_},fun x c e=>?_,I.hok.fresh (zK _),fun x c e=>?_,fun p hp=>?_,I.hok.kept hk,?_}
 . -- a captured name
   have hi:own.length<=i:=by
    by_cases hi:own.length<=i
    . exact hi
    . rw[ze (by simpa using hi),Mg] at e2;split at e2 <;> cases e2
   rw[za (by simpa using hi),Cj,zN] at e2;have e1':(own++cn)[i]?=some x:=by rw[<-hN];exact e1
   rw[za hi] at e1';obtain⟨j,hj,hNj,hkx,jt⟩:=hc.get e1';have hcv:cv[i-own.length]?=some v:=by
    cases q:cv[i-own.length]? with
    | none=>rw[q] at e2;cases e2
    | some v'=>rw[q] at e2;cases e2;rfl
   have hσ:σ[j]?=some (some v):=by have:=congrArg (fun l:List (Option (Option V))=>l[i-own.length]?) hv;simp only[zN,hj,hcv,EC,J7] at this;exact this
   obtain⟨m,_,gO⟩:=I.loc;obtain⟨u,r,q⟩:=gO j x v hNj hσ (.inr (.inl hkx));have hkd:(relabel scope X.env).names.lookup x=some .cell\/(relabel scope X.env).names.lookup x=some .free:=by
    have e:(relabel scope X.env).names.lookup x=(scope.names.lookup x).map fun k=>if (k==NameKind.free && X.env.scope.kind == .function && X.env.kindOf x==some .cell)=true then NameKind.cell else k:=Ng scope.names
    rw[e,jt,EC];by_cases cc:(NameKind.free==NameKind.free && X.env.scope.kind == .function && X.env.kindOf x==some .cell)=true
    . rw[if_pos cc];exact .inl rfl
    . rw[if_neg cc];exact .inr rfl
   obtain⟨c',iH⟩:=YH (n:=s3.heap.objs.size+1) I.ok S hkd;have hxy:x≠yc:=fun z=>by rw[z,S.own] at jt;cases jt
   refine{u,r,.inr {hkd,c',iH,?_}};rcases q with ⟨z,_⟩ | ⟨_,c,hcc,o,ho,hd⟩
   . rw[hkx] at z;cases z
   . have e:c=c':=zV (hcc.symm.trans (IL ((WT hxy).symm.trans iH)));subst e;exact{o,hk c o ho,hd}
 . rcases Mi I e with ⟨_,d⟩ | ⟨_,d,_⟩
   . rw[d];exact{_,jy}
   . obtain⟨v,o,ho,hd⟩:=I.cell x c d;exact{v,o,hk c o ho,hd}
 . rcases Mi I e with ⟨_,d⟩ | ⟨_,d,_⟩
   . rw[d];exact I.hok.fresh (Ci _)
   . exact I.freeC x c d
 . have ij:p∈X.pn++pins:=by rw[zv] at hp;exact hp
   obtain⟨e,n,ne,nf,d⟩:=I.pin p ij;refine{hk _ _ e,n,zi (zZ e),fun z=>?_,d};rcases zb.mp (I.stkSub p.1 z) with q | q
   . exact ne q
   . exact nf q
 . show (List.replicate own.length none++cv.map some).length=N'.length;rw[hN,zH,zH,Cj,zB,jh,hl]
theorem bU (gK:X.calm=true)(S:Mh X scope yc)(hc:EW X scope cn ci)(hl:cn.length=ci.length)
 (hi:PI X target iter wi)(hg:∀pl fp s3 H3,PG (EF X pl (own++cn) scope yc fp s3 H3) target g)(ht:∀pl fp s3 H3,HV (EF X pl (own++cn) scope yc fp s3 H3) ifs ti)
 (he:∀pl fp s3 H3,PE (EF X pl (own++cn) scope yc fp s3 H3) elt te)(hs:∀x,foldedSetIterable iter X.env x=pure x)(I:AA X pins σ H s)(h:Ny own.length ci wi g ti te σ H Q)
 (fin:∀D C H5 s6 m6,AA X pins σ H5 s6->s6.heap.Ns C m6->H5 C=none->C≠X.env.locals->X.s₀.heap.objs.size<=C->(∀x c,X.env.cells.lookup x=some c->c≠C) ->
  (∀p∈X.pn++pins,p.1≠C)->Q (.ref D) H5->compPost (model X.prog X.w) X.A X.xe use Q0 (.ref D) C (.ok .next) s6):
 wpAny (model X.prog X.w) X.A (comprehension (.ListComp elt [⟨target,iter,ifs,0⟩] scope pos) scope X.env eX (newList []) false (eval iter X.env) use) Q0 X.xe s:=by
 have jy:closureFor scope X.env=pure (BW X.env.cells scope.names []):=WN fun y hy hf=>I.ok.has y.1 (.inl (S.free y hy hf));refine wpAny_comprehension_free (use:=use) rfl hs jy S.kind S.names ?_;refine AL (hi pins s σ H _ I h) fun v s1 h1=>AL h1 fun itv s2 h2=>?_;obtain⟨it,fp,tn,J,H2,e,I2,T,st2,f2,cv,hv,hD⟩:=h2;subst e;have jh:cv.length=ci.length:=by have:=congrArg List.length hv;simpa using this.symm
 have I3:=I2.lnew (ys:=[]) (its:=[]) (t':=s2.toks) .nil (zh _);obtain⟨W,⟨m0,w0⟩,turn⟩:=hD s2.heap.objs.size I2.fresh;have fz:∀b∈fp,b<s2.heap.objs.size:=fun b hb=>by obtain⟨o,ho,_⟩:=T.obj _ _ st2 b hb;exact zZ ho
 refine Cg ?_;refine aj S.cf (fun h4 jm hk4 jZ=>?_);generalize hs3:({ s2 with heap:=s2.heap.push { cls:=.type "list",dict:=none,data:=.seq ([]:List Value).toArray } }:Shared)=s3 at jm hk4 jZ ⊢;have jR:AA X pins σ (upd H2 s2.heap.objs.size (.lst [])) s3:=by rw[<-hs3];exact I3
 have hsz3:s3.heap.objs.size=s2.heap.objs.size+1:=by rw[<-hs3];exact Cp ..
 have k23:∀b o,s2.heap.get? b=some o->s3.heap.get? b=some o:=fun b o e=>by rw[<-hs3];exact zL _ e
 have k34:∀b o,s3.heap.get? b=some o->h4.get? b=some o:=hk4;have nD:∀b∈fp,b≠s2.heap.objs.size:=fun b hb=>zi (fz b hb);have f3:∀b∈fp,DB X pins (upd H2 s2.heap.objs.size (.lst [])) b:=fun b hb=>{by rw[zj (nD b hb)];exact (f2 b hb).1,(f2 b hb).2};have fz3:∀b∈fp,b<s3.heap.objs.size:=fun b hb=>by rw[hsz3];exact Ec (fz b hb)
 have I4:AA (EF X (X.pn++pins) (own++cn) scope yc fp s3 (upd H2 s2.heap.objs.size (.lst []))) [] (List.replicate own.length none++cv.map some) (upd H2 s2.heap.objs.size (.lst [])) { s3 with heap:=h4,toks:=s3.toks }:=
  aI jR S f3 fz3 rfl hc hv hl jm k34 jZ
 have st4:tn 0 h4:=T.keep _ _ _ st2 fun b hb o e=>k34 b o (k23 b o e);generalize hX:EF X (X.pn++pins) (own++cn) scope yc fp s3 (upd H2 s2.heap.objs.size (.lst []))=X' at I4;have hg':PG X' target g:=by rw[<-hX];exact hg _ _ _ _
 have ht':HV X' ifs ti:=by rw[<-hX];exact ht _ _ _ _
 have iU:PE X' elt te:=by rw[<-hX];exact he _ _ _ _
 have i4:X'.prog=X.prog:=by rw[<-hX];rfl
 have eW:X'.w=X.w:=by rw[<-hX];rfl
 have eK:X'.K=X.K:=by rw[<-hX];rfl
 have eA:X'.A=X.A:=by rw[<-hX];rfl
 have eE:X'.env=SQ scope yc (BW X.env.cells scope.names []) s3.heap.objs.size X.env:=by rw[<-hX];rfl
 have eXe:X'.xe=fun _ _=>False:=by rw[<-hX];rfl
 have eC:X'.calm=true:=by rw[<-hX];exact gK
 have eex:X'.ex=fp:=by rw[<-hX];rfl
 have epn:X'.pn=X.pn++pins:=by rw[<-hX];rfl
 have es0:X'.s₀=s3:=by rw[<-hX];rfl
 have eH0:X'.H₀=upd H2 s2.heap.objs.size (.lst []):=by rw[<-hX];rfl
 have efs:X'.fs=A2 X.stack:=by rw[<-hX];rfl
 have ok':=I4.ok;have gQ:∀{H':Hp},(∀b∈fp,H' b=none)->∀b∈fp,DB X' [] H' b:=fun hn b hb=>by
  have gY:b∈X'.ex:=by rw[eex];exact hb
  refine{hn b hb,(ok'.exf b gY).1,ok'.exfs b gY,.inl gY,(ok'.exf b gY).2,fun p hp=>?_};rw[epn,zv] at hp;exact (f2 b hb).2.2.2.2.2 p hp
 have wk:∀(σ2:St),(σ2.length=own.length+cv.length/\σ2.drop own.length=cv.map some)->∀{pl:B6}{H':Hp}{s':Shared},AA X' pl σ2 H' s'->AA X' pl (List.replicate own.length none++cv.map some) H' s':=fun σ2 hq pl H' s' I'=>by
  refine I'.weak (by rw[hq.1,zH,Cj,zB]) fun i v hi=>?_;by_cases eU:i<own.length
  . rw[ze (by simpa using eU),Mg] at hi;split at hi <;> cases hi
  . rw[za (by simpa using eU),Cj,<-hq.2,List.getElem?_drop] at hi;rw[show own.length+(i-own.length)=i by lia] at hi;exact hi
 have loop:codeAny (model X.prog X.w) X.A (.compLoop (.ListComp elt [⟨target,iter,ifs,0⟩] scope pos) 0 (.ref it) (.ref s2.heap.objs.size) (SQ scope yc (BW X.env.cells scope.names []) s3.heap.objs.size X.env))
  (compPost (model X.prog X.w) X.A X.xe use Q0 (.ref s2.heap.objs.size) s3.heap.objs.size) { s3 with heap:=h4,toks:=s3.toks }:=by
  refine Wb (fun n s'=>∃i ys H',AA X' [] (List.replicate own.length none++cv.map some) H' s'/\tn i s'.heap/\(∀b∈fp,H' b=none)/\W i n ys H') ?_ m0
   ⟨0,[],_,I4,st4,fun b hb=>(f3 b hb).1,w0⟩
  rintro n s5 ⟨i,ys,H5,I5,jT,fr5,w5⟩;rcases turn i n ys H5 w5 with ⟨stop,qn⟩ | ⟨go,hsz,N,hN,step⟩
  . have d:=T.done X' i4 eW eK eC i [] s5 _ H5 (fun _ _=>False) I5 (gQ fr5) jT stop;rw[eA] at d;refine AL d fun r s6 ⟨hr,I6⟩=>?_;subst hr;obtain⟨m6,hn6,_⟩:=I6.loc;rw[eE] at hn6;have hn6':s6.heap.Ns s3.heap.objs.size m6:=hn6;have un6:Un (A2 X.stack) fp (upd H2 s2.heap.objs.size (.lst [])) H5 s3.heap s6.heap:=by have b6:=I6.base;rw[efs,eex,eH0,es0] at b6;exact b6
    have os6:s6.os=s3.os:=by have o6:=I6.os;rw[es0] at o6;exact o6
    have hok6:Ap X.prog X.w H5 s6.heap:=by have o6:=I6.hok;rw[i4,eW] at o6;exact o6
    have I7:AA X pins σ H5 s6:=jR.call' (ch:=fp) os6 un6 hok6 I6.bare fun b hb=>{(f2 b hb).2.2.2.1,(f2 b hb).2.1,(f2 b hb).2.2.2.2.1,(f2 b hb).2.2.2.2.2};have fr6:H5 s3.heap.objs.size=none:=by have q:=I6.free;rw[eE] at q;exact q
    refine fin s2.heap.objs.size s3.heap.objs.size H5 s6 m6 I7 hn6' fr6 (Nat.ne_of_gt jR.lt) jR.sz (fun x c e=>?_) (fun p hp=>?_) qn
    . obtain⟨_,o,ho,_⟩:=jR.cell x c e;exact zi (zZ ho)
    . exact zi (zZ (jR.pin p hp).1)
  . have d:=T.item X' i4 eW eK eC i [] s5 _ H5 (fun _ _=>False) I5 (gQ fr5) jT go;rw[eA] at d;refine AL d fun r s6 ⟨u,hr,h6⟩=>?_;subst hr;refine AL h6 fun _ s7 ⟨x,H7,I7,r7,y7,st7,fr7⟩=>?_;have I7':=I7.pinned (gQ fr7) (T.obj _ _ st7);have g7:=hg' _ s7 _ H7 x u _ I7' r7 (step x H7 y7);rw[i4,eW,eA,eE,eXe] at g7;refine AL g7 fun _ s8 ⟨σ8,H8,I8,q8,ti8⟩=>?_;have t8:=ht' _ s8 σ8 H8 _ I8 ti8;rw[i4,eW,eA,eE,eXe] at t8;refine AL t8 fun ok s9 ⟨H9,I9,q9⟩=>?_;have again:∀{iZ:List V}{H':Hp}{s':Shared},AA X' ([]++Mo fp s7.heap) σ8 H' s'->N iZ H' ->
     ∃m,m<n/\∃i ys H',AA X' [] (List.replicate own.length none++cv.map some) H' s'/\tn i s'.heap/\(∀b∈fp,H' b=none)/\W i m ys H':=fun {iZ H' s'} I' n'=>by
     obtain⟨m',hm,w'⟩:=hN iZ H' n';refine{m',hm,i+1,iZ,H',(wk σ8 q8 I').unpinned,T.keep _ _ _ st7 fun b hb o e=>(I'.pin (b,o) (zn _ (zn _ (Mq hb e)))).1,fun b hb=>?_,w'};obtain⟨o,e,_⟩:=T.obj _ _ st7 b hb;exact (I'.pin (b,o) (zn _ (zn _ (Mq hb e)))).2.1
    cases ok with
    | false=>exact again I9 q9
    | true=>have e9:=iU _ s9 σ8 H9 _ I9 q9;rw[i4,eW,eA,eE,eXe] at e9;refine AL e9 fun u10 iE ⟨y,H10,i5,r10,jQ,n10⟩=>?_;have a10:=Eg (X:=X') _ iE σ8 H10 (.ref s2.heap.objs.size) [y] (.ref s2.heap.objs.size) [u10] (fun _ H'=>N (ys++[y]) H') i5 rfl (.cons r10 .nil) {8,jQ,hsz,n10};rw[i4,eW,eA,eXe] at a10;exact AL a10 fun _ s11 ⟨_,H11,I11,_,n11⟩=>again I11 n11
 exact codeAny_compStart_list loop (T.self X.A 0 _ _ _ st4 loop)
theorem Xg (hN:X.N.Nodup)(hix:X.N[i]?=some x)(hx:GK X.env.scope x)(gK:X.calm=true)(S:Mh X scope yc)(hc:EW X scope cn ci)(hl:cn.length=ci.length)
 (hi:PI X target iter wi)(hg:∀pl fp s3 H3,PG (EF X pl (own++cn) scope yc fp s3 H3) target g)(ht:∀pl fp s3 H3,HV (EF X pl (own++cn) scope yc fp s3 H3) ifs ti)
 (he:∀pl fp s3 H3,PE (EF X pl (own++cn) scope yc fp s3 H3) elt te)(hs:∀x,foldedSetIterable iter X.env x=pure x:=by intro _;rfl)
 (hsw:swapsWith (.ListComp elt [⟨target,iter,ifs,0⟩] scope eX) (some (.Name x pos')) pos.line X.env=pure true:=by rfl)
 (hf:X.fn x=true\/X.env.scope.names.lookup x=some .local:=by first | exact .inl rfl | exact .inr rfl | assumption):
 PS X (.Assign [.Name x pos'] (.ListComp elt [⟨target,iter,ifs,0⟩] scope eX) pos) (E9 (Ny own.length ci wi g ti te) (Jb i)):=by
 intro pins s σ H D I h;rw[exec_Assign_Name_used _ _ _ _ hsw];refine zA (wpAny_standAt (zA ?_));show wpAny _ X.A (do let _ <-comprehension (.ListComp elt [⟨target,iter,ifs,0⟩] scope eX) scope X.env _ (newList []) false (eval iter X.env) (some (assign (.Name x pos') X.env))) _ _ s
 refine zA (BE (bU (use:=some (assign (.Name x pos') X.env)) (Q0:=fun _ s'=>SP X pins D .next s') gK S hc hl hi hg ht he hs I h (fun D' C H5 s6 m6 I7 hn fr nL ge nC nP q=>?_)) (fun _ s' hq=>zE (zE hq)) fun _ _ e=>e);obtain⟨oC,es,ep,hoC,hd,r1⟩:=hn;have nf:C∉X.fs:=fun hb=>by obtain⟨_,o,ho,_⟩:=I7.ok.funs.mem hb;exact absurd (zo (zZ ho) ge) (ER _)
 have I7':AA X (pins++[(C,oC)]) σ H5 s6:=I7.pins_of fun p hp=>by
  rcases zg.mp hp with z | z
  . exact I7.pin p (zn _ z)
  . rw[zl.mp z];exact{hoC,fr,nL,nf,fun v e=>by rw[hd] at e;cases e}
 show wpAny _ X.A (assign (.Name x pos') X.env (.ref D')) _ _ s6;refine wpAny_assign_Name (Jd I7' hN hix hx (show AS (.ref D') (.ref D') from rfl) (fun s' I'=>?_) hf);have hC':=(I'.pin (C,oC) (zn _ (zn _ (zl.mpr rfl)))).1;refine{m6,⟨oC,es,ep,hC',hd,r1⟩,fun h' ig=>{_,H5,?_,q}};have I2:AA X pins (σ.set i (some (.ref D'))) H5 s':=I'.pins_of fun p hp=>I'.pin p (zn _ (DP _ hp));exact I2.turned (t':=s'.toks) (it:=C) (fun b o hb e=>ig.extBut b o hb e) fr nL (.inr ge) nC nP
end
noncomputable def Lf (outer inner:Scope)(yc:Str):Bool:=inner.names.all fun y=>(y.2 != .cell || y.1==yc) && (y.2 != .local || inner.names.lookup y.1==some .local) && (y.2 != .free || outer.names.lookup y.1==some .cell)
theorem PJ (hk:scope.kind=.function)(hcf:∀n acc,cellsFrom n scope.names acc=(yc,n)::acc)(ho:scope.names.lookup yc=some .cell)(h:Lf X.env.scope scope yc=true):Mh X scope yc:=by
 have a:=J8.mp h;refine{hk,hcf,ho,fun y hy e=>?_,fun y hy e=>?_,fun y hy e=>?_}
 . have:=a y hy;rw[e] at this;simpa using this
 . have:=a y hy;rw[e] at this;simpa using this
 . have:=a y hy;rw[e] at this;have h2:X.env.scope.names.lookup y.1=some .cell:=by simpa using this
   exact h2
def cY (ta:TA):TE:=fun σ H Q=>ta σ H fun vs H1=>∃j:Int,vs=[.int j]/\0<=j/\j<=1000/\∀l,H1 l=none->Q (.ref l) (upd H1 l (.lst ((WM.lowTo j.toNat).map V.int)))
theorem Z6:∀vs(n:Nat),vs.length=n->(∀(j:Nat)v,vs[j]?=some v->∃t,v=.int (0+(j:Int)*1) t)->AO ((WM.lowTo n).map V.int) vs:=by
 have key:∀(vs:List Value)(a:Nat),(∀(j:Nat)(v:Value),vs[j]?=some v->∃t,v=.int ((a+j:Nat):Int) t)->AO ((List.range' a vs.length).map fun (i:Nat)=>V.int (i:Int)) vs:=by
  intro vs
  induction vs with
  | nil=>intro _ _;exact .nil
  | cons v r ih=>intro a h;obtain⟨t,ht⟩:=h 0 v rfl;rw[zk,List.range'_succ,Cn];refine .cons {t,by rw[ht];rfl} (ih (a+1) fun j u hj=>?_);obtain⟨t',ht'⟩:=h (j+1) u hj;exact{t',by rw[ht'];congr 1;lia}
 intro vs n e h;subst e;have:=key vs 0 fun j v hj=>by obtain⟨t,ht⟩:=h j v hj;exact{t,by rw[ht];congr 1;lia}
 unfold WM.lowTo;rw[List.map_map,List.range_eq_range'];exact this
theorem XD (hc:X.calm=true)(hgL:Gl X "list") (hmL:X.mg "list"=none) (hgR:Gl X "range") (hmR:X.mg "range"=none) (ha:PA X [a] ta)(hs:starEach [a] X.env=[(false,eval a X.env)]:=by rfl)
 (he:starEach [.Call (.Name "range" p2) [a] [] pos2] X.env=[(false,eval (.Call (.Name "range" p2) [a] [] pos2) X.env)]:=by rfl):PE X (.Call (.Name "list" p1) [.Call (.Name "range" p2) [a] [] pos2] [] pos1) (cY ta):=by
 intro pins s σ H Q I h;refine IE (Em I hgL hmL (by decide +kernel:bootBuiltins "list"=some (.type "list")) ?_ (by decide) (by decide));refine PyProof.Rows.callWith_type1 ?_ he rfl;rw[he];refine Calls.spliced_cons ?_;refine Call_ (Em I hgR hmR boot_range (PyProof.Rows.callWith_type1 (AL (ha pos2 pins s σ H _ I h) fun us s1 ⟨vs,H1,I1,r1,q1⟩=>?_) hs rfl));obtain⟨j,e,h0,h1,q⟩:=q1;subst e;cases r1 with
 | cons r rr=>
  cases rr;obtain⟨t,rfl⟩:=r;refine call_range_1 ?_;refine Calls.spliced_nil ?_;have hz:Builtin.Range.rangeSize 0 j 1=(j.toNat:Int):=by rw[rangeSize_one];split <;> lia
  refine call_list_range (I.ok.hd hc) (IsRange.new ..) (small_one (by lia) (by lia) (by lia) (by lia)) hz (by lia) fun h' tk acc c' kp hD hI=>?_;have kp1:∀b o,s1.heap.get? b=some o->h'.get? b=some o:=fun b o e=>kp b o (zL _ e);have rv:AO ((WM.lowTo j.toNat).map V.int) acc.toList:=Z6 acc.toList _ (by rw[Array.length_toList];exact hI.1) fun i v hi=>hI.2 i v (by rw[<-hi,Array.getElem?_toList]);have hsz:s1.heap.objs.size<=(s1.heap.push { cls:=.type "range",data:=.fields #[.int 0 s1.toks,.int j t,.int 1 (s1.toks+1)] }).objs.size:=by rw[Cp];exact Ci _
  refine{.ref _,_,I1.laid (t':=tk) kp1 hsz (show Ax X.prog X.w _ h' _ (.lst ((WM.lowTo j.toNat).map V.int)) from {?_,acc.toList,c',rv,by rw[Array.toArray_toList];exact hD}),0,q _ (I1.hok.fresh hsz)};rw[zB,WM.lowTo,zB,DG];have:sizeLine=16777216:=rfl
  lia
inductive Pt (K:AK)(xs:List V)(H:Hp)(Q:VK):Prop
 | mk:∀(p:Addr)(ns:List Int),(xs=[.ref p])->(AD K H p (ns.map V.int))->(ns.length<64)->(∀(l:Addr)(ms:List Int),H l=none->ms.Perm ns->ms.Pairwise (· <= ·)->Q (.ref l) (upd H l (.lst (ms.map V.int))))->Pt K xs H Q
theorem RO:CH X (.builtin "sorted") (Pt X.K):=by
 intro pins s σ H xs us Q I r h;obtain⟨p,ns,rfl,hq,ik,q⟩:=h;obtain⟨u,rfl,rx⟩:=DF r;cases rx;obtain⟨its,r',pl,hz⟩:=I.list hq;have hI:IntsAre its ns:=DH r';have hl:=hI.length;refine SortT.sorted_list (O:=Hj) (key:=fun i=>ns.getD i 0) (κ:=oneType') pl.isList (by lia) (fun h2 s' a fa kp=>Wh hI h2) fun D h' out c pt hD kp ho=>?_;obtain⟨ms,hp,hr,rz,hlz⟩:=Wx hI pt;refine{.ref D,_,Qn (t':=s.toks) I hD kp ho rz ?_,0,q D ms (I.hok.fresh hD) hp hr};have:sizeLine=16777216:=rfl;rw[zB]
 lia
def VB (K:AK):R2:=fun x y H Q=>∃a b xs,x=.ref a/\y=.ref b/\AD K H a xs/\AD K H b []/\Q (.bl (!xs.isEmpty)) H
def Uk (K:AK):R2:=fun x y H Q=>∃a b xs,x=.ref a/\y=.ref b/\AD K H a xs/\AD K H b []/\Q (.bl xs.isEmpty) H
theorem Qj (hu:X.A.units<cLine):A1 X (compareOp .NotEq) (VB X.K):=by
 intro pins s σ H x y v u Q I rx ry h;obtain⟨a,b,xs,rfl,rfl,ha,hb,q⟩:=h;cases rx;cases ry;obtain⟨its,r,pl,hz⟩:=I.list ha;obtain⟨fZ,r2,iq,hz2⟩:=I.list hb;have l1:=r.length;have l2:=r2.length;cases xs with
 | nil=>refine PySem.EqBoolInt.of_rcne (SeqAt.RcNeAt.lists (e:=fun _=>true) pl.isList iq.isList (by rw[zP,zP,<-l1,<-l2]) hu (fun j a b=>absurd a (by rw[zP,<-l1];exact Ce _))) {.bl _,H,I,0,?_};rw[zP,<-l1];exact q
 | cons x xs=>refine PySem.EqBoolInt.of_rcne (SeqAt.RcNeAt.lists_lengths pl.isList iq.isList (by rw[zP,zP,<-l1,<-l2];rfl) hu) {.bl _,H,I,0,?_};exact q
theorem SO (hu:X.A.units<cLine):A1 X (compareOp .Eq) (Uk X.K):=by
 intro pins s σ H x y v u Q I rx ry h;obtain⟨a,b,xs,rfl,rfl,ha,hb,q⟩:=h;cases rx;cases ry;obtain⟨its,r,pl,hz⟩:=I.list ha;obtain⟨fZ,r2,iq,hz2⟩:=I.list hb;have l1:=r.length;have l2:=r2.length;cases xs with
 | nil=>refine SeqAt.eq_listAt (e:=fun _=>true) pl.isList iq.isList (by rw[zP,zP,<-l1,<-l2]) hu (fun j a b=>absurd a (by rw[zP,<-l1];exact Ce _)) {.bl _,H,I,0,?_};rw[zP,<-l1];exact q
 | cons x xs=>refine SeqAt.eq_list_lengthsAt pl.isList iq.isList (by rw[zP,zP,<-l1,<-l2];rfl) hu {.bl _,H,I,0,?_};exact q
end L2
namespace L2
open PySem PyProof.Rows
def Kp (s0:Shared)(h:Heap):Prop:=∀b o,s0.heap.get? b=some o->h.get? b=some o
structure JC (prog:Program)(w:World)(A:Around)(s0:Shared)(I:Addr)(its:List Value)(itAt:Nat->Heap->Prop):Prop where
 stay:∀j h h',itAt j h->h'.get? I=h.get? I->itAt j h'
 next:∀(j:Nat)(h:Heap)(tk:Nat)(v:Value)(Q:Option Value->Shared->Prop)(E:B8),Kp s0 h->itAt j h->its[j]?=some v ->
  (∀h',itAt (j+1) h'->(∀b,b≠I->h'.get? b=h.get? b)->Q (some v) { s0 with heap:=h',toks:=tk })->wpAny (model prog w) A (pyNext (.ref I)) Q E { s0 with heap:=h,toks:=tk }
 fin:∀(j:Nat)(h:Heap)(tk:Nat)(Q:Option Value->Shared->Prop)(E:B8),Kp s0 h->itAt j h->its[j]?=none ->
  (∀h',(∀b o,b≠I->h.get? b=some o->h'.get? b=some o)->Q none { s0 with heap:=h',toks:=tk })->wpAny (model prog w) A (pyNext (.ref I)) Q E { s0 with heap:=h,toks:=tk }
theorem Kp.upd (K:Kp s0 h)(hS:s0.heap.objs.size<=S):Kp s0 (h.update S f):=fun b o e=>by rw[Heap.get?_update_ne _ _ _ _ (zi (zo (zZ e) hS))];exact K b o e
theorem Kp.but (K:Kp s0 h)(hI:s0.heap.objs.size<=I)(k:∀b o,b≠I->h.get? b=some o->h'.get? b=some o):Kp s0 h':=fun b o e=>
 k b o (zi (zo (zZ e) hI)) (K b o e)
theorem E4:0<=sizeLine:=by decide
theorem MR:1<=sizeLine:=by decide
theorem Al:2<=sizeLine:=by decide
theorem GV:3<=sizeLine:=by decide
theorem VN:4<=sizeLine:=by decide
theorem Yq:5<=sizeLine:=by decide
theorem Yl:6<=sizeLine:=by decide
theorem cE (M:JC prog w A.in1 s0 I its itAt)(bt:Nat->Nat->Bool)(hS:s0.heap.objs.size<=S)(hI:s0.heap.objs.size<=I)(hSI:S≠I)
 (cmp:∀i j vi vj h tk Q E,Kp s0 h->its[i]?=some vi->its[j]?=some vj->Q (.bool (bt i j)) { s0 with heap:=h,toks:=tk }->wpAny (model prog w) A.in1 (richCompare .Lt vi vj) Q E { s0 with heap:=h,toks:=tk })
 (hR:∀v h tk,its[argBest bt (its.length-1)]?=some v->Kp s0 h->R (.ok (.ret v)) { s0 with heap:=h,toks:=tk })
 : ∀r j h tk vb c,its.length-(j+1)=r->j+1<=its.length->Kp s0 h->itAt (j+1) h->its[argBest bt j]?=some vb ->
  h.get? S=some { cls:=.type "list",data:=.seq #[vb,vb] c }->codeAny (model prog w) A (.builtin "min.loop" { pos:=[.ref I,.none,.ref S],kw:=kw }) R { s0 with heap:=h,toks:=tk }:=by
 intro r
 induction r with
 | zero=>intro j h tk vb c hr hj K hit hv hSo;refine codeAny_builtin PySem.F.entry_min_loop ?_;unfold Builtin.«min.loop»;refine zA (Di hSo rfl ?_);dsimp only;refine zA (wpAny_tryCatch (M.fin (j+1) h tk _ _ K hit (Cu (by lia)) fun h' k=>?_));have gP:=k S _ hSI hSo;refine zA (Hq gP rfl (zA (wpAny_letGo (zE ?_))) Al (by show 0<=sizeLine+1;decide));refine hR vb _ tk ?_ ((K.but hI k).upd hS);rw[show its.length-1=j by lia];exact hv
 | succ r ih=>
  intro j h tk vb c hr hj K hit hv hSo;obtain⟨x,hx⟩:∃x,its[j+1]?=some x:={_,zD (by lia)};refine codeAny_builtin PySem.F.entry_min_loop ?_;unfold Builtin.«min.loop»;refine zA (Di hSo rfl ?_);dsimp only;refine zA (wpAny_tryCatch (M.next (j+1) h tk x _ _ K hit hx fun h' gM k=>?_));have K':Kp s0 h':=K.but hI fun b o hb e=>by rw[k b hb];exact e
  have gP:h'.get? S=some { cls:=.type "list",data:=.seq #[vb,vb] c }:=by rw[k S hSI];exact hSo
  refine zA (zE ?_);refine zA (wpAny_tryCatch (BD (zA (cmp (j+1) (argBest bt j) x vb h' tk _ _ K' hx hv ?_))));refine zA (BD (Gw (zA (wpAny_letGo (zE ?_)))));have eb:argBest bt (j+1)=if bt (j+1) (argBest bt j)=true then j+1 else argBest bt j:=argBest.eq_2 bt j
  cases e:bt (j+1) (argBest bt j) with
  | true=>rw[if_pos e] at eb;refine zA (Hq gP rfl (zA (wpAny_letGo (zE {0,?_}))) Al (by show 2<=sizeLine+1;decide));exact ih (j+1) _ tk x c (by lia) (by lia) (K'.upd hS) (M.stay _ _ _ gM (Heap.get?_update_ne _ _ _ _ (Ne.symm hSI))) (by rw[eb];exact hx) (Ck _ gP rfl)
  | false=>rw[e,if_neg (by decide)] at eb;refine zA (wpAny_letGo (zE {0,?_}));exact ih (j+1) h' tk vb c (by lia) (by lia) K' gM (by rw[eb];exact hv) gP
theorem V6 (M:JC prog w A.in1 s0 I its itAt)(bt:Nat->Nat->Bool)(hS:s0.heap.objs.size<=S)(hI:s0.heap.objs.size<=I)(hSI:S≠I)
 (cmp:∀i j vi vj h tk Q E,Kp s0 h->its[i]?=some vi->its[j]?=some vj->Q (.bool (bt i j)) { s0 with heap:=h,toks:=tk }->wpAny (model prog w) A.in1 (richCompare .Lt vi vj) Q E { s0 with heap:=h,toks:=tk })
 (hR:∀v h tk,its[argBest bt (its.length-1)]?=some v->Kp s0 h->R (.ok (.ret v)) { s0 with heap:=h,toks:=tk })
 (h0:its=[]->∀h tk,Kp s0 h->R (.ok (.ret d)) { s0 with heap:=h,toks:=tk })
 (h)(tk)(c)(K:Kp s0 h)(hit:itAt 0 h)(hSo:h.get? S=some { cls:=.type "list",data:=.seq #[] c }):
 codeAny (model prog w) A (.builtin "min.loop" { pos:=[.ref I,.none,.ref S],kw:=[(Str.ofString "default",d)] }) R { s0 with heap:=h,toks:=tk }:=by
 refine codeAny_builtin PySem.F.entry_min_loop ?_;unfold Builtin.«min.loop»;refine zA (Di hSo rfl ?_);dsimp only;cases e:its with
 | nil=>subst e;refine zA (wpAny_tryCatch (M.fin 0 h tk _ _ K hit rfl fun h' k=>?_));exact zA (DR (zE (h0 rfl h' tk (K.but hI k))))
 | cons x xs=>
  have hx:its[0]?=some x:=by rw[e];rfl
  refine zA (wpAny_tryCatch (M.next 0 h tk x _ _ K hit hx fun h' gM k=>?_));have K':Kp s0 h':=K.but hI fun b o hb e=>by rw[k b hb];exact e
  have gP:h'.get? S=some { cls:=.type "list",data:=.seq #[] c }:=by rw[k S hSI];exact hSo
  refine zA (zE ?_);refine zA (Hq gP rfl (zE {0,?_}) E4 (by show 2<=sizeLine+1;decide));refine cE M bt hS hI hSI cmp hR (its.length-1) 0 _ tk x (c+1) rfl (by rw[e];simp) (K'.upd hS) (M.stay _ _ _ gM (Heap.get?_update_ne _ _ _ _ (Ne.symm hSI))) hx (Ck _ gP rfl)
theorem wpAny_of_eq (e:m=m')(h:wpAny M A m' Q E s):wpAny M A m Q E s:=by subst e;exact h
theorem V4 {O:KeyOrd}(ky:Nat->O.α):∀k,argBest (fun i j=>O.blt (ky i) (ky j)) k<=k/\∀j,j<=k->O.blt (ky j) (ky (argBest (fun i j=>O.blt (ky i) (ky j)) k))=false
 | 0=>{zK _,fun j hj=>by obtain rfl:j=0:=(by lia);exact O.irrefl _}
 | k+1=>by
  obtain⟨h1,h2⟩:=V4 ky k;rw[argBest.eq_2];cases e:O.blt (ky (k+1)) (ky (argBest (fun i j=>O.blt (ky i) (ky j)) k)) with
  | true=>
   rw[if_pos rfl];refine{zK _,fun j hj=>?_};by_cases c:j=k+1
   . subst c;exact O.irrefl _
   . cases e2:O.blt (ky j) (ky (k+1)) with
     | false=>rfl
     | true=>rw[<-h2 j (by lia)];exact (O.trans _ _ _ e2 e).symm
  | false=>
   rw[if_neg (by decide)];refine{by lia,fun j hj=>?_};by_cases c:j=k+1
   . subst c;exact e
   . exact h2 j (by lia)
theorem Xf (hA:A.handled=none)(bt:Nat->Nat->Bool)(hp:s.heap.IsList p its.toArray\/s.heap.IsTuple p its.toArray)
 (cmp:∀i j vi vj h tk Q E,Kp s h->its[i]?=some vi->its[j]?=some vj->Q (.bool (bt i j)) { s with heap:=h,toks:=tk }->wpAny (model prog w) A.in1 (richCompare .Lt vi vj) Q E { s with heap:=h,toks:=tk })
 (hR:∀v h tk,its[argBest bt (its.length-1)]?=some v->Kp s h->Q v { s with heap:=h,toks:=tk })
 (h0:its=[]->∀h tk,Kp s h->Q d { s with heap:=h,toks:=tk }):
 wpAny (model prog w) A (call (.builtin "min") [.ref p] [(Str.ofString "default",d)]) Q E s:=by
 refine C9 (codeAny_call_builtin PySem.F.plain_min PySem.F.entry_min (wpAny_of_eq (show checkBuiltinCall "min" { pos:=[.ref p],kw:=[(Str.ofString "default",d)] }=pure () from rfl) (zE ?_)));unfold Builtin.min;refine zA (wpAny_of_eq (show Builtin.Builtins.bindParams "min" ["key", "default"] 0 { kw:=[(Str.ofString "default",d)] }=pure [none,some d] from rfl) (zE ?_));dsimp only;refine zA (zE ?_);have kp0:∀(o1 o2:Obj),Kp s ((s.heap.push o1).push o2):=fun o1 o2 b o e=>zL _ (zL _ e);rcases hp with hp | hp
 . refine zA (wpAny_pyIter_list hp (zA (wpAny_newList (zE {0,?_}) E4)));have hSe:(s.heap.push { cls:=.type "list_iterator",data:=.fields #[.ref p,.int 0 0] }).objs.size=s.heap.objs.size+1:=Cp ..;rw[hSe];refine V6 (s0:=s) (I:=s.heap.objs.size) (S:=s.heap.objs.size+1) (itAt:=fun j h=>h.IsListIter s.heap.objs.size p j) {fun j h h' a e=>?_,fun j h tk v Q E K hit hv q=>?_,fun j h tk Q E K hit hv q=>?_} bt (Ci _) (zK _) (Nat.succ_ne_self _) cmp hR h0 _ s.toks 0 (kp0 _ _) ?_ ?_
   . obtain⟨o,ho,hc⟩:=a;exact{o,by rw[e];exact ho,hc}
   . obtain⟨o,ho,hc⟩:=hp;exact wpAny_pyNext_list_item hit {o,K _ _ ho,hc} (by rw[DQ];exact hv) fun h' a b=>q h' a fun c hc=>b.2 c hc
   . obtain⟨o,ho,hc⟩:=hp;exact wpAny_pyNext_list_end hA hit {o,K _ _ ho,hc} (by rw[DQ];exact hv) fun h' b=>q h' b
   . exact{_,zL _ (zU _ rfl),3}
   . rw[<-hSe];exact zU _ rfl
 . refine zA (wpAny_pyIter_tuple hp (zA (wpAny_newList (zE {0,?_}) E4)));have hSe:(s.heap.push { cls:=.type "tuple_iterator",data:=.fields #[.ref p,.int 0 0] }).objs.size=s.heap.objs.size+1:=Cp ..;rw[hSe];refine V6 (s0:=s) (I:=s.heap.objs.size) (S:=s.heap.objs.size+1) (itAt:=fun j h=>h.IsTupleIter s.heap.objs.size p j) {fun j h h' a e=>?_,fun j h tk v Q E K hit hv q=>?_,fun j h tk Q E K hit hv q=>?_} bt (Ci _) (zK _) (Nat.succ_ne_self _) cmp hR h0 _ s.toks 0 (kp0 _ _) ?_ ?_
   . obtain⟨o,ho,hc⟩:=a;exact{o,by rw[e];exact ho,hc}
   . obtain⟨o,ho,hc⟩:=hp;exact wpAny_pyNext_tuple_item hit {o,K _ _ ho,hc} (by rw[DQ];exact hv) fun h' a b=>q h' a fun c hc=>b.2 c hc
   . obtain⟨o,ho,hc⟩:=hp;exact wpAny_pyNext_tuple_end hA hit {o,K _ _ ho,hc} (by rw[DQ];exact hv) fun h' b=>q h' b
   . exact{_,zL _ (zU _ rfl),3}
   . rw[<-hSe];exact zU _ rfl
def Oc (K:AK)(x dv:V)(H:Hp)(Q:VK):Prop:=∃p ys,x=.ref p/\(AD K H p ys\/AB K H p ys)/\(ys=[]->Q dv H) /\
 ((∃ks,Ao H ys ks/\∀(i:Nat)y(k:List Int),ys[i]?=some y->ks[i]?=some k->(∀k'∈ks,HT.lexLt k' k=false)->Q y H)\/(∃ns:List Int,ys=ns.map V.int/\∀n∈ns,(∀m∈ns,n<=m)->Q (.int n) H))
def OP (K:AK)(t:TA)(td:TE):TE:=fun σ H Q=>t σ H fun vs H1=>∃x,vs=[x]/\td σ H1 fun dv H2=>Oc K x dv H2 Q
theorem X4 (hc:X.calm=true)(hu:X.A.units+1<cLine)(hg:Gl X "min") (hm:X.mg "min"=none) (he:PA X [e] t)(hd:PE X de td)
 (hs1:backTo pos (starEach [e] X.env)=(false,eval e X.env)::backTo pos (starEach [] X.env):=by rfl)(jI:(backTo pos (starEach [e] X.env)).any (·.1)=false:=by rfl):
 PE X (.Call (.Name "min" np) [e] [{some "default",de,kpos}] pos) (OP X.K t td):=by
 intro pins s σ H Q I h;refine IE (Em I hg hm (by decide +kernel:bootBuiltins "min"=some (.builtin "min")) ?_);refine PyProof.Rows.callWith_kw (AL (he pos pins s σ H _ I h) fun us s1 ⟨vs,H1,I1,r,q1⟩=>?_) hs1 jI;obtain⟨x,rfl,q1⟩:=q1;obtain⟨u,rfl,rx⟩:=DF r;show wpAny _ _ (evalAll ((do let v <-eval de X.env;standAt pos;pure v)::[])) _ _ s1
 refine wpAny_evalAll_cons (zA (AL (hd pins s1 σ H1 _ I1 q1) fun ud s2 ⟨dv,H2,I2,rd,q2⟩=>zA (wpAny_standAt (zE (wpAny_evalAll_nil ?_)))));show wpAny _ _ (call (.builtin "min") [u] [(Str.ofString "default",ud)]) _ _ s2;obtain⟨p,ys,rfl,hp,q0,hk⟩:=q2;cases rx;obtain⟨its,rv,jJ⟩:∃its:List Value,AO ys its/\(s2.heap.IsList p its.toArray\/s2.heap.IsTuple p its.toArray):=by
  rcases hp with hp | hp
  . obtain⟨its,r',pl,_⟩:=I2.list hp;exact{its,r',.inl pl.isList}
  . obtain⟨its,r',pl,_⟩:=I2.tuple hp;exact{its,r',.inr pl}
 have hlen:=rv.length;have e0:its=[]->ys=[]:=fun z=>Hk.mp (by rw[hlen,z];rfl);rcases hk with ⟨ks,T,q⟩ | ⟨ns,rfl,q⟩
 . have hl:=T.length;refine Xf (I2.ok.hd hc) (fun i j=>Gr.blt (ks.getD i []) (ks.getD j [])) jJ (fun i j vi vj h tk Q E K hi hj q=>?_) (fun v h tk hv K=>?_) (fun z h tk K=>{dv,H2,I2.kept K,rd,q0 (e0 z)})
   . have look:∀(i:Nat)(v:Value),its[i]?=some v->∃(p:Addr)(k:List Int)(us:List Value),v=.ref p/\ks[i]?=some k/\IntsAre us k/\IsTup h p us.toArray:=fun i v hv=>by
      have hi:i<ys.length:=by have:=(zG.mp hv).1;lia
      obtain⟨p,k,e1,e2,e3,_⟩:=T.get (i:=i) (x:=ys[i]) (by simp[hi]);obtain⟨u,hu,ru⟩:=rv.get (i:=i) (x:=ys[i]) (by simp[hi]);rw[hv] at hu;cases hu;rw[e1] at ru;cases (show v=Value.ref p from ru);obtain⟨_,us,rv',o,ho,hc⟩:=I2.hok p _ e3;exact{p,k,us,0,e2,DH rv',o,K _ _ ho,hc}
     obtain⟨p1,k1,us1,rfl,g1,i1,t1⟩:=look i vi hi;obtain⟨p2,k2,us2,rfl,g2,i2,t2⟩:=look j vj hj;refine HT.lt_tupInts (ns:=k1) (ms:=k2) t1 t2 i1 i2 hu ?_;have:Gr.blt (ks.getD i []) (ks.getD j [])=HT.lexLt k1 k2:=by rw[zJ,zJ,g1,g2];rfl
     rw[<-this];exact q
   . obtain⟨b1,b2⟩:=V4 (O:=Gr) (fun i=>ks.getD i []) (its.length-1);have eU:=(zG.mp hv).1;generalize eb:argBest (fun i j=>Gr.blt (ks.getD i []) (ks.getD j [])) (its.length-1)=bi at hv eU b1 b2;have hy:bi<ys.length:=by lia
     obtain⟨u,hu,ru⟩:=rv.get (i:=bi) (x:=ys[bi]) (by simp[hy]);rw[hv] at hu;cases hu;obtain⟨pa,k,e1,e2,e3,_⟩:=T.get (i:=bi) (x:=ys[bi]) (by simp[hy]);refine{ys[bi],H2,I2.kept K,ru,q bi ys[bi] k (by simp[hy]) e2 fun k' jY=>?_};obtain⟨j,hj,ej⟩:=zr jY;have:=b2 j (by lia);have g1:ks.getD j []=k':=by rw[zJ,zD hj,ej];rfl
     have g2:ks.getD bi []=k:=by rw[zJ,e2];rfl
     rw[g1,g2] at this;exact this
 . have hI:IntsAre its ns:=DH rv;have hl:=hI.length;have look:∀(i:Nat)(v:Value),its[i]?=some v->∃t,v=.int (ns.getD i 0) t:=fun i v hv=>by
    have hi:i<ns.length:=by have:=(zG.mp hv).1;lia
    obtain⟨u,hu,ru⟩:=rv.get (i:=i) (x:=.int ns[i]) (by simp[hi]);rw[hv] at hu;cases hu;obtain⟨t,rfl⟩:=(show ∃t,v=Value.int ns[i] t from ru);exact{t,by rw[zJ,zD hi];rfl}
   refine Xf (I2.ok.hd hc) (fun i j=>decide (ns.getD i 0<ns.getD j 0)) jJ (fun i j vi vj h tk Q E K hi hj q=>?_) (fun v h tk hv K=>?_) (fun z h tk K=>{dv,H2,I2.kept K,rd,q0 (e0 z)})
   . obtain⟨t1,rfl⟩:=look i vi hi;obtain⟨t2,rfl⟩:=look j vj hj;exact PyProof.Rows.lt_int q
   . obtain⟨b1,b2⟩:=argBest_lt (fun i=>ns.getD i 0) (its.length-1);have eU:=(zG.mp hv).1;generalize eb:argBest (fun i j=>decide (ns.getD i 0<ns.getD j 0)) (its.length-1)=bi at hv eU b1 b2;obtain⟨t,rfl⟩:=look bi v hv;have hy:bi<ns.length:=by lia
     refine{.int (ns.getD bi 0),H2,I2.kept K,{t,0},q _ ?_ fun m hm=>?_}
     . rw[zJ,zD hy];exact El hy
     . obtain⟨j,hj,ej⟩:=zr hm;have:=b2 j (by lia);have g1:ns.getD j 0=m:=by rw[zJ,zD hj,ej];rfl
       rw[g1] at this;exact this
theorem ZR (hA:A.handled=none)(hl:PlainL s.heap l its)
 (q:∀h' tk,Kp s h'->Q none { s with heap:=h',toks:=tk }):wpAny (model prog w) A (getAttr? (.ref l) (Str.ofString "keys")) Q E s:=by
 have ty:∀tk,Shared.TypeIs { s with toks:=tk } (.ref l) "list" := fun tk=>by obtain⟨o,ho,hc,_⟩:=hl.isList;exact⟨o,ho,hc⟩
 unfold getAttr?;refine zA (zA (wpAny_fresh (zE ?_)));unfold getAttrBy?;refine zA (Gq ?_);unfold getAttrBy;refine BD (zA (Ct (ty _) (zA (wpAny_of_eq (show typeLookup (.type "list") (Str.ofString "__getattribute__")=pure (some (.builtin "list.__getattribute__")) from rfl) (zE ?_)))));show wpAny _ _ (getAttrByItsOwn _ _ _ _ _ _) _ _ _;unfold getAttrByItsOwn;refine zA (wpAny_of_eq (show hookBefore (.type "list")=pure none from rfl) (zE (zA (Gq (BD ?_)))));show wpAny _ _ (boundAndCalled _ _ _) _ _ _;unfold boundAndCalled;refine zA (wpAny_of_eq (show bindSpecial (.builtin "list.__getattribute__") (.ref l)=pure (.builtin "list.__getattribute__",[.ref l]) from rfl) (zE ?_));refine C9 (codeAny_call_builtin (by decide +kernel) PySem.am_entry_list_getattribute ?_);refine zA (Dd (ty _) (b:=true) rfl ?_);refine wpAny_of_eq (m':=pure ()) rfl (zE ?_);unfold Builtin.«object.__getattribute__»;refine zA (wpAny_of_eq (m':=pure (Value.ref l,[Value.str (Str.ofString "keys") s.toks])) rfl (zE ?_));refine zA (zE (zA (Ct (ty _) (zA ?_))));unfold Builtin.ObjectAttr.find;refine zA (wpAny_of_eq (m':=pure none) rfl (zE (zA (zE (zA (zE ?_))))));obtain⟨o,n,ho,hc,hd,gz⟩:=id hl;obtain⟨cls,dict,data,slots⟩:=o;obtain rfl:cls=_:=hc;obtain rfl:dict=_:=hd;obtain rfl:data=_:=gz
 refine zA (zA (zA (wpAny_loadPart ho (zA (wpAny_loadPart ho (zE (zE ?_)))))));refine zA (wpAny_of_eq (m':=pure ()) rfl (zE (zA (DR (zE ?_)))));show wpAny _ _ (Builtin.ObjectAttr.noSuchAttribute (Value.ref l) (Str.ofString "keys")) _ _ _;unfold Builtin.ObjectAttr.noSuchAttribute;refine zA (zA (zA (Ct (ty _) (wpAny_of_eq (m':=pure (Value.type "list")) rfl (zE (wpAny_of_eq (m':=pure "list") rfl (zE ?_)))))));refine wpAny_raiseAttrError hA (fun h' tk e ne=>?_) (by decide +kernel);obtain⟨t,u,he⟩:=ne.there;have tye:∀tk,Shared.TypeIs { s with heap:=h',toks:=tk } (.ref e) "AttributeError" := fun tk=>{_,he,0};show wpAny _ _ (getattributeRaised _ _ _ _ _ _ _) _ _ _;unfold getattributeRaised;refine zA (Dd (tye _) (b:=true) rfl ?_);refine zA (wpAny_of_eq (m':=pure none) rfl (zE ?_));refine zA (wpAny_throw ?_);refine zA (Dd (tye _) (b:=true) rfl (zE ?_));exact q h' tk ne.keeps
theorem Vg (a):(Code.builtin "dict.update.loop" a).quiet=true:=plainId_quiet (id := "dict.update.loop") (by decide +kernel) a
theorem bH [DecidableEq κ] (eO)(k:κ)(v):(stored eO k v).length<=eO.length+1:=by
 unfold stored;split
 . rw[zB];lia
 . rw[zH];exact zK _
noncomputable def Fi (qs:List (AQ×Value)):List (AQ×Value):=qs.foldl (fun a q=>stored a q.1 q.2) []
theorem aC (qs)(q:AQ×Value):Fi (qs++[q])=stored (Fi qs) q.1 q.2:=by unfold Fi;rw[List.foldl_append];rfl
theorem c0 (qs):(Fi qs).length<=qs.length:=by
 have:∀(qs:List (AQ×Value))(a:List (AQ×Value)),(qs.foldl (fun a q=>stored a q.1 q.2) a).length<=a.length+qs.length:=by
  intro qs
  induction qs with
  | nil=>intro a;exact zK _
  | cons q qs ih=>intro a;have h1:=ih (stored a q.1 q.2);have h2:=bH a q.1 q.2;rw[List.foldl_cons,zk];lia
 have:=this qs [];simpa [Fi] using this
section
variable {prog:Program}{w:World}{A:Around}{s0:Shared}{D I l:Addr}{its:List Value}{qs:List (AQ×Value)}
theorem Y4 (hA:A.handled=none)(hD:s0.heap.objs.size<=D)(hI:s0.heap.objs.size<=I)(hDI:D≠I)(hl:s0.heap.IsList l its.toArray)(hz:its.length<=sizeLine)(hqs:qs.length=its.length)
 (look:∀(i:Nat)v,its[i]?=some v->∃p kv u k,v=.ref p/\IsTup s0.heap p #[kv,u]/\(BL prog w).is k kv=true/\qs[i]?=some (k,u))
 (hR:∀h(tk:Nat),Kp s0 h->h.DictOf (BL prog w) D (Fi qs)->R (.ok (.ret .none)) { s0 with heap:=h,toks:=tk }):
 ∀(r j:Nat)h(tk:Nat),its.length-j=r->j<=its.length->Kp s0 h->h.IsListIter I l j->h.DictOf (BL prog w) D (Fi (qs.take j)) ->
  codeAny (model prog w) A (.builtin "dict.update.loop" { pos:=[.ref D,.ref I,rawInt j,.none] }) R { s0 with heap:=h,toks:=tk }:=by
 have gO:∀h,Kp s0 h->h.IsList l its.toArray:=fun h K=>by obtain⟨o,ho,hc⟩:=hl;exact{o,K _ _ ho,hc}
 intro r
 induction r with
 | zero=>intro j h tk hr hj K hit hd;refine codeAny_builtin (b:=Builtin.«dict.update.loop») (by rfl) ?_;unfold Builtin.«dict.update.loop»;refine zA (wpAny_pyNext_list_end hA hit (gO h K) (by rw[DQ];exact Cu (by lia)) fun h' b=>?_);refine zA (wpAny_of_eq (m':=pure ()) rfl (zE (zE ?_)));refine hR h' tk (K.but hI b) ?_;obtain⟨o,es,ep,ho,hJ⟩:=hd;rw[zW (by lia)] at hJ;exact{o,es,ep,b D o hDI ho,hJ}
 | succ r ih=>
  intro j h tk hr hj K hit hd;obtain⟨x,hx⟩:∃x,its[j]?=some x:={_,zD (by lia)};obtain⟨p,kv,u,k,rfl,tp,hk,hq⟩:=look j x hx;refine codeAny_builtin (b:=Builtin.«dict.update.loop») (by rfl) ?_;unfold Builtin.«dict.update.loop»;refine zA (wpAny_pyNext_list_item hit (gO h K) (by rw[DQ];exact hx) fun h' gM b=>?_);have K':Kp s0 h':=K.but hI fun c o hc e=>by rw[b.2 c hc];exact e
  obtain⟨o,ho,hc,n,gz⟩:=tp;refine zA (BD (zA (wpAny_tryCatch ?_)));unfold Builtin.Dict.pairItems;refine zA (Ct (T := "tuple") {o,K' _ _ ho,hc} ?_);refine zA (Di (K' _ _ ho) gz (zE ?_));have jw:h'.DictOf (BL prog w) D (Fi (qs.take j)):=by obtain⟨o,es,ep,ho,hJ⟩:=hd;exact{o,es,ep,by rw[b.2 D hDI];exact ho,hJ}
  refine BD (wpAny_dictSet_pairs hk jw (fun h2 hd2 b2=>?_) (BX (c0 _) (by rw[zp];lia)));refine zE {Vg _,?_};refine ih (j+1) h2 (tk+1) (by lia) (by lia) (fun c o e=>?_) ?_ ?_
  . rw[b2.2 c (zi (zo (zZ e) hD))];exact K' c o e
  . obtain⟨o,ho,hc⟩:=gM;exact{o,by rw[b2.2 I (Ne.symm hDI)];exact ho,hc}
  . rw[zu,hq];show h2.DictOf _ D (Fi (qs.take j++[(k,u)]));rw[aC];exact hd2
end
theorem Z0 (h:Heap):(h.push { cls:=.type "dict",data:=.dict #[] }).DictOf (BL prog w) h.objs.size []:=
 ⟨_,#[],0,zU _ rfl,{0,3},rfl,by
  first | exact KeysOf.nil | (intro x hx;simp at hx) | trivial | decide,by
  first | exact .nil | trivial,List.nodup_nil⟩
theorem cJ {its:List Value}(hA:A.handled=none)(hl:PlainL s.heap l its.toArray)(hz:its.length<=sizeLine)(hqs:qs.length=its.length)
 (look:∀(i:Nat)v,its[i]?=some v->∃p kv u k,v=.ref p/\IsTup s.heap p #[kv,u]/\(BL prog w).is k kv=true/\qs[i]?=some (k,u))
 (q:∀D h(tk:Nat),s.heap.objs.size<=D->Kp s h->h.DictOf (BL prog w) D (Fi qs)->Q (.ref D) { s with heap:=h,toks:=tk }):
 wpAny (model prog w) A (call (.type "dict") [.ref l]) Q E s:=by
 refine callType_codes (Q₁:=fun obj s₁=>obj=.ref s.heap.objs.size/\s₁={ s with heap:=s.heap.push { cls:=.type "dict",data:=.dict #[] } }) PySem.F.kt_called_dict (PySem.F.kt_typeCall_dict_1 _) PySem.F.entry_dict_init ?_ (fun obj s₁ e=>?_)
 . refine codeAny_call_builtin (by decide +kernel) PySem.F.kt_entry_dict_new (wpAny_of_eq (PySem.F.kt_newCall_dict_1 _) (zE ?_));unfold Builtin.«dict.__new__»;refine zA (wpAny_of_eq (m':=pure true) rfl (zE (zA (wpAny_of_eq (m':=pure true) rfl (zE (zA (wpAny_of_eq (m':=pure [Value.type "dict",Value.type "object"]) rfl (zE ?_))))))));exact zA (wpAny_newObjAsIs_type (zE {3}))
 . obtain⟨rfl,rfl⟩:=e;refine{{_,zU _ rfl,0},PySem.F.args_dict_init_2 _ _,?_};unfold Builtin.«dict.__init__»;have h0:Kp s (s.heap.push { cls:=.type "dict",data:=.dict #[] }):=fun b o e=>zL _ e;have iC:∀h,Kp s h->PlainL h l its.toArray:=fun h K=>by obtain⟨o,n,ho,hr⟩:=hl;exact{o,n,K _ _ ho,hr}
   refine zA (zA (zA (Ct (T := "dict") {_,zU _ rfl,0} (zE (zA (zE (zE ?_)))))));show wpAny _ _ (Builtin.Dict.updateFrom "dict.__init__" s.heap.objs.size (.ref l) [] .none) _ _ _;unfold Builtin.Dict.updateFrom;refine zA (Ct (T := "list") (let {o,ho,hc,_}:=(iC _ h0).isList;⟨o,ho,hc⟩) ?_);refine zA (ZR hA (iC _ h0) fun h1 tk1 K1=>?_);have K1':Kp s h1:=fun b o e=>K1 b o (h0 b o e);refine zA (DR (zA (wpAny_pyIter_list (iC _ K1').isList (zE {Vg _,?_}))));have hsz:s.heap.objs.size<h1.objs.size:=zZ (K1 _ _ (zU _ rfl));refine Y4 (A:=A.in1) (s0:=s) (l:=l) (its:=its) (qs:=qs) hA (zK _) (CT hsz) (zi hsz) hl.isList hz hqs look ?_ its.length 0 _ tk1 rfl (zh _) (fun b o e=>zL _ (K1' b o e)) ?_ ?_
   . exact fun h tk K hd=>{0,q _ h tk (zK _) K hd}
   . exact{_,zU _ rfl,3}
   obtain⟨o,es,ep,ho,hr⟩:=Z0 (prog:=prog) (w:=w) s.heap;exact{o,es,ep,zL _ (K1 _ _ ho),hr}
def ZS (H:Hp)(ys:List V)(ps:List (AQ×V)):Prop:=ps.length=ys.length/\∀(i:Nat)y,ys[i]?=some y->∃p k v,y=.ref p/\H p=some (.tup [kV k,v])/\ps[i]?=some (k,v)
noncomputable def Mw (ps:List (AQ×V)):List (AQ×V):=ps.foldl (fun a p=>BH a p.1 p.2) []
theorem X5:∀(ps:List (AQ×V))(qs:List (AQ×Value))(a:List (AQ×V))(b:List (AQ×Value)),KV ps qs->KV a b->KV (ps.foldl (fun a p=>BH a p.1 p.2) a) (qs.foldl (fun a q=>stored a q.1 q.2) b)
 | [],[],_,_,_,h=>h
 | p::ps,q::qs,a,b,h,h'=>by
  cases h with
  | cons h1 h2=>rw[List.foldl_cons,List.foldl_cons];refine X5 ps qs _ _ h2 ?_;rw[<-h1.1];exact KV.put h' p.1 h1.2
 | [],_::_,_,_,h,_=>by cases h
 | _::_,[],_,_,h,_=>by cases h
theorem b9 (ps):(Mw ps).length<=ps.length:=by
 have:∀(ps:List (AQ×V))(a:List (AQ×V)),(ps.foldl (fun a p=>BH a p.1 p.2) a).length<=a.length+ps.length:=by
  intro ps
  induction ps with
  | nil=>intro a;exact zK _
  | cons q qs ih=>intro a;have h1:=ih (BH a q.1 q.2);have h2:=Jl a q.1 q.2;rw[List.foldl_cons,zk];lia
 have:=this ps [];simpa [Mw] using this
inductive MH (K:AK)(xs:List V)(H:Hp)(Q:VK):Prop
 | mk:∀l ys ps,(xs=[.ref l])->(AD K H l ys)->(ZS H ys ps)->(∀d,H d=none->Q (.ref d) (upd H d (.dK (Mw ps))))->MH K xs H Q
theorem Ts (hc:X.calm=true):CH X (.type "dict") (MH X.K):=by
 intro pins s σ H xs us Q I r h;obtain⟨l,ys,ps,rfl,hq,⟨gN,hps⟩,q⟩:=h;obtain⟨u,rfl,rx⟩:=DF r;cases rx;obtain⟨its,rv,pl,hz⟩:=I.list hq;have hlen:=rv.length;have both:∀(i:Nat),i<its.length->∃(p:Addr)(kv u:Value)(k:AQ)(v:V),its[i]?=some (.ref p)/\IsTup s.heap p #[kv,u]/\(BL X.prog X.w).is k kv=true/\AS v u/\ps[i]?=some (k,v):=fun i hi=>by
  have hy:i<ys.length:=by lia
  obtain⟨p,k,v,e1,e2,e3⟩:=hps i ys[i] (by simp[hy]);obtain⟨u,hu,ru⟩:=rv.get (i:=i) (x:=ys[i]) (by simp[hy]);rw[e1] at ru;cases (show u=Value.ref p from ru);obtain⟨_,us,rv',tp⟩:=I.hok p _ e2;obtain⟨a,b,rfl,ra,rb⟩:=Mv rv';exact{p,a,b,k,v,hu,tp,Jx ra,rb,e3}
 obtain⟨qs,hql,hqk⟩:∃qs:List (AQ×Value),qs.length=its.length/\∀(i:Nat),i<its.length->∃(p:Addr)(kv u:Value)(k:AQ)(v:V),its[i]?=some (.ref p)/\IsTup s.heap p #[kv,u]/\(BL X.prog X.w).is k kv=true/\AS v u/\ps[i]?=some (k,v)/\qs[i]?=some (k,u):=by
  have:∀m,m<=its.length->∃qs:List (AQ×Value),qs.length=m/\∀(i:Nat),i<m->∃(p:Addr)(kv u:Value)(k:AQ)(v:V),its[i]?=some (.ref p)/\IsTup s.heap p #[kv,u]/\(BL X.prog X.w).is k kv=true/\AS v u/\ps[i]?=some (k,v)/\qs[i]?=some (k,u):=by
   intro m
   induction m with
   | zero=>intro _;exact{[],0,fun i hi=>absurd hi (Ce _)}
   | succ m ih=>
    intro hm;obtain⟨qs,h1,h2⟩:=ih (by lia);obtain⟨p,kv,u,k,v,g1,g2,g3,g4,g5⟩:=both m (by lia);refine{qs++[(k,u)],by rw[zH,h1];rfl,fun i hi=>?_};by_cases c:i=m
    . subst c;exact{p,kv,u,k,v,g1,g2,g3,g4,g5,by rw[za (by lia),h1,Fz];rfl}
    . obtain⟨p,kv,u,k,v,f1,f2,f3,f4,f5,f6⟩:=h2 i (by lia);exact{p,kv,u,k,v,f1,f2,f3,f4,f5,by rw[ze (by lia)];exact f6}
  exact this its.length (zK _)
 have kv:KV ps qs:=by
  have:∀(ps:List (AQ×V))(qs:List (AQ×Value)),ps.length=qs.length->(∀i,i<ps.length->∃k v u,ps[i]?=some (k,v)/\qs[i]?=some (k,u)/\AS v u)->KV ps qs:=by
   intro ps
   induction ps with
   | nil=>intro qs e _;cases qs with
    | nil=>exact .nil
    | cons _ _=>simp at e
   | cons p ps ih=>
    intro qs e h;cases qs with
    | nil=>simp at e
    | cons q qs=>obtain⟨k,v,u,h1,h2,h3⟩:=h 0 (by simp);simp at h1 h2;subst h1 h2;refine .cons {0,h3} (ih qs (by simpa using e) fun i hi=>?_);obtain⟨k,v,u,h1,h2,h3⟩:=h (i+1) (by simp;lia);exact{k,v,u,by simpa using h1,by simpa using h2,h3}
  refine this ps qs (by lia) fun i hi=>?_;obtain⟨p,kv,u,k,v,_,_,_,f4,f5,f6⟩:=hqk i (by lia);exact⟨k,v,u,f5,f6,f4⟩
 refine cJ (its:=its) (qs:=qs) (I.ok.hd hc) pl (by lia) hql (fun i v hv=>?_) (fun D h tk hD K dd=>?_)
 . obtain⟨p,kv,u,k,v',f1,f2,f3,f4,f5,f6⟩:=hqk i (zG.mp hv).1;rw[hv] at f1;cases f1;exact{p,kv,u,k,0,f2,f3,f6}
 . have jt:H D=none:=I.hok.fresh hD;have zz:(Mw ps).length<=sizeLine:=BX (b9 ps) (by lia);refine{.ref D,_,I.laid (a:=D) (o:=.dK (Mw ps)) (t':=tk) K hD (YE zz (beq_eq_false_iff_ne.mpr (Ne.symm (zi (zo I.big hD)))) (X5 ps qs [] [] kv .nil) dd),0,q D jt}
end L2
namespace L2
open PySem PySem.Spec PyProof.Rows
theorem CS (hm:X.mg x=none)(hg:Gl X x:=by rfl)(hv:bootBuiltins x=some (.type T):=by decide +kernel)(hn:x ≠ "__name__" := by decide) (jO:(x==("__debug__" : Str))=false:=by decide):PE X (.Name x pos) (tC (.ty T)):=
 fun pins s σ H Q I h=>Em I hg hm hv {.ty T,H,I,0,h} hn jO
inductive MB (K:AK)(xs:List V)(H:Hp)(Q:VK):Prop
 | mk:∀x T t b,(xs=[x,.ty T])->(Dr K H x t)->(PySem.W.kitOne K t (.type T)=some b)->(Q (.bl b) H)->MB K xs H Q
theorem DE:CH X (.builtin "isinstance") (MB X.K):=by intro pins s σ H xs us Q I r h;obtain⟨x,T,t,b,rfl,ty,e,q⟩:=h;obtain⟨u,w',rfl,rx,rT⟩:=Mv r;cases (show w'=Value.type T from rT);exact Z7 I rx ty e fun tk=>{.bl b,H,I.tok tk,0,q}
section
variable {prog:Program}{w:World}{A:Around}{s0:Shared}{I l:Addr}{bs:List Bool}
theorem Z9 (hA:A.handled=none)(hI:s0.heap.objs.size<=I)(hl:s0.heap.IsList l (bs.map Value.bool).toArray)
 (hR:∀h tk,Kp s0 h->R (.ok (.ret (.bool (bs.all id)))) { s0 with heap:=h,toks:=tk }):
 ∀r j h tk,bs.length-j=r->j<=bs.length->Kp s0 h->h.IsListIter I l j->(bs.take j).all id=true ->
  codeAny (model prog w) A (.builtin "all.loop" { pos:=[.ref I] }) R { s0 with heap:=h,toks:=tk }:=by
 have gO:∀h,Kp s0 h->h.IsList l (bs.map Value.bool).toArray:=fun h K=>by obtain⟨o,ho,hc⟩:=hl;exact{o,K _ _ ho,hc}
 intro r
 induction r with
 | zero=>intro j h tk hr hj K hit ha;refine codeAny_builtin PySem.F.entry_all_loop ?_;unfold Builtin.«all.loop»;refine zA (wpAny_pyNext_list_end hA hit (gO h K) (by rw[DQ];exact Cu (by rw[zB];lia)) fun h' b=>?_);refine zA (DR (zE ?_));rw[zW (by lia)] at ha;have:=hR h' tk (K.but hI b);rw[ha] at this;exact this
 | succ r ih=>
  intro j h tk hr hj K hit ha;obtain⟨x,hx⟩:∃x,bs[j]?=some x:={_,zD (by lia)};refine codeAny_builtin PySem.F.entry_all_loop ?_;unfold Builtin.«all.loop»;refine zA (wpAny_pyNext_list_item hit (gO h K) (x:=.bool x) (by rw[DQ,zN,hx];rfl) fun h' gM b=>?_);have K':Kp s0 h':=K.but hI fun c o hc e=>by rw[b.2 c hc];exact e
  refine zA (BD (Gw (zA (wpAny_letGo ?_))));cases x with
  | true=>refine zE {0,?_};exact ih (j+1) h' tk (by lia) (by lia) K' gM (by rw[zu,hx,List.all_append,ha];rfl)
  | false=>
   refine zA (DR (zE ?_));have e:bs.all id=false:=by
    cases z:bs.all id with
    | false=>rfl
    | true=>have:=J8.mp z false (zQ hx);simp at this
   have:=hR h' tk K';rw[e] at this;exact this
end
theorem WK:∀{bs:List Bool}{its:List Value},AO (bs.map V.bl) its->its=bs.map Value.bool
 | [],[],_=>rfl
 | b::bs,u::its,h=>by
  cases h with
  | cons h1 h2=>rw[Cn,<-WK h2,show u=Value.bool b from h1]
 | [],_::_,h=>by cases h
 | _::_,[],h=>by cases h
inductive PR (K:AK)(xs:List V)(H:Hp)(Q:VK):Prop
 | mk:∀(p:Addr)(bs:List Bool),(xs=[.ref p])->(AD K H p (bs.map V.bl))->(Q (.bl (bs.all id)) H)->PR K xs H Q
theorem NA (hc:X.calm=true):CH X (.builtin "all") (PR X.K):=by
 intro pins s σ H xs us Q I r h;obtain⟨p,bs,rfl,hq,q⟩:=h;obtain⟨u,rfl,rx⟩:=DF r;cases rx;obtain⟨its,r',pl,hz⟩:=I.list hq;rw[WK r'] at pl;refine C9 (codeAny_call_builtin PySem.F.plain_all PySem.F.entry_all (wpAny_of_eq (m':=pure ()) rfl (zE ?_)));unfold Builtin.all;refine zA (wpAny_of_eq (m':=pure (Value.ref p)) rfl (zE (zA (wpAny_pyIter_list pl.isList (zE {0,?_})))));refine Z9 (s0:=s) (l:=p) (bs:=bs) (I.ok.hd hc) (zK _) pl.isList ?_ bs.length 0 _ s.toks rfl (zh _) (fun b o e=>zL _ e) ?_ rfl
 . exact fun h tk K=>{.bl _,H,I.kept K,0,q}
 . exact{_,zU _ rfl,3}
section
variable {X:Cx}
def U6 (r:V->List V->Hp->VK->Prop)(to:TE)(t:TA):TE:=fun σ H Q=>to σ H fun x H1=>(∃p ys,x=.ref p/\H1 p=some (.tup ys))/\t σ H1 fun xs H2=>r x xs H2 Q
variable {o e:Expr}{es:List Expr}{to:TE}{t:TA}{name:Str}{apos eX:Pos}{id:String}{r:V->List V->Hp->VK->Prop}
theorem Le (slot:Slot "tuple" name id) (hty:typeOf (.builtin id)=pure (.type "method_descriptor")) (hm:Og X id r)(ho:PE X o to)(ha:PA X (e::es) t)
 (iW:attributeBase o name X.env (eval o X.env)=eval o X.env:=by rfl)
 (hfew:((backTo eX (starEach (e::es) X.env)).all (fun x=>!x.1) && (backToKw eX (keywordEach [] X.env)).all (fun x=>x.1.isSome)
  && decide ((e::es).length+([]:List Keyword).length+(if ([]:List Keyword).isEmpty then 0 else 1)<30))=true:=by rfl)
 (iR:(apos.endLine==eX.line)=true:=by rfl)(hs:starEach (e::es) X.env=(false,eval e X.env)::starEach es X.env:=by rfl)(iu:(backTo eX (starEach es X.env)).any (·.1)=false:=by rfl):
 PE X (.Call (.Attribute o name apos) (e::es) [] eX) (U6 r to t):=by
 intro pins s σ H Q I h;refine wpAny_Call_method_late iW hfew iR rfl (AL (ho pins s σ H _ I h) fun v s1 ⟨x,H1,I1,r1,⟨p,ys,ex,hp⟩,q1⟩=>?_);subst ex;cases (show v=Value.ref p from r1);obtain⟨⟨_,o2,iF,hd2⟩,its,rv,ob,hob,jy,_⟩:=(show Ax X.prog X.w H1 s1.heap p (.tup ys) from I1.hok p _ hp);refine{"tuple",id,PySem.F.plainAttrs_tuple,slot,hty,⟨ob,hob,jy⟩,fun a ea=>?_,?_}
 . cases ea;exact⟨o2,iF,hd2⟩
 have hA:=ha eX pins s1 σ H1 _ I1 q1;rw[hs] at hA ⊢;refine Calls.callWith_builtin (by show (false || (backTo eX (starEach es X.env)).any (·.1))=false;rw[iu] <;> rfl) (Calls.evalArgs_plain ?_);exact AL hA fun us s2 ⟨vs,H2,I2,r2,q2⟩=>hm pins s2 σ H2 (.ref p) vs (.ref p) us Q I2 rfl r2 q2
end
theorem aO {its:Array Value}(hi:IntsAre its.toList ns)(hv:ns[i]?=some v)(iG:∀j,j<i->ns[j]?≠some v)
 (f:Nat->Option PySem.Fin×Unit->Sem (ForInStep (Option PySem.Fin×Unit)))
 (hf:∀j x,f j x=(match its[j]? with
  | some y=>do
   let b <-eqBool y (.int v tv)
   if b=true then do
    let r <-retInt j
    pure (.done (some r,()))
   else pure (.yield (none,()))
  | _=>pure (.yield (none,()))))
 (s)(hR:∀tk,R (some (.done (.ret (.int i s.toks))),()) { s with toks:=tk }):
 ∀r j b,i-j=r->j<=i->wpAny (model prog w) A (forIn (List.range' j (its.size-j) 1) b f) R E s:=by
 have hsz:its.size=ns.length:=by have:=hi.length;simpa using this
 have iT:i<ns.length:=(zG.mp hv).1;have look:∀j,j<ns.length->∃t,its[j]?=some (.int (ns.getD j 0) t):=fun j hj=>by
  have hj':j<its.size:=by lia
  obtain⟨t,ht⟩:=hi.int_at j (its[j]'hj') (by rw[Array.getElem?_toList,Array.getElem?_eq_getElem hj']);exact{t,by rw[Array.getElem?_eq_getElem hj',ht]}
 intro r
 induction r with
 | zero=>
  intro j b hr hj;obtain rfl:j=i:=by lia
  rw[show its.size-j=(its.size-j-1)+1 by lia,List.range'_succ,List.forIn_cons,hf];obtain⟨t,ht⟩:=look j iT;rw[ht];refine zA (zA (wpAny_eqBool_int ?_));have e:ns.getD j 0=v:=by rw[zJ,hv];rfl
  rw[e,show (v==v)=true by simp];refine zA (zA (wpAny_mkInt (zE (zE (zE ?_)))));exact hR _
 | succ r ih=>
  intro j b hr hj;rw[show its.size-j=(its.size-(j+1))+1 by lia,List.range'_succ,List.forIn_cons,hf];obtain⟨t,ht⟩:=look j (by lia);rw[ht];refine zA (zA (wpAny_eqBool_int ?_));have hj':ns[j]?=some (ns.getD j 0):=by rw[zJ,zD (by lia)];rfl
  have e:¬ ns.getD j 0=v:=fun z=>iG j (by lia) (by rw[hj',z]);rw[show (ns.getD j 0==v)=false by simpa using e];refine zE ?_;exact ih (j+1) _ (by lia) (by lia)
theorem aY:Og X "tuple.index" (fun x xs H Q=>∃p,∃(ns:List Int)(i:Nat)(v:Int),x=.ref p/\xs=[.int v]/\AB X.K H p (ns.map V.int)/\ns[i]?=some v/\(∀j,j<i->ns[j]?≠some v)/\Q (.int i) H):=by
 intro pins s σ H x xs v us Q I rx r h;obtain⟨p,ns,i,k,rfl,rfl,hq,hi,iG,q⟩:=h;cases (show v=Value.ref p from rx);obtain⟨u,rfl,t,rfl⟩:=DF r;obtain⟨its,rv,⟨ob,hob,jy,n,gz⟩,hz⟩:=I.tuple hq;have hI:=DH rv;refine C9 (codeAny_call_builtin PySem.F.slot_tuple_index.plain PySem.F.entry_tuple_index (PySem.F.slot_tuple_index.check _ _ _ _ _ _ _ _ ⟨ob,hob,jy⟩ (PySem.F.args_tuple_index_2 _ _) ?_));unfold Builtin.«tuple.index»;refine zA (wpAny_of_eq (m':=pure (Value.ref p,[Value.int k t])) rfl (zE ?_));refine zA (zA (Di hob gz (zE ?_)));refine zA (zE (zA (zE (zA ?_))));rw[Std.Legacy.Range.forIn_eq_forIn_range'];have hsz:(Std.Legacy.Range.mk 0 (min its.toArray.size its.toArray.size) 1 (by decide)).size=its.toArray.size-0:=by show (min its.toArray.size its.toArray.size-0+1-1)/1=_;rw[Nat.min_self];lia
 rw[hsz];refine aO (its:=its.toArray) (ns:=ns) (v:=k) (tv:=t) (i:=i) hI hi iG _ (fun j x=>by rfl) s (fun tk=>?_) i 0 _ (by lia) (zh _);exact zE {.int i,H,I.tok _,{1},q}
theorem X2 (a):(Code.builtin "list.count.loop" a).quiet=true:=Code.quiet_builtin a (by decide +kernel)
theorem cb (hl:s.heap.IsList l its.toArray)(hi:IntsAre its ns)(hR:∀t tk,R (.ok (.ret (.int (ns.countP fun x=>x==v:Nat) t))) { s with toks:=tk }):
 ∀r j,its.length-j=r->j<=its.length->codeAny (model prog w) A (.builtin "list.count.loop" { pos:=[.ref l,.int v tv,rawInt j,rawInt ((ns.take j).countP fun x=>x==v:Nat)] }) R s:=by
 have iT:=hi.length;intro r
 induction r with
 | zero=>
  intro j hr hj;refine codeAny_builtin (b:=Builtin.«list.count.loop») (by rfl) ?_;unfold Builtin.«list.count.loop»;obtain⟨o,ho,hc,n,hd⟩:=id hl;refine zA (zA (Di ho hd (zE ?_)));have e:its.toArray[(j:Int).toNat]?=none:=by rw[DQ,Bm];exact Cu (by lia)
  rw[e];rw[zW (by lia)];exact zA (wpAny_mkInt (zE (hR _ _)))
 | succ r ih=>
  intro j hr hj;refine codeAny_builtin (b:=Builtin.«list.count.loop») (by rfl) ?_;unfold Builtin.«list.count.loop»;obtain⟨o,ho,hc,n,hd⟩:=id hl;refine zA (zA (Di ho hd (zE ?_)));obtain⟨x,hx⟩:∃x,its[j]?=some x:={_,zD (by lia)};obtain⟨t,rfl⟩:=hi.int_at j x hx;have e:its.toArray[(j:Int).toNat]?=some (.int (ns.getD j 0) t):=by rw[DQ,Bm];exact hx
  rw[e];refine zA (wpAny_eqBool_int ?_);refine zE {X2 _,?_};have hj':ns[j]?=some (ns.getD j 0):=by rw[zJ,zD (by lia)];rfl
  have st:(ns.take (j+1)).countP (fun x=>x==v)=(ns.take j).countP (fun x=>x==v)+(if (ns.getD j 0==v)=true then 1 else 0):=by rw[zu,hj',List.countP_append];show _+List.countP _ [ns.getD j 0]=_;rw[List.countP_cons,List.countP_nil,Nat.zero_add]
  have:=ih (j+1) (by lia) (by lia);rw[st] at this;cases c:(ns.getD j 0==v) with
  | true=>rw[c] at this;exact this
  | false=>rw[c] at this;exact this
theorem Wc:Og X "list.count" (fun x xs H Q=>∃p,∃(ns:List Int)(v:Int),x=.ref p/\xs=[.int v]/\AD X.K H p (ns.map V.int)/\Q (.int (ns.countP fun x=>x==v:Nat)) H):=by intro pins s σ H x xs u us Q I rx r h;obtain⟨p,ns,v,rfl,rfl,hq,q⟩:=h;cases (show u=Value.ref p from rx);obtain⟨w',rfl,t,rfl⟩:=DF r;obtain⟨its,rv,pl,hz⟩:=I.list hq;have hi:=DH rv;refine C9 (codeAny_call_builtin PySem.F.slot_list_count.plain PySem.F.entry_list_count (PySem.F.slot_list_count.check _ _ _ _ _ _ _ _ pl.isList.typeIs (PySem.F.args_list_count_2 _ _) ?_));unfold Builtin.«list.count»;refine zA (wpAny_of_eq (m':=pure (Value.ref p,Value.int v t)) rfl (zE (zE {X2 _,?_})));refine cb (s:=s) (ns:=ns) pl.isList hi ?_ its.length 0 (by lia) (zh _);exact fun t' tk=>{.int _,H,I.tok _,{t',0},q}
end L2
namespace WM
open L2
structure En where
 h:Int
 l:Int
 u:Option Int
 d:Option Int
def Cd (es fs:List En)(c:Int×Int):Prop:=∃e∈es,∃f∈fs,f.h=e.h/\c=(e.l+f.l,e.h)
def Cy (P:Int×Int->Prop):Option (Int×Int)->Prop
 | none=>∀c,¬ P c
 | some c=>P c/\∀c',P c'->c.1<c'.1\/(c.1=c'.1/\c.2<=c'.2)
theorem Cy.uniq :∀{a b:Option (Int×Int)},Cy P a->Cy P b->a=b
 | none,none,_,_=>rfl
 | none,some c,h,g=>absurd g.1 (h c)
 | some c,none,h,g=>absurd h.1 (g c)
 | some a,some b,h,g=>by
  have h1:=h.2 b g.1;have h2:=g.2 a h.1;have e1:a.1=b.1:=by lia
  have e2:a.2=b.2:=by lia
  rw[show a=b from Prod.ext e1 e2]
theorem Cy.congr (e:∀c,P c↔P' c):∀{a:Option (Int×Int)},Cy P a->Cy P' a
 | none,h=>fun c z=>h c ((e c).mpr z)
 | some _,h=>{(e _).mp h.1,fun c' z=>h.2 c' ((e c').mpr z)}
def C3 (es:List En):Prop:=es.Pairwise fun a b=>a.h<b.h
noncomputable def Bk (es:List En)(h:Int):Option En:=es.find? fun e=>decide (e.h=h)
theorem Mt (hs:C3 es):Bk es h=some e↔e∈es/\e.h=h:=by
 unfold Bk;constructor
 . intro z;exact{List.mem_of_find?_eq_some z,of_decide_eq_true (List.find?_some (p:=fun e:En=>decide (e.h=h)) z)}
 . rintro ⟨hm,rfl⟩
   induction es with
   | nil=>simp at hm
   | cons a es ih=>
    rw[IJ];rcases zb.mp hm with rfl | hm'
    . simp
    . have hp:=Gy.mp hs;have:=hp.1 e hm';rw[zS (show ¬ a.h=e.h by lia)];exact ih hp.2 hm'
theorem Xx :Bk es h=none↔∀e∈es,e.h≠h:=by unfold Bk;rw[List.find?_eq_none];exact{fun z e he=>fun q=>z e he (zO q),fun z e he=>fun q=>z e he (of_decide_eq_true q)}
noncomputable def CM (fs:List En)(e:En):Option (Int×Int):=(Bk fs e.h).map fun f=>(e.l+f.l,e.h)
theorem KH (hf:C3 fs)(c:Int×Int):c∈es.filterMap (CM fs)↔Cd es fs c:=by
 rw[IB];constructor
 . rintro ⟨e,he,z⟩;unfold CM at z;cases q:Bk fs e.h with
   | none=>rw[q] at z;cases z
   | some f=>rw[q] at z;obtain⟨h1,h2⟩:=(Mt hf).mp q;exact{e,he,f,h1,h2,(zV z).symm}
 . rintro ⟨e,he,f,hfm,h1,rfl⟩;refine{e,he,?_};unfold CM;rw[(Mt hf).mpr ⟨hfm,h1⟩];rfl
theorem Qp {α:Type}{l:List α}{x:α}(p:α->Bool)(h:l[i]?=some x):(l.take (i+1)).filter p=(l.take i).filter p++(if p x=true then [x] else []):=by rw[zu,h,Hr];show _++List.filter p [x]=_;rw[List.filter_cons];rfl
theorem We {α β:Type}{l:List α}{x:α}(f:α->Option β)(h:l[i]?=some x):(l.take (i+1)).filterMap f=(l.take i).filterMap f++(f x).toList:=by
 rw[zu,h,List.filterMap_append];show _++List.filterMap f [x]=_;cases e:f x with
 | none=>rw[List.filterMap_cons_none e];rfl
 | some y=>rw[List.filterMap_cons_some e];rfl
end WM
namespace L2
open PySem PyProof.Rows
theorem Tf (h:(ps.map (·.1)).Nodup):Mw ps=ps:=by
 have:∀(ps a:List (AQ×V)),((a++ps).map (·.1)).Nodup->ps.foldl (fun a p=>BH a p.1 p.2) a=a++ps:=by
  intro ps
  induction ps with
  | nil=>intro a _;rw[zv];rfl
  | cons p ps ih=>
   intro a hn;have e:BH a p.1 p.2=a++[p]:=by unfold BH;rw[if_neg];intro z;obtain⟨q,hq,e⟩:=List.any_eq_true.mp z;have e':=of_decide_eq_true e;rw[zT,Cn] at hn;have:=(Fs.mp hn).2.2 q.1 (List.mem_map_of_mem hq) p.1 zX;exact this e'
   rw[List.foldl_cons,e,ih (a++[p]) (by rw[Dk];exact hn),Dk];rfl
 exact this ps [] h
end L2
namespace WM
structure EG (ts:List T3)(n v:Int)(e:En):Prop where
 rng:0<=e.h/\e.h<n
 len:IsD ts v e.h e.l
 up:e.h≠v->∃p,e.u=some p/\Bx ts v e.h p
 dn:e.h≠v->∃p,e.d=some p/\Bx ts e.h v p
structure LG (ts:List T3)(n v:Int)(es:List En):Prop where
 hub:C3 es
 ent:∀e∈es,EG ts n v e
 own:∃e∈es,e.h=v
theorem LG.zero (g:GW n ts)(L:LG ts n v es):∃e r,es.filter (fun e=>decide (e.l=0))=e::r/\e.h=v:=by
 obtain⟨o,ho,hov⟩:=L.own;have hl:o.l=0:=by have:=(L.ent o ho).len;rw[hov] at this;exact this.uniq (Jc g v)
 have hm:o∈es.filter (fun e=>decide (e.l=0)):=ES.mpr {ho,zO hl};cases e:es.filter (fun e=>decide (e.l=0)) with
 | nil=>rw[e] at hm;simp at hm
 | cons a r=>
  have ha:a∈es.filter (fun e=>decide (e.l=0)):=by rw[e];exact zX
  obtain⟨h1,h2⟩:=ES.mp ha;have:=(NS g (L.ent a h1).len).mp (of_decide_eq_true h2);exact{a,r,0,this.symm}
end WM
namespace L2
open PySem PySem.Spec PyProof.Rows
theorem Zy {i:Int}(h:i.natAbs<10 ^ 40):(Str.ofString (toString i)).length<=41:=by
 have e:=int_text_length_le10 (a:=i) (k:=40) (by decide) h;have e2:(Str.ofString (toString i)).length=(toString i).length:=by rw[Str.ofString_eq_toList];show ((toString i).toList.map Char.toNat).toArray.size=_;rw[zP,zB,String.length_toList]
 lia
end L2
namespace SortT
open PySem PySem.W PySem.Calls PyProof.Rows
end SortT
namespace L2
open PySem PySem.Spec PyProof.Rows
def Oi (K:AK):R2:=fun x y H Q=>∃a b xs ys,x=.ref a/\y=.ref b/\AB K H a xs/\AB K H b ys/\xs.length+ys.length<=sizeLine /\
 (xs=[]->Q (.ref b) H)/\(xs≠[]->ys=[]->Q (.ref a) H)/\(xs≠[]->ys≠[]->∀p,H p=none->Q (.ref p) (upd H p (.tup (xs++ys))))
theorem bQ {ws:List Value}(ht:IsTup s.heap t #[])(hb:IsTup s.heap b ws.toArray)
 (h:Q (.ref b) s):wpAny (model prog w) A (binaryOp .Add (.ref t) (.ref b)) Q E s:=by
 obtain⟨⟨cls,dd,data,sl⟩,ho,hc,n,hd⟩:=id ht;obtain⟨⟨cls2,dd2,data2,jE⟩,iF,i0,n2,hd2⟩:=id hb;simp only at hc hd i0 hd2;subst hc hd i0 hd2;exact concat_meets {_,ho,0} {_,iF,0} noFill_tuple_add seq_tuple_add PySem.F.slot_tuple_add PySem.F.entry_tuple_add (PySem.F.args_tuple_add_2 _ _)
  (tuple_addW0 t b #[] ws.toArray n n2 dd dd2 sl jE rfl) ⟨ho,iF,h⟩
theorem Vc:A1 X (binaryOp .Add) (Oi X.K):=by
 intro pins s σ H x y v u Q I rx ry h;obtain⟨a,b,xs,ys,rfl,rfl,ha,hb,hz,q0,q1,q2⟩:=h;by_cases hx:xs=[]
 . subst hx;cases rx;cases ry;obtain⟨its,r1,p1,_⟩:=I.tuple ha;obtain⟨fZ,r2,p2,_⟩:=I.tuple hb;cases r1;exact bQ p1 p2 {.ref b,H,I,0,q0 rfl}
 . exact bc pins s σ H _ _ v u Q I rx ry {a,b,xs,ys,3,ha,hb,hx,hz,q1 hx,q2 hx}
end L2
namespace HT
open PySem PySem.Spec PyProof.Rows
end HT
namespace L2
open PySem PySem.Spec PyProof.Rows
end L2
namespace HT
open PySem PySem.Spec PyProof.Rows
theorem getItem_tuple_all {lo:Option Int}(ht:IsTup s.heap t items)(hs:s.heap.IsSliceOf sl vl vu .none)(pl:IsPart vl lo)(pu:IsPart vu hi)
 (hw:sIx items.size 0 lo=0/\sIx items.size items.size hi=items.size)(h:Q (.ref t) s):wpAny (model prog w) A (getItem (.ref t) (.ref sl)) Q E s:=by
 obtain⟨os,jk,hcs,hds⟩:=id hs;have hTs:s.TypeIs (.ref sl) "slice" := ⟨os,jk,hcs⟩;unfold getItem
 try with_reducible refine BD ?_
 first | refine zA (zE ?_) | skip
 refine zA (wpAny_sequenceKey ht.typeIs (by decide) ?_);refine zA (Ek (name:=Str.ofString "__getitem__") ht.typeIs PyProof.Rows.slot_tuple_getitem
  (Cf PyProof.Rows.slot_tuple_getitem ht.typeIs entry_tuple_getitem ?_ (args_tuple_getitem _ _)))
 show wpAny _ _ (Builtin.Tuple.tupleItemsOf (.ref t) >>= _) _ _ s;refine zA (tupleItemsOf_ ht ?_);refine zA (Ct hTs ?_);rw[if_pos (by decide)];refine zA (Vl hs pl pu ?_);have hyes:(((sIx items.size 0 lo:Nat):Int)==0 && (1:Int)==1 && (sIx items.size items.size hi-sIx items.size 0 lo)==items.size)=true:=by rw[hw.1,hw.2];simp
 show wpAny _ _ (if (((sIx items.size 0 lo:Nat):Int)==0 && (1:Int)==1 && (sIx items.size items.size hi-sIx items.size 0 lo)==items.size)=true then _ else _) _ _ s
 rw[if_pos hyes];unfold Builtin.Tuple.tupleIsExact;refine zA (zA (Ct ht.typeIs (zE ?_)));rw[if_pos (by decide)]
 first
  | exact zA (DR (zE {1,zE h}))
  | exact zA (DR (zE (zE {1,zE h})))
  | exact zA (DR (zA (zE (zE {1,zE h}))))
  | exact DR (zE {1,zE h})
end HT
namespace L2
open PySem PySem.Spec PyProof.Rows
def U7 (K:AK):V->Option Int->Option Int->Hp->VK->Prop:=fun x lo hi H Q=>∃a xs,x=.ref a/\AB K H a xs /\
 ((HT.sIx xs.length 0 lo=0/\HT.sIx xs.length xs.length hi=xs.length)->Q (.ref a) H)/\(¬ (HT.sIx xs.length 0 lo=0/\HT.sIx xs.length xs.length hi=xs.length)->∀p,H p=none->Q (.ref p) (upd H p (.tup (B3 xs lo hi))))
theorem XB:Oj X (U7 X.K):=by
 intro pins s σ H x v vl vu lo hi sl Q I rx hs pl pu h;obtain⟨a,xs,rfl,hx,q1,q2⟩:=h;by_cases c:HT.sIx xs.length 0 lo=0/\HT.sIx xs.length xs.length hi=xs.length
 . cases rx;obtain⟨its,r,ht,hz⟩:=I.tuple hx;have hlen:its.toArray.size=xs.length:=by rw[zP];exact r.length.symm
   refine{"tuple",_,PyProof.Rows.slot_tuple_getitem.lookup,ht.typeIs,?_};exact HT.getItem_tuple_all ht hs pl pu (by rw[hlen];exact c) {.ref a,H,I,0,q1 c}
 . exact Kw pins s σ H _ v vl vu lo hi sl Q I rx hs pl pu {a,xs,0,hx,c,q2 c}
end L2
namespace STb
open PySem
def D1 (xs:Array Nat):Prop:=xs.toList.Pairwise (· < ·)
theorem D1.lt (h:D1 xs){j:Nat}(gS:i<j)(hi:xs[i]?=some a)(hj:xs[j]?=some b):a<b:=by obtain⟨h1,e1⟩:=Array.getElem?_eq_some_iff.mp hi;obtain⟨h2,e2⟩:=Array.getElem?_eq_some_iff.mp hj;have:=Ef.mp h i j (by simpa using h1) (by simpa using h2) gS;simpa [e1,e2] using this
theorem bp (h:D1 xs)(j):∀fuel lo hi,hi-lo<=fuel->lo<=hi->hi<=xs.size->(∀k v,k<lo->xs[k]?=some v->v<j)->(∀k v,hi<=k->xs[k]?=some v->j<=v) ->
 lo<=SetTable.below.go xs j fuel lo hi/\SetTable.below.go xs j fuel lo hi<=hi/\(∀k v,k<SetTable.below.go xs j fuel lo hi->xs[k]?=some v->v<j)/\(∀k v,SetTable.below.go xs j fuel lo hi<=k->xs[k]?=some v->j<=v):=by
 intro fuel
 induction fuel with
 | zero=>
  intro lo hi hf hl hs h1 h2;have:lo=hi:=by lia
  subst this;exact{zK _,zK _,h1,h2}
 | succ fuel ih=>
  intro lo hi hf hl hs h1 h2;unfold SetTable.below.go;by_cases c:lo<hi
  . rw[if_pos c];have hm:(lo+hi)/2<xs.size:=by lia
    have em:xs[(lo+hi)/2]?=some xs[(lo+hi)/2]:=Array.getElem?_eq_getElem hm;have eg:xs.getD ((lo+hi)/2) j=xs[(lo+hi)/2]:=by simp[Array.getD,hm]
    dsimp only;rw[eg];by_cases d:xs[(lo+hi)/2]<j
    . rw[if_pos d];obtain⟨a,b,c1,c2⟩:=ih ((lo+hi)/2+1) hi (by lia) (by lia) hs (fun k v hk e=>by
       by_cases z:k=(lo+hi)/2
       . subst z;rw[em] at e;cases e;exact d
       . have:=h.lt (i:=k) (j:=(lo+hi)/2) (by lia) e em;lia) h2
      exact{by lia,b,c1,c2}
    . rw[if_neg d];obtain⟨a,b,c1,c2⟩:=ih lo ((lo+hi)/2) (by lia) (by lia) (by lia) h1 (fun k v hk e=>by
       by_cases z:k=(lo+hi)/2
       . subst z;rw[em] at e;cases e;lia
       . have:=h.lt (i:=(lo+hi)/2) (j:=k) (by lia) em e;lia)
      exact{a,by lia,c1,c2}
  . rw[if_neg c];have:lo=hi:=by lia
    subst this;exact{zK _,zK _,h1,h2}
theorem Tb (h:D1 xs)(j):SetTable.below xs j<=xs.size/\(∀k v,k<SetTable.below xs j->xs[k]?=some v->v<j)/\(∀k v,SetTable.below xs j<=k->xs[k]?=some v->j<=v):=by
 obtain⟨_,a,b,c⟩:=bp h j xs.size 0 xs.size (by lia) (by lia) (zK _) (fun k v hk _=>absurd hk (Ce _)) (fun k v hk e=>by have:=(Array.getElem?_eq_some_iff.mp e).1;lia)
 exact⟨a,b,c⟩
theorem Zi (h:D1 xs)(e:xs[i]?=some a):SetTable.below xs (a+1)=i+1:=by
 obtain⟨h1,h2,h3⟩:=Tb h (a+1);have hi:=(Array.getElem?_eq_some_iff.mp e).1;rcases Nat.lt_trichotomy (SetTable.below xs (a+1)) (i+1) with c | c | c
 . have:=h3 i a (by lia) e;lia
 . exact c
 . have hl:i+1<xs.size:=by lia
   have e2:xs[i+1]?=some xs[i+1]:=Array.getElem?_eq_getElem hl;have a1:=h2 (i+1) _ c e2;have a2:=h.lt (i:=i) (j:=i+1) (by lia) e e2
   lia
theorem cG (h:D1 xs):SetTable.below xs 0=0:=by
 obtain⟨h1,h2,h3⟩:=Tb h 0;rcases Nat.eq_zero_or_pos (SetTable.below xs 0) with c | c
 . exact c
 . have hl:0<xs.size:=by lia
   have:=h2 0 _ c (Array.getElem?_eq_getElem hl)
   lia
theorem ZK (h:D1 xs)(ne:xs[SetTable.below xs j]?≠some j):D1 (SetTable.insertAt xs (SetTable.below xs j) j):=by
 obtain⟨h1,h2,h3⟩:=Tb h j;unfold D1;rw[SetTable.toList_insertAt];have hp:(xs.toList.take (SetTable.below xs j)++xs.toList.drop (SetTable.below xs j)).Pairwise (· < ·):=by rw[Jw];exact h
 obtain⟨p1,p2,p3⟩:=List.pairwise_append.mp hp;have lo:∀a∈xs.toList.take (SetTable.below xs j),a<j:=fun a ha=>by obtain⟨k,hk,e⟩:=zr ha;rw[zp] at hk;rw[List.getElem_take] at e;exact h2 k a (by lia) (by rw[<-Array.getElem?_toList,zD (by lia),e])
 have hi:∀a∈xs.toList.drop (SetTable.below xs j),j<a:=fun a ha=>by
  obtain⟨k,hk,e⟩:=zr ha;rw[List.length_drop] at hk;rw[List.getElem_drop] at e;have eg:xs[SetTable.below xs j+k]?=some a:=by rw[<-Array.getElem?_toList,zD (by lia),e]
  have:=h3 _ a (by lia) eg;by_cases c:k=0
  . subst c;rw[Nat.add_zero] at eg;have:a≠j:=fun z=>ne (by rw[eg,z])
    lia
  . have hz:SetTable.below xs j<xs.size:=by simp at hk;lia
    have e0:xs[SetTable.below xs j]?=some xs[SetTable.below xs j]:=Array.getElem?_eq_getElem hz;have a0:=h3 _ _ (zK _) e0;have a1:=h.lt (i:=SetTable.below xs j) (j:=SetTable.below xs j+k) (by lia) e0 eg
    lia
 refine List.pairwise_append.mpr {p1,Gy.mpr ⟨hi,p2⟩,fun a ha b hb=>?_};rcases zb.mp hb with rfl | hb
 . exact lo a ha
 . exact p3 a ha b hb
structure GT (led:Bool)(t:SetTable):Prop where
 dm:t.dummies=#[]
 ld:t.led=led
 rs:t.plain=true->D1 t.place
theorem Z5 (led:Bool):GT led (SetTable.fresh 0 0 led):={3,fun _=>Jo}
theorem V3 (j):SetTable.has #[] j=false:=by unfold SetTable.has;simp
theorem Vh {t:SetTable}(hd:t.dummies=#[]):(t.slot j=.empty->t.place[SetTable.below t.place j]?≠some j)/\t.slot j ≠ .dummy:=by
 unfold SetTable.slot;rw[hd,V3];dsimp only;constructor
 . intro h e;rw[e] at h;simp at h
 . split <;> simp
theorem bx (hd:t.dummies=#[]):∀fuel p,p.dummy=none->SetTable.probe.go t ha hh fuel p=some (.empty j d)->t.slot j=.empty/\d=none:=by
 intro fuel
 induction fuel with
 | zero=>intro p _ h;unfold SetTable.probe.go at h;cases h
 | succ fuel ih=>
  intro p hp h;unfold SetTable.probe.go at h;cases e:t.slot p.j with
  | empty=>rw[e] at h;simp only[J7,SetTable.Met.empty.injEq] at h;exact{by rw[<-h.1];exact e,by rw[<-h.2];exact hp}
  | dummy=>exact absurd e (Vh hd).2
  | live i=>
   rw[e] at h;dsimp only at h;split at h
   . cases h
   . refine ih _ ?_ h;unfold SetTable.advance;split
     . exact hp
     . exact hp
theorem bg {t:SetTable}(hd:t.dummies=#[])(h:t.freeSlot hh=some (j,w)):t.place[SetTable.below t.place j]?≠some j:=by
 unfold SetTable.freeSlot at h;cases e:t.probe (fun _=>hh+1) hh (t.probeStart hh) with
 | none=>rw[e] at h;cases h
 | some met=>
  rw[e] at h;cases met with
  | candidate a b c=>cases h
  | empty j' d=>obtain⟨e1,e2⟩:=bx hd _ _ rfl e;subst e2;simp only[Option.getD_none,J7,Prod.mk.injEq] at h;rw[<-h.1];exact (Vh hd).1 e1
theorem MQ (g:GT led t)(h:t.place[SetTable.below t.place j]?≠some j):GT led (t.put j).1:=by unfold SetTable.put;refine{?_,g.ld,fun hp=>ZK (g.rs hp) h};dsimp only;rw[g.dm,V3];rfl
theorem Qe (g:GT led t)(n):GT led (t.standIn n):={0,g.ld,fun h=>by cases h}
theorem QC (g:GT led t)(n):GT led (t.orStandIn n):=by
 unfold SetTable.orStandIn;split
 . exact g
 . exact Qe g n
theorem MV (g:GT led t)(es)(h)(x):GT led (layNew t es h x).2.1:=by
 unfold layNew;cases e:t.freeSlot h with
 | none=>exact Qe g _
 | some q=>obtain⟨j,w⟩:=q;exact QC (MQ g (bg g.dm e)) _
theorem dQ {f:Nat->Option Nat}:∀(l:List Nat),l.Pairwise (· < ·)->((l.filterMap fun j=>(f j).map (j,·)).map (·.1)).Pairwise (· < ·):=by
 intro l h;rw[Fq,List.pairwise_filterMap];refine h.imp fun {a b} ja x hx y hy=>?_;cases ea:f a with
 | none=>rw[ea] at hx;cases hx
 | some u=>
  cases eb:f b with
  | none=>rw[eb] at hy;cases hy
  | some v=>rw[ea] at hx;rw[eb] at hy;cases hx;cases hy;exact ja
theorem ZW (g:GT led t)(es)(n):GT led (relayAll t es n).2.1:=by
 unfold relayAll;cases e:t.relaid (es.map (·.1)) n with
 | none=>exact Qe g _
 | some q=>
  obtain⟨t',order⟩:=q;dsimp only;split
  . unfold SetTable.relaid SetTable.laid at e;simp only[Option.bind_eq_bind,Option.bind_eq_some_iff,Option.pure_def,J7,Prod.mk.injEq] at e;obtain⟨owner,_,e1,_⟩:=e;rw[<-e1];refine{0,g.ld,fun _=>?_};show List.Pairwise _ (List.map _ _).toArray.toList;exact dQ _ List.pairwise_lt_range
  . exact Qe g _
end STb
namespace STb
open PySem PySem.Spec PyProof.Rows L2
structure U4 (prog:Program)(w:World)(led:Bool)(S:Int->Bool)(n:Nat)(el:Array (Int×Value))(tb:SetTable):Prop where
 elm:ElemsOf (intKind prog w) el.toList
 mem:∀k,S k=true↔∃e∈el.toList,(intKind prog w).is k e.2=true
 few:el.size<scanBound
 fit:tb.fits el.size=true
 siz:el.size=n
 gt:GT led tb
def CF (prog:Program)(w:World)(led:Bool)(h:Heap)(a:Addr)(S:Int->Bool)(n:Nat):Prop:=
 ∃ob el ep tb,h.get? a=some ob/\ob.ExactSet/\ob.data=.set el ep tb/\U4 prog w led S n el tb
theorem CF.keep (x:CF prog w led h a S n)(k:∀o,h.get? a=some o->h'.get? a=some o):CF prog w led h' a S n:=
 let ⟨ob,el,ep,tb,g1,g2,g3,g4⟩:=x;{ob,el,ep,tb,k _ g1,g2,g3,g4}
theorem CF.congr (x:CF prog w led h a S n)(e:∀k,S' k=S k)(en:n'=n):CF prog w led h a S' n':=by obtain⟨ob,el,ep,tb,g1,g2,g3,g4⟩:=x;subst en;exact{ob,el,ep,tb,g1,g2,g3,{g4.elm,fun k=>by rw[e k];exact g4.mem k,g4.few,g4.fit,g4.siz,g4.gt}}
theorem WA {h:Heap}(g1:h.get? a=some ob)(g3:ob.data=.set el ep tb)(el')(tb':SetTable):
 (h.update a (Obj.putSet el' tb')).get? a=some { ob with data:=.set el' (ep+1) tb' }:=by
 have q:=Ck (Obj.putSet el' tb') g1 (by rw[putSet_of el' tb' g3];rfl);rwa [putSet_of el' tb' g3] at q
theorem XH {note:Bool->Sem Unit}
 (hn:∀b s₁ Q',Q' () s₁->wpAny (model prog w) A (note b) Q' E s₁)
 (g1:s.heap.get? a=some ob)(g2:ob.ExactSet)(g3:ob.data=.set el ep tb)(B:U4 prog w led S n gZ il)
 (q:∀h',Heap.SameBut a s.heap h'->CF prog w led h' a S n->R (some true) { s with heap:=h' }):
 wpAny (model prog w) A (storeSet a gZ il >>= fun _=>if (!wd && il.tooFull)=true then (note (relayAll il gZ (SetTable.grown gZ.size)).2.2 >>= fun _=>storeSet a (relayAll il gZ (SetTable.grown gZ.size)).1 (relayAll il gZ (SetTable.grown gZ.size)).2.1 >>= fun _=>pure (some true)) else pure (some true)) R E s:=by
 refine zA (wpAny_storeSet_of g1 g3 ?_ (fits_of_scanBound B.few));have p1:=WA g1 g3 gZ il;have b1:=EH s.heap a (Obj.putSet gZ il);by_cases c:(!wd && il.tooFull)=true
 . rw[if_pos c];have pm:=relayAll_perm il gZ (SetTable.grown gZ.size);have pf:=relayAll_fits il gZ (SetTable.grown gZ.size);have pg:=ZW B.gt gZ (SetTable.grown gZ.size);generalize relayAll il gZ (SetTable.grown gZ.size)=ra at pm pf pg ⊢;obtain⟨el2,tb2,gv⟩:=ra;dsimp only at pm pf pg ⊢;have z:el2.size=gZ.size:=by rw[<-Array.length_toList,pm.length_eq,Array.length_toList]
   refine zA (hn _ _ _ (zA (wpAny_storeSet_of p1 rfl ?_ (fits_of_scanBound (by rw[z];exact B.few)))));refine zE (q _ (b1.trans (EH _ a _)) {_,el2,_,tb2,WA p1 rfl el2 tb2,g2,0,{B.elm.perm pm,fun k=>(B.mem k).trans ?_,by rw[z];exact B.few,pf,by rw[z];exact B.siz,pg}});exact{fun ⟨e,he,u⟩=>{e,pm.mem_iff.mpr he,u},fun ⟨e,he,u⟩=>{e,pm.mem_iff.mp he,u}}
 . rw[if_neg c];exact zE (q _ b1 {_,gZ,_,il,p1,g2,0,B})
theorem OB (G:CF prog w led s.heap a S n)(room:n+1<scanBound)
 (q:∀h',Heap.SameBut a s.heap h'->CF prog w led h' a (fun j=>S j || decide (j=k)) (if S k then n else n+1)->Q (!S k) { s with heap:=h' }):
 wpAny (model prog w) A (setAddHashed a (.int k tk) ((intKind prog w).hash k)) Q E s:=by
 have kk:(intKind prog w).is k (.int k tk)=true:=intKind_is _ _ _ _;obtain⟨ob,el,ep,tb,g1,g2,g3,B⟩:=G;unfold setAddHashed setAddHashedIn;refine BD (zA (IC g1 g3 B.fit ?_));dsimp only;rw[byScan_of (knd:=intKind prog w) (x:=.int k tk) rfl B.few B.elm];rw[if_pos rfl];unfold setAddByScan;refine zA (zA (DR (zA (wpAny_setScan_of kk g1 g3 B.fit B.elm ?_))));cases fi:el.toList.findIdx? (fun e=>(intKind prog w).is k e.2) with
 | some j=>
  obtain⟨hj,hp,_⟩:=List.findIdx?_eq_some_iff_getElem.mp fi;have yes:S k=true:=(B.mem k).mpr {_,El hj,hp};refine zE (zE ?_);have r:=q s.heap (Heap.SameBut.refl a s.heap) {ob,el,ep,tb,g1,g2,g3,{B.elm,fun i=>?_,B.few,B.fit,by rw[yes];exact B.siz,B.gt}}
  . rw[yes] at r;exact r
  . rw[Bool.or_eq_true,decide_eq_true_eq,<-B.mem i];exact{fun z=>z.elim id fun e=>by rw[e];exact yes,.inl}
 | none=>
  have no:S k=false:=by
   cases hk:S k with
   | false=>rfl
   | true=>obtain⟨e,he,hp⟩:=(B.mem k).mp hk;have:=List.findIdx?_eq_none_iff.mp fi e he;rw[hp] at this;cases this
  dsimp only;have pm:=layNew_perm tb el ((intKind prog w).hash k) (.int k tk);have pf:=layNew_fits tb el ((intKind prog w).hash k) (.int k tk);have pg:=MV B.gt el ((intKind prog w).hash k) (.int k tk);generalize layNew tb el ((intKind prog w).hash k) (.int k tk)=la at pm pf pg ⊢;obtain⟨gZ,il,wd,gv⟩:=la;dsimp only at pm pf pg ⊢;rw[Array.toList_push] at pm;have z:gZ.size=n+1:=by rw[<-Array.length_toList,pm.length_eq,zH,Array.length_toList,B.siz];rfl
  have B1:U4 prog w led (fun j=>S j || decide (j=k)) (n+1) gZ il:={(B.elm.push kk rfl).perm pm,mem_push_iff kk B.mem pm,by rw[z];exact room,pf,z,pg};have fin:∀h',Heap.SameBut a s.heap h'->CF prog w led h' a (fun j=>S j || decide (j=k)) (n+1)->Q true { s with heap:=h' }:=fun h' hs hG=>by have r:=q h' hs;rw[no] at r;exact r hG
  have nt:∀(b:Bool)(s₁:Shared)(Q':Unit->Shared->Prop),Q' () s₁->wpAny (model prog w) A (match b with | true=>rule "set.scan.the-table-gave-way" | false=>pure ()) Q' E s₁:=fun b s₁ Q' u=>by
   cases b
   . exact zE u
   . exact DR u
  refine zA (nt gv _ _ ?_);by_cases c:il.plain=true
  . rw[if_pos c];refine zA (wpAny_of_eq (m':=pure true) rfl (zE ?_));rw[if_pos rfl];exact XH nt g1 g2 g3 B1 fun h' hs hG=>zE (fin h' hs hG)
  . rw[if_neg c];refine zA (zE ?_);rw[if_pos rfl];exact XH nt g1 g2 g3 B1 fun h' hs hG=>zE (fin h' hs hG)
theorem Eb:Slot "set_iterator" "__next__" "set_iterator.__next__" := .of (owner := "set_iterator") (n := "__next__") (by rw[typeLookup_type,builtinLookup_eq_fast];kernel_rfl) (by decide +kernel) (by decide +kernel) (by decide +kernel) (by first | exact .inl (by decide +kernel) | exact .inr (by decide +kernel)) (by rw[isSubtype_type];kernel_rfl)
theorem Vs:Slot "set_iterator" "__iter__" "set_iterator.__iter__" := .of (owner := "set_iterator") (n := "__iter__") (by rw[typeLookup_type,builtinLookup_eq_fast];kernel_rfl) (by decide +kernel) (by decide +kernel) (by decide +kernel) (by first | exact .inl (by decide +kernel) | exact .inr (by decide +kernel)) (by rw[isSubtype_type];kernel_rfl)
theorem QU:entryFor table "set_iterator.__next__"=some Builtin.«set_iterator.__next__» := entryFor_of_tree (by kernel_rfl)
theorem aM:entryFor table "set_iterator.__iter__"=some Builtin.«dict_keyiterator.__iter__» := entryFor_alias (id' := "dict_keyiterator.__iter__") (by kernel_rfl) (by first | rfl | decide +kernel) (by decide +kernel) (by kernel_rfl)
theorem Zm:entryFor table "set.__iter__"=some Builtin.«frozenset.__iter__» := entryFor_alias (id' := "frozenset.__iter__") (by kernel_rfl) (by first | rfl | decide +kernel) (by decide +kernel) (by kernel_rfl)
theorem XN:Manifest.owners.lookup (String.ofList ['r','o','t','a','r','e','t','i','_','t','e','s'].reverse)=some Manifest.sig_set_iterator:=by kernel_rfl
theorem RM (a):argsOk "set_iterator.__next__" {[a],[]}:=by
 unfold argsOk;rw[signature?_of (id := "set_iterator.__next__") (n:=['_','_','t','x','e','n','_','_']) (o:=['r','o','t','a','r','e','t','i','_','t','e','s']) (by kernel_rfl) XN]
 kernel_rfl
theorem bV (a):argsOk "set_iterator.__iter__" {[a],[]}:=by
 unfold argsOk;rw[signature?_of (id := "set_iterator.__iter__") (n:=['_','_','r','e','t','i','_','_']) (o:=['r','o','t','a','r','e','t','i','_','t','e','s']) (by kernel_rfl) XN]
 kernel_rfl
theorem UB {α:Type}:∀{l:List α}{k:Nat}{x:α},l[k]?=some x->(x::l.eraseIdx k).Perm l
 | [],_,_,h=>by simp at h
 | _::_,0,_,h=>by simp at h;subst h;exact List.Perm.refl _
 | y::r,k+1,x,h=>by show (x::y::r.eraseIdx k).Perm (y::r);exact (List.Perm.swap y x _).trans ((UB (by simpa using h)).cons y)
theorem Ww (next:Nat->Nat):∀(fuel k:Nat)(left:List α)(out:Array α),left.length=fuel->(pickOrder.go next fuel k left out).toList.Perm (out.toList++left)
 | 0,k,left,out,h=>by have:left=[]:=Hk.mp h;subst this;unfold pickOrder.go;rw[zv]
 | fuel+1,k,left,out,h=>by unfold pickOrder.go;have hl:next k%left.length<left.length:=Nat.mod_lt _ (by lia);have e:left[next k%left.length]?=some left[next k%left.length]:=zD hl;rw[e];dsimp only;refine (Ww next fuel (k+1) _ _ (by rw[List.length_eraseIdx,if_pos hl];lia)).trans ?_;rw[Array.toList_push,Dk];exact (UB e).append_left _
theorem WQ (next:Nat->Nat)(xs:Array α):(pickOrder next xs).toList.Perm xs.toList:=by have:=Ww next xs.size 0 xs.toList #[] (by simp);simpa [pickOrder] using this
theorem Pe (hn:n≠0)(h:∀i d',i<n->Q i { s with drawn:=d' }):wpAny (model prog w) A (choose src n) Q E s:=
 fun _ _ _=>{hn,h _ _ (Nat.mod_lt _ (Nat.pos_of_ne_zero hn))}
theorem WW :∀(k:Nat)(xs:List α)(s:Shared)(Q:List α->Shared->Prop),xs.length=k->(∀ys d',ys.Perm xs->Q ys { s with drawn:=d' })->wpAny (model prog w) A (drawOrder k xs) Q E s
 | 0,xs,s,Q,h,q=>by have:xs=[]:=Hk.mp h;subst this;unfold drawOrder;exact zE (q [] s.drawn (List.Perm.refl _))
 | k+1,[],s,Q,h,q=>by cases h
 | k+1,x::r,s,Q,h,q=>by unfold drawOrder;refine zA (Pe (by simp) fun i d' hi=>?_);have e:(x::r)[i]?=some (x::r)[i]:=zD hi;rw[e];dsimp only;refine zA (WW k _ _ _ (by rw[List.length_eraseIdx,if_pos hi];lia) fun ys d2 hp=>zE ?_);exact q _ d2 ((hp.cons _).trans (UB e))
def Bo (h:Heap)(a:Addr)(el:Array (Int×Value))(ep:Nat)(tb:SetTable):Prop:=∃ob,h.get? a=some ob/\ob.ExactSet/\ob.data=.set el ep tb
theorem Bo.keep (x:Bo h a el ep tb)(k:∀o,h.get? a=some o->h'.get? a=some o):Bo h' a el ep tb:=let ⟨ob,g,r⟩:=x;{ob,k _ g,r}
theorem Bo.typeIs {s:Shared}(x:Bo s.heap a el ep tb):s.TypeIs (.ref a) "set" := let {ob,g,c,_}:=x;⟨ob,g,c.1⟩
theorem Bo.lt (x:Bo h a el ep tb):a<h.objs.size:=let {_,g,_}:=x;zZ g
def SI (h:Heap)(I:Addr)(f:Value)(i n ep:Nat)(a:Addr):Prop:=∃o,h.get? I=some o/\o.cls=.type "set_iterator"/\o.data=.fields #[f,.int i 0,.ref a,.int n 0,.int ep 0]
theorem SI.typeIs {s:Shared}(x:SI s.heap I f i n ep a):s.TypeIs (.ref I) "set_iterator" := let {o,h,c,_}:=x;⟨o,h,c⟩
theorem SI.keep (x:SI h I f i n ep a)(k:∀o,h.get? I=some o->h'.get? I=some o):SI h' I f i n ep a:=let ⟨o,g,r⟩:=x;{o,k _ g,r}
section
variable {prog:Program}{w:World}{A:Around}{E:B8}{s:Shared}{a I:Addr}{el:Array (Int×Value)}{ep:Nat}{tb:SetTable}
noncomputable def ED (f:Value)(n ep:Nat)(a:Addr):Obj:={ cls:=.type "set_iterator",data:=.fields #[f,.int 0 0,.ref a,.int n 0,.int ep 0] }
theorem cq (hm:Bo s.heap a el ep tb)(hf:tb.fits el.size=true)
 (qa:(w.params.followText "set-order"=true\/tb.plain=true\/el.size<=1)->Q (.ref s.heap.objs.size) { s with heap:=s.heap.push (ED (.int 0 0) el.size ep a) })
 (qb:∀(ys:List Nat)d',ys.Perm (List.range el.size)->Q (.ref (s.heap.push { cls:=.type "tuple",data:=.seq (ys.map fun (i:Nat)=>rawInt i).toArray }).objs.size) { s with heap:=(s.heap.push { cls:=.type "tuple",data:=.seq (ys.map fun (i:Nat)=>rawInt i).toArray }).push (ED (.ref s.heap.objs.size) el.size ep a),drawn:=d' }) (hz:el.size<=100000):
 wpAny (model prog w) A (pyIter (.ref a)) Q E s:=by
 obtain⟨ob,g1,g2,g3⟩:=id hm;refine wpAny_pyIter_slot hm.typeIs F.slot_set_iter (Cf F.slot_set_iter hm.typeIs Zm ?_ (F.args_set_iter_1 _));unfold Builtin.«frozenset.__iter__»;refine zA ?_;refine zA (zE (zE ?_));refine zA ?_;unfold Builtin.Frozenset.sizeOf;refine zA (wpAny_setEntries_of g1 g3 hf (zE ?_));unfold setDrawn setsByText;refine zA (zA (IC g1 g3 hf (zA (zA (wpAny_askSetting (zE (zE ?_)))))));show wpAny _ _ (if (!w.params.followText "set-order" && (!tb.plain && decide (el.size > 1)))=true then _ else _) _ _ s
 by_cases c:(!w.params.followText "set-order" && (!tb.plain && decide (el.size > 1)))=true
 . rw[if_pos c];refine zA (WW _ _ _ _ (by rw[DG]) fun ys d' hp=>zA ?_);unfold newTuple;refine Cg ?_ ?_
   . unfold setEpoch;refine zA (zA (IC (zL _ g1) g3 hf (zE ?_)));refine zA (Cg (zE {1, "set_iterator",_,{_,zU _ rfl,0},Eb.lookup,?_}));exact qb ys d' hp
   . show (List.toArray _).size<=sizeLine;rw[zP,zB,hp.length_eq,DG];have:sizeLine=16777216:=rfl
     lia
 . rw[if_neg c];refine zA (zE ?_);unfold setEpoch;refine zA (zA (IC g1 g3 hf (zE ?_)));refine zA (Cg (zE {1, "set_iterator",_,{_,zU _ rfl,0},Eb.lookup,?_}));refine qa ?_;by_cases c1:w.params.followText "set-order"=true
   . exact .inl c1
   . right;by_cases c2:tb.plain=true
     . exact .inl c2
     . right;by_cases c3:el.size<=1
       . exact c3
       . exact absurd (by simp[c1,c2];lia) c
theorem Vk (hm:Bo s.heap a el ep tb)(hf:tb.fits el.size=true)(ht:w.params.followText "set-order"=true)
 (q:Q (((pickOrder (w.params.setOrder a ep) el)[given]?).map fun e=>(e.2,slot)) s):wpAny (model prog w) A (setNext a slot given ep) Q E s:=by
 obtain⟨ob,g1,g2,g3⟩:=id hm;unfold setNext setsByText;refine zA (IC g1 g3 hf (zA (zA (wpAny_askSetting (zE ?_)))));show wpAny _ _ (if w.params.followText "set-order"=true then _ else _) _ _ s
 rw[if_pos ht];show wpAny _ _ (if (ep != ep)=true then _ else _) _ _ s
 rw[if_neg (by simp)];unfold setWalk setsByText;refine zA (zA (IC g1 g3 hf (zA (zA (wpAny_askSetting (zE ?_))))));show wpAny _ _ (if w.params.followText "set-order"=true then _ else _) _ _ s
 rw[if_pos ht];refine zA (wpAny_askSetting (zE (zE q)))
theorem VZ (hm:Bo s.heap a el ep tb)(hf:tb.fits el.size=true)(ht:w.params.followText "set-order"=false) (hp:tb.plain=true\/el.size<=1)(hl:tb.led=true)(hi:SetTable.below tb.place slot=i)
 (q:Q (match el[i]?,tb.place[i]? with | some (_,x),some j=>some (x,j+1) | _,_=>none) s):wpAny (model prog w) A (setNext a slot given ep) Q E s:=by
 obtain⟨ob,g1,g2,g3⟩:=id hm;unfold setNext setsByText;refine zA (IC g1 g3 hf (zA (zA (wpAny_askSetting (zE ?_)))));show wpAny _ _ (if w.params.followText "set-order"=true then _ else _) _ _ s
 rw[if_neg (by rw[ht];simp)];show wpAny _ _ (if (!tb.plain && decide (el.size > 1))=true then _ else _) _ _ s
 rw[if_neg (by rcases hp with z | z <;> simp[z])];show wpAny _ _ ((if (!tb.led && !el.isEmpty)=true then _ else _) >>= _) _ _ s
 rw[if_neg (by rw[hl];simp)];refine zA (zE ?_);dsimp only;rw[hi];exact zE q
def YA (prog:Program)(w:World)(a:Addr)(slot i ep:Nat)(r:Option (Value×Nat))(s:Shared):Prop:=∀A E Q,Q r s->wpAny (model prog w) A (setNext a slot i ep) Q E s
theorem Lj {h:Heap}{i n:Nat}(ho:h.get? I=some o)(hc:o.cls=.type "set_iterator") (hd:o.data=.fields #[f,.int i 0,.ref a,.int n 0,.int ep 0]):
 SI ((h.update I (Obj.mapFields (·.setIfInBounds 0 f'))).update I (Obj.mapFields (·.setIfInBounds 1 (rawInt ((i:Int)+1))))) I f' (i+1) n ep a:=by
 have e1:(h.update I (Obj.mapFields (·.setIfInBounds 0 f'))).get? I=some (Obj.mapFields (·.setIfInBounds 0 f') o):=Ck _ ho (Obj.isFreed_of_fields (Obj.data_mapFields hd _));have d1:=Obj.data_mapFields hd (·.setIfInBounds 0 f');refine{_,Ck _ e1 (Obj.isFreed_of_fields (Obj.data_mapFields d1 _)),(Obj.cls_mapFields ..).trans ((Obj.cls_mapFields ..).trans hc),?_};rw[Obj.data_mapFields d1];simp[rawInt]
theorem LD {h:Heap}{i n:Nat}(ho:h.get? I=some o)(hc:o.cls=.type "set_iterator") (hd:o.data=.fields #[f,.int i 0,.ref a,.int n 0,.int ep 0]):
 SI (h.update I (Obj.mapFields (·.setIfInBounds 1 (rawInt ((i:Int)+1))))) I f (i+1) n ep a:=by
 refine{_,Ck _ ho (Obj.isFreed_of_fields (Obj.data_mapFields hd _)),(Obj.cls_mapFields ..).trans hc,?_};rw[Obj.data_mapFields hd];simp[rawInt]
theorem YM {slot:Nat}(hit:SI s.heap I (.int slot 0) i el.size ep a)(hm:Bo s.heap a el ep tb)(hf:tb.fits el.size=true)(hs:YA prog w a slot i ep (some (x,nx)) s)
 (hQ:∀h',SI h' I (.int nx 0) (i+1) el.size ep a->Heap.SameBut I s.heap h'->Q (some x) { s with heap:=h' }):wpAny (model prog w) A (pyNext (.ref I)) Q E s:=by
 obtain⟨o,ho,hc,hd⟩:=id hit;obtain⟨ob,g1,g2,g3⟩:=id hm;unfold pyNext;refine zA (Gq (Ek (name:=Str.ofString "__next__") hit.typeIs Eb (Cf Eb hit.typeIs QU ?_ (RM _))));unfold Builtin.«set_iterator.__next__»;refine zA (zE ?_);refine zA (wpAny_fieldsOf ho hd ?_);refine zA (wpAny_setEntries_of g1 g3 hf ?_);rw[if_neg (by simp)];dsimp only;rw[Bm,Bm,Bm];refine zA (hs _ _ _ ?_);dsimp only;refine zA (Fg ho hd (by simp) ?_);have e1:(s.heap.update I (Obj.mapFields (·.setIfInBounds 0 (rawInt (nx:Int))))).get? I=some (Obj.mapFields (·.setIfInBounds 0 (rawInt (nx:Int))) o):=Ck _ ho (Obj.isFreed_of_fields (Obj.data_mapFields hd _));refine zA (Fg e1 (Obj.data_mapFields hd _) (by simp) ?_);refine zE {1,zE (hQ _ (Lj ho hc hd) ((EH ..).trans (EH ..)))}
theorem Xi {Q:Option Value->Shared->Prop}(hh:A.handled=none)(hQ:∀h',(∀b o,h0.get? b=some o->h'.get? b=some o)->Q none { s with heap:=h' }):
 wpAny (model prog w) A.in1 (newExc (.type "StopIteration") [] >>= fun e=>raiseNew (α:=Fin) e) R (fun e s'=>wpAny (model prog w) A (isInstance e (.type "StopIteration") >>= fun b=>if b=true then pure none else throw e) Q E s') { s with heap:=h0 }:=by
 refine zA ?_;simp only[newExc,newTuple];refine zA (Cg ?_ (by size_fits));refine zA (m:=firstArgMember _ _) (wpAny_of_eq (m':=pure Value.none) (by first | rfl | (simp only[firstArgMember];rfl)) (zE ?_));refine Cg ?_ (by size_fits);simp only[raiseNew];refine zA (wpAny_handled ?_);rw[show A.in1.handled=none from hh];refine zA (zE (wpAny_throw ?_));refine zA (Dd (T := "StopIteration") (b:=true) {_,zU _ rfl,0} isSubtype_stop ?_);exact zE (hQ _ fun b o e=>zL _ (zL _ e))
theorem Ih {slot:Nat}(hh:A.handled=none)(hit:SI s.heap I (.int slot 0) i el.size ep a)(hm:Bo s.heap a el ep tb)(hf:tb.fits el.size=true)(hs:YA prog w a slot i ep none s)
 (hQ:∀h',(∀b o,b≠I->s.heap.get? b=some o->h'.get? b=some o)->Q none { s with heap:=h' }):wpAny (model prog w) A (pyNext (.ref I)) Q E s:=by
 obtain⟨o,ho,hc,hd⟩:=id hit;obtain⟨ob,g1,g2,g3⟩:=id hm;unfold pyNext;refine zA (Gq (Ek (name:=Str.ofString "__next__") hit.typeIs Eb (Cf Eb hit.typeIs QU ?_ (RM _))));unfold Builtin.«set_iterator.__next__»;refine zA (zE ?_);refine zA (wpAny_fieldsOf ho hd ?_);refine zA (wpAny_setEntries_of g1 g3 hf ?_);rw[if_neg (by simp)];dsimp only;rw[Bm,Bm,Bm];refine zA (hs _ _ _ ?_);dsimp only;refine zA (Fg ho hd (by simp) ?_);refine Xi hh fun h' k=>hQ h' fun b o' nb e=>k b o' ((EH s.heap I _).extBut b o' nb e)
end
section
variable {prog:Program}{w:World}{A:Around}{E:B8}{s:Shared}{a I tp:Addr}{el:Array (Int×Value)}{ep:Nat}{tb:SetTable}
def KC (h:Heap)(tp:Addr)(ys:List Nat):Prop:=∃o n,h.get? tp=some o/\o.data=.seq (ys.map fun (i:Nat)=>rawInt i).toArray n
theorem KC.keep (x:KC h tp ys)(k:∀o,h.get? tp=some o->h'.get? tp=some o):KC h' tp ys:=let ⟨o,n,e,d⟩:=x;{o,n,k _ e,d}
theorem K9 (hit:SI s.heap I (.ref tp) i el.size ep a)(hm:Bo s.heap a el ep tb)(hf:tb.fits el.size=true)(ht:KC s.heap tp ys)(hy:ys[i]?=some y)(he:el[y]?=some e)
 (hQ:∀h',SI h' I (.ref tp) (i+1) el.size ep a->Heap.SameBut I s.heap h'->Q (some e.2) { s with heap:=h' }):wpAny (model prog w) A (pyNext (.ref I)) Q E s:=by
 obtain⟨o,ho,hc,hd⟩:=id hit;obtain⟨ob,g1,g2,g3⟩:=id hm;obtain⟨ot,n,t1,t2⟩:=ht;unfold pyNext;refine zA (Gq (Ek (name:=Str.ofString "__next__") hit.typeIs Eb (Cf Eb hit.typeIs QU ?_ (RM _))));unfold Builtin.«set_iterator.__next__»;refine zA (zE ?_);refine zA (wpAny_fieldsOf ho hd ?_);refine zA (wpAny_setEntries_of g1 g3 hf ?_);rw[if_neg (by simp)];refine zA (Di t1 t2 ?_);dsimp only;have ey:(ys.map fun (i:Nat)=>rawInt i).toArray[(i:Int).toNat]?=some (.int (y:Int) 0):=by rw[Bm,DQ,zN,hy];rfl
 rw[ey];dsimp only;rw[Bm,Bm];unfold setNextDrawn;refine zA (zA (IC g1 g3 hf ?_));show wpAny _ _ (if (ep != ep)=true then _ else _) _ _ s
 rw[if_neg (by simp)];obtain⟨e1,e2⟩:=e;show wpAny _ _ (match el[y]? with | some (_,x)=>_ | _=>_) _ _ s
 rw[he];refine zE ?_;refine zA (Fg ho hd (by simp) ?_);exact zE {1,zE (hQ _ (LD ho hc hd) (EH ..))}
theorem P7 (hh:A.handled=none)(hit:SI s.heap I (.ref tp) i el.size ep a)(hm:Bo s.heap a el ep tb)(hf:tb.fits el.size=true)(ht:KC s.heap tp ys)(hy:ys[i]?=none)
 (hQ:∀h',(∀b o,b≠I->s.heap.get? b=some o->h'.get? b=some o)->Q none { s with heap:=h' }):wpAny (model prog w) A (pyNext (.ref I)) Q E s:=by
 obtain⟨o,ho,hc,hd⟩:=id hit;obtain⟨ob,g1,g2,g3⟩:=id hm;obtain⟨ot,n,t1,t2⟩:=ht;unfold pyNext;refine zA (Gq (Ek (name:=Str.ofString "__next__") hit.typeIs Eb (Cf Eb hit.typeIs QU ?_ (RM _))));unfold Builtin.«set_iterator.__next__»;refine zA (zE ?_);refine zA (wpAny_fieldsOf ho hd ?_);refine zA (wpAny_setEntries_of g1 g3 hf ?_);rw[if_neg (by simp)];refine zA (Di t1 t2 ?_);dsimp only;have ey:(ys.map fun (i:Nat)=>rawInt i).toArray[(i:Int).toNat]?=none:=by rw[Bm,DQ,zN,hy];rfl
 rw[ey];dsimp only;refine zA (Fg ho hd (by simp) ?_);have e1:(s.heap.update I (Obj.mapFields (·.setIfInBounds 0 (rawInt 0)))).get? I=some (Obj.mapFields (·.setIfInBounds 0 (rawInt 0)) o):=Ck _ ho (Obj.isFreed_of_fields (Obj.data_mapFields hd _));refine zA (Fg e1 (Obj.data_mapFields hd _) (by simp) ?_);refine Xi hh fun h' k=>hQ h' fun b o' nb e=>k b o' ((EH _ I _).extBut b o' nb ((EH s.heap I _).extBut b o' nb e))
theorem YF (hit:SI s.heap I f i el.size ep a)(h:Q (.ref I) s):wpAny (model prog w) A (pyIter (.ref I)) Q E s:=by refine wpAny_pyIter_slot hit.typeIs Vs (Cf Vs hit.typeIs aM ?_ (bV _));show wpAny _ _ (ret (.ref I)) _ _ s;exact zE {1, "set_iterator",_,hit.typeIs,Eb.lookup,h}
noncomputable def De (w:World)(a:Addr)(ep:Nat)(el:Array (Int×Value)):List (Int×Value):=if w.params.followText "set-order"=true then (pickOrder (w.params.setOrder a ep) el).toList else el.toList
theorem Sd:(De w a ep el).Perm el.toList:=by
 unfold De;split
 . exact WQ _ _
 . exact List.Perm.refl _
theorem Wy (h:xs.size<=1):D1 xs:=by
 unfold D1;have hl:xs.toList.length<=1:=by simpa using h
 generalize xs.toList=l at hl;cases l with
 | nil=>exact Jo
 | cons x r=>cases r with
  | nil=>exact List.pairwise_singleton _ _
  | cons y r=>simp at hl
theorem ME (hh:A.handled=none)(hIa:a≠I)(hf:tb.fits el.size=true)(hc:w.params.followText "set-order"=true\/tb.plain=true\/el.size<=1) (gt:GT (!w.params.followText "set-order") tb):
 Walks prog w A I [I,a] [I] el.size (fun i v=>∃e,(De w a ep el)[i]?=some e/\v=e.2) (fun i h=>∃slot:Nat,SI h I (.int slot 0) i el.size ep a/\Bo h a el ep tb/\(w.params.followText "set-order"=false->SetTable.below tb.place slot=i)) where
 sub:=fun b hb=>by simp at hb;simp[hb]
 frame:=fun _ _ _ ⟨slot,h1,h2,h3⟩ hk=>{slot,h1.keep fun o e=>hk I (by simp) o e,h2.keep fun o e=>hk a (by simp) o e,h3}
 item:=fun i s Q E hi ⟨slot,h1,h2,h3⟩ hQ=>by
  have lo:i<(De w a ep el).length:=by rw[Sd.length_eq];simpa using hi
  cases ht:w.params.followText "set-order" with
  | true=>
   have ei:(pickOrder (w.params.setOrder a ep) el)[i]?=some (De w a ep el)[i]:=by
    rw[<-Array.getElem?_toList];have:(pickOrder (w.params.setOrder a ep) el).toList=De w a ep el:=by unfold De;rw[if_pos ht]
    rw[this];exact zD lo
   refine YM (x:=(De w a ep el)[i].2) (nx:=slot) h1 h2 hf (fun A' E' Q' q=>Vk h2 hf ht (by rw[ei];exact q)) fun h' st sb=>?_;exact hQ _ h' s.toks {_,zD lo,0} {slot,st,h2.keep fun o e=>sb.extBut a o hIa e,fun z=>by rw[ht] at z;cases z} fun b o hb e=>sb.extBut b o (fun z=>hb (by simp[z])) e
  | false=>
   have hp:tb.plain=true\/el.size<=1:=hc.resolve_left (by rw[ht];simp);have ps:tb.place.size=el.size:=by simp only[SetTable.fits,G0,beq_iff_eq] at hf;exact hf.1
   have rs:D1 tb.place:=hp.elim gt.rs fun z=>Wy (by lia);have eo:De w a ep el=el.toList:=by unfold De;rw[if_neg (by rw[ht];simp)]
   have e1:el[i]?=some el[i]:=Array.getElem?_eq_getElem hi;have e2:tb.place[i]?=some (tb.place[i]'(by lia)):=Array.getElem?_eq_getElem (by lia);refine YM (x:=el[i].2) (nx:=tb.place[i]'(by lia)+1) h1 h2 hf (fun A' E' Q' q=>VZ (i:=i) h2 hf ht hp (by rw[gt.ld,ht];rfl) (h3 ht) (by rw[e1,e2];exact q)) fun h' st sb=>?_;exact hQ _ h' s.toks {el[i],by rw[eo,Array.getElem?_toList];exact e1,0} {_,st,h2.keep fun o e=>sb.extBut a o hIa e,fun _=>Zi rs e2} fun b o hb e=>sb.extBut b o (fun z=>hb (by simp[z])) e
 done:=fun s Q E ⟨slot,h1,h2,h3⟩ hQ=>by
  cases ht:w.params.followText "set-order" with
  | true=>
   have ei:(pickOrder (w.params.setOrder a ep) el)[el.size]?=none:=by rw[<-Array.getElem?_toList];exact Cu (by rw[(WQ _ _).length_eq];simp)
   exact Ih hh h1 h2 hf (fun A' E' Q' q=>Vk h2 hf ht (by rw[ei];exact q)) fun h' k=>hQ h' s.toks fun b o hb e=>k b o (fun z=>hb (by simp[z])) e
  | false=>have hp:tb.plain=true\/el.size<=1:=hc.resolve_left (by rw[ht];simp);exact Ih hh h1 h2 hf (fun A' E' Q' q=>VZ (i:=el.size) h2 hf ht hp (by rw[gt.ld,ht];rfl) (h3 ht) (by rw[Array.getElem?_eq_none (zK _)];exact q)) fun h' k=>hQ h' s.toks fun b o hb e=>k b o (fun z=>hb (by simp[z])) e
 self:=fun i s Q E ⟨slot,h1,_⟩ h=>YF h1 h
theorem Ls {ys:List Nat}(hh:A.handled=none)(hIa:a≠I)(hIt:tp≠I)(hf:tb.fits el.size=true)(hp:ys.Perm (List.range el.size)):
 Walks prog w A I [I,a,tp] [I] el.size (fun i v=>∃y e,ys[i]?=some y/\el[y]?=some e/\v=e.2) (fun i h=>SI h I (.ref tp) i el.size ep a/\Bo h a el ep tb/\KC h tp ys) where
 sub:=fun b hb=>by simp at hb;simp[hb]
 frame:=fun _ _ _ ⟨h1,h2,h3⟩ hk=>{h1.keep fun o e=>hk I (by simp) o e,h2.keep fun o e=>hk a (by simp) o e,h3.keep fun o e=>hk tp (by simp) o e}
 item:=fun i s Q E hi ⟨h1,h2,h3⟩ hQ=>by
  have hl:ys.length=el.size:=by rw[hp.length_eq,DG]
  have e1:ys[i]?=some ys[i]:=zD (by lia);have hy:ys[i]<el.size:=Eo.mp (hp.mem_iff.mp (El _));have e2:el[ys[i]]?=some el[ys[i]]:=Array.getElem?_eq_getElem hy;refine K9 h1 h2 hf h3 e1 e2 fun h' st sb=>?_;exact hQ _ h' s.toks {4,e1,e2,0} {st,h2.keep fun o e=>sb.extBut a o hIa e,h3.keep fun o e=>sb.extBut tp o hIt e} fun b o hb e=>sb.extBut b o (fun z=>hb (by simp[z])) e
 done:=fun s Q E ⟨h1,h2,h3⟩ hQ=>by
  have hl:ys.length=el.size:=by rw[hp.length_eq,DG]
  exact P7 hh h1 h2 hf h3 (Cu (by lia)) fun h' k=>hQ h' s.toks fun b o hb e=>k b o (fun z=>hb (by simp[z])) e
 self:=fun i s Q E ⟨h1,_⟩ h=>YF h1 h
end
end STb
namespace STb
open PySem PySem.Spec PyProof.Rows PySem.Calls L2
theorem Wv (hT:s.TypeIs (.ref a) "set") (h:Q false s):wpAny (model prog w) A (Builtin.List.listLengthHint (.ref a)) Q E s:=by
 unfold Builtin.List.listLengthHint;refine zA (wpAny_specialOf hT PySem.F.slot_set_len.lookup ?_);generalize hid:("set.__len__" : String)=id0
 wp_delta
 rw[show splitId id0=some ("set", "__len__") from by subst hid;decide +kernel];subst hid;refine zA (Dd (T := "set") (b:=true) hT sub_set_self ?_);refine wpAny_ite_split (fun ja=>absurd ja (by decide)) (fun _=>?_);refine wpAny_ite_split (fun _=>zA (Ct hT (zE h))) (fun ja=>absurd (by decide +kernel) ja)
theorem Qt {St:Nat->Heap->Prop}{s0:Shared}(W:Walks prog w A.in1 I fp [I] n P St)(hSf:S∉fp)(hn:n<=sizeLine)(hI:s0.heap.objs.size<=I)
 (k0:∀b o,b≠S->s0.heap.get? b=some o->s.heap.get? b=some o)(st:St 0 s.heap)(hS:s.heap.get? S=some { cls:=.type "list",data:=.seq #[] c })
 (q:∀s' acc c',s'.gens=s.gens->s'.drawn=s.drawn->s'.os=s.os->(∀b o,b≠S->s0.heap.get? b=some o->s'.heap.get? b=some o)->s'.heap.get? S=some { cls:=.type "list",dict:=none,data:=.seq acc c',slots:=#[] }->ItemsOf P acc n->R (.ok (.ret res)) s'):
 codeAny (model prog w) A (.builtin "list.extend.loop" {[.ref S,.ref I,res],[]}) R s:=by
 refine codeAny_extend_loopS W.toS hn S hSf res n 0 s #[] c rfl (zh _) st hS (ItemsOf.nil _) fun s' acc c' mv gP ha=>?_;refine q s' acc c' mv.gens mv.drawn mv.os (fun b o hb e=>mv.heap b o (fun z=>?_) (k0 b o hb e)) gP ha;rcases zb.mp z with z | z
 . exact hb z
 . have eU:=zZ e;rw[zl.mp z] at eU;exact absurd (zo eU hI) (ER _)
def Fb (el:Array (Int×Value))(acc:Array Value):Prop:=∃l:List (Int×Value),l.Perm el.toList/\acc.toList=l.map (·.2)
theorem XS (h:ItemsOf (fun i v=>∃e,(De w a ep el)[i]?=some e/\v=e.2) acc el.size):Fb el acc:=by
 refine{De w a ep el,Sd,?_};have hl:(De w a ep el).length=el.size:=by rw[Sd.length_eq];simp
 apply List.ext_getElem?;intro j;by_cases hj:j<el.size
 . have hz:j<acc.size:=by rw[h.1];exact hj
   obtain⟨e,he,hv⟩:=h.2 j acc[j] (by simp[hz]);rw[Array.getElem?_toList,Array.getElem?_eq_getElem hz,hv,zN,he];rfl
 . rw[Cu (by rw[Array.length_toList,h.1];lia),Cu (by rw[zB];lia)]
theorem aG {α:Type}{l:List α}{ys:List Nat}(h:ys.Perm (List.range l.length)):(ys.filterMap fun i=>l[i]?).Perm l:=by refine (h.filterMap _).trans ?_;rw[List.filterMap_getElem?_range_length]
theorem V8 {ys:List Nat}(hp:ys.Perm (List.range el.size))(h:ItemsOf (fun i v=>∃y e,ys[i]?=some y/\el[y]?=some e/\v=e.2) acc el.size):Fb el acc:=by
 have hl:ys.length=el.size:=by rw[hp.length_eq,DG]
 refine{ys.map fun y=>el.toList.getD y (0,.none),?_,?_}
 . have e:(ys.map fun y=>el.toList.getD y (0,.none))=ys.filterMap fun i=>el.toList[i]?:=by
    rw[<-List.filterMap_eq_map];refine fm_eq fun y hy=>?_;have fj:y<el.toList.length:=by have:=Eo.mp (hp.mem_iff.mp hy);simpa using this
    simp only[Function.comp];rw[zJ,zD fj];rfl
   rw[e];exact aG (by simpa using hp)
 . apply List.ext_getElem?;intro j;by_cases hj:j<el.size
   . have hz:j<acc.size:=by rw[h.1];exact hj
     obtain⟨y,e,h1,h2,hv⟩:=h.2 j acc[j] (by simp[hz]);rw[Array.getElem?_toList,Array.getElem?_eq_getElem hz,hv,zN,zN,h1];show some e.2=some (el.toList.getD y (0,.none)).2;rw[zJ,Array.getElem?_toList,h2];rfl
   . rw[Cu (by rw[Array.length_toList,h.1];lia),Cu (by rw[zB,zB];lia)]
where
 fm_eq {α β:Type}{f g:α->Option β}:∀{l:List α},(∀m∈l,f m=g m)->l.filterMap f=l.filterMap g
  | [],_=>rfl
  | x::r,h=>by rw[Mp,Mp,h x zX,fm_eq fun m hm=>h m (zd _ hm)]
theorem ZU (hh:A.handled=none)(hm:Bo s.heap a el ep tb)(hf:tb.fits el.size=true)(gt:GT (!w.params.followText "set-order") tb) (hz:el.size<=100000)(hSa:S≠a)
 (hS:s.heap.get? S=some { cls:=.type "list",data:=.seq #[] c })
 (q:∀s' acc c',s'.gens=s.gens->s'.os=s.os->(∀b o,b≠S->s.heap.get? b=some o->s'.heap.get? b=some o)->s'.heap.get? S=some { cls:=.type "list",dict:=none,data:=.seq acc c',slots:=#[] }->Fb el acc->R (.ok (.ret res)) s'):
 wpAny (model prog w) A.in1 (Builtin.List.listExtendWith (.ref S) (.ref a) res)
  (fun fin s'=>match fin with | .done f=>R (.ok f) s' | .again c'=>c'.quiet=true/\codeAny (model prog w) A c' R s') (fun e s'=>R (.error e) s') s:=by
 have nS:el.size<=sizeLine:=by have:sizeLine=16777216:=rfl;lia
 unfold Builtin.List.listExtendWith;refine zA (Ct (T := "set") hm.typeIs ?_);have h1:Builtin.List.listSameRef (.ref S) (.ref a)=false:=by simp[Builtin.List.listSameRef,hSa]
 have h2:(Value.type "set" == Value.type "list")=false:=by decide
 have h3:(Value.type "set" == Value.type "tuple")=false:=by decide
 simp only[h1,h2,h3,Bool.or_false,Hz,if_false];have nSI:∀I,s.heap.objs.size<=I->S≠I:=fun I h z=>absurd (zo (zZ hS) h) (by rw[z];exact ER _);have naI:∀I,s.heap.objs.size<=I->a≠I:=fun I h z=>absurd (zo hm.lt h) (by rw[z];exact ER _);refine zA (cq hm hf (fun hc=>?_) (fun ys d' hp=>?_) hz)
 . have W:=ME (prog:=prog) (w:=w) (A:=A.in1) (I:=s.heap.objs.size) (ep:=ep) hh (naI _ (zK _)) hf hc gt;have nf:S∉[s.heap.objs.size,a]:=by simp only[zb,List.not_mem_nil,or_false,not_or];exact{nSI _ (zK _),hSa}
   have kp:∀b o,s.heap.get? b=some o->(s.heap.push (ED (.int 0 0) el.size ep a)).get? b=some o:=fun b o e=>zL _ e;have st0:∃slot:Nat,SI (s.heap.push (ED (.int 0 0) el.size ep a)) s.heap.objs.size (.int slot 0) 0 el.size ep a/\Bo (s.heap.push (ED (.int 0 0) el.size ep a)) a el ep tb/\(w.params.followText "set-order"=false->SetTable.below tb.place slot=0):=by
    refine⟨0,{_,zU _ rfl,3},hm.keep fun o e=>kp _ o e,fun ht=>cG ?_⟩;have ps:tb.place.size=el.size:=by simp only[SetTable.fits,G0,beq_iff_eq] at hf;exact hf.1
    exact (hc.resolve_left (by rw[ht];simp)).elim gt.rs fun z=>Wy (by lia)
   refine zA (BD (Wv (Bo.typeIs (hm.keep fun o e=>kp _ o e)) ?_));refine wpAny_ite_split (fun _=>?_) (fun _=>?_)
   . refine zA (DR (zA ?_));show wpAny _ _ (updateSeq S (·.push .none) >>= fun _=>updateSeq S (·.pop)) _ _ _;refine zA (Hq (kp _ _ hS) rfl ?_);have hS2:=Ck (Obj.mapSeq (·.push Value.none)) (kp _ _ hS) rfl;refine Hq (hz:=by seq_fits) hS2 rfl ?_;have hS3:=Ck (Obj.mapSeq (·.pop)) hS2 rfl;have up:∀b o,b≠S->(s.heap.push (ED (.int 0 0) el.size ep a)).get? b=some o->(((s.heap.push (ED (.int 0 0) el.size ep a)).update S (Obj.mapSeq (·.push Value.none))).update S (Obj.mapSeq (·.pop))).get? b=some o:=fun b o hb e=>(Gz _ _ (Ne.symm hb)).trans ((Gz _ _ (Ne.symm hb)).trans e);refine zE {plainId_quiet PySem.F.plain_extend_loop _,Qt W nf nS (zK _) (fun b o hb e=>up b o hb (kp b o e)) (W.frame 0 _ _ st0 fun b hb o e=>up b o (fun z=>nf (z ▸ hb)) e) hS3 fun s' acc c' e1 _ e3 k gP ha=>q s' acc c' e1 e3 k gP (XS ha)}
   . exact zE {plainId_quiet PySem.F.plain_extend_loop _,Qt W nf nS (zK _) (fun b o _ e=>kp b o e) st0 (kp _ _ hS) fun s' acc c' e1 _ e3 k gP ha=>q s' acc c' e1 e3 k gP (XS ha)}
 . have hT:(s.heap.push { cls:=.type "tuple",data:=.seq (ys.map fun (i:Nat)=>rawInt i).toArray }).objs.size=s.heap.objs.size+1:=Cp ..;have hI:s.heap.objs.size<=(s.heap.push { cls:=.type "tuple",data:=.seq (ys.map fun (i:Nat)=>rawInt i).toArray }).objs.size:=by rw[hT];exact Ci _
   have ntI:s.heap.objs.size≠(s.heap.push { cls:=.type "tuple",data:=.seq (ys.map fun (i:Nat)=>rawInt i).toArray }).objs.size:=by rw[hT];exact zi (Nat.lt_succ_self _)
   have W:=Ls (prog:=prog) (w:=w) (A:=A.in1) (I:=(s.heap.push { cls:=.type "tuple",data:=.seq (ys.map fun (i:Nat)=>rawInt i).toArray }).objs.size) (tp:=s.heap.objs.size) (tb:=tb) (ep:=ep) hh (naI _ hI) ntI hf hp;have nf:S∉[(s.heap.push { cls:=.type "tuple",data:=.seq (ys.map fun (i:Nat)=>rawInt i).toArray }).objs.size,a,s.heap.objs.size]:=by simp only[zb,List.not_mem_nil,or_false,not_or];exact{nSI _ hI,hSa,nSI _ (zK _)}
   have kp:∀b o,s.heap.get? b=some o->((s.heap.push { cls:=.type "tuple",data:=.seq (ys.map fun (i:Nat)=>rawInt i).toArray }).push (ED (.ref s.heap.objs.size) el.size ep a)).get? b=some o:=fun b o e=>zL _ (zL _ e);have st0:SI ((s.heap.push { cls:=.type "tuple",data:=.seq (ys.map fun (i:Nat)=>rawInt i).toArray }).push (ED (.ref s.heap.objs.size) el.size ep a)) (s.heap.push { cls:=.type "tuple",data:=.seq (ys.map fun (i:Nat)=>rawInt i).toArray }).objs.size (.ref s.heap.objs.size) 0 el.size ep a/\Bo ((s.heap.push { cls:=.type "tuple",data:=.seq (ys.map fun (i:Nat)=>rawInt i).toArray }).push (ED (.ref s.heap.objs.size) el.size ep a)) a el ep tb/\KC ((s.heap.push { cls:=.type "tuple",data:=.seq (ys.map fun (i:Nat)=>rawInt i).toArray }).push (ED (.ref s.heap.objs.size) el.size ep a)) s.heap.objs.size ys:=
    {{_,zU _ rfl,3},hm.keep fun o e=>kp _ o e,{4,zL _ (zU _ rfl),0}}
   generalize (s.heap.push { cls:=.type "tuple",data:=.seq (ys.map fun (i:Nat)=>rawInt i).toArray }).objs.size=I0 at hT hI ntI W nf st0 kp ⊢;generalize (s.heap.push { cls:=.type "tuple",data:=.seq (ys.map fun (i:Nat)=>rawInt i).toArray }).push (ED (.ref s.heap.objs.size) el.size ep a)=h0 at st0 kp ⊢;refine zA (BD (Wv (Bo.typeIs (hm.keep fun o e=>kp _ o e)) ?_));refine wpAny_ite_split (fun _=>?_) (fun _=>?_)
   . refine zA (DR (zA ?_));show wpAny _ _ (updateSeq S (·.push .none) >>= fun _=>updateSeq S (·.pop)) _ _ _;refine zA (Hq (kp _ _ hS) rfl ?_);have hS2:=Ck (Obj.mapSeq (·.push Value.none)) (kp _ _ hS) rfl;refine Hq (hz:=by seq_fits) hS2 rfl ?_;have hS3:=Ck (Obj.mapSeq (·.pop)) hS2 rfl;have up:∀b o,b≠S->h0.get? b=some o->((h0.update S (Obj.mapSeq (·.push Value.none))).update S (Obj.mapSeq (·.pop))).get? b=some o:=fun b o hb e=>(Gz _ _ (Ne.symm hb)).trans ((Gz _ _ (Ne.symm hb)).trans e);refine zE {plainId_quiet PySem.F.plain_extend_loop _,Qt (s0:=s) W nf nS hI (fun b o hb e=>up b o hb (kp b o e)) (W.frame 0 _ _ st0 fun b hb o e=>up b o (fun z=>nf (z ▸ hb)) e) hS3 fun s' acc c' e1 _ e3 k gP ha=>q s' acc c' e1 e3 k gP (V8 hp ha)}
   . exact zE {plainId_quiet PySem.F.plain_extend_loop _,Qt (s0:=s) W nf nS hI (fun b o _ e=>kp b o e) st0 (kp _ _ hS) fun s' acc c' e1 _ e3 k gP ha=>q s' acc c' e1 e3 k gP (V8 hp ha)}
theorem ZJ (hh:A.handled=none)(hm:Bo s.heap a el ep tb)(hf:tb.fits el.size=true)(gt:GT (!w.params.followText "set-order") tb) (hz:el.size<=100000)
 (q:∀s' acc,s'.gens=s.gens->s'.os=s.os->(∀b o,s.heap.get? b=some o->s'.heap.get? b=some o)->Fb el acc->R acc.toList s'):wpAny (model prog w) A (collect (.ref a)) R E s:=by
 unfold collect;refine zA (wpAny_runValue (codeAny_builtin entry_proto_collect' ?_));rw[Around.under_plainId PySem.F.plain_proto_collect _];refine zA (m:=newList []) (Cg ?_);refine zE {plainId_quiet PySem.F.plain_list_iadd _,codeAny_builtin entry_list_iadd' ?_};rw[Around.under_plainId PySem.F.plain_list_iadd _];have hS:(s.heap.push { cls:=.type "list",data:=.seq ([]:List Value).toArray }).get? s.heap.objs.size=some { cls:=.type "list",data:=.seq #[] }:=zU _ rfl;show wpAny _ A.in1 (Builtin.List.listExtendWith (.ref s.heap.objs.size) (.ref a) (.ref s.heap.objs.size)) _ _ _;have key:=ZU (prog:=prog) (w:=w) (A:=A) (s:={ s with heap:=s.heap.push { cls:=.type "list",data:=.seq ([]:List Value).toArray } }) (res:=.ref s.heap.objs.size)
  (R:=fun (u:Result)(s':Shared)=>∃(acc:Array Value)(c':Nat),u=.ok (.ret (.ref s.heap.objs.size))/\s'.gens=s.gens/\s'.os=s.os/\(∀b o,s.heap.get? b=some o->s'.heap.get? b=some o)/\s'.heap.get? s.heap.objs.size=some { cls:=.type "list",dict:=none,data:=.seq acc c',slots:=#[] }/\Fb el acc)
  hh (hm.keep fun o e=>zL _ e) hf gt hz (Nat.ne_of_gt hm.lt) hS (fun s' acc c' e1 e2 k gP g=>{acc,c',0,e1,e2,fun b o e=>k b o (zi (zZ e)) (zL _ e),gP,g})
 refine BE key (fun fin s' x=>?_) fun e s' x=>?_
 . cases fin with
   | done f=>obtain⟨acc,c',e,e1,e2,k,gP,g⟩:=x;cases e;exact zA (wpAny_load gP (zE (q s' acc e1 e2 k g)))
   | again c1=>refine{x.1,codeAny_mono x.2 fun u s2 y=>?_};obtain⟨acc,c',rfl,e1,e2,k,gP,g⟩:=y;exact zA (wpAny_load gP (zE (q s2 acc e1 e2 k g)))
 . obtain⟨_,_,e',_⟩:=x;cases e'
end STb
namespace STb
open PySem PySem.Spec PyProof.Rows L2
theorem Xl {St:Nat->Heap->Prop}(W:Walks prog w A.in1 I fp [I] n P St)(hSf:S∉fp)(hSI:S≠I)(val:Nat->Int)(hv:∀i v,P i v->∃t,v=.int (val i) t)(hb:n+1<scanBound):
 ∀k i s,n-i=k->i<=n->St i s.heap->CF prog w led s.heap S (fun z=>(firstMet val i).any fun x=>x==z) (firstMet val i).length ->
  (∀s':Shared,s'.gens=s.gens->s'.drawn=s.drawn->s'.os=s.os->(∀b o,b≠S->b≠I->s.heap.get? b=some o->s'.heap.get? b=some o)->CF prog w led s'.heap S (fun z=>(firstMet val n).any fun x=>x==z) (firstMet val n).length->R (.ok (.ret .none)) s') ->
  codeAny (model prog w) A (.builtin "set.update.loop" {[.ref S,.ref I],[]}) R s:=by
 intro k
 induction k with
 | zero=>
  intro i s hk hi st G q;obtain rfl:i=n:=by lia
  refine codeAny_builtin PyProof.Rows.F.entry_set_update_loop ?_;rw[Around.under_plainId PyProof.Rows.F.plain_set_update_loop _];refine zA (m:=pyNext (.ref I)) (W.done s _ _ st fun h' tk kp=>?_);refine zE (q _ rfl rfl rfl (fun b o _ hbI e=>kp b o (fun z=>hbI (by simpa using z)) e) (G.keep fun o e=>kp S o (fun z=>hSI (by simpa using z)) e))
 | succ k ih=>
  intro i s hk hi st G q;have eU:i<n:=by lia
  refine codeAny_builtin PyProof.Rows.F.entry_set_update_loop ?_;rw[Around.under_plainId PyProof.Rows.F.plain_set_update_loop _];refine zA (m:=pyNext (.ref I)) (W.item i s _ _ eU st fun v h' tk hP ip kp=>?_);obtain⟨t,rfl⟩:=hv i v hP;have G':CF prog w led h' S (fun z=>(firstMet val i).any fun x=>x==z) (firstMet val i).length:=G.keep fun o e=>kp S o (fun z=>hSI (by simpa using z)) e;refine zA (m:=holding [Value.int (val i) t] (setAdd S (.int (val i) t))) (BD ?_);unfold setAdd;refine BD (zA ((intKind prog w).pyHash (k:=val i) (intKind_is _ _ _ _) ?_));refine OB (s:={ s with heap:=h',toks:=tk+1 }) G' (by have:=firstMet_length_le val i;lia) fun h2 sb G2=>?_;have Gi:CF prog w led h2 S (fun z=>(firstMet val (i+1)).any fun x=>x==z) (firstMet val (i+1)).length:=G2.congr (fun z=>by rw[firstMet_succ,step_any]) (by rw[firstMet_succ,step_length]);refine zE {plainId_quiet PyProof.Rows.F.plain_set_update_loop _,ih (i+1) _ (by lia) eU (W.frame _ _ _ ip fun b hb o e=>(sb.2 b fun z=>hSf (z ▸ hb)).trans e) Gi fun s'' e1 e2 e3 kp2 G3=>?_};exact q s'' e1 e2 e3 (fun b o hbS hbI e=>kp2 b o hbS hbI ((sb.2 b hbS).trans (kp b o (fun z=>hbI (by simpa using z)) e))) G3
noncomputable def CO (w:World):Obj:={ cls:=.type "set",dict:=none,data:=.set #[] 0 (.fresh 0 0 (!w.params.followText "set-order")) }
theorem Vt (h:Heap):CF prog w (!w.params.followText "set-order") (h.push (CO w)) h.objs.size (fun _=>false) 0:=
 ⟨_,#[],0,_,zU _ rfl,{0,3},rfl,{fun e he=>by simp at he,fun k=>by simp,by decide,by rfl,0,Z5 _}⟩
theorem Iu (a)(h:Q₁ (.ref s.heap.objs.size) { s with heap:=s.heap.push (CO w) }):codeAny (model prog w) A (.call (.builtin "set.__new__") {[.type "set",a],[]}) (wants Q₁ E) s:=by
 refine codeAny_of_tree (zA (m:=checkBuiltinCall "set.__new__" {[.type "set",a],[]}) (wpAny_of_eq (PySem.F.newCall_set_1 a) (zE {plainId_quiet PySem.F.plain_set_new _,codeAny_builtin PySem.F.entry_set_new ?_})));rw[Around.under_plainId PySem.F.plain_set_new _];unfold Builtin.«set.__new__» Builtin.Frozenset.newClass;have sub:=sub_set_self;obtain⟨hp,g,d,tk,os⟩:=s;dsimp only
 wp_walk
 refine wpAny_askSetting (zE ?_);dsimp only;simp only[newObj];exact zA (wpAny_alloc (zE (zE h)))
theorem df (hA:A.handled=none)(hl:s.heap.IsList l its.toArray)(hi:IntsAre its ns)(hz:its.length+1<scanBound)
 (q:∀h tk,(∀b o,s.heap.get? b=some o->h.get? b=some o)->CF prog w (!w.params.followText "set-order") h s.heap.objs.size (fun z=>(firstMet (fun i=>ns.getD i 0) its.length).any fun x=>x==z) (firstMet (fun i=>ns.getD i 0) its.length).length->Q (.ref s.heap.objs.size) { s with heap:=h,toks:=tk }):
 wpAny (model prog w) A (call (.type "set") [.ref l]) Q E s:=by
 refine C9 (codeAny_of_tree (zE {Code.quiet_builtin _ (by decide +kernel),codeAny_builtin PySem.F.entry_type_call ?_}));unfold Builtin.«type.__call__»;dsimp only;rw[if_neg (by rw[PySem.F.called_set.notType];decide)];rw[if_neg (by rw[PySem.F.called_set.canCreate];decide)];obtain⟨c,tl,hm⟩:=PySem.F.called_set.mro;refine zA (wpAny_of_eq (PySem.F.typeCall_set_1 _) (zE (zA (wpAny_of_eq hm (zE ?_)))));refine zA (wpAny_of_eq PySem.F.called_set.made (zE (zA (zE ?_))));refine zA (BD (C9 (codeAny_mono (Iu (E:=E) (.ref l) (Q₁:=fun obj s₁=>obj=.ref s.heap.objs.size/\s₁={ s with heap:=s.heap.push (CO w) }) {3}) fun r s₁ e=>?_)))
 match r,e with
 | .ok (.ret obj),e=>
  obtain⟨rfl,rfl⟩:=e;have h0:∀b o,s.heap.get? b=some o->(s.heap.push (CO w)).get? b=some o:=fun b o e=>zL _ e;have ht:∀h:Heap,(∀b o,s.heap.get? b=some o->h.get? b=some o)->h.IsList l its.toArray:=fun h K=>by obtain⟨o,ho,hr⟩:=hl;exact{o,K _ _ ho,hr}
  have eU:l<s.heap.objs.size:=by obtain⟨o,ho,_⟩:=hl;exact zZ ho
  have tyS:Shared.TypeIs { s with heap:=s.heap.push (CO w) } (.ref s.heap.objs.size) "set" := {_,zU _ rfl,0};show wpAny _ _ _ _ _ _;refine zA (Dd tyS PySem.F.called_set.sub ?_);refine zA (BD ?_);unfold callSpecial?;refine zA (wpAny_specialOf tyS PySem.F.called_set.init.lookup (BD (zA (wpAny_of_eq (PySem.F.called_set.init.bind _) (zE (zA (C9 (codeAny_call_builtin PySem.F.called_set.init.plain PySem.F.entry_set_init (check_set_init_1 tyS ?_)))))))));unfold Builtin.«set.__init__»;refine zA (wpAny_of_eq (m':=pure ()) rfl (zE ?_));dsimp only;refine zA (zA (zA (Ct tyS (wpAny_of_eq (m':=pure (Value.type "set")) rfl (zE (wpAny_of_eq (m':=pure "set") rfl (zE ?_)))))));refine zA (wpAny_of_eq (m':=pure ()) rfl (zE (zA (zE ?_))));refine zA (zA (zA (wpAny_load (zU _ rfl) ?_)));refine wpAny_of_eq (m':=pure (#[],0,SetTable.fresh 0 0 (!w.params.followText "set-order"))) (by unfold CO;cases w.params.followText "set-order" <;> rfl) (zE (wpAny_of_eq (m':=pure false) (by cases w.params.followText "set-order" <;> rfl) (zE ?_)));have tyT:∀h tk,(∀b o,s.heap.get? b=some o->h.get? b=some o)->Shared.TypeIs { s with heap:=h,toks:=tk } (.ref l) "list" := fun h tk K=>by obtain⟨o,ho,hr⟩:=ht h K;exact⟨o,ho,hr.1⟩
  show wpAny _ _ (Builtin.Frozenset.updateFrom "set.__init__" s.heap.objs.size (.ref l) >>= _) _ _ _;unfold Builtin.Frozenset.updateFrom;refine zA (zA (zA (Dd (tyT _ _ h0) PySem.F.sub_list_set (Dd (tyT _ _ h0) (b:=false) PySem.F.sub_list_frozenset ?_))));refine zA (Ct (tyT _ _ h0) ?_);refine zA (wpAny_pyIter_list (ht _ h0) (zA (wpAny_runValue ?_)));have hsz:(s.heap.push (CO w)).objs.size=s.heap.objs.size+1:=Cp ..;have nli:l≠(s.heap.push (CO w)).objs.size:=zi (by rw[hsz];exact Ec eU);have nsi:s.heap.objs.size≠(s.heap.push (CO w)).objs.size:=by rw[hsz];exact zi (Nat.lt_succ_self _)
  refine Xl (led:=!w.params.followText "set-order") (Walks.list (prog:=prog) (w:=w) (A:=(A.under (Code.builtin "type.__call__" { pos:=[.type "set",.ref l] })).in1.in1) hA (s.heap.push (CO w)).objs.size l nli its.toArray) ?_ nsi (fun i=>ns.getD i 0) ?_ (by simpa using hz) its.toArray.size 0 _ rfl (zh _) ?_ ?_ ?_
  . intro z;rcases zb.mp z with z | z
    . exact nsi z
    . exact absurd (zl.mp z) (Nat.ne_of_gt eU)
  . intro i v hv;rw[DQ] at hv;exact hi.int_at i v hv
  . exact{{_,zU _ rfl,3},ht _ fun b o e=>zL _ (h0 b o e)}
  . exact (Vt (prog:=prog) (w:=w) s.heap).keep fun o e=>zL _ e
  . intro s' e1 e2 e3 kp so;refine zE (zE (zE (zE ?_)));obtain⟨h',g',d',t',o'⟩:=s';cases e1;cases e2;cases e3;refine q h' t' (fun b o e=>kp b o (zi (zZ e)) (fun z=>?_) (zL _ (h0 b o e))) (by simpa using so);have hb:b<s.heap.objs.size:=zZ e;rw[z,hsz] at hb;exact absurd hb (Nat.not_lt.mpr (Ci _))
 | .ok .next,e=>exact e.elim
 | .ok .brk,e=>exact e.elim
 | .ok .cont,e=>exact e.elim
 | .error v,e=>exact e
theorem Ku (hA:A.handled=none)(hl:s.heap.IsTuple l its.toArray)(hi:IntsAre its ns)(hz:its.length+1<scanBound)
 (q:∀h tk,(∀b o,s.heap.get? b=some o->h.get? b=some o)->CF prog w (!w.params.followText "set-order") h s.heap.objs.size (fun z=>(firstMet (fun i=>ns.getD i 0) its.length).any fun x=>x==z) (firstMet (fun i=>ns.getD i 0) its.length).length->Q (.ref s.heap.objs.size) { s with heap:=h,toks:=tk }):
 wpAny (model prog w) A (call (.type "set") [.ref l]) Q E s:=by
 refine C9 (codeAny_of_tree (zE {Code.quiet_builtin _ (by decide +kernel),codeAny_builtin PySem.F.entry_type_call ?_}));unfold Builtin.«type.__call__»;dsimp only;rw[if_neg (by rw[PySem.F.called_set.notType];decide)];rw[if_neg (by rw[PySem.F.called_set.canCreate];decide)];obtain⟨c,tl,hm⟩:=PySem.F.called_set.mro;refine zA (wpAny_of_eq (PySem.F.typeCall_set_1 _) (zE (zA (wpAny_of_eq hm (zE ?_)))));refine zA (wpAny_of_eq PySem.F.called_set.made (zE (zA (zE ?_))));refine zA (BD (C9 (codeAny_mono (Iu (E:=E) (.ref l) (Q₁:=fun obj s₁=>obj=.ref s.heap.objs.size/\s₁={ s with heap:=s.heap.push (CO w) }) {3}) fun r s₁ e=>?_)))
 match r,e with
 | .ok (.ret obj),e=>
  obtain⟨rfl,rfl⟩:=e;have h0:∀b o,s.heap.get? b=some o->(s.heap.push (CO w)).get? b=some o:=fun b o e=>zL _ e;have ht:∀h:Heap,(∀b o,s.heap.get? b=some o->h.get? b=some o)->h.IsTuple l its.toArray:=fun h K=>by obtain⟨o,ho,hr⟩:=hl;exact{o,K _ _ ho,hr}
  have eU:l<s.heap.objs.size:=by obtain⟨o,ho,_⟩:=hl;exact zZ ho
  have tyS:Shared.TypeIs { s with heap:=s.heap.push (CO w) } (.ref s.heap.objs.size) "set" := {_,zU _ rfl,0};show wpAny _ _ _ _ _ _;refine zA (Dd tyS PySem.F.called_set.sub ?_);refine zA (BD ?_);unfold callSpecial?;refine zA (wpAny_specialOf tyS PySem.F.called_set.init.lookup (BD (zA (wpAny_of_eq (PySem.F.called_set.init.bind _) (zE (zA (C9 (codeAny_call_builtin PySem.F.called_set.init.plain PySem.F.entry_set_init (check_set_init_1 tyS ?_)))))))));unfold Builtin.«set.__init__»;refine zA (wpAny_of_eq (m':=pure ()) rfl (zE ?_));dsimp only;refine zA (zA (zA (Ct tyS (wpAny_of_eq (m':=pure (Value.type "set")) rfl (zE (wpAny_of_eq (m':=pure "set") rfl (zE ?_)))))));refine zA (wpAny_of_eq (m':=pure ()) rfl (zE (zA (zE ?_))));refine zA (zA (zA (wpAny_load (zU _ rfl) ?_)));refine wpAny_of_eq (m':=pure (#[],0,SetTable.fresh 0 0 (!w.params.followText "set-order"))) (by unfold CO;cases w.params.followText "set-order" <;> rfl) (zE (wpAny_of_eq (m':=pure false) (by cases w.params.followText "set-order" <;> rfl) (zE ?_)));have tyT:∀h tk,(∀b o,s.heap.get? b=some o->h.get? b=some o)->Shared.TypeIs { s with heap:=h,toks:=tk } (.ref l) "tuple" := fun h tk K=>by obtain⟨o,ho,hr⟩:=ht h K;exact⟨o,ho,hr.1⟩
  show wpAny _ _ (Builtin.Frozenset.updateFrom "set.__init__" s.heap.objs.size (.ref l) >>= _) _ _ _;unfold Builtin.Frozenset.updateFrom;refine zA (zA (zA (Dd (tyT _ _ h0) PySem.F.sub_tuple_set (Dd (tyT _ _ h0) (b:=false) rfl ?_))));refine zA (Ct (tyT _ _ h0) ?_);refine zA (wpAny_pyIter_tuple (ht _ h0) (zA (wpAny_runValue ?_)));have hsz:(s.heap.push (CO w)).objs.size=s.heap.objs.size+1:=Cp ..;have nli:l≠(s.heap.push (CO w)).objs.size:=zi (by rw[hsz];exact Ec eU);have nsi:s.heap.objs.size≠(s.heap.push (CO w)).objs.size:=by rw[hsz];exact zi (Nat.lt_succ_self _)
  refine Xl (led:=!w.params.followText "set-order") (Walks.tuple (prog:=prog) (w:=w) (A:=(A.under (Code.builtin "type.__call__" { pos:=[.type "set",.ref l] })).in1.in1) hA (s.heap.push (CO w)).objs.size l nli its.toArray) ?_ nsi (fun i=>ns.getD i 0) ?_ (by simpa using hz) its.toArray.size 0 _ rfl (zh _) ?_ ?_ ?_
  . intro z;rcases zb.mp z with z | z
    . exact nsi z
    . exact absurd (zl.mp z) (Nat.ne_of_gt eU)
  . intro i v hv;rw[DQ] at hv;exact hi.int_at i v hv
  . exact{{_,zU _ rfl,3},ht _ fun b o e=>zL _ (h0 b o e)}
  . exact (Vt (prog:=prog) (w:=w) s.heap).keep fun o e=>zL _ e
  . intro s' e1 e2 e3 kp so;refine zE (zE (zE (zE ?_)));obtain⟨h',g',d',t',o'⟩:=s';cases e1;cases e2;cases e3;refine q h' t' (fun b o e=>kp b o (zi (zZ e)) (fun z=>?_) (zL _ (h0 b o e))) (by simpa using so);have hb:b<s.heap.objs.size:=zZ e;rw[z,hsz] at hb;exact absurd hb (Nat.not_lt.mpr (Ci _))
 | .ok .next,e=>exact e.elim
 | .ok .brk,e=>exact e.elim
 | .ok .cont,e=>exact e.elim
 | .error v,e=>exact e
end STb
namespace L2
open PySem PySem.Spec PyProof.Rows STb
theorem UJ (val:Nat->Int):∀i,(firstMet val i).Nodup
 | 0=>List.nodup_nil
 | i+1=>by
  have ih:=UJ val i;rw[firstMet_succ];unfold step_dedup;split
  . exact ih
  . rename_i h
    refine Fs.mpr {ih,by simp,fun a ha b hb e=>h ?_};rw[zl.mp hb] at e;subst e;exact List.any_eq_true.mpr {_,ha,by simp}
theorem YQ:∀{l2 l1:List Int},l2.Nodup->(∀x∈l2,x∈l1)->l1.length<=l2.length->l1.Perm l2
 | [],l1,_,_,h=>by have:l1=[]:=Hk.mp (by simpa using h);subst this;exact List.Perm.refl _
 | x::r,l1,nd,hs,h=>by
  have hx:x∈l1:=hs x zX;have nx:x∉r:=(D8.mp nd).1;refine (List.perm_cons_erase hx).trans ((YQ (D8.mp nd).2 (fun y hy=>?_) ?_).cons x)
  . exact (List.mem_erase_of_ne (a:=y) (b:=x) (fun z=>nx (by rw[<-z];exact hy))).mpr (hs y (zd _ hy))
  . rw[List.length_erase_of_mem hx];simp only[zk] at h
    lia
theorem XW :∀{l:List (Int×Value)},ElemsOf (intKind prog w) l->∃ns:List Int,IntsAre (l.map (·.2)) ns/\∀z,z∈ns↔∃e∈l,(intKind prog w).is z e.2=true
 | [],_=>{[],.nil,fun z=>by simp}
 | e::r,h=>by
  obtain⟨ns,h1,h2⟩:=XW (l:=r) h.tail;obtain⟨⟨k,hk,_⟩,_⟩:=h.head;obtain⟨t,et⟩:=Value.isInt_shape hk;refine{k::ns,?_,fun z=>?_}
  . rw[Cn,et];exact .cons k t h1
  . rw[zb,h2];constructor
    . rintro (rfl | ⟨e',iU,hz⟩)
      . exact⟨e,zX,hk⟩
      . exact{e',zd _ iU,hz}
    . rintro ⟨e',iU,hz⟩;rcases zb.mp iU with rfl | iU
      . exact .inl ((intKind prog w).inj _ _ _ hz hk)
      . exact .inr ⟨e',iU,hz⟩
theorem MD (ns:List Int)(z):((firstMet (fun i=>ns.getD i 0) ns.length).any fun x=>x==z)=true↔z∈ns:=by
 rw[firstMet_any];have e:(List.range ns.length).map (fun i=>ns.getD i 0)=ns:=by
  apply List.ext_getElem
  . simp
  . intro i h1 h2;simp[h2]
 rw[e,List.any_eq_true];exact{fun ⟨x,hx,h⟩=>by rw[<-eq_of_beq h];exact hx,fun h=>{z,h,by simp}}
theorem Zg {ms:List Int}(h1:ms.Pairwise (· <= ·))(h2:ms.Nodup):ms.Pairwise (· < ·):=by
 rw[Ef] at h1 ⊢;intro i j hi hj gS;have a:=h1 i j hi hj gS;have b:ms[i]≠ms[j]:=fun z=>by have:=(List.getElem_inj h2).mp z;lia
 lia
section
open PySem.W PySem.Calls SortT
theorem Ze (hh:A.handled=none)(G:CF prog w (!w.params.followText "set-order") s.heap a S n) (ik:n<64)
 (q:∀(s1:Shared)(h':Heap)(D:Addr)(ms:List Int)(us:List Value)(c:Nat),s1.gens=s.gens->s1.os=s.os->(∀b o,s.heap.get? b=some o->s1.heap.get? b=some o)->(∀b o,s1.heap.get? b=some o->h'.get? b=some o)->s1.heap.objs.size<=D->h'.get? D=some (seqObj "list" us.toArray c)->AO (ms.map V.int) us->ms.Pairwise (· <= ·)->(∀z,z∈ms↔S z=true)->ms.length=n->Q (.ref D) { s1 with heap:=h' }):
 wpAny (model prog w) A (call (.builtin "sorted") [.ref a]) Q E s:=by
 obtain⟨ob,el,ep,tb,g1,g2,g3,B⟩:=G;refine Calls.call_function_entry kind_sorted plain_sorted entry_sorted (args_sorted1 _) ?_;unfold Builtin.«sorted»;refine zA (m:=checkCount "sorted" 1 1 _) (zE ?_);refine zA (ZJ (A:=A.in1) hh ⟨ob,g1,g2,g3⟩ B.fit B.gt (by have:=B.siz;lia) fun s1 acc e1 e2 k1 hg=>?_);obtain⟨l,lp,la⟩:=hg;obtain⟨ns,hI,hm⟩:=XW (B.elm.perm lp);have hl:l.length=n:=by rw[lp.length_eq,Array.length_toList,B.siz]
 have hvl:acc.toList.length=n:=by rw[la,zB,hl]
 rw[<-la] at hI;generalize acc.toList=vs at hI hvl;refine zA (wpAny_newList ?_ (by rw[sizeLine_eq];lia));have jK:(s1.heap.push (seqObj "list" vs.toArray 0)).get? s1.heap.objs.size=some (seqObj "list" vs.toArray 0):=zU _ rfl;have kp1:∀b o,s1.heap.get? b=some o->(s1.heap.push (seqObj "list" vs.toArray 0)).get? b=some o:=fun b o z=>zL _ z;refine zA (BD (Cf slot_list_sort {_,jK,0} entry_list_sort (SortT.list_sort (O:=Hj) (key:=fun i=>ns.getD i 0) (κ:=oneType') jK (by lia) (fun h2=>Wh hI h2) fun out hp=>{1,?_}) (args_list_sort _)));refine zE {1,?_};obtain⟨c,hc⟩:=sortedHeap_at (vs:=vs) (out:=(out.map fun i=>vs.getD i Value.none).toArray) jK;obtain⟨ms,pm,pr,rz,pl⟩:=Wx hI hp;refine q s1 _ _ ms _ c e1 e2 k1 (fun b o z=>?_) (zK _) hc rz pr (fun z=>?_) (by rw[pl,<-hI.length,hvl])
 . have hb:b<s1.heap.objs.size:=zZ z;rw[sortedHeap_old (zi hb) (by rw[Cp];exact Ec hb)];exact kp1 b o z
 . rw[pm.mem_iff,hm z,B.mem z];exact{fun ⟨e,he,u⟩=>{e,lp.mem_iff.mp he,u},fun ⟨e,he,u⟩=>{e,lp.mem_iff.mpr he,u}}
end
def aq (K:AK)(ta:TA):TE:=fun σ H Q=>ta σ H fun vs H1=>∃p,∃(ns:List Int),vs=[.ref p]/\(AD K H1 p (ns.map V.int)\/AB K H1 p (ns.map V.int))/\ns.length<64/\∀l(ms:List Int),H1 l=none->ms.Pairwise (· < ·)->(∀z:Int,z∈ms↔z∈ns)->Q (.ref l) (upd H1 l (.lst (ms.map V.int)))
theorem SD (hc:X.calm=true)(hgS:Gl X "sorted") (hmS:X.mg "sorted"=none) (hgT:Gl X "set") (hmT:X.mg "set"=none) (ha:PA X [a] ta)(hs:starEach [a] X.env=[(false,eval a X.env)]:=by rfl)
 (jI:starEach [.Call (.Name "set" p2) [a] [] pos2] X.env=[(false,eval (.Call (.Name "set" p2) [a] [] pos2) X.env)]:=by rfl):
 PE X (.Call (.Name "sorted" p1) [.Call (.Name "set" p2) [a] [] pos2] [] pos1) (aq X.K ta):=by
 intro pins s σ H Q I h;refine IE (Em I hgS hmS (by decide +kernel:bootBuiltins "sorted"=some (.builtin "sorted")) ?_ (by decide) (by decide));refine PyProof.Rows.callWith_builtin1 ?_ jI rfl;rw[jI];refine Calls.spliced_cons ?_;refine Call_ (Em I hgT hmT (by decide +kernel:bootBuiltins "set"=some (.type "set")) (PyProof.Rows.callWith_type1 (AL (ha pos2 pins s σ H _ I h) fun us s1 ⟨vs,H1,I1,r1,q1⟩=>?_) hs rfl));obtain⟨p,ns,e,hq,ik,q⟩:=q1;subst e;obtain⟨u,rfl,rx⟩:=DF r1;cases rx;have lh:(firstMet (fun i=>ns.getD i 0) ns.length).length<=ns.length:=firstMet_length_le _ _;have key:∀(h:Heap)(tk:Nat),(∀b o,s1.heap.get? b=some o->h.get? b=some o)->CF X.prog X.w (!X.w.params.followText "set-order") h s1.heap.objs.size (fun z=>(firstMet (fun i=>ns.getD i 0) ns.length).any fun x=>x==z) (firstMet (fun i=>ns.getD i 0) ns.length).length ->
  wpAny (model X.prog X.w) X.A (call (.builtin "sorted") [.ref s1.heap.objs.size]) (EP X pins σ Q) X.xe { s1 with heap:=h,toks:=tk }:=by
  intro h tk K so;refine Ze (I1.ok.hd hc) so (by lia) fun s2 h' D ms us c e1 e2 k1 k2 hD ho rz pr hm hlen=>?_;obtain⟨gk,g2,d2,t2,o2⟩:=s2;cases e1;cases e2;have kk:∀b o,s1.heap.get? b=some o->gk.get? b=some o:=fun b o z=>k1 b o (K b o z);have I2:AA X pins σ H1 { s1 with heap:=gk,gens:=s1.gens,drawn:=d2,toks:=t2 }:=I1.call (ch:=[]) (Un.kept kk) (I1.hok.kept kk) I1.bare fun _ z=>nomatch z;have cov:=YQ (l2:=firstMet (fun i=>ns.getD i 0) ns.length) (l1:=ms) (UJ _ _) (fun x hx=>(hm x).mpr (List.any_eq_true.mpr {x,hx,by simp})) (by lia);refine{.ref D,_,Qn (t':=t2) I2 hD k2 ho rz ?_,0,q D ms (I2.hok.fresh hD) (Zg pr (cov.nodup_iff.mpr (UJ _ _))) fun z=>(hm z).trans (MD ns z)};have:sizeLine=16777216:=rfl;rw[zB]
  lia
 have sb:scanBound=4096:=rfl;rcases hq with hq | hq
 . obtain⟨its,rv,pl,hz⟩:=I1.list hq;have hi:=DH rv;have iT:=hi.length;refine df (I1.ok.hd hc) pl.isList hi (by lia) fun h tk K so=>?_;rw[iT] at so;exact Calls.spliced_nil (key h tk K so)
 . obtain⟨its,rv,pl,hz⟩:=I1.tuple hq;have hi:=DH rv;have iT:=hi.length;refine Ku (I1.ok.hd hc) pl hi (by lia) fun h tk K so=>?_;rw[iT] at so;exact Calls.spliced_nil (key h tk K so)
end L2
namespace L2
open PySem PyProof.Rows
end L2
namespace L2
open PySem PySem.Spec PyProof.Rows
theorem Za (l)(items)(n)(b)(o)(items2)(n2)(iP:¬ (!items.isEmpty && Builtin.List.listTooLong (items.size+items2.size))=true)(hs1:items.size<=sizeLine)(jI:items.size+items2.size<=sizeLine+1):
 Meets (Builtin.«list.extend» {[.ref l,.ref b],[]}) (fun _ R s=>s.heap.get? l=some { cls:=.type "list",dict:=none,data:=.seq items n,slots:=#[] }/\(s.heap.get? b=some o/\o.cls=.type "tuple"/\o.data=.seq items2 n2)/\R (.ok (.ret Value.none)) { s with heap:=s.heap.update l (Obj.mapSeq fun x=>x++items2),toks:=s.toks }):=
 .of_wp fun prog w A R s h=>by
  obtain⟨hl,⟨hb,hc,hd⟩,h⟩:=h;show wpAny _ A.in1 (Builtin.List.listExtendWith (.ref l) (.ref b) .none) _ _ s;unfold Builtin.List.listExtendWith;refine zA (Ct ⟨o,hb,hc⟩ ?_);have h1:(Builtin.List.listSameRef (.ref l) (.ref b) || Value.type "tuple" == Value.type "list" || Value.type "tuple" == Value.type "tuple")=true:=by simp
  simp only[h1,if_true];refine zA ?_;unfold Builtin.List.listItems;refine zA (Di hb hd (zE ?_));refine zA ?_;refine zA (Di hl rfl (zE ?_));rw[if_neg iP];show wpAny _ A.in1 (updateSeq l (· ++ items2) >>= fun _=>ret .none) _ _ s;refine zA (Hq hl rfl ?_ (by lia) (by rw[Array.size_append];exact jI));exact zE {1,h}
def bY:V->List V->Hp->VK->Prop:=fun x vs H Q=>∃l b xs zs,x=.ref l/\vs=[.ref b]/\H l=some (.lst xs)/\H b=some (.tup zs)/\xs.length+zs.length<=sizeLine/\Q .non (upd H l (.lst (xs++zs)))
theorem cO:PK X "list.extend" bY:=by
 intro pins s σ H x vs v us Q I rx rv h;obtain⟨l,b,xs,zs,rfl,rfl,hH,hB,hz,q⟩:=h;cases rx;obtain⟨u,rfl,ru⟩:=rv.one;cases ru;obtain⟨z,its,n,r,hl,e⟩:=I.lstM hH;obtain⟨z2,fZ,r2,o2,iF,i0,n2,hd2⟩:=I.hok b _ hB;have gJ:=r2.length;have hsz:its.toArray.size+fZ.toArray.size<=sizeLine:=by rw[zP,zP];lia
 have iP:¬ (!its.toArray.isEmpty && Builtin.List.listTooLong (its.toArray.size+fZ.toArray.size))=true:=by rw[Wt hsz,Bool.and_false];exact zm
 refine call_meets PySem.F.slot_list_extend {_,e,0} PySem.F.entry_list_extend (PySem.F.args_list_extend_2 _ _)
  (Za l its.toArray n b o2 fZ.toArray n2 iP (by rw[zP];lia) (by lia)) {e,⟨iF,i0,hd2⟩,?_}
 refine{.non,_,I.lset (its':=its++fZ) hH e (by simp) (r.append r2) ?_,0,q};rw[zH]
 lia
theorem AA.turnedLaid {t':Nat}{fp:List Addr}{a:Addr}{o:HO}(I:AA X pins σ H s)(hf:∀b∈fp,DB X pins H b)(k:∀b u,b∉fp->s.heap.get? b=some u->h'.get? b=some u)(hp:s.heap.objs.size<=a)
 (new:Ax X.prog X.w (upd H a o) h' a o):AA X pins σ (upd H a o) { s with heap:=h',toks:=t' }:=by
 have fr:H a=none:=I.hok.fresh hp;have nfp:∀b u,H b=some u->b∉fp:=fun b u e z=>by rw[(hf b z).1] at e;cases e
 have na:∀b u,H b=some u->b≠a:=fun b u e z=>by rw[z,fr] at e;cases e
 refine I.step (g':=s.gens) (d':=s.drawn) (ch:=fp) (fun b hb=>?_) (fun b u _ _ hc e _=>k b u hc e) (fun b u _ _ hc e _=>{u.slots,k b u hc e}) (fun b u hc e n=>?_) (fun b u hc e=>{u,k b u hc e})
  (fun b xs e=>by rw[zj (na b _ e)];exact e) (fun b u w e=>by rw[zj (na b _ e)];exact e) (fun b ps e=>{#[],by rw[zj (na b _ e),e];simp}) (fun m hm=>?_) (fun b u e=>?_) I.bare
 . obtain⟨f0,f1,f2,f3,f4,f5⟩:=hf b hb;exact⟨f3,f1,f4,f5⟩
 . rw[zj (zi (zo (zZ e) hp))];exact n
 . obtain⟨u,es,ep,ho,r⟩:=hm;exact{u,es,ep,k _ u (fun z=>(hf _ z).2.1 rfl) ho,r}
 . by_cases z:b=a
   . subst z;rw[zI] at e;cases e;exact new
   . rw[zj z] at e;refine (I.hok b u e).stay (fun c v hc q=>k c v ?_ q) (fun c q=>by rw[zj (na c _ q)];exact q) fun c xs q=>by rw[zj (na c _ q)];exact q
     rcases hc with z | z
     . rw[z];exact nfp b u e
     . exact nfp c _ z
end L2
namespace L2
open PySem PySem.Spec PyProof.Rows
open PySem.AutoSeq1 (wpAny_loadPart')
theorem bq (hi:s.heap.IsTupleIter it t i)(ht:s.heap.IsTuple t items)(hx:items[i]?=some x)
 (hQ:∀h',h'.IsTupleIter it t (i+1)->Heap.SameBut it s.heap h'->Q x { s with heap:=h' }):wpAny (model prog w) A (Builtin.SmallTypes.nextOf (.ref it)) Q E s:=by
 obtain⟨oi,jl,ci,di⟩:=id hi;obtain⟨ot,hot,_,nt,dt⟩:=ht;unfold Builtin.SmallTypes.nextOf;refine zA (Ek (name:=Str.ofString "__next__") hi.typeIs PySem.F.slot_tuple_iterator_next (Cf PySem.F.slot_tuple_iterator_next hi.typeIs PySem.F.entry_tuple_iterator_next ?_ (PySem.F.args_tuple_iterator_next_1 _)));show wpAny (model prog w) _ (field (.ref it) 0 >>= _) _ _ s;refine zA (wpAny_field jl di (x:=.ref t) rfl ?_);show wpAny (model prog w) _ (if (Value.ref t==Value.none)=true then _ else _) _ _ s;rw[if_neg (show ¬ ((Value.ref t==Value.none)=true) from zm)]
 show wpAny (model prog w) _ (field (.ref it) 1 >>= _) _ _ s;refine zA (wpAny_field jl di (x:=.int i 0) rfl ?_);show wpAny (model prog w) _ (seqItems? (.ref t) >>= _) _ _ s;refine zA (Di hot dt ?_);simp only[hx,Bm];refine zA (Fg jl di (by simp) (zE {x,0,zE (hQ _ ?_ (EH ..))}));refine{_,Ck _ jl (Obj.isFreed_of_fields (Obj.data_mapFields di _)),(Obj.cls_mapFields ..).trans ci,?_};rw[Obj.data_mapFields di];simp[rawInt]
theorem Ve (hA:A.handled=none)(hi:s.heap.IsTupleIter it t i)(ht:s.heap.IsTuple t items)(hx:items[i]?=none)
 (hE:∀h' e,Heap.ExtBut it s.heap h'->(∃o,h'.get? e=some o/\o.cls=.type "StopIteration")->E (.ref e) { s with heap:=h' }):wpAny (model prog w) A (Builtin.SmallTypes.nextOf (.ref it)) Q E s:=by
 obtain⟨oi,jl,ci,di⟩:=id hi;obtain⟨ot,hot,_,nt,dt⟩:=ht;unfold Builtin.SmallTypes.nextOf;refine zA (Ek (name:=Str.ofString "__next__") hi.typeIs PySem.F.slot_tuple_iterator_next (Cf PySem.F.slot_tuple_iterator_next hi.typeIs PySem.F.entry_tuple_iterator_next ?_ (PySem.F.args_tuple_iterator_next_1 _)));show wpAny (model prog w) _ (field (.ref it) 0 >>= _) _ _ s;refine zA (wpAny_field jl di (x:=.ref t) rfl ?_);show wpAny (model prog w) _ (if (Value.ref t==Value.none)=true then _ else _) _ _ s;rw[if_neg (show ¬ ((Value.ref t==Value.none)=true) from zm)]
 show wpAny (model prog w) _ (field (.ref it) 1 >>= _) _ _ s;refine zA (wpAny_field jl di (x:=.int i 0) rfl ?_);show wpAny (model prog w) _ (seqItems? (.ref t) >>= _) _ _ s;refine zA (Di hot dt ?_);simp only[hx,Bm];refine zA (DR (zA (Fg jl di (by simp) ?_)));show wpAny (model prog w) _ (newExc (.type "StopIteration") [] >>= _) _ _ _;refine zA ?_;simp only[newTuple,newExc];refine zA (Cg ?_ (by size_fits));refine zA (m:=firstArgMember _ _) (PySem.wpAny_of_eq (a:=Value.none) (by first | rfl | (simp only[firstArgMember];rfl)) ?_);refine Cg ?_ (by size_fits);simp only[raiseNew];refine zA (wpAny_handled ?_)
 first
  | rw[show A.in1.handled=none from hA]
  | rw[hA]
 exact zA (zE (wpAny_throw (hE _ _ (((EH ..).extBut.push _).push _) {_,zU _ rfl,0})))
theorem dG {prog:Program}{w:World}{A:Around}(hA:A.handled=none)(it t:Addr)(ft:t≠it)(items:Array Value):
 Draws prog w A it [it,t] items.size (fun i v=>items[i]?=some v) (fun i h=>h.IsTupleIter it t i/\h.IsTuple t items) where
 live:=fun _ _ st=>by obtain⟨⟨o,ho,_⟩,_⟩:=st;exact⟨o,ho⟩
 frame:=fun _ h h' st hk=>by obtain⟨⟨o,ho,r⟩,o2,iF,r2⟩:=st;exact{{o,hk it (by simp) o ho,r},o2,hk t (by simp) o2 iF,r2}
 item:=fun i s Q E hi st hQ=>bq st.1 st.2 (x:=items[i]) (by simp[hi]) fun h' a b=>hQ _ h' s.toks (by simp[hi]) {a,st.2.extBut b.extBut ft} b
 done:=fun s Q E st hE=>Ve hA st.1 st.2 (by simp) hE
theorem Y8 (t)(items)(n)(dct)(sl):
 Meets (Builtin.«enumerate.__new__» {[.type "enumerate",.ref t],[]}) (fun _ R s=>s.heap.get? t=some { cls:=.type "tuple",dict:=dct,data:=.seq items n,slots:=sl } /\
  R (.ok (.ret (.ref (s.heap.push { cls:=.type "tuple_iterator",data:=.fields #[.ref t,.int 0 0] }).objs.size))) { s with heap:=(s.heap.push { cls:=.type "tuple_iterator",data:=.fields #[.ref t,.int 0 0] }).push { cls:=.type "enumerate",data:=.fields #[.none,.bool false,.ref s.heap.objs.size,rawInt 0,.none,.none] } }):=by
 refine .of_wp fun prog w A R s hs=>?_;obtain⟨hp,g,d,tk,os⟩:=s;obtain⟨ho,hR⟩:=hs;have su:=sub_enumerate;have tT:Heap.IsTuple (Shared.heap ⟨hp,g,d,tk,os⟩) t items:={_,ho,0,n,0}
 wp_walk using wpAny_loadPart' ho
 refine wpAny_stack_any fun stk=>zE ?_;split
 . rename_i c _ _ _ _ _
   cases (c==Value.type "enumerate") <;> (wp_walk using wpAny_loadPart' ho,wpAny_pyIter_tuple tT;exact{1,hR})
 . wp_walk using wpAny_loadPart' ho,wpAny_pyIter_tuple tT
   exact{1,hR}
theorem aJ (hT:s.heap.IsTuple t items)
 (h:∀h',IsEnum h' (s.heap.objs.size+1) s.heap.objs.size 0 .none->h'.IsTupleIter s.heap.objs.size t 0->(∀b o,s.heap.get? b=some o->h'.get? b=some o)->Q (.ref (s.heap.objs.size+1)) { s with heap:=h' }):
 wpAny (model prog w) A (call (.type "enumerate") [.ref t]) Q E s:=by
 obtain⟨⟨c,dct,dt,sl⟩,ho,hc,n,hd⟩:=hT;obtain rfl:c=.type "tuple" := hc;obtain rfl:dt=.seq items n:=hd;refine callType_new PySem.F.called_enumerate (by decide) (PySem.F.typeCall_enumerate_1 _) (PySem.F.newCall_enumerate_1 _) (fun obj=>PySem.F.args_object_init_2 obj _) PySem.F.entry_enumerate_new (Y8 t items n dct sl) {ho,?_};have hz:(s.heap.push { cls:=.type "tuple_iterator",data:=.fields #[.ref t,.int 0 0] }).objs.size=s.heap.objs.size+1:=Cp ..;show _/\_;rw[hz];have he:IsEnum ((s.heap.push { cls:=.type "tuple_iterator",data:=.fields #[.ref t,.int 0 0] }).push { cls:=.type "enumerate",data:=.fields #[.none,.bool false,.ref s.heap.objs.size,rawInt 0,.none,.none] }) (s.heap.objs.size+1) s.heap.objs.size 0 .none:=by have g:=zU (s.heap.push { cls:=.type "tuple_iterator",data:=.fields #[.ref t,.int 0 0] }) (o:={ cls:=.type "enumerate",data:=.fields #[.none,.bool false,.ref s.heap.objs.size,rawInt 0,.none,.none] }) rfl;rwa [hz] at g
 exact{{_,he,0},h _ he {_,zL _ (zU _ rfl),3} fun b o x=>zL _ (zL _ x)}
noncomputable def Fd (K:AK)(a:Addr):It:=
 {fun i H=>∃xs x,AB K H a xs/\xs[i]?=some x,fun i H x H'=>∃T v,x=.ref T/\H T=none/\H'=upd H T (.tup [.int i,v])/\∀xs,AB K H a xs->xs[i]?=some v,fun i H=>∃xs,AB K H a xs/\xs.length<=i}
theorem Y9 {P:Program}{w:World}{K:AK}{elts:List Expr} {x1} {tp:Pos}(a e it:Addr):E8 P w K (.Tuple elts x1 tp) (Fd K a) [e,it] e (fun i h=>(∃old,IsEnum h e it (i:Nat) old)/\h.IsTupleIter it a i/\e≠it/\a≠it/\a≠e) where
 mem:=by simp
 obj:=fun i h st b hb=>by
  obtain⟨⟨old,he⟩,⟨o,e1,c,d⟩,_⟩:=st;rcases zb.mp hb with rfl | hb
  . exact{_,he,fun v z=>by cases z}
  . have e2:b=it:=by simpa using hb
    subst e2;exact{o,e1,fun v z=>by rw[d] at z;cases z}
 keep:=fun i h h' st k=>by obtain⟨⟨old,he⟩,⟨o,e1,r⟩,ne⟩:=st;exact{{old,k e (by simp) _ he},{o,k it (by simp) o e1,r},ne}
 item:=by
  intro X hP hw hK hc i pins s σ H E I hf st hg;subst hP hw hK;obtain⟨⟨old,he⟩,hit,ne,nai,nae⟩:=st;obtain⟨xs,x,hq,hx⟩:=hg;obtain⟨its,rv,p,hz⟩:=I.tuple hq;obtain⟨u,hu,ru⟩:=rv.get hx;have elt:e<s.heap.objs.size:=zZ he;have ilt:it<s.heap.objs.size:=by obtain⟨_,q,_⟩:=id hit;exact zZ q
  have eU:i<its.toArray.size:=by have:=(zG.mp hu).1;simpa using this
  refine wpAny_pyNext_enum_itemD (dG (A:=X.A.in1) (I.ok.hd hc) it a nai its.toArray) he ⟨hit,p⟩ eU ne (by simp;exact{ne,fun z=>nae z.symm}) fun y h' tk hy heo hst' hT hsz hk=>?_;have hyu:y=u:=by
   have h1:its[i]?=some y:=by simpa using hy
   rw[hu] at h1;exact (zV h1).symm
  subst hyu;refine{1,wpAny_letOwnedTupleGo_enum heo fun h2 he2 jI=>?_};have hT2:h2.get? s.heap.objs.size=some { cls:=.type "tuple",data:=.seq #[.int i tk,y] }:=(jI.2 _ (Nat.ne_of_gt elt)).trans hT;refine{.ref s.heap.objs.size,upd H s.heap.objs.size (.tup [.int i,x]),I.turnedLaid (t':=tk+1) (fp:=[e,it]) hf (fun b o hb q=>?_) (zK _) ?_,0,{_,x,0,I.hok.fresh (zK _),0,fun zs hzs=>by rw[I.tuple_inj hzs hq];exact hx},{{y,?_},?_,ne,nai,nae},fun b hb=>?_}
  . exact (jI.2 b fun z=>hb (by simp[z])).trans (hk b o (fun z=>hb (by simp[z])) (fun z=>hb (by simp[z])) q)
  . exact{{Al,_,hT2,0},[.int i tk,y],.cons {1} (.cons ru .nil),{_,hT2,7}}
  . have:=he2;rwa [show ((i:Nat):Int)+1=((i+1:Nat):Int) by lia] at this
  . obtain⟨⟨o,ho,r⟩,_⟩:=hst';exact{o,(jI.2 it (Ne.symm ne)).trans ho,r}
  . rcases zb.mp hb with rfl | hb
    . rw[zj (zi elt)];exact (hf _ (by simp)).1
    . have e2:b=it:=by simpa using hb
      subst e2;rw[zj (zi ilt)];exact (hf _ (by simp)).1
 done:=by intro X hP hw hK hc i pins s σ H E I hf st hg;subst hP hw hK;obtain⟨⟨old,he⟩,hit,ne,nai,nae⟩:=st;obtain⟨xs,hq,hx⟩:=hg;obtain⟨its,rv,p,hz⟩:=I.tuple hq;obtain⟨f0,f1,f2,f3,f4,f5⟩:=hf it (by simp);have hl:=rv.length;unfold pyNext;have hT:s.TypeIs (.ref e) "enumerate" := {_,he,0};refine zA (Gq (Ek (name:=Str.ofString "__next__") hT PySem.F.slot_enumerate_next (Cf PySem.F.slot_enumerate_next hT PySem.F.entry_enumerate_next ?_ (PySem.F.args_enumerate_next_1 _))));show wpAny (model X.prog X.w) _ (field (.ref e) 2 >>= _) _ _ s;refine zA (wpAny_field he rfl (x:=.ref it) rfl ?_);refine zA (Ve (A:=X.A.in1) (I.ok.hd hc) hit p (by simp;lia) fun h' z eb hz'=>?_);obtain⟨o,ho,jy⟩:=hz';refine zA (Dd (T := "StopIteration") (b:=true) ⟨o,ho,jy⟩ isSubtype_stop (zE ?_));exact{0,I.turned (t':=s.toks) (fun b o hb e=>eb b o hb e) f0 f1 f3 f4 f5}
 self:=fun _ _ _ _ _ st h=>by obtain⟨⟨old,he⟩,_⟩:=st;exact wpAny_pyIter_enum he h
def K2 (K:AK)(ta:TA):TI:=fun σ H R=>ta σ H fun vs H1=>∃a,vs=[.ref a]/\(∃xs,AB K H1 a xs)/\R (Fd K a) H1
theorem SN {x1} (hg:Gl X "enumerate") (hm:X.mg "enumerate"=none) (ha:PA X [a] ta)(hs:starEach [a] X.env=[(false,eval a X.env)]:=by rfl):PI X (.Tuple elts x1 tp) (.Call (.Name "enumerate" p) [a] [] pos) (K2 X.K ta):=by
 intro pins s σ H R I h;refine Call_ (Em I hg hm boot_enumerate (PyProof.Rows.callWith_type1 (AL (ha pos pins s σ H _ I h) fun us s1 ⟨vs,H1,I1,r1,q1⟩=>?_) hs rfl));obtain⟨l,e,⟨xs,hq⟩,q⟩:=q1;subst e;obtain⟨u,rfl,rx⟩:=DF r1;cases rx;obtain⟨its,rv,pl,hz⟩:=I1.tuple hq;have hll:l<s1.heap.objs.size:=by obtain⟨o,ho,_⟩:=id pl;exact zZ ho
 refine aJ pl fun h' he hit hk=>?_;refine wpAny_pyIter_enum he ?_;refine{s1.heap.objs.size+1,[s1.heap.objs.size+1,s1.heap.objs.size],4,H1,0,I1.kept (t':=s1.toks) hk,Y9 l _ _,{{_,he},hit,Nat.succ_ne_self _,zi hll,zi (Ec hll)},fun b hb=>?_,q};rcases zb.mp hb with rfl | hb
 . exact I1.fpOk (Ci _) (I1.hok.fresh (Ci _))
 . have e2:b=s1.heap.objs.size:=by simpa using hb
   subst e2;exact I1.fpOk (zK _) (I1.hok.fresh (zK _))
theorem R8 {K:AK}{g:TG}{tb:TS}{D:Gp}(Pv:Nat->St->Hp->Prop)(h0:Pv 0 σ H)(hl:∀i σ H,i<=xs.length->Pv i σ H->AB K H a xs)
 (hs:∀i x σ H T,xs[i]?=some x->Pv i σ H->H T=none->g (.ref T) σ (upd H T (.tup [.int i,x])) fun σ2 H2=>tb { D with nx:=Pv (i+1),ct:=Pv (i+1),bk:=D.nx } σ2 H2)(hd:∀ σ H,Pv xs.length σ H->D.nx σ H):
 ∃W:Nat->Nat->St->Hp->Prop,(∃m,W 0 m σ H)/\∀i m σ H,W i m σ H ->
  ((Fd K a).stop i H/\D.nx σ H)\/((Fd K a).go i H/\∃N:St->Hp->Prop,(∀ σ' H',N σ' H'->∃m',m'<m/\W (i+1) m' σ' H')/\∀x H',(Fd K a).yld i H x H'->g x σ H' fun σ2 H2=>tb { D with nx:=N,ct:=N,bk:=D.nx } σ2 H2):=by
 refine{fun i m σ H=>i<=xs.length/\m=xs.length-i/\Pv i σ H,{_,zh _,0,h0},fun i m σ H h=>?_};obtain⟨hi,rfl,hp⟩:=h;by_cases c:i<xs.length
 . refine .inr {{xs,xs[i],hl i σ H hi hp,zD c},Pv (i+1),fun σ' H' ij=>{xs.length-(i+1),by lia,c,0,ij},fun x H' y=>?_};obtain⟨T,v,rfl,hT,rfl,hv⟩:=y;exact hs i v σ H T (hv xs (hl i σ H hi hp)) hp hT
 . have e:i=xs.length:=by lia
   subst e;exact .inl {{xs,hl _ σ H hi hp,zK _},hd σ H hp}
theorem Ax.there (x:Ax P w H h a o):∃ob,h.get? a=some ob:=by
 cases o with
 | lst xs=>obtain⟨_,_,_,_,e⟩:=x;exact{_,e}
 | tup xs=>obtain⟨⟨_,o2,e2,_⟩,_⟩:=x;exact{_,e2}
 | dK eO=>obtain⟨_,_,_,_,o,_,_,e,_⟩:=x;exact{_,e}
 | dT eO=>obtain⟨_,_,_,_,o,_,_,e,_⟩:=x;exact{_,e}
 | set S n=>obtain⟨o,_,_,_,e,_⟩:=x;exact{_,e}
 | ins C dx fs=>obtain⟨_,_,_,e,_⟩:=x;exact{_,e}
 | own y=>obtain⟨_,e⟩:=x;exact{_,e}
 | xd fs=>obtain⟨_,⟨_,_,_,e,_⟩,_⟩:=x;exact{_,e}
 | rng lo hi=>obtain⟨_,_,_,e⟩:=x;exact{_,e}
 | frz ob u=>obtain⟨e,_⟩:=x;exact{_,e}
 | tbl ps=>exact⟨_,show h.get? a=some _ from x⟩
 | met f y=>exact⟨_,show h.get? a=some _ from x⟩
 | ext φ=>obtain⟨_,⟨_,e⟩,_⟩:=x;exact{_,e}
theorem Ap.stays {B:Heap}(x:Ap P w H h)(k:B.StaysIn h)(k':B.StaysIn h')(tr:∀b u,H b=some u->∃o,B.get? b=some o):Ap P w H h':=fun a o e=>
 (x a o e).stay (fun b u hb q=>by
  have:∃v,H b=some v:=by
   rcases hb with rfl | hb
   . exact{_,e}
   . exact{_,hb}
  obtain⟨v,hv⟩:=this;obtain⟨o',jW⟩:=tr b v hv;have e2:o'=u:=zV ((k b o' jW).symm.trans q);exact e2 ▸ k' b o' jW) (fun _ q=>q) fun _ _ q=>q
noncomputable abbrev MY:List Value:=[.type "ValueError",.type "Exception",.type "BaseException",.type "object"]
theorem Wa {K:AK}(X:K.In h)(q:PySem.W.excIn K C bmB newId=true):
 ∃bm N nm qn bs iV sn sub ab col dd k0 k1 k2 k3 k5 mN,h.get? C=some (excClassObj nm qn C N bs bm iV sn sub ab col dd k0 k1 k2 k3 k5 newId)/\h.Ns N mN/\mN "__init__"=none/\OwnTail h bmB bm:=by
 unfold PySem.W.excIn at q;split at q
 . next dd cd sl look=>
   split at q
   . next D bm k0 k1 k2 k3 n k5 em es=>
     simp only[G0,beq_iff_eq,Bool.not_eq_true'] at q;obtain⟨⟨⟨⟨⟨q1,q2⟩,q3⟩,q4⟩,q5⟩,q6⟩:=q;subst q1 q2;cases cd;simp only at em q3 q5 q6;subst em q3;cases sl;simp only at es;subst es;exact{4,9,9,9,9,9,X _ _ look,.of_isNs (PySem.W.isNs_of_in X q5),PySem.W.nsMap_none_of_in X q5 q6,PySem.W.tail_of_in X q4}
   . cases q
 . cases q
theorem Zf (I:AA X pins σ H s)(hN:X.N.Nodup)(hi:X.N[i]?=some x)(hk:X.env.kindOf x=some .local)(hv:σ[i]?=some (some v))
 (h:∀s',AA X pins (σ.set i none) H s'->Q () s'):wpAny M A (unbindName X.env x) Q E s:=by
 obtain⟨m,hn,hl⟩:=id I.loc;have jx:(X.env.scope.kind == .class || (X.env.scope.kind == .module && X.env.locals != X.env.globals))=false:=by rw[I.ok.kind];rfl
 have jY:X.env.scope.names.lookup x=some .local:=hk;obtain⟨u,_,lk⟩:=hl i x v hi hv (.inl jY);have hm:m x=some u:=by
  rcases lk with ⟨_,e⟩ | ⟨q,_⟩
  . exact e
  . rcases q with q | q <;> (rw[hk] at q;cases q)
 obtain⟨oL,_,_,jK,_⟩:=id hn;have neL:∀b o,X.s₀.heap.get? b=some o->b≠X.env.locals:=fun b o e=>zi (zo (zZ e) I.ok.above);refine wpAny_unbindName_local hk hn hm jx fun h' uu hn' hs=>h _ {I.ok,I.os,I.bare,{fun b o e n hb hx=>(hs.2 b (neL b o e)).trans (I.base.keep b o e n hb hx),fun b o e n hb hx=>?_,I.base.free,fun b o e hx=>?_,I.base.tups,I.base.frzs,I.base.tbls},{_,hn',fun j y v' e1 e2 e3=>?_},fun y c e=>?_,I.free,I.freeC,fun p hp=>?_,fun b ob e=>?_,by simpa using I.len}
 . obtain⟨sl,e1⟩:=I.base.slot b o e n hb hx;exact{sl,(hs.2 b (neL b o e)).trans e1}
 . obtain⟨o',e1⟩:=I.base.there b o e hx;exact{o',(hs.2 b (neL b o e)).trans e1}
 . have hj:j≠i:=fun z=>by subst z;have:j<σ.length:=(zG.mp hv).1;rw[List.getElem?_set_self this] at e2;cases e2
   rw[List.getElem?_set_ne (Ne.symm hj)] at e2;obtain⟨u',r',q⟩:=hl j y v' e1 e2 e3;refine{u',r',?_};rcases q with ⟨k,e⟩ | ⟨k,c,e,z⟩
   . have ny:y≠x:=fun e=>hj (Tc hN e1 (e ▸ hi));exact .inl {k,by simp[ny,e]}
   . exact .inr {k,c,e,z.sameBut hs (I.cne y c e)}
 . obtain⟨w',z⟩:=I.cell y c e;exact{w',z.sameBut hs (I.cne y c e)}
 . obtain⟨e,n,ne,nf,d⟩:=I.pin p hp;exact{(hs.2 p.1 ne).trans e,n,ne,nf,d}
 . refine (I.hok b ob e).stay (fun c w' hc q=>(hs.2 c ?_).trans q) (fun _ q=>q) fun _ _ q=>q;rintro rfl;rcases hc with rfl | hc
   . rw[I.free] at e;cases e
   . rw[I.free] at hc;cases hc
theorem Zv {M:Model}{A:Around}{E:B8}{s:Shared}{nm qn nm' qn':Str}{C W Nn Nn':Addr}{bs bm bs' bm':List Value}{iV hdct':Bool}{sn sn':List Str}{sub sub':List Value}{ab ab':Bool}{col col':Option Bool}{dd dd':Option Addr}
 {k0 k1 k2 k3 k5 k0' k1' k2' k3' k5':Option Value}{newId newId':String}{e:Addr}{oe:Obj}{Q:Bool->Shared->Prop}
 (hC:s.heap.get? C=some (excClassObj nm qn C Nn bs bm iV sn sub ab col dd k0 k1 k2 k3 k5 newId))(hW:s.heap.get? W=some (excClassObj nm' qn' W Nn' bs' bm' hdct' sn' sub' ab' col' dd' k0' k1' k2' k3' k5' newId'))
 (he:s.heap.get? e=some oe)(jx:oe.cls=.ref C)(hb:bm'.contains (.type "BaseException")=true) (hs:(Value.ref C::bm).contains (.ref W)=true)(hq:Q true s):wpAny M A (excMatches (.ref e) (.ref W)) Q E s:=by
 obtain⟨h,g,d,t,os⟩:=s;have hWB:(Value.ref W::bm').contains (.type "BaseException")=true:=by rw[List.contains_cons,hb,Bool.or_true]
 have f:=tc_notTuple;unfold excMatches
 repeat (first | (with_reducible refine DY he ?_;rw[jx]) | with_reducible refine DY hW ?_ | (with_reducible refine wpAny_isSubtype_exc hW ?_;rw[hWB]) | (with_reducible refine wpAny_isSubtype_exc hC ?_;rw[hs]) | wp_step)
 exact hq
noncomputable def subIn (K:AK)(C W:Addr):Bool:=match K.lookup C with
 | some {4,.cls cd,_}=>cd.mro.contains (.ref W)
 | _=>false
theorem Kh {K:AK}
 (X:K.In h)(q:subIn K C W=true)(hC:h.get? C=some (excClassObj nm qn C Nn bs bm iV sn sub ab col dd k0 k1 k2 k3 k5 newId)):(Value.ref C::bm).contains (.ref W)=true:=by
 unfold subIn at q;split at q
 . next look=>
   have e:=(X _ _ look).symm.trans hC;unfold excClassObj at e;cases e;exact q
 . cases q
noncomputable def Cx.held (X:Cx)(ea:Addr)(oe:Obj):Cx:={ X with A:=X.A.mark (some (.ref ea)),calm:=false,pn:=(ea,oe)::X.pn,xe:=fun _ _=>False }
theorem AA.hold (I:AA X pins σ H s)(h1:s.heap.get? ea=some oe)(h2:H ea=none)(h3:ea≠X.env.locals)(h4:ea∉X.fs)(h5:∀v,oe.data ≠ .cell v):AA (X.held ea oe) pins σ H s:=
 {{I.ok.mod,I.ok.kind,I.ok.glob,I.ok.blt,I.ok.above,I.ok.inj,I.ok.has,I.ok.cab,(fun z=>by cases z),I.ok.frames,I.ok.stk,I.ok.exf,I.ok.bs,I.ok.bsz,I.ok.noex,I.ok.exfs,I.ok.funs,I.ok.frf},I.os,I.bare,I.base,I.loc,I.cell,I.free,I.freeC,
  fun p hp=>by
   rcases zb.mp (show p∈(ea,oe)::(X.pn++pins) from hp) with rfl | hp
   . exact⟨h1,h2,h3,h4,h5⟩
   . exact I.pin p hp,I.hok,I.len}
theorem AA.letgo (ok:X.Ok)(I:AA (X.held ea oe) pins σ H s):AA X pins σ H s:=
 {ok,I.os,I.bare,I.base,I.loc,I.cell,I.free,I.freeC,fun p hp=>I.pin p (zd _ hp),I.hok,I.len}
theorem cN {st:List Env}{s1 s':Shared}(un:Un (A2 st) [] H1 H' s1.heap s'.heap)(fl:Heap.FlyingW B st ea C a0 s'.heap)
 (old:∀b o,s1.heap.get? b=some o->H1 b=none->b∉A2 st->B.get? b=some o)(al:∀b o,s1.heap.get? b=some o->b∉A2 st->∃o',B.get? b=some o')(jT:B.StaysIn h5)(up:s'.heap.UpToSlots h5):Un (A2 st) [] H1 H' s1.heap h5:=by
 refine{fun b o e n hb _=>jT b o (old b o e n hb),fun b o e n hb _=>?_,un.free,fun b o e _=>?_,un.tups,un.frzs,un.tbls}
 . obtain⟨jE,e2⟩:=un.slot b o e n hb (by intro z;cases z);obtain⟨_,o3,e3,nd⟩:=fl.2.2.1.mem hb;obtain⟨sl4,e4⟩:=up b _ e3 nd;have e5:=zV (e3.symm.trans e2);rw[e5] at e4;exact⟨sl4,e4⟩
 . by_cases hb:b∈A2 st
   . obtain⟨_,o3,e3,nd⟩:=fl.2.2.1.mem hb;obtain⟨sl4,e4⟩:=up b _ e3 nd;exact{_,e4}
   . obtain⟨o3,e3⟩:=al b o e hb;exact{_,jT b o3 e3}
noncomputable def Io (i:Nat)(D:Gp):Gp:={ D with nx:=fun σ H=>D.nx (σ.set i none) H,bk:=fun σ H=>D.bk (σ.set i none) H,ct:=fun σ H=>D.ct (σ.set i none) H }
end L2
namespace L2
open PySem PySem.Spec PySem.W PyProof.Rows Builtin Builtin.ObjectAttr Builtin.Getset_descriptor
section
variable {prog:Program}{w:World}{A:Around}{E:B8}{s:Shared}{K:Frag}{x C:Addr}{ox:Obj}
structure DC (K:Frag)(C:Addr):Prop where
 ga:findIn K (.ref C) "__getattribute__"=some (some (.builtin "BaseException.__getattribute__"))
 gn:findIn K (.ref C) "__getattr__"=some none
 cl:findIn K (.ref C) "__class__"=some (some (.builtin "object.__class__"))
 mo:mroIn K C (.type "object")=some true
 mb:mroIn K C (.type "BaseException")=some true
 ci:(clsIn K C).isSome=true
def Dp (h:Heap)(x C:Addr):Prop:=∃o,h.get? x=some o/\o.cls=.ref C
theorem Dp.type (I:Dp h x C):Looks M h (typeOf (.ref x)) (.ref C):=by obtain⟨o,e,c⟩:=I;rw[<-c];exact (Looks.ld e).andThen .now
theorem bz (X:K.In s.heap)(I:Dp s.heap x C)(hm:mroIn K C (.type "object")=some true) (h:R (.ok (.ret (.ref C))) s):
 codeAny (model prog w) A (.call (.builtin "getset_descriptor.__get__") {[.builtin "object.__class__",.ref x,tp],[]}) R s:=by
 obtain⟨h0,g0,d0,t0,o0⟩:=s;have T0:=I.type (M:=model prog w);have T1:=looks_mroIn (M:=model prog w) X hm;refine codeAny_call_builtin KF.slot_gs.plain KF.entry_gs (KF.slot_gs.check _ _ _ _ _ _ _ _ KF.type_class (KF.args_gs _ _ _) ?_);unfold Builtin.«getset_descriptor.__get__» descrGet;rw[dga_obj];apply zA;apply zE;unfold descrGetter descrCheckInstance descrNameAndClass isInstance;simp only[KF.owner_class]
 repeat lk
 refine{Code.quiet_builtin _ (by decide +kernel),codeAny_builtin KF.entry_class (?_:wpAny _ _ _ _ _ _)};unfold Builtin.«object.__class__»;unfold shownTypeOf
 repeat lk
 exact h
theorem ZE (X:K.In s.heap)(I:Dp s.heap x C)(F':DC K C)(hq:Q (.done (.ret (.ref C))) s):
 wpAny (model prog w) A (Builtin.«object.__getattribute__» {[.ref x,.str "__class__" tk],[]}) Q E s:=by
 obtain⟨h,g,d,t,os⟩:=s;have L0:=I.type (M:=model prog w);have L1:=looks_findIn (M:=model prog w) X F'.cl;have hT5:(⟨h,g,d,t,os⟩:Shared).TypeIs (.builtin "object.__class__") "getset_descriptor" := F.typeOf_object_class;have f5:=F.typeOf_object_class;have f6:=F.slot_gs_get.lookup;have f7:=F.slot_gs_set.lookup
 repeat (any_goals (first | assumption | with_reducible refine L0.at ?_ | with_reducible refine L1.at ?_ | wp_step))
 refine bz (s:=⟨h,g,d,t,os⟩) X I F'.mo ?_
 repeat (any_goals (first | assumption | wp_step))
theorem VW (X:K.In s.heap)(I:Dp s.heap x C)(F':DC K C)(hq:Q () s):wpAny M A (checkBuiltinCall "BaseException.__getattribute__" {[.ref x,jg],[]}) Q E s:=by
 obtain⟨h,g,d,t,os⟩:=s;have L0:=I.type (M:=M);have L1:=looks_mroIn (M:=M) X F'.mb;have e1:builtinKind "BaseException.__getattribute__"=some .slot:=by decide +kernel
 have e2:splitId "BaseException.__getattribute__"=some ("BaseException", "__getattribute__"):=by decide +kernel
 have ha:=F.args_bexc_ga (.ref x) jg;simp only[checkBuiltinCall,e1,e2];refine zA ?_;unfold isInstance
 repeat (any_goals (first | assumption | with_reducible refine L0.at ?_ | with_reducible refine L1.at ?_ | wp_step))
theorem Y1 (X:K.In s.heap)(I:Dp s.heap x C)(F':DC K C)(hq:R (.ok (.ret (.ref C))) s):
 codeAny (model prog w) A (.call (.builtin "BaseException.__getattribute__") {[.ref x,.str "__class__" tk],[]}) R s:=
 codeAny_call_builtin F.attrBase_ValueError.ga.plain F.entry_bexc_ga (VW X I F' (ZE X I F' hq))
theorem LS {fill:Bool}(X:K.In s.heap)(I:Dp s.heap x C)(F':DC K C)(hq:Q (.ref C) s):wpAny (model prog w) A (getAttrBy (.ref x) (.str "__class__" tk) fill) Q E s:=by
 obtain⟨h,g,d,t,os⟩:=s;have L0:=I.type (M:=model prog w);have L1:=looks_findIn (M:=model prog w) X F'.ga;have L2:=looks_findIn (M:=model prog w) X F'.gn;have f3:=F.attrBase_ValueError.ga.bind (.ref x);have hx2:(Value.builtin "BaseException.__getattribute__" == Value.builtin "object.__getattribute__")=false:=by decide +kernel
 have hx1:(onTheHeap (Value.ref C) && Value.builtin "BaseException.__getattribute__" == Value.builtin "object.__getattribute__")=false:=by rw[hx2];rfl
 repeat (any_goals (first | assumption | with_reducible refine L0.at ?_ | with_reducible refine L1.at ?_ | with_reducible refine L2.at ?_ | wp_step))
 refine Y1 (s:=⟨h,g,d,t,os⟩) X I F' ?_
 repeat (any_goals (first | assumption | wp_step))
theorem ZF (X:K.In s.heap)(I:Dp s.heap x C)(F':DC K C)(hq:Q (some (.ref C)) { s with toks:=s.toks+1 }):wpAny (model prog w) A (getAttr? (.ref x) "__class__") Q E s:=by
 obtain⟨h,g,d,t,os⟩:=s;unfold getAttr? getAttrBy?
 repeat (any_goals (first | assumption | with_reducible apply LS (s:={h,g,d,t+1,os}) X I F' | wp_step))
theorem S6 (F':DC K C):KitX K (.ref x) (.ref C) (fun h=>Dp h x C) where
 ty:=fun _ _ _ I=>I.type
 it:=fun _ _ X _=>by
  obtain⟨cdD,hcD⟩:=Jv.mp F'.ci;unfold clsIn at hcD;split at hcD
  . next ho=>
    intro A' Q' E' s' k q;unfold isType loadHead;exact zA (wpAny_loadPart (k _ _ (X _ _ ho)) (zE q))
  . cases hcD
 ne:=fun h tp dd its n sl X htp=>by
  obtain⟨cdD,hcD⟩:=Jv.mp F'.ci;refine Bool.eq_false_iff.mpr fun q=>?_;have e:C=tp:=Value.ref.inj (beq_iff_eq.mp q);subst e;unfold clsIn at hcD;split at hcD
  . next ho=>
    have z:=(X _ _ ho).symm.trans htp;cases z
  . cases hcD
 ca:=fun X I k=>ZF X I F' k
end
structure NV (X:Cx)(ea C:Addr):Prop where
 pin:∃oe,(ea,oe)∈X.pn/\oe.cls=.ref C
section
variable {X:Cx}
theorem Sv (h:NV X ea C)(I:AA X pins σ H s):Dp s.heap ea C:=by obtain⟨oe,hp,hc⟩:=h.pin;obtain⟨e,_⟩:=I.pin (ea,oe) (DP _ hp);exact⟨oe,e,hc⟩
theorem VU (hh:NV X ea C):CH X (.builtin "isinstance") (fun xs H Q=>∃W b,DC X.K C/\xs=[.ref ea,.ref W]/\PySem.W.kitOne X.K (.ref C) (.ref W)=some b/\Q (.bl b) H):=by intro pins s σ H xs us Q I r h;obtain⟨W,b,F',rfl,e,q⟩:=h;obtain⟨u,w',rfl,rx,rT⟩:=Mv r;cases (show u=Value.ref ea from rx);cases (show w'=Value.ref W from rT);have J:=Sv hh I;exact PySem.W.kia_one (S6 F') I.kIn J e (fun z=>nomatch z) fun tk=>{.bl b,H,I.tok tk,0,q}
theorem WY (hh:NV X ea C):CH X (.builtin "isinstance") (fun xs H Q=>∃T b,DC X.K C/\xs=[.ref ea,.ty T]/\PySem.W.kitOne X.K (.ref C) (.type T)=some b/\Q (.bl b) H):=by intro pins s σ H xs us Q I r h;obtain⟨T,b,F',rfl,e,q⟩:=h;obtain⟨u,w',rfl,rx,rT⟩:=Mv r;cases (show u=Value.ref ea from rx);cases (show w'=Value.type T from rT);have J:=Sv hh I;exact PySem.W.kia_one (S6 F') I.kIn J e (fun z=>nomatch z) fun tk=>{.bl b,H,I.tok tk,0,q}
theorem Qw (hh:NV X ea C):CH X (.builtin "isinstance") (fun xs H Q=>∃(tp:Addr)(Ws:List Addr)(b:Bool),DC X.K C/\xs=[.ref ea,.ref tp]/\H tp=some (.tup (Ws.map V.ref))/\PySem.W.kitAny X.K (.ref C) (Ws.map Value.ref)=some b/\Q (.bl b) H):=by
 intro pins s σ H xs us Q I r h;obtain⟨tp,Ws,b,F',rfl,ht,e,q⟩:=h;obtain⟨u,w',rfl,rx,rT⟩:=Mv r;cases (show u=Value.ref ea from rx);cases (show w'=Value.ref tp from rT);have J:=Sv hh I;obtain⟨⟨z,o2,e2,d2⟩,its,rv,ob,e3,c3,n3,s3⟩:=(show Ax X.prog X.w H s.heap tp (.tup (Ws.map V.ref)) from I.hok tp _ ht);have hits:its=Ws.map Value.ref:=by
  have:∀(Ws:List Addr)(its:List Value),AO (Ws.map V.ref) its->its=Ws.map Value.ref:=by
   intro Ws
   induction Ws with
   | nil=>intro its h;cases h;rfl
   | cons a r ih=>
    intro its h;cases h with
    | cons h1 h2=>rw[ih _ h2,show _=Value.ref a from h1];rfl
  exact this Ws its rv
 obtain⟨c',d',da',sl'⟩:=ob;simp only at c3 s3;subst c3 s3 hits;exact PySem.W.kia_tup (S6 F') I.kIn J e3 e (fun z=>nomatch z) fun tk=>{.bl b,H,I.tok tk,0,q}
theorem Hn (h:oe.cls=.ref C):NV (X.held ea oe) ea C:={⟨oe,zX,h⟩}
end
end L2
namespace L2
open PySem PySem.Spec PyProof.Rows
def DK (h h':Heap):Prop:=∀b o,h.get? b=some o->∃o',h'.get? b=some o'/\o'.dict=o.dict
theorem DK.refl (h):DK h h:=fun _ o e=>{o,e,0}
theorem DK.trans (a:DK h1 h2)(b:DK h2 h3):DK h1 h3:=fun x o e=>by obtain⟨o1,e1,d1⟩:=a x o e;obtain⟨o2,e2,d2⟩:=b x o1 e1;exact{o2,e2,d2.trans d1}
def KD {α:Type}:Sem α->Prop
 | .pure _=>True
 | .raise _=>True
 | .unsupported _=>True
 | .finish _=>True
 | .rule _ k=>KD (k ())
 | .at _ k=>KD (k ())
 | .load _ _ k=>∀o,KD (k o)
 | .update _ _ f k=>(∀o,(f o).dict=o.dict/\(o.isFreed=false->(f o).isFreed=false))/\KD (k ())
 | .alloc _ k=>∀a,KD (k a)
 | .loadIfAlive _ k=>∀o,KD (k o)
 | .point _ k=>KD (k ())
 | .fresh k=>∀t,KD (k t)
 | .ask k=>∀x,KD (k x)
 | .stack k=>∀l,KD (k l)
 | .handled _ k=>∀v,KD (k v)
 | _=>False
theorem KD.bind (h:KD t)(hk:∀a,KD (k a)):KD (t >>= k):=by
 show KD (Sem.bind t k)
 induction t with
 | pure a=>exact hk a
 | raise e=>trivial
 | unsupported w=>trivial
 | finish e=>trivial
 | rule t f ih=>exact ih () h
 | «at» p f ih=>exact ih () h
 | load a p f ih=>exact fun o=>ih o (h o)
 | update a p f g ih=>exact{h.1,ih () h.2}
 | alloc o f ih=>exact fun a=>ih a (h a)
 | loadIfAlive a f ih=>exact fun o=>ih o (h o)
 | point l f ih=>exact ih () h
 | fresh f ih=>exact fun t=>ih t (h t)
 | ask f ih=>exact fun x=>ih x (h x)
 | stack f ih=>exact fun l=>ih l (h l)
 | handled o f ih=>exact fun v=>ih v (h v)
 | register=>exact h.elim
 | choose=>exact h.elim
 | os=>exact h.elim
 | call=>exact h.elim
 | newGen=>exact h.elim
 | genState=>exact h.elim
 | resume=>exact h.elim
 | yield=>exact h.elim
 | fork=>exact h.elim
 | thread=>exact h.elim
 | await=>exact h.elim
theorem KD.wp (h:KD t):∀{p:Pos}{s:Shared},DK h0 s.heap->Sem.wp M Γ t Q E p s->Sem.wp M Γ t (fun a p' s'=>Q a p' s'/\DK h0 s'.heap) E p s:=by
 induction t with
 | pure a=>exact fun d w=>⟨w,d⟩
 | raise e=>exact fun d w=>w
 | unsupported w=>exact fun d w=>w
 | finish e=>exact fun d w=>w
 | rule t f ih=>exact fun d w=>ih () h d w
 | «at» p f ih=>exact fun d w=>ih () h d w
 | load a p f ih=>intro p s d w;obtain⟨o,e,w⟩:=w;exact{o,e,ih o (h o) d w}
 | update a p f g ih=>
  intro p s d w;obtain⟨e,w⟩:=w;refine{e,ih () h.2 (d.trans fun b o q=>?_) w};by_cases c:b=a
  . subst c;have fr:=(Heap.get?_some_iff.mp q).2;exact{f o,Ck f q ((h.1 o).2 fr),(h.1 o).1}
  . exact{o,(Gz _ _ (Ne.symm c)).trans q,0}
 | alloc o f ih=>intro p s d w;exact ih _ (h _) (d.trans fun b o q=>{o,zL _ q,0}) w
 | loadIfAlive a f ih=>exact fun d w=>ih _ (h _) d w
 | point l f ih=>exact fun d w=>ih () h d w
 | fresh f ih=>exact fun d w=>ih _ (h _) d w
 | ask f ih=>exact fun d w=>ih _ (h _) d w
 | stack f ih=>exact fun d w=>ih _ (h _) d w
 | handled o f ih=>exact fun d w=>ih _ (h _) d w
 | register=>exact h.elim
 | choose=>exact h.elim
 | os=>exact h.elim
 | call=>exact h.elim
 | newGen=>exact h.elim
 | genState=>exact h.elim
 | resume=>exact h.elim
 | yield=>exact h.elim
 | fork=>exact h.elim
 | thread=>exact h.elim
 | await=>exact h.elim
theorem NR (k:KD t)(h:wpAny M A t Q E s):wpAny M A t (fun a s'=>Q a s'/\DK s.heap s'.heap) E s:=
 fun Γ p hΓ => k.wp (DK.refl _) (h Γ p hΓ)
theorem G4 [Decidable c] (h1:KD a)(h2:KD b):KD (if c then a else b):=by split <;> assumption
theorem Zs (v):KD (fieldsOf v):=by
 unfold fieldsOf;split
 . refine KD.bind (fun o=>trivial) fun o=>?_;split <;> trivial
 . trivial
theorem QZ (v)(i):KD (field v i):=by unfold field;refine KD.bind (Zs v) fun vs=>?_;split <;> trivial
theorem Y7 (g:Array Value->Array Value)(o):(Obj.mapFields g o).dict=o.dict/\(o.isFreed=false->(Obj.mapFields g o).isFreed=false):=by obtain⟨c,d,dt,sl⟩:=o;cases dt <;> exact{0,fun h=>h}
theorem SH (v)(i)(x):KD (setField v i x):=by
 unfold setField;split
 . unfold updateField;refine KD.bind (fun o=>trivial) fun o=>?_;split
   . exact G4 {fun o=>Y7 _ o,trivial} trivial
   . trivial
 . trivial
theorem UN (e)(f):KD (setFlight e f):=by unfold setFlight;refine KD.bind (QZ e 1) fun tb=>G4 (SH _ _ _) trivial
theorem cS:KD frameEnvs:=by unfold frameEnvs;exact KD.bind (fun l=>trivial) fun l=>trivial
theorem cZ (env:Env)(l):KD (behindIsImport env l):=by unfold behindIsImport;exact G4 trivial (G4 trivial (KD.bind (QZ _ _) fun _=>trivial))
theorem bJ (env:Env)(b:Bool)(l):KD (keptBack env b l):=by
 unfold keptBack;split
 . refine G4 trivial ?_;refine KD.bind ?_ fun _=>trivial;unfold underTheClaimsCaller;exact KD.bind (fun l=>trivial) fun l=>trivial
 . trivial
theorem Vv:∀l:List Env,KD (readyFrames l)
 | []=>trivial
 | env::outer=>by
  unfold readyFrames;split
  . refine KD.bind (fun o=>trivial) fun o=>?_;refine G4 trivial ?_;refine KD.bind (cZ _ _) fun b=>?_;refine KD.bind (bJ _ _ _) fun b=>?_;refine KD.bind {fun o=>{0,fun h=>(by obtain⟨c,d,dt,sl⟩:=o;cases dt <;> exact h)},trivial} fun _=>Vv outer
  . trivial
theorem ZP (env:Env):KD (PySem.frameOf env):=by
 unfold PySem.frameOf;refine KD.bind cS fun l=>?_;refine KD.bind ?_ fun r=>?_
 . unfold frameObject;split
   . trivial
   . exact KD.bind (Vv _) fun _=>trivial
 . split <;> trivial
theorem bj (f)(b:Bool):KD (entryPlaceOf f b):=by unfold entryPlaceOf;refine KD.bind (fun l=>trivial) fun l=>?_;split <;> trivial
theorem ZY (a b c d e)(l):KD (EntryCells.newEntry a b c d e l):=by
 unfold EntryCells.newEntry newFields newObj;have fin:∀d:Data,KD (newObjAsIs (.type "traceback") d):=fun d=>by unfold newObjAsIs;exact KD.bind (fun a=>trivial) fun a=>trivial
 simp only[];exact G4 (KD.bind trivial fun _=>fin _) (fin _)
theorem Xv (e)(env:Env):KD (noteFrame e env):=by
 unfold noteFrame;split
 . refine KD.bind (QZ _ _) fun hd=>?_;have fin:∀f:Addr,KD (do setField e 1 (<-EntryCells.newEntry hd (<-PySem.frameOf env) .none (rawInt f) .none (<-entryPlaceOf f (hd != .none)))):=fun f=>
    KD.bind (ZP env) fun a=>KD.bind (bj _ _) fun pl=>KD.bind (ZY _ _ _ _ _ _) fun b=>SH _ _ _
   refine G4 ?_ (fin _);refine KD.bind (QZ _ _) fun x=>G4 trivial ?_;exact KD.bind (SH _ _ _) fun _=>fin _
 . trivial
theorem YK (env:Env)(e):KD (leaving env e):=KD.bind (Xv e env) fun _=>UN e none
noncomputable def Fy (K:AK)(C:Addr):Bool:=match K.lookup C with
 | some {.type "type",_,.cls u,z}=>
  match u.mro,z.toList with
  | .ref D::b,[_,_,_,_,some (.builtin m),_]=>D==C && m == "ValueError.__new__" && !u.hasDel && PySem.W.tailIn K MY b && PySem.W.nsOkIn K u.ns && u.hasDict
  | _,_=>false
 | _=>false
theorem KG {K:AK}(X:K.In h)(q:Fy K C=true):
 ∃bm N nm qn bs sn sub ab col dd k0 k1 k2 k3 k5 mN,h.get? C=some (excClassObj nm qn C N bs bm true sn sub ab col dd k0 k1 k2 k3 k5 "ValueError.__new__")/\h.Ns N mN/\OwnTail h MY bm:=by
 unfold Fy at q;split at q
 . next dd cd sl look=>
   split at q
   . next D bm k0 k1 k2 k3 n k5 em es=>
     simp only[G0,beq_iff_eq,Bool.not_eq_true'] at q;obtain⟨⟨⟨⟨⟨q1,q2⟩,q3⟩,q4⟩,q5⟩,q6⟩:=q;subst q1 q2;cases cd;simp only at em q3 q5 q6;subst em q3 q6;cases sl;simp only at es;subst es;exact{_,9,9,9,9,9,X _ _ look,.of_isNs (PySem.W.isNs_of_in X q5),PySem.W.tail_of_in X q4}
   . cases q
 . cases q
structure CK (K:AK)(C fI:Addr):Prop where
 cl:Fy K C=true
 ini:PySem.W.findIn K (.ref C) "__init__"=some (some (.ref fI))
 fn:PySem.W.isFn K (.ref fI)=true
 sa:PySem.W.findIn K (.ref C) "__setattr__"=some (some (.builtin "object.__setattr__"))
 kp:PySem.W.keepIn K (.ref C)=true
noncomputable def CJ (C t:Addr)(od:Option Addr):Obj:={ cls:=.ref C,dict:=od,data:=.fields #[.ref t,.none,.none,.none,.bool false,.none] }
noncomputable def HB (us:List Value):Obj:={ cls:=.type "tuple",data:=.seq us.toArray }
section
variable {prog:Program}{w:World}{A:Around}{E:B8}{h:Heap}{g:Array GenState}{d:Drawn}{t:Nat}{os:OsState}{K:AK}{C fI:Addr}{us:List Value}
noncomputable def G1 (h:Heap)(C:Addr)(us:List Value):Heap:=(h.push (HB us)).push (CJ C h.objs.size none)
theorem Xm (h)(C)(us):∀b o,h.get? b=some o->(G1 h C us).get? b=some o:=fun _ _ e=>zL _ (zL _ e)
theorem WR (h)(C)(us):(G1 h C us).get? (h.objs.size+1)=some (CJ C h.objs.size none):=Heap.get?_push_at (by rw[Cp]) rfl
theorem av (X:K.In h)(I:CK K C fI)(hz:us.length<=sizeLine)
 (hq:wpAny (model prog w) A (call (.ref fI) (.ref (h.objs.size+1)::us)) (fun r s'=>r=.none/\Q (.done (.ret (.ref (h.objs.size+1)))) s') E {G1 h C us,g,d,t,os}):
 wpAny (model prog w) A (Builtin.«type.__call__» {.ref C::us,[]}) Q E ⟨h,g,d,t,os⟩:=by
 obtain⟨bm,N,nm,qn,bs,sn,sub,ab,col,dd,k0,k1,k2,k3,k5,mN,hC,hN,T⟩:=KG X I.cl;have F:=PySem.F.excBase_ValueError
 repeat (first | with_reducible refine DY hC ?_ | with_reducible refine wpAny_madeBy_exc hC ?_ | wp_step)
 refine codeAny_call_builtin_code (Code.quiet_builtin _ F.quiet) (wpAny_check_new_subT F T hC (codeAny_exc_new_subT F T hC ?_ hz));show wpAny _ _ _ _ _ {G1 h C us,g,d,t,os};have hC1:=Xm h C us _ _ hC;have he1:(G1 h C us).get? (h.objs.size+1)=some { cls:=.ref C,data:=.fields #[.ref h.objs.size,.none,.none,.none,.bool false,.none] }:=WR h C us;have X1:K.In (G1 h C us):=X.keeps (Xm h C us);have own:(Value.ref C::bm).contains (.ref C)=true:=by simp
 unfold isInstance
 repeat (first | with_reducible refine DY he1 ?_ | (with_reducible refine wpAny_isSubtype_exc hC1 ?_;rw[own]) | wp_step)
 have L:=PySem.W.looks_findIn (M:=model prog w) X1 I.ini;refine L.at ?_;refine BD (zA ?_);refine (PySem.W.bind_fn (M:=model prog w) X1 (.ref (h.objs.size+1)) (beq_iff_eq.mp I.fn)).at ?_;refine zA (BE hq (fun r s' hr=>?_) fun _ _ z=>z);obtain⟨rfl,hQ⟩:=hr
 wp_walk
 exact hQ
theorem Y6 (X:K.In h)(I:CK K C fI)(hz:us.length<=sizeLine)
 (hq:wpAny (model prog w) (A.under (.builtin "type.__call__" {.ref C::us,[]})) (call (.ref fI) (.ref (h.objs.size+1)::us)) (fun r s'=>r=.none/\Q (.ref (h.objs.size+1)) s') E {G1 h C us,g,d,t,os}):
 wpAny (model prog w) A (call (.ref C) us) Q E ⟨h,g,d,t,os⟩:=by
 obtain⟨bm,N,nm,qn,bs,sn,sub,ab,col,dd,k0,k1,k2,k3,k5,mN,hC,hN,T⟩:=KG X I.cl;have f1:=tc_lookup;have f2:=tc_bind (.ref C);have hT:(⟨h,g,d,t,os⟩:Shared).TypeIs (.ref C) "type" := {_,hC,0};refine C9 (codeAny_of_tree ?_);show wpAny _ _ (callAny (.ref C) _) _ _ _
 repeat (any_goals (first | assumption | with_reducible refine DY hC ?_ | wp_step))
 refine{0,?_};exact codeAny_call_builtin_at (Code.quiet_builtin _ (by decide +kernel)) entry_typeCall (wpAny_check_type_call_sub hC (av X I hz hq))
end
theorem WL (T:OwnTail h MY bm)(self):refuseLoop self "__setattr__" bm=pure ():=by
 induction T with
 | base=>exact PySem.F.store_ValueError.passes self
 | own _ _ _ _ ih=>rw[refuseLoop_ref];exact ih
section
variable {prog:Program}{w:World}{A:Around}{E:B8}{h:Heap}{g:Array GenState}{d:Drawn}{t:Nat}{os:OsState}{K:AK}{C fI x tt:Addr}{name:Str}{v:Value}
theorem ZO (X:K.In h)(mo:PySem.W.mroIn K C (.type "object")=some true) (hx:h.get? x=some (CJ C tt od))(hq:Q () ⟨h,g,d,t,os⟩):
 wpAny M A (checkBuiltinCall "object.__setattr__" {[.ref x,jg,v],[]}) Q E ⟨h,g,d,t,os⟩:=by
 have L0:=(show Dp h x C from {_,hx,0}).type (M:=M);have L1:=PySem.W.looks_mroIn (M:=M) X mo;have ha:=PySem.F.store_ValueError.args (.ref x) jg v;have e1:=PySem.F.store_ValueError.kind;have e2:=PySem.F.store_ValueError.split;simp only[checkBuiltinCall,e1,e2];refine zA ?_;unfold isInstance
 repeat (any_goals (first | assumption | with_reducible refine L0.at ?_ | with_reducible refine L1.at ?_ | wp_step))
theorem XM (gX:h.Ns1 dx mA)(hw:PySem.Within mA ns)(hz:ns.length<1000)
 (hq:∀h' gc,h'.Ns1 dx (fun y=>if y=name then some v else mA y)->(∀b,b≠dx->h'.get? b=h.get? b)->Q (.done (.ret .none)) ⟨h',g,d,gc,os⟩):
 wpAny M A (Builtin.ObjectAttr.storeInDict dx (.str name tk) name v) Q E ⟨h,g,d,t,os⟩:=by
 unfold Builtin.ObjectAttr.storeInDict Builtin.ObjectAttr.newKeyGuard;refine zA (zE (zA (wpAny_nsSet1 gX fun h' hn' hs=>?_)));obtain⟨oD,esD,epD,hoD,hdD,hcD⟩:=hn'.count (Within.cons name v hw);refine zA (wpAny_lookBehind hoD (by rw[hdD];exact pastItsLine_dict (BX hcD (by rw[zk,sizeLine_eq];lia))) ?_)
 wp_walk
 exact hq h' _ hn' fun b hb=>hs.2 b hb
theorem dB (X:K.In h)(I:CK K C fI)(nm:PySem.W.findIn K (.ref C) name=some none)(hx:h.get? x=some (CJ C tt none))
 (hq:∀h' gc,h'.get? x=some (CJ C tt (some h.objs.size))->h'.Ns1 h.objs.size (fun y=>if y=name then some v else none)->(∀b o,b≠x->h.get? b=some o->h'.get? b=some o)->Q (.done (.ret .none)) ⟨h',g,d,gc,os⟩):
 wpAny (model prog w) A (Builtin.«object.__setattr__» {[.ref x,.str name tk,v],[]}) Q E ⟨h,g,d,t,os⟩:=by
 obtain⟨bm,N,nmm,qn,bs,sn,sub,ab,col,dd,k0,k1,k2,k3,k5,mN,hC,hN,T⟩:=KG X I.cl;have pass:=WL T (.ref x);obtain⟨o,ho⟩:∃o,o=CJ C tt none:={1};rw[<-ho] at hx;have hc:o.cls=.ref C:=by rw[ho];rfl
 have jN:o.dict=none:=by rw[ho];rfl
 have L:=PySem.W.looks_findIn (M:=model prog w) X nm;unfold Builtin.«object.__setattr__»
 repeat (first | rw[refuse_eq] | (rw[refuseLoop_ref,pass]) | (with_reducible refine DY hx ?_;rw[hc]) | with_reducible refine wpAny_mroOf_exc hC ?_ | with_reducible refine L.at ?_ | wp_step)
 have hdt:o.data=.fields #[.ref tt,.none,.none,.none,.bool false,.none]:=by rw[ho];rfl
 have hx1:=zL { cls:=.type "dict",data:=.dict #[] } hx;have xs:x≠h.objs.size:=zi (zZ hx);rw[jN,hdt];refine zA (wpAny_alloc' (zA (wpAny_update' hx1 (zE ?_))));have fr:(CJ C tt (some h.objs.size)).isFreed=false:=rfl;have up:((h.push { cls:=.type "dict",data:=.dict #[] }).update x fun o=>{ cls:=o.cls,dict:=some h.objs.size,data:=o.data,slots:=o.slots }).get? x=some (CJ C tt (some h.objs.size)):=by have:=Ck (fun o:Obj=>{ cls:=o.cls,dict:=some h.objs.size,data:=o.data,slots:=o.slots }) hx1 (by rw[ho];rfl);rw[this,ho];rfl
 have nd:((h.push { cls:=.type "dict",data:=.dict #[] }).update x fun o=>{ cls:=o.cls,dict:=some h.objs.size,data:=o.data,slots:=o.slots }).get? h.objs.size=some { cls:=.type "dict",data:=.dict #[] }:=
  (Gz _ _ xs).trans (Heap.get?_push_at rfl rfl)
 refine XM (Heap.Ns1.of_empty {_,#[],_,nd,0,fun e he=>absurd he (by simp),fun _=>rfl}) Within.nil (by decide) fun h' gc n' same=>?_;refine hq h' gc ((same x xs).trans up) n' fun b ob hb e=>?_;rw[same b (zi (zZ e)),Gz _ _ (Ne.symm hb)];exact zL _ e
theorem dD (X:K.In h)(I:CK K C fI)(nm:PySem.W.findIn K (.ref C) name=some none)(hx:h.get? x=some (CJ C tt (some dx)))
 (gX:h.Ns1 dx mA)(hw:PySem.Within mA ns)(hz:ns.length<1000)
 (hq:∀h' gc,h'.Ns1 dx (fun y=>if y=name then some v else mA y)->(∀b,b≠dx->h'.get? b=h.get? b)->Q (.done (.ret .none)) ⟨h',g,d,gc,os⟩):
 wpAny (model prog w) A (Builtin.«object.__setattr__» {[.ref x,.str name tk,v],[]}) Q E ⟨h,g,d,t,os⟩:=by
 obtain⟨bm,N,nmm,qn,bs,sn,sub,ab,col,dd,k0,k1,k2,k3,k5,mN,hC,hN,T⟩:=KG X I.cl;have pass:=WL T (.ref x);obtain⟨o,ho⟩:∃o,o=CJ C tt (some dx):={1};rw[<-ho] at hx;have hc:o.cls=.ref C:=by rw[ho];rfl
 have jN:o.dict=some dx:=by rw[ho];rfl
 have L:=PySem.W.looks_findIn (M:=model prog w) X nm;unfold Builtin.«object.__setattr__»
 repeat (first | rw[refuse_eq] | (rw[refuseLoop_ref,pass]) | (with_reducible refine DY hx ?_;rw[hc]) | with_reducible refine wpAny_mroOf_exc hC ?_ | with_reducible refine L.at ?_ | wp_step)
 rw[jN];exact zE (XM gX hw hz hq)
theorem Xr {Pr:Heap->Prop}(X:K.In h)(I:CK K C fI)(mo:PySem.W.mroIn K C (.type "object")=some true) (hx:h.get? x=some (CJ C tt od))
 (ent:∀A' E' tk t' Q',(∀h' gc,Pr h'->Q' (.done (.ret .none)) ⟨h',g,d,gc,os⟩)->wpAny (model prog w) A' (Builtin.«object.__setattr__» {[.ref x,.str name tk,v],[]}) Q' E' ⟨h,g,d,t',os⟩)
 (hq:∀h' gc,Pr h'->Q () ⟨h',g,d,gc,os⟩):wpAny (model prog w) A (setAttr (.ref x) name v) Q E ⟨h,g,d,t,os⟩:=by
 have SF:=PySem.F.store_ValueError;have f3:=SF.slot.bind (.ref x);have L0:=(show Dp h x C from {_,hx,0}).type (M:=model prog w);have L1:=PySem.W.looks_findIn (M:=model prog w) X I.sa;unfold setAttr callSpecial? specialOf
 repeat (any_goals (first | assumption | with_reducible refine L0.at ?_ | with_reducible refine L1.at ?_ | wp_step))
 refine codeAny_call_builtin SF.slot.plain SF.entry (ZO X mo hx (ent _ _ _ _ _ fun h' gc p=>?_))
 repeat (any_goals (first | assumption | wp_step))
 exact hq h' gc p
end
noncomputable def xO (e C t:Addr)(od:Option Addr):HO:=.ext fun h=>h.get? e=some (CJ C t od)
noncomputable def dO (dx:Addr)(fs:List (Str×V)):HO:=.ext fun h=>∃mA,h.Ns1 dx mA/\(∀f,CW (fs.lookup f) (mA f))/\PySem.Within mA (fs.map (·.1))
theorem Iv (hx:h.get? e=some (CJ C t od)):Ax P w H h e (xO e C t od):={hx,{_,hx},fun _ _ p k=>k _ p}
theorem IX (hn:h.Ns1 dx mA)(r:∀f,CW (fs.lookup f) (mA f))(wi:PySem.Within mA (fs.map (·.1))):Ax P w H h dx (dO dx fs):=
 ⟨⟨mA,hn,r,wi⟩,let {o,4,q,_}:=hn;⟨o,q⟩,fun _ _ ⟨m,⟨o,es,ep,q,z⟩,r,wi⟩ k=>{m,{o,es,ep,k _ q,z},r,wi}⟩
theorem Ap.add (x:Ap P w H h)(hn:H a=none)(new:Ax P w (upd H a o) h a o):Ap P w (upd H a o) h:=fun b u e=>by
 by_cases hb:b=a
 . subst hb;rw[zI] at e;cases e;exact new
 . rw[zj hb] at e;exact (x b u e).stay (fun c v _ q=>q) (fun c q=>by rw[zj (zq q hn)];exact q) fun c xs q=>by rw[zj (zq q hn)];exact q
theorem dq (n:a≠b):upd (upd H a o) b u=upd (upd H b u) a o:=by
 funext c;by_cases h1:c=a
 . subst h1;rw[zI,zj n,zI]
 . by_cases h2:c=b
   . subst h2;rw[zI,zj h1,zI]
   . rw[zj h2,zj h1,zj h1,zj h2]
theorem dg (I:AA X pins σ H s)(EI:CK X.K C fI)(mo:PySem.W.mroIn X.K C (.type "object")=some true) (nm:PySem.W.findIn X.K (.ref C) f=some none)(he:H e=some (xO e C t none))(ry:AS y u)
 (h:∀dx s',H dx=none->AA X pins σ (upd (upd H dx (dO dx [(f,y)])) e (xO e C t (some dx))) s'->Q () s'):wpAny (model X.prog X.w) A (setAttr (.ref e) f u) Q E s:=by
 obtain⟨hp,g,d,tk,os⟩:=s;have hx:hp.get? e=some (CJ C t none):=(I.hok e _ he).1;refine Xr (Pr:=fun h'=>h'.get? e=some (CJ C t (some hp.objs.size))/\h'.Ns1 hp.objs.size (fun y=>if y=f then some u else none)/\(∀b o,b≠e->hp.get? b=some o->h'.get? b=some o)) I.kIn EI mo hx
  (fun A' E' gc t' Q' k=>dB I.kIn EI nm hx fun h' tk2 a b c=>k h' tk2 ⟨a,b,c⟩) fun h' gc ⟨a,b,c⟩=>?_
 have hn:H hp.objs.size=none:=I.hok.fresh (zK _);have ne:e≠hp.objs.size:=zi (zZ hx);refine h hp.objs.size _ hn ?_;have mu:IV ((upd H hp.objs.size (dO hp.objs.size [(f,y)])) e):=by rw[zj ne,he];exact True.intro
 have mu':IV (H e):=by rw[he];exact True.intro
 refine I.un (h':=h') (t':=gc) ((Un.laid (h':=hp) (fun _ _ q=>q) (zK _) hn).trans (Un.write mu (.inl rfl) c {_,a})) ?_;rw[dq (Ne.symm ne)];refine Ap.add (I.hok.write mu' (.inl rfl) c {_,a} (Iv a)) (by rw[zj (Ne.symm ne)];exact hn) (IX b (fun g=>?_) (fun g hg=>?_))
 . show CW (List.lookup g [(f,y)]) (if g=f then some u else none)
   by_cases q:g=f
   . subst q;rw[if_pos rfl,List.lookup_cons_self];exact ry
   . rw[if_neg q,EY,show (g==f)=false from by simpa using q];trivial
 . by_cases q:g=f
   . subst q;exact zX
   . exact absurd (by show (if g=f then some u else none)=none;rw[if_neg q]) hg
theorem bC (I:AA X pins σ H s)(EI:CK X.K C fI)(mo:PySem.W.mroIn X.K C (.type "object")=some true) (nm:PySem.W.findIn X.K (.ref C) f=some none)(he:H e=some (xO e C t (some dx)))(hd:H dx=some (dO dx fs))(hl:fs.length<900)(ry:AS y u)
 (h:∀s',AA X pins σ (upd H dx (dO dx (EM f y fs))) s'->Q () s'):wpAny (model X.prog X.w) A (setAttr (.ref e) f u) Q E s:=by
 obtain⟨hp,g,d,tk,os⟩:=s;have hx:hp.get? e=some (CJ C t (some dx)):=(I.hok e _ he).1;obtain⟨mA,gX,r,wi⟩:=(I.hok dx _ hd).1;refine Xr (Pr:=fun h'=>h'.Ns1 dx (fun y=>if y=f then some u else mA y)/\(∀b,b≠dx->h'.get? b=hp.get? b)) I.kIn EI mo hx
  (fun A' E' gc t' Q' k=>dD I.kIn EI nm hx gX wi (by rw[zB];lia) fun h' tk2 a b=>k h' tk2 ⟨a,b⟩) fun h' gc ⟨a,b⟩=>?_
 refine h _ ?_;have mu:IV (H dx):=by rw[hd];exact True.intro
 refine I.write (x:=dx) (e:=dx) (t':=gc) mu (.inl rfl) (fun b_ u' hb q=>(b b_ hb).trans q) (let {o,4,q,_}:=a;⟨o,q⟩) (IX a (fun g=>?_) (fun g hg=>?_))
 . show CW ((EM f y fs).lookup g) (if g=f then some u else mA g)
   rw[YU];by_cases q:g=f
   . rw[if_pos q,if_pos q];exact ry
   . rw[if_neg q,if_neg q];exact r g
 . by_cases q:g=f
   . rw[q];exact (Se f y fs).1
   . refine (Se f y fs).2 g (wi g fun z=>hg ?_);show (if g=f then some u else mA g)=none
     rw[if_neg q];exact z
def Pc (C:Addr)(f:Str)(ta tv:TE):TS:=fun D σ H=>tv σ H fun y H1=>ta σ H1 fun x H2=>∃e t,x=.ref e /\
 ((H2 e=some (xO e C t none)/\∀dx,H2 dx=none->D.nx σ (upd (upd H2 dx (dO dx [(f,y)])) e (xO e C t (some dx)))) \/
  ∃dx fs,H2 e=some (xO e C t (some dx))/\H2 dx=some (dO dx fs)/\fs.length<900/\D.nx σ (upd H2 dx (dO dx (EM f y fs))))
theorem Qm (EI:CK X.K C fI)(mo:PySem.W.mroIn X.K C (.type "object")=some true) (nm:PySem.W.findIn X.K (.ref C) f=some none)(ha:PE X o ta)(hv:PE X value tv)(hs:swapsWith value (some (.Attribute o f pos')) pos.line X.env=pure false:=by rfl):
 PS X (.Assign [.Attribute o f pos'] value pos) (Pc C f ta tv):=by
 intro pins s σ H D I h;refine plainObj_wpAny_Assign_Attribute (AL (hv pins s σ H _ I h) fun u s1 ⟨y,H1,I1,ry,q⟩=>AL (ha pins s1 σ H1 _ I1 q) fun ov s2 ⟨x,H2,I2,rx,e,t,ex,q2⟩=>?_) hs;subst ex;obtain rfl:ov=Value.ref e:=rx;rcases q2 with ⟨he,q⟩ | ⟨dx,fs,he,hd,hl,q⟩
 . exact dg I2 EI mo nm he ry fun dx s3 n I3=>{σ,_,I3,q dx n}
 . exact bC I2 EI mo nm he hd hl ry fun s3 I3=>{σ,_,I3,q}
def Ho (C:Addr)(f1 f2:Str):Sp:=fun vs H Q _=>∃e t v1 v2,vs=[.ref e,v1,v2]/\H e=some (xO e C t none)/\∀dx,H dx=none->dx≠e->Q .non (upd (upd H dx (dO dx [(f1,v1),(f2,v2)])) e (xO e C t (some dx)))
def HJ (B:Heap)(l:List Env)(e:Addr)(C a0:Value)(od:Option Addr)(h:Heap):Prop:=Heap.FlyingW B l e C a0 h/\∃o,h.get? e=some o/\o.dict=od
theorem HJ.step (x:HJ B l e C a0 od h)(f:Heap.FlyingW B l' e C a0 h')(k:DK h h'):HJ B l' e C a0 od h':=by obtain⟨_,o,q,r⟩:=x;obtain⟨o',q',r'⟩:=k e o q;exact{f,o',q',r'.trans r}
def BZ (P:Program)(w:World):JA:=fun outer H s E e s'=>
 ∃ea t C od H' B,e=.ref ea/\s'.os=s.os/\AllBare s'.gens/\Un (A2 outer) [] H H' s.heap s'.heap/\Ap P w H' s'.heap /\
  HJ B outer ea C (.ref t) od s'.heap/\(∀b u,H' b=some u->∃o,B.get? b=some o)/\(∀b o,s.heap.get? b=some o->H b=none->b∉A2 outer->B.get? b=some o)/\(∀b o,s.heap.get? b=some o->b∉A2 outer->∃o',B.get? b=some o')/\E C od H'
section
variable {P:Program}{w:World}{K:AK}{mg:By}{base:Heap}{N:List Str}{qual:Str}{scope:Scope}{f:Addr}{cd:Value}{A:Around}{outer:List Env}{s0 s:Shared}{H0 H:Hp}{E:XK}{pins:B6}{σ:St}
theorem Vw (I:AA (Dh (BZ P w) P w K mg base N qual scope f cd A outer s0 H0 E) pins σ H s)(he:s.heap.get? ea=some oe)(hc:oe.cls=C)(hd:oe.data=.fields vs)(h1:vs[1]?=some .none)(h0:vs[0]?=some (.ref t))(hn:H ea=none)(h00:s0.heap.get? ea=none)(hE:E C oe.dict H):
 (Dh (BZ P w) P w K mg base N qual scope f cd A outer s0 H0 E).xe (.ref ea) s:=by
 subst hc;let fr:List Addr:=(envOfC qual scope s0.heap.objs.size f cd::outer).filterMap (·.frame);have hin:∀env∈(envOfC qual scope s0.heap.objs.size f cd::outer),∀a,env.frame=some a->a∈ea::fr:=fun env he b hb=>zd _ (IB.mpr ⟨env,he,hb⟩);have ff:=PySem.W.funFrames_hide I.stack hin;have off:ea∉fr:=fun z=>by obtain⟨_,o,ho,nd⟩:=I.stack.mem z;rw[he] at ho;cases ho;exact nd vs hd
 refine BE (NR (YK _ _) (wpAny_leaving_firstW (Q:=fun _ s'=>∃h',s'={ s with heap:=h' }/\Heap.LeftW (PySem.W.hideAll s.heap (ea::fr)) (envOfC qual scope s0.heap.objs.size f cd::outer) ea oe.cls (.ref t) s.heap h') (base:=PySem.W.hideAll s.heap (ea::fr)) I.ok.frames ff rfl he (fun b o q=>PySem.W.of_hideAll _ q) (PySem.W.hideAll_none _ zX) hd h1 h0 fun h' L=>{h',0,L})) (fun _ s' hq=>?_) fun _ _ z=>z;obtain⟨⟨h'',rfl,L1,⟨_,_,L2'⟩,L3,up⟩,dk⟩:=hq;have st:(PySem.W.hideAll s.heap (ea::fr)).StaysIn h'':=L1;have stk:∀b,b∈fr->b=s0.heap.objs.size\/b∈A2 outer:=fun b z=>zb.mp (I.stkSub b z);have hid:∀b o,s.heap.get? b=some o->b≠ea->b∉fr->(PySem.W.hideAll s.heap (ea::fr)).get? b=some o:=fun b o q n z=>PySem.W.hideAll_get _ q fun y=>by
  rcases zb.mp y with y | y
  . exact n y
  . exact z y
 have nea:∀b o,s0.heap.get? b=some o->b≠ea:=fun b o q z=>by rw[z,h00] at q;cases q
 have nfr:∀b o,s0.heap.get? b=some o->b∉A2 outer->b∉fr:=fun b o q hb z=>by
  rcases stk b z with y | y
  . exact absurd (zZ q) (by rw[y];exact Nat.not_lt_of_le (zK _))
  . exact hb y
 have old:∀b o,s0.heap.get? b=some o->H0 b=none->b∉A2 outer->(PySem.W.hideAll s.heap (ea::fr)).get? b=some o:=fun b o e n hb=>
  hid b o (I.base.keep b o e n hb (by intro z;cases z)) (nea b o e) (nfr b o e hb)
 have al:∀b o,s0.heap.get? b=some o->b∉A2 outer->∃o',(PySem.W.hideAll s.heap (ea::fr)).get? b=some o':=fun b o e hb=>by obtain⟨o1,e1⟩:=I.base.there b o e (by intro z;cases z);exact{o1,hid b o1 e1 (nea b o e) (nfr b o e hb)}
 have tr:∀b u,H b=some u->∃o,(PySem.W.hideAll s.heap (ea::fr)).get? b=some o:=fun b u e=>by obtain⟨o,ho⟩:=(I.hok b u e).there;refine{o,hid b o ho (fun z=>by rw[z,hn] at e;cases e) fun z=>?_};have:=I.stkFree b z;rw[e] at this;cases this
 obtain⟨o',q',r'⟩:=dk ea oe he;refine{ea,t,oe.cls,oe.dict,H,1,I.os,I.bare,{fun b o e n hb fK=>st b o (old b o e n hb),fun b o e n hb fK=>?_,I.base.free,fun b o e fK=>?_,I.base.tups,I.base.frzs,I.base.tbls},I.hok.stays (fun b o q=>PySem.W.of_hideAll _ q) st tr,{{L1,PySem.W.hideAll_none _ zX,L2',L3},o',q',r'},tr,old,al,hE}
 . obtain⟨sl,e1⟩:=I.base.slot b o e n hb (by intro z;cases z);obtain⟨_,o2,e2,nd⟩:=I.stack.mem (show b∈fr from zd _ hb);have e3:o2={ o with slots:=sl }:=zV (e2.symm.trans e1);obtain⟨jE,e4⟩:=up b _ e1 (fun vs=>by rw[<-e3];exact nd vs);exact⟨jE,e4⟩
 . obtain⟨o1,e1⟩:=I.base.there b o e (by intro z;cases z);by_cases hb:b∈fr
   . obtain⟨_,o2,e2,nd⟩:=I.stack.mem hb;obtain⟨jE,e4⟩:=up b _ e2 nd;exact{_,e4}
   . exact{_,st b _ (hid b o1 e1 (nea b o e) hb)}
end
section
variable {P:Program}{w:World}{K:AK}{mg:By}{base:Heap}{N:List Str}{qual:Str}{scope:Scope}{f:Addr}{cd:Value}{A:Around}{outer:List Env}{s0 s:Shared}{H0 H:Hp}{E:XK}{pins:B6}{σ:St}
theorem ai (I:AA (Dh (BZ P w) P w K mg base N qual scope f cd A outer s0 H0 E) pins σ H s)(h:BZ P w (envOfC qual scope s0.heap.objs.size f cd::outer) H s E1 e s')
 (imp:∀C d H',E1 C d H'->E C d H'):(Dh (BZ P w) P w K mg base N qual scope f cd A outer s0 H0 E).xe e s':=by
 obtain⟨ea,t,C,od,H',B,rfl,os,bare,un,hok,fl,tr,old,al,hE⟩:=h;refine BE (NR (YK _ _) (wpAny_leaves_onW (Q:=fun _ s2=>∃h',s2={ s' with heap:=h' }/\Heap.FlyingW B outer ea C (.ref t) h'/\s'.heap.UpToSlots h') I.ok.frames rfl fl.1 fun h' f2 u=>{h',0,f2,u})) (fun _ s2 hq=>?_) fun _ _ z=>z;obtain⟨⟨h'',rfl,fl2,up⟩,dk⟩:=hq;have st:B.StaysIn h'':=fl2.1;have nl:∀b o,s0.heap.get? b=some o->H0 b=none->b∉A2 outer->B.get? b=some o:=fun b o e n hb=>by
  refine old b o (I.base.keep b o e n hb (by intro z;cases z)) (I.base.free b o e n (by intro z;cases z)) fun z=>?_;rcases zb.mp (I.stkSub b z) with q | q
  . exact absurd (zZ e) (by rw[q];exact Nat.not_lt_of_le (zK _))
  . exact hb q
 have na:∀b o,s0.heap.get? b=some o->b∉A2 outer->∃o',B.get? b=some o':=fun b o e hb=>by
  obtain⟨o1,e1⟩:=I.base.there b o e (by intro z;cases z);refine al b o1 e1 fun z=>?_;rcases zb.mp (I.stkSub b z) with q | q
  . exact absurd (zZ e) (by rw[q];exact Nat.not_lt_of_le (zK _))
  . exact hb q
 refine{ea,t,C,od,H',B,0,os.trans I.os,bare,{fun b o e n hb _=>st b o (nl b o e n hb),fun b o e n hb _=>?_,fun b o e n _=>?_,fun b o e _=>?_,fun b xs e=>un.tups _ _ (I.base.tups _ _ e),fun b o u e=>un.frzs _ _ _ (I.base.frzs _ _ _ e),fun b ps e=>?_},hok.stays fl.1.1 st tr,fl.step fl2 dk,tr,nl,na,imp _ _ _ hE}
 . obtain⟨sl,e1⟩:=I.base.slot b o e n hb (by intro z;cases z);have n1:=I.base.free b o e n (by intro z;cases z);obtain⟨jE,e2⟩:=un.slot b _ e1 n1 (zd _ hb) (by intro z;cases z);obtain⟨_,o3,e3,nd⟩:=fl.1.2.2.1.mem (show b∈(envOfC qual scope s0.heap.objs.size f cd::outer).filterMap (·.frame) from zd _ hb);obtain⟨sl4,e4⟩:=up b _ e3 nd;have e5:=zV (e3.symm.trans e2);rw[e5] at e4;exact⟨sl4,e4⟩
 . exact un.free b _ (I.base.there b o e (by intro z;cases z)).choose_spec (I.base.free b o e n (by intro z;cases z)) (by intro z;cases z)
 . obtain⟨o1,e1⟩:=I.base.there b o e (by intro z;cases z);by_cases hb:b∈(envOfC qual scope s0.heap.objs.size f cd::outer).filterMap (·.frame)
   . obtain⟨_,o3,e3,nd⟩:=fl.1.2.2.1.mem hb;obtain⟨sl4,e4⟩:=up b _ e3 nd;exact{_,e4}
   . obtain⟨o3,e3⟩:=al b o1 e1 hb;exact{_,st b o3 e3}
 . obtain⟨m1,e1⟩:=I.base.tbls _ _ e;obtain⟨m2,e2⟩:=un.tbls _ _ e1;exact{m1++m2,by rw[e2,Array.append_assoc]}
end
theorem Je {K:AK}:Qg (BZ P w) (Dh (BZ P w) P w K mg base N qual scope f cd A outer s0 H0 E) E:=fun _ _ _ _ _ _ I h=>ai I h fun _ _ _ z=>z
theorem BY.okI {K:AK}{st:Stmt}(F:BY K x qual st f fd)(S:zw N ps (defScope st))(len:∀vs H Q E,sp vs H Q E->vs.length=ps.length)
 (gT:∀fg A outer s H vs Q E,BB k (A.deeper (envOfC qual (defScope st) s.heap.objs.size f fg))->sp vs H Q E ->
  ∃t,CY (Dh (BZ P w) P w K mg base N qual (defScope st) f fg A outer s H E) (defBody st) t/\t { nx:=fun _ H'=>Q .non H',rt:=Q } (start N vs) H):AG P w K mg base (BZ P w) (k+1) f fd ps sp:=by
 obtain⟨oc,od,kV,doc,pm,an,fg,ct,osl,rfl,lk,iz⟩:=F.ex;exact IZ lk iz S len fun A outer s H vs Q E hr gW=>gT fg A outer s H vs Q E hr gW
noncomputable def Jh (e:Addr)(H:Hp):Hp:=fun b=>if b=e then none else H b
theorem Es (n:b≠e):Jh e H b=H b:=by unfold Jh;rw[if_neg n]
theorem KL :Jh e H e=none:=by unfold Jh;rw[if_pos rfl]
theorem AA.drop (I:AA X pins σ H s)(he:H e=some (.ext φ)):AA X pins σ (Jh e H) s:=by
 have nt:∀b xs,H b=some (.tup xs)->b≠e:=fun b xs q z=>by rw[z,he] at q;cases q
 have no:∀b y,H b=some (.own y)->b≠e:=fun b y q z=>by rw[z,he] at q;cases q
 refine{I.ok,I.os,I.bare,{I.base.keep,I.base.slot,fun b o q n hx=>?_,I.base.there,fun b xs q=>by rw[Es (nt b xs (I.base.tups b xs q))];exact I.base.tups b xs q,fun b o u q=>?_,fun b ps q=>?_},I.loc,I.cell,?_,fun x c q=>?_,fun p hp=>?_,fun b o q=>?_,I.len}
 . by_cases z:b=e
   . subst z;exact KL
   . rw[Es z];exact I.base.free b o q n hx
 . have r:=I.base.frzs b o u q;rw[Es (fun z=>by rw[z,he] at r;cases r)];exact r
 . obtain⟨m,r⟩:=I.base.tbls b ps q;exact{m,by rw[Es (fun z=>by rw[z,he] at r;cases r)];exact r}
 . by_cases z:X.env.locals=e
   . rw[z];exact KL
   . rw[Es z];exact I.free
 . by_cases z:c=e
   . subst z;exact KL
   . rw[Es z];exact I.freeC x c q
 . obtain⟨a,b,r⟩:=I.pin p hp;refine{a,?_,r};by_cases z:p.1=e
   . rw[z];exact KL
   . rw[Es z];exact b
 . have z:b≠e:=fun z=>by rw[z,KL] at q;cases q
   rw[Es z] at q;exact (I.hok b o q).stay (fun _ _ _ r=>r) (fun c r=>by rw[Es (no c _ r)];exact r) fun c xs r=>by rw[Es (nt c xs r)];exact r
theorem cy {M:Model}{A:Around}{E:B8}{env:Env}{K:AK}{C tt:Addr}{od:Option Addr}{y:Sem Value}{Q:Flow->Shared->Prop}(q:Fy K C=true)(hh:A.handled=none)
 (h:wpAny M A y (fun v s1=>∃e,v=.ref e/\K.In s1.heap/\(∃tt od,s1.heap.get? e=some (CJ C tt od))/\E (.ref e) s1) E s):wpAny M A (raiseStmt env (some y) none) Q E s:=by
 unfold raiseStmt;refine zA (BE h (fun v s1 hv=>?_) fun _ _ z=>z);obtain⟨e,rfl,X1,⟨tt,od,he⟩,hE⟩:=hv;obtain⟨bm,N,nm,qn,bs,sn,sub,ab,col,dd,k0,k1,k2,k3,k5,mN,hC,hN,T⟩:=KG X1 q;have hcB:(Value.ref C::bm).contains (.type "BaseException")=true:=by rw[List.contains_cons,T.hasType (X := "BaseException") (b:=true) (by rfl),Bool.or_true]
 obtain⟨hp,g,d,tk,os⟩:=s1;have iU:hp.get? e=some { cls:=.ref C,dict:=od,data:=.fields #[.ref tt,.none,.none,.none,.bool false,.none] }:=he
 repeat (first | with_reducible refine DY iU ?_ | with_reducible refine DY hC ?_ | (with_reducible refine wpAny_isSubtype_exc hC ?_;rw[hcB]) | wp_step)
 exact wpAny_raiseNew_none hh hE
theorem AA.madeX (I:AA X pins σ H s)(r:AO vs us)(hz:vs.length<=sizeLine):
 AA X pins σ (upd (upd H s.heap.objs.size (.tup vs)) (s.heap.objs.size+1) (xO (s.heap.objs.size+1) C s.heap.objs.size none)) { s with heap:=G1 s.heap C us }:=by
 have e1:(s.heap.push (HB us)).get? s.heap.objs.size=some (HB us):=Heap.get?_push_at rfl rfl;have I1:=I.laid (a:=s.heap.objs.size) (o:=.tup vs) (h':=s.heap.push (HB us)) (t':=s.toks) (fun b u q=>zL _ q) (zK _) {{hz,_,e1,0},us,r,{_,e1,7}};exact I1.laid (a:=s.heap.objs.size+1) (t':=s.toks) (h':=G1 s.heap C us) (fun b u q=>zL _ q) (Nat.le_of_eq (Cp _ _)) (Iv (WR s.heap C us))
def Zz (C:Addr)(f1 f2:Str)(t:TA)(E:XK):TS:=fun _ σ H=>t σ H fun vs H1=>∃v1 v2,vs=[v1,v2]/\∀tt dx,H1 tt=none->H1 dx=none->tt≠dx->E (.ref C) (some dx) (upd (upd H1 tt (.tup [v1,v2])) dx (dO dx [(f1,v1),(f2,v2)]))
theorem YG (hg:Gl X x)(hm:X.mg x=some (.ref C))(EI:CK X.K C fI)(hc:X.calm=true)(F:AG X.prog X.w X.K X.mg X.base AJ k fI fd ps (Ho C f1 f2))(hr:BB (k+1) X.A)(hb:BR X.K fd ps [])(ha:PA X [e1,e2] t)
 (hxe:∀pins σ H s ea tt dx,AA X pins σ H s->s.heap.get? ea=some (CJ C tt (some dx))->H ea=none->X.s₀.heap.get? ea=none->E (.ref C) (some dx) H->X.xe (.ref ea) s)
 (hd:(x==("__debug__" : Str))=false:=by decide) (hs:starEach [e1,e2] X.env=(false,eval e1 X.env)::starEach [e2] X.env:=by rfl)(gN:(backTo eX (starEach [e2] X.env)).any (·.1)=false:=by rfl):
 PS X (.Raise (some (.Call (.Name x np) [e1,e2] [] eX)) none pos) (Zz C f1 f2 t E):=by
 intro pins s σ H D I h;rw[arm_exec_Raise];refine zA (wpAny_standAt ?_);show wpAny _ _ (raiseStmt X.env (some (do let v <-eval (.Call (.Name x np) [e1,e2] [] eX) X.env;standAt pos;pure v)) none) _ _ _
 refine cy (tt:=0) (od:=none) EI.cl (I.ok.hd hc) (zA (BE (Q:=fun v s1=>∃e,v=.ref e/\X.K.In s1.heap/\(∃tt od,s1.heap.get? e=some (CJ C tt od))/\X.xe (.ref e) s1) (E:=X.xe) ?main (fun v s3 h3=>zA (wpAny_standAt (zE h3))) fun _ _ z=>z))
 case main=>
  refine IE (Ni I hg hm ?_ hd);refine PySem.W.callWith_K (h₀:=X.base) I.ok.mod.kin EI.kp (BE (ha eX pins s σ H _ I h) (fun us s1 ⟨vs,H1,I1,r,q⟩=>{I1.kIn,?_}) fun _ _ z=>z) hs gN;obtain⟨v1,v2,rfl,q⟩:=q;have hz:us.length<=sizeLine:=by rw[<-r.length];show 2<=sizeLine;decide
  have I2:=AA.madeX (C:=C) I1 r (show 2<=sizeLine by decide);have r2:AO (V.ref (s1.heap.objs.size+1)::[v1,v2]) (Value.ref (s1.heap.objs.size+1)::us):=.cons rfl r;have n1:H1 s1.heap.objs.size=none:=I1.hok.fresh (zK _);have n2:H1 (s1.heap.objs.size+1)=none:=I1.hok.fresh (Ci _);have s00:X.s₀.heap.get? (s1.heap.objs.size+1)=none:=Heap.get?_none_of_le (BX I1.sz (Ci _));refine Y6 (h:=s1.heap) I1.kIn EI hz ?_;have ne:s1.heap.objs.size≠s1.heap.objs.size+1:=zi (Nat.lt_succ_self _);have gW:Ho C f1 f2 (V.ref (s1.heap.objs.size+1)::[v1,v2]) (upd (upd H1 s1.heap.objs.size (.tup [v1,v2])) (s1.heap.objs.size+1) (xO (s1.heap.objs.size+1) C s1.heap.objs.size none))
   (fun v H2=>v=.non/\∃dx,H2 (s1.heap.objs.size+1)=some (xO (s1.heap.objs.size+1) C s1.heap.objs.size (some dx))/\E (.ref C) (some dx) (Jh (s1.heap.objs.size+1) H2)) (fun _ _ _=>False):=by
   refine{4,v1,v2,0,zI,fun dx gw nd=>{0,dx,zI,?_}};rw[zj nd] at gw;have nt:s1.heap.objs.size≠dx:=fun z=>by rw[<-z,zI] at gw;cases gw
   have hdx1:H1 dx=none:=by rw[zj (Ne.symm nt)] at gw;exact gw
   have eq:Jh (s1.heap.objs.size+1) (upd (upd (upd (upd H1 s1.heap.objs.size (.tup [v1,v2])) (s1.heap.objs.size+1) (xO (s1.heap.objs.size+1) C s1.heap.objs.size none)) dx (dO dx [(f1,v1),(f2,v2)])) (s1.heap.objs.size+1) (xO (s1.heap.objs.size+1) C s1.heap.objs.size (some dx)))
   =upd (upd H1 s1.heap.objs.size (.tup [v1,v2])) dx (dO dx [(f1,v1),(f2,v2)]):=by
    funext b;by_cases hb:b=s1.heap.objs.size+1
    . subst hb;rw[KL,zj (Ne.symm nd),zj (Ne.symm ne)];exact n2.symm
    . rw[Es hb,zj hb];by_cases hb2:b=dx
      . subst hb2;rw[zI,zI]
      . rw[zj hb2,zj hb,zj hb2]
   rw[eq];exact q _ dx n1 hdx1 nt
  have hl:(Value.ref (s1.heap.objs.size+1)::us).length=ps.length:=by rw[<-r2.length];exact F.len _ _ _ _ gW
  refine C9 (codeAny_mono (F.run _ X.stack _ _ {Value.ref (s1.heap.objs.size+1)::us,[]} (Value.ref (s1.heap.objs.size+1)::us) _ _ (fun _ _ _=>False) (hr.make C us []) (I2.env0.make C us [])
   (by have:=hb _ (Value.ref (s1.heap.objs.size+1)::us) I2.kIn (by rw[zv];exact hl);rw[zv] at this;exact this) r2 gW) fun r s' gj=>?_)
  cases r with
  | error e=>exact False.elim gj
  | ok fl=>
   cases fl with
   | ret u=>obtain⟨v,H',I3,rv,ev,dx,hx,hE⟩:=I2.after gj;subst ev;refine{rv,1,I3.kIn,{4,(I3.hok _ _ hx).1},?_};exact hxe pins σ _ s' _ _ dx (I3.drop hx) (I3.hok _ _ hx).1 KL s00 hE
   | next=>exact False.elim gj
   | brk=>exact False.elim gj
   | cont=>exact False.elim gj
section
variable {prog:Program}{w:World}{A:Around}{E:B8}{h:Heap}{g:Array GenState}{d:Drawn}{t:Nat}{os:OsState}{K:AK}{C x dx:Addr}{o:Obj}{name:Str}{v:Value}{mA:By}
theorem dH (X:K.In h)(q:Fy K C=true)(hx:h.get? x=some o)(hc:o.cls=.ref C)(hd:o.data=.fields vs)(jN:o.dict=some dx)(gX:h.Ns1 dx mA)(nm:PySem.W.findIn K (.ref C) name=some none)(hv:mA name=some v)(hq:Q (.done (.ret v)) ⟨h,g,d,t,os⟩):
 wpAny (model prog w) A (Builtin.«object.__getattribute__» {[.ref x,.str name tk],[]}) Q E ⟨h,g,d,t,os⟩:=by
 obtain⟨bm,N,nmm,qn,bs,sn,sub,ab,col,dd,k0,k1,k2,k3,k5,mN,hC,hN,T⟩:=KG X q;have L:=PySem.W.looks_findIn (M:=model prog w) X nm;unfold Builtin.«object.__getattribute__»
 repeat (first | (with_reducible refine DY hx ?_;rw[hc]) | with_reducible refine DY hC ?_ | with_reducible refine L.at ?_ | wp_step)
 rw[hd];have ns:h.Ns dx mA:=gX.ns;show wpAny _ _ (instanceDict x false) _ _ _;unfold instanceDict
 repeat (first | (with_reducible refine DY hx ?_;rw[hc]) | with_reducible refine DY hC ?_ | wp_step)
 rw[jN];refine zE ?_;unfold Builtin.ObjectAttr.inDict;refine wpAny_nsGet ns ?_;rw[hv]
 repeat (any_goals (first | assumption | wp_step))
theorem cV (X:K.In h)(q:Fy K C=true)(F':DC K C)(hx:h.get? x=some o)(hc:o.cls=.ref C)(hd:o.data=.fields vs)(jN:o.dict=some dx)(gX:h.Ns1 dx mA)(nm:PySem.W.findIn K (.ref C) name=some none)(hv:mA name=some v)(hq:R (.ok (.ret v)) ⟨h,g,d,t,os⟩):
 codeAny (model prog w) A (.call (.builtin "BaseException.__getattribute__") {[.ref x,.str name tk],[]}) R ⟨h,g,d,t,os⟩:=
 codeAny_call_builtin PySem.F.attrBase_ValueError.ga.plain PySem.F.entry_bexc_ga (VW X ⟨o,hx,hc⟩ F' (dH X q hx hc hd jN gX nm hv hq))
theorem MP {fill:Bool}(X:K.In h)(q:Fy K C=true)(F':DC K C)(hx:h.get? x=some o)(hc:o.cls=.ref C)(hd:o.data=.fields vs)(jN:o.dict=some dx)(gX:h.Ns1 dx mA)(nm:PySem.W.findIn K (.ref C) name=some none)(hv:mA name=some v)(hh:PySem.W.handedIn v=true)(hq:Q v ⟨h,g,d,t,os⟩):
 wpAny (model prog w) A (getAttrBy (.ref x) (.str name tk) fill b) Q E ⟨h,g,d,t,os⟩:=by
 have L0:=(show Dp h x C from ⟨o,hx,hc⟩).type (M:=model prog w);have L1:=PySem.W.looks_findIn (M:=model prog w) X F'.ga;have L2:=PySem.W.looks_findIn (M:=model prog w) X F'.gn;have f3:=PySem.F.attrBase_ValueError.ga.bind (.ref x);have hx2:(Value.builtin "BaseException.__getattribute__" == Value.builtin "object.__getattribute__")=false:=by decide +kernel
 have hx0:(b && onTheHeap (Value.builtin "BaseException.__getattribute__"))=false:=by cases b <;> rfl
 have hx1:(onTheHeap (Value.ref C) && Value.builtin "BaseException.__getattribute__" == Value.builtin "object.__getattribute__")=false:=by rw[hx2];rfl
 repeat (any_goals (first | assumption | with_reducible refine L0.at ?_ | with_reducible refine L1.at ?_ | with_reducible refine L2.at ?_ | wp_step))
 refine cV X q F' hx hc hd jN gX nm hv ?_;show wpAny _ _ (handedOut v) _ _ _;exact PySem.W.handed_on hh hq
theorem O1 (X:K.In h)(q:Fy K C=true)(F':DC K C)(hx:h.get? x=some o)(hc:o.cls=.ref C)(hd:o.data=.fields vs)(jN:o.dict=some dx)(gX:h.Ns1 dx mA)(nm:PySem.W.findIn K (.ref C) name=some none)(hv:mA name=some v)(hh:PySem.W.handedIn v=true)(hq:∀tk,Q v ⟨h,g,d,tk,os⟩):
 wpAny (model prog w) A (getAttr (.ref x) name b) Q E ⟨h,g,d,t,os⟩:=by
 unfold getAttr
 repeat (any_goals (first | assumption | exact hq _ | with_reducible refine MP X q F' hx hc hd jN gX nm hv hh ?_ | wp_step))
end
structure JL (X:Cx)(ea C dx:Addr):Prop where
 pin:∃oe vs,(ea,oe)∈X.pn/\oe.cls=.ref C/\oe.dict=some dx/\oe.data=.fields vs
def Oe (X:Cx)(ta:TE)(f:Str):TE:=fun σ H Q=>ta σ H fun x H1=>∃ea C dx fs v,x=.ref ea/\JL X ea C dx/\Fy X.K C=true/\DC X.K C/\PySem.W.findIn X.K (.ref C) f=some none/\H1 dx=some (dO dx fs)/\fs.lookup f=some v/\Q v H1
theorem Qc (he:PE X e ta)(hb:attributeBase e f X.env (eval e X.env)=eval e X.env:=by rfl):PE X (.Attribute e f pos) (Oe X ta f):=by intro pins s σ H Q I h;refine ae hb (AL (he pins s σ H _ I h) fun u s1 ⟨x,H1,I1,rx,ea,C,dx,fs,v,ex,⟨⟨oe,vs,hp,hc,jN,hd⟩⟩,q,F',nm,gw,hl,hq⟩=>?_);subst ex;obtain rfl:u=Value.ref ea:=rx;obtain⟨e1,_⟩:=I1.pin (ea,oe) (DP _ hp);obtain⟨mA,gX,r,wi⟩:=(I1.hok dx _ gw).1;obtain⟨u,hu,ru⟩:=CW.some_of (v:=v) (o:=mA f) (by rw[<-hl];exact r f);obtain⟨ij,g,d,tk,os⟩:=s1;exact O1 I1.kIn q F' e1 hc hd jN gX nm hu (Zb ru) fun gc=>{v,H1,I1.tok gc,ru,hq}
def F6 (e:Addr)(od:Option Addr)(h:Heap):Prop:=∃o,h.get? e=some o/\o.dict=od
theorem F6.step (x:F6 e od h)(k:DK h h'):F6 e od h':=by obtain⟨o,q,r⟩:=x;obtain⟨o',q',r'⟩:=k e o q;exact{o',q',r'.trans r}
theorem aR (jt:A.frames=some (env::outer))(hf:env.frame=some L)(hfl:Heap.FlyingW base (env::outer) e cls a0 s.heap)(hd:F6 e od s.heap)
 (hQ:∀h',Heap.HeldW base (env::outer) e cls a0 L h'->s.heap.UpToSlots h'->F6 e od h'->Q () { s with heap:=h' }):wpAny M A (noteFrame (.ref e) env) Q E s:=by
 refine BE (NR (Xv _ _) (wpAny_looks_onW (Q:=fun _ s2=>∃h',s2={ s with heap:=h' }/\Heap.HeldW base (env::outer) e cls a0 L h'/\s.heap.UpToSlots h') jt hf hfl fun h' a b=>{h',0,a,b})) (fun _ s2 hq=>?_) fun _ _ z=>z;obtain⟨⟨h',rfl,a,b⟩,k⟩:=hq;exact hQ h' a b (hd.step k)
theorem LR (hh:Heap.HeldW base l e cls a0 L s.heap)(hd:F6 e od s.heap)
 (hQ:∀h',Heap.FlyingW base l e cls a0 h'->s.heap.UpToSlots h'->F6 e od h'->Q () { s with heap:=h' }):wpAny M A (setFlight (.ref e) none) Q E s:=by
 refine BE (NR (UN _ _) (wpAny_landsW (Q:=fun _ s2=>∃h',s2={ s with heap:=h' }/\Heap.FlyingW base l e cls a0 h'/\s.heap.UpToSlots h') hh fun h' a b=>{h',0,a,b})) (fun _ s2 hq=>?_) fun _ _ z=>z;obtain⟨⟨h',rfl,a,b⟩,k⟩:=hq;exact hQ h' a b (hd.step k)
theorem Kr (hh:Heap.FlyingW base l e cls a0 s.heap)(hd:F6 e od s.heap)
 (hQ:∀h',Heap.FlyingW base l e cls a0 h'->s.heap.UpToSlots h'->F6 e od h'->Q () { s with heap:=h' }):wpAny M A (setFlight (.ref e) none) Q E s:=by
 refine BE (NR (UN _ _) (lands_againW (Q:=fun _ s2=>∃h',s2={ s with heap:=h' }/\Heap.FlyingW base l e cls a0 h'/\s.heap.UpToSlots h') hh fun h' a b=>{h',0,a,b})) (fun _ s2 hq=>?_) fun _ _ z=>z;obtain⟨⟨h',rfl,a,b⟩,k⟩:=hq;exact hQ h' a b (hd.step k)
noncomputable def KJ (K:AK)(C:Addr):Bool:=Fy K C || PySem.W.excIn K C MY "ValueError.__new__"
theorem b7 {K:AK}(X:K.In h)(q:KJ K C=true):
 ∃bm N nm qn bs iV sn sub ab col dd k0 k1 k2 k3 k5,h.get? C=some (excClassObj nm qn C N bs bm iV sn sub ab col dd k0 k1 k2 k3 k5 "ValueError.__new__"):=by
 unfold KJ at q;rcases Bool.or_eq_true _ _ ▸ q with q | q
 . obtain⟨bm,N,nm,qn,bs,sn,sub,ab,col,dd,k0,k1,k2,k3,k5,mN,hC,_⟩:=KG X q;exact{_,9,9,9,9,9,hC}
 . obtain⟨bm,N,nm,qn,bs,iV,sn,sub,ab,col,dd,k0,k1,k2,k3,k5,mN,hC,_⟩:=Wa X q;exact{_,9,9,9,9,9,hC}
def d7 (K:AK)(W:Addr)(ts:Addr->Obj->Addr->TS)(i:Nat)(D:Gp)(σ:St):XK:=fun C od H'=>∃Ca,C=.ref Ca/\KJ K Ca=true/\subIn K Ca W=true/\∀ea oe vs,oe.cls=.ref Ca->oe.dict=od->oe.data=.fields vs->H' ea=none->ts ea oe Ca (Io i D) (σ.set i (some (.ref ea))) H'
def Pl (K:AK)(W:Addr)(tb:XK->TS)(ts:Addr->Obj->Addr->TS)(i:Nat):TS:=fun D σ H=>tb (d7 K W ts i D σ) D σ H
def Yp (X:Cx)(body:List Stmt)(tb:XK->TS):Prop:=∀pins s σ H D E1,AA X pins σ H s->tb E1 D σ H ->
 wpAny (model X.prog X.w) X.A (execs body X.env) (SP X pins D) (fun e s'=>∃H1 s1,AA X pins σ H1 s1/\BZ X.prog X.w X.stack H1 s1 E1 e s') s
theorem Yh (hN:X.N.Nodup)(hi:X.N[i]?=some n)(hk:X.env.kindOf n=some .local)
 (hst:X.stack=X.env::X.outer)(hfl:X.env.frame=some X.env.locals)(hg:Gl X x)(hm:X.mg x=some (.ref W))(qW:PySem.W.excIn X.K W MY "ValueError.__new__"=true)
 (hb:Yp X body tb)(hs:∀ea oe C,oe.cls=.ref C->CY (X.held ea oe) (b0::suite) (ts ea oe C))(hd:(x==("__debug__" : Str))=false:=by decide):
 PS X (.Try body [.ExceptHandler (some (.Name x np)) (some n) (b0::suite) hpos] [] [] pos) (Pl X.K W tb ts i):=by
 intro pins s σ H D I h;refine wpAny_Try_except (BE (hb pins s σ H D _ I h) (fun fl s' hq=>?_) fun e s' hq=>?_)
 . cases fl with
   | next=>exact wpAny_execs_nil hq
   | brk=>exact hq
   | cont=>exact hq
   | ret u=>exact hq
 . obtain⟨H1,s1,I1,ea,t,C,od,H',B,rfl,os,bare,un,hok,⟨fl,fd⟩,tr,old,al,Ca,rfl,qC,sub,hts⟩:=hq;have jt:X.A.frames=some (X.env::X.outer):=by rw[<-hst];exact I.ok.frames
   have fl':=fl;rw[hst] at fl';have hHe:H' ea=none:=by
    cases z:H' ea with
    | none=>rfl
    | some u=>obtain⟨o,ho⟩:=tr ea u z;rw[fl.2.1] at ho;cases ho
   refine aR jt hfl fl' fd fun h4 held up4 d4=>?_;refine LR held d4 fun h5 fl5 up5 d5=>?_;have key:∀(h6:Heap),Heap.FlyingW B (X.env::X.outer) ea (.ref Ca) (.ref t) h6->s'.heap.UpToSlots h6->F6 ea od h6->∃oe vs,h6.get? ea=some oe/\oe.cls=.ref Ca/\oe.dict=od/\oe.data=.fields vs/\AA (X.held ea oe) pins σ H' { s' with heap:=h6 }:=fun h6 fl6 up6 d6=>by
    obtain⟨oe,ws,hoe,hc,hdt,_⟩:=fl6.first;have hdi:oe.dict=od:=by obtain⟨o2,q2,r2⟩:=d6;rw[hoe] at q2;cases q2;exact r2
    have un6:Un (A2 X.stack) [] H1 H' s1.heap h6:=cN un fl old al fl6.1 up6;have I6:AA X pins σ H' { s' with heap:=h6 }:=I1.call' (s':={ s' with heap:=h6 }) os un6 (hok.stays fl.1 fl6.1 tr) bare (fun b z=>absurd z (by simp));have nfr:ea∉A2 X.stack:=fun z=>by rw[hst] at z;obtain⟨_,o,ho,nd⟩:=fl6.2.2.1.mem z;rw[hoe] at ho;cases ho;exact nd ws hdt
    have hfs:A2 X.stack=X.env.locals::X.fs:=by rw[hst];unfold A2;rw[Mp,hfl];rfl
    rw[hfs] at nfr;exact{oe,ws,hoe,hc,hdi,hdt,I6.hold hoe hHe (fun z=>nfr (z ▸ zX)) (fun z=>nfr (zd _ z)) (fun v z=>by rw[hdt] at z;cases z)}
   obtain⟨oe5,ws5,hoe5,hc5,_,_,I5⟩:=key h5 fl5 (up4.trans up5) d5;refine wpAny_handleBy_cons (codeAny_handlers_test (Ni (X:=X.held ea oe5) I5 hg hm ?_ hd)) (by intro q;cases q);obtain⟨bm,Nn,nm,qn,bs,iV,sn,sb,ab,col,dd,k0,k1,k2,k3,k5,hC⟩:=b7 I5.kIn qC;obtain⟨bm',Nn',nm',qn',bs',hdct',sn',sb',ab',col',dd',k0',k1',k2',k3',k5',mN',hW,_,_,TW⟩:=Wa I5.kIn qW;refine Zv hC hW hoe5 hc5 (TW.hasType (by rfl)) (Kh I5.kIn sub hC) ?_;refine codeAny_handlers_suite_as (Kr fl5 d5 fun h6 fl6 up6 d6=>?_);obtain⟨oe6,ws6,hoe6,hc6,hd6,hf6,I6⟩:=key h6 fl6 ((up4.trans up5).trans up6) d6;refine Jd (X:=X.held ea oe6) I6 hN hi (.inl hk) (v:=.ref ea) rfl (fun s7 I7=>?_) (.inr hk);refine BE (hs ea oe6 Ca hc6 pins s7 _ H' (Io i D) I7 (hts ea oe6 ws6 hc6 hd6 hf6 hHe)) (fun f s8 hq=>?_) fun _ _ z=>z.elim;have fin:∀{σ':St}{H2:Hp}{Q:Unit->Shared->Prop},AA (X.held ea oe6) pins σ' H2 s8->(∀s9,AA X pins (σ'.set i none) H2 s9->Q () s9)->wpAny (model X.prog X.w) X.A (do bindName X.env n .none;unbindBehindTheSuite X.env n hpos) Q X.xe s8:=fun {σ' H2 Q} J hQ=>by
    have J1:=AA.letgo I.ok J;have hiσ:i<σ'.length:=by rw[J1.len];exact (zG.mp hi).1
    refine zA (wpAny_bindName (Jd J1 hN hi (.inl hk) (v:=.non) rfl (fun s9 J2=>?_) (.inr hk)));unfold unbindBehindTheSuite;refine wpAny_onRaise (Zf J2 hN hi hk (v:=.non) (List.getElem?_set_self hiσ) fun iE J3=>?_);rw[List.set_set] at J3;exact hQ iE J3
   cases f with
   | next=>obtain⟨σ',H2,J,q⟩:=hq;exact fin J fun s9 J9=>{_,H2,J9,q}
   | brk=>obtain⟨σ',H2,J,q⟩:=hq;exact fin J fun s9 J9=>{_,H2,J9,q}
   | cont=>obtain⟨σ',H2,J,q⟩:=hq;exact fin J fun s9 J9=>{_,H2,J9,q}
   | ret u=>obtain⟨v,σ',H2,J,r,q⟩:=hq;exact fin J fun s9 J9=>{v,_,H2,J9,r,q}
theorem Zk (F:AG X.prog X.w X.K X.mg X.base (BZ X.prog X.w) k f fd ps sp)(hr:BB k X.A)(hg:Gl X x)(hm:X.mg x=some (.ref f))(hk:PySem.W.keepIn X.K (.ref f)=true)(hb:BR X.K fd ps [])
 (ha:PA X.nox (e::es) t)(I:AA X pins σ H s)(h:t σ H fun vs H1=>sp vs H1 Q E1)(jO:(x==("__debug__" : Str))=false:=by decide) (he:starEach (e::es) X.env=(false,eval e X.env)::starEach es X.env:=by rfl)(gN:(backTo pos (starEach es X.env)).any (·.1)=false:=by rfl):
 wpAny (model X.prog X.w) X.A (eval (.Call (.Name x p) (e::es) [] pos) X.env) (EP X pins σ Q) (fun e s'=>∃H1 s1,AA X pins σ H1 s1/\BZ X.prog X.w X.stack H1 s1 E1 e s') s:=by
 refine IE (Ni I hg hm ?_ jO);refine PySem.W.callWith_K (h₀:=X.base) I.ok.mod.kin hk (BE (ha pos pins s σ H _ (I.wish _) h) (fun us s1 ⟨vs,H1,I1,r,q⟩=>{I1.unwish.kIn,?_}) fun _ _ z=>False.elim z) he gN;have I2:=I1.unwish;have hl:us.length=ps.length:=by rw[<-r.length];exact F.len _ _ _ _ q
 refine C9 (codeAny_mono (F.run X.A X.stack s1 H1 {us,[]} us vs Q E1 hr I2.env0 (by have:=hb s1 us I2.kIn (by rw[zv];exact hl);rw[zv] at this;exact this) r q) fun r s' hq=>?_);cases r with
 | error e=>exact⟨H1,s1,I2,hq⟩
 | ok fl=>
  cases fl with
  | ret u=>exact I2.after hq
  | next=>exact False.elim hq
  | brk=>exact False.elim hq
  | cont=>exact False.elim hq
section
variable {X:Cx}{k:Nat}{f:Addr}{fd:FuncData}{ps:List Str}{sp:Addr->Addr->Sp}{x:Str}{p pos:Pos}{e:Expr}{es:List Expr}{t:TA}{ea:Addr}{oe:Obj}
theorem RK (h:oe.cls=.ref C)(h1:oe.dict=some dx)(h2:oe.data=.fields vs):JL (X.held ea oe) ea C dx:={⟨oe,vs,zX,h,h1,h2⟩}
end
theorem Wm (hN:X.N.Nodup)(hi:X.N[i]?=some y)(hx:GK X.env.scope y)(F:AG X.prog X.w X.K X.mg X.base (BZ X.prog X.w) k f fd ps sp)(hr:BB k X.A)(hg:Gl X x)(hm:X.mg x=some (.ref f))(hk:PySem.W.keepIn X.K (.ref f)=true)(hb:BR X.K fd ps [])
 (ha:PA X.nox (e::es) t)(hs:swapsWith (.Call (.Name x p) (e::es) [] pos) (some (.Name y pos')) epos.line X.env=pure false:=by rfl)(hf:X.fn y=true\/X.env.scope.names.lookup y=some .local:=by first | exact .inl rfl | exact .inr rfl | assumption)(jO:(x==("__debug__" : Str))=false:=by decide) (he:starEach (e::es) X.env=(false,eval e X.env)::starEach es X.env:=by rfl)(gN:(backTo pos (starEach es X.env)).any (·.1)=false:=by rfl):
 Yp X [.Assign [.Name y pos'] (.Call (.Name x p) (e::es) [] pos) epos] (fun E1 D σ H=>t σ H fun vs H1=>sp vs H1 (fun v H2=>D.nx (σ.set i (some v)) H2) E1):=by
 intro pins s σ H D E1 I h;refine wpAny_execs_cons (wpAny_Assign_Name (BE (Zk F hr hg hm hk hb ha I h jO he gN) (fun v s1 ⟨z,H1,I1,r1,q1⟩=>?_) fun _ _ z=>z) hs);exact Jd I1 hN hi hx r1 (fun s2 I2=>wpAny_execs_nil {_,H1,I2,q1}) hf
end L2
namespace L2
open PySem PyProof.Rows
inductive Iy (K:AK)(xs:List V)(H:Hp)(Q:VK):Prop
 | mk:∀(p:Addr)(ns:List Int),(xs=[.ref p])->(AD K H p (ns.map V.int))->(ns≠[])->(∀M,M∈ns->(∀a∈ns,M<=a)->Q (.int M) H)->Iy K xs H Q
theorem aA (hc:X.calm=true):CH X (.builtin "min") (Iy X.K):=by
 intro pins s σ H xs us Q I r h;obtain⟨p,ns,rfl,hq,ft,q⟩:=h;obtain⟨u,rfl,rx⟩:=DF r;cases rx;obtain⟨its,rv,pl,hz⟩:=I.list hq;have hi:=DH rv;have iT:=hi.length;have hlp:p<s.heap.objs.size:=by obtain⟨o,_,ho,_⟩:=pl;exact zZ ho
 have hpos:0<ns.length:=List.length_pos_iff.mpr ft;refine call_min_walk (wpAny_pyIter_list pl.isList {s.heap.objs.size,[s.heap.objs.size,p],[s.heap.objs.size],its.toArray.size,4,fun i j=>decide (ns.getD i 0<ns.getD j 0),0,Walks.list (A:=X.A.in1) (I.ok.hd hc) s.heap.objs.size p (zi hlp) its.toArray,{?_,?_},?_,by simpa [iT] using hpos,?_,fun v h' tk hv kp=>?_})
 . exact{_,zU _ rfl,3}
 . obtain⟨o,ho,hr⟩:=pl.isList;exact{o,zL _ ho,hr}
 . intro b hb;rw[Cp];rcases zb.mp hb with rfl | hb
   . exact Nat.lt_succ_self _
   . rw[zl.mp hb];exact Ec hlp
 . intro i j vi vj s' Q' E' hvi hvj q';have hvi':its[i]?=some vi:=by simpa using hvi
   have hvj':its[j]?=some vj:=by simpa using hvj
   obtain⟨t1,rfl⟩:=hi.int_at i vi hvi';obtain⟨t2,rfl⟩:=hi.int_at j vj hvj';exact PyProof.Rows.lt_int q'
 . obtain⟨b1,b2⟩:=argBest_lt (fun i=>ns.getD i 0) (its.toArray.size-1);have jH:its[argBest (fun i j=>decide (ns.getD i 0<ns.getD j 0)) (its.toArray.size-1)]?=some v:=by simpa using hv
   generalize eb:argBest (fun i j=>decide (ns.getD i 0<ns.getD j 0)) (its.toArray.size-1)=bi at jH b1 b2;obtain⟨t,rfl⟩:=hi.int_at bi v jH;have eU:bi<ns.length:=by have:=(zG.mp jH).1;lia
   have hK:Kp s h':=fun b o e=>kp b o (fun z=>absurd (zl.mp z) (zi (zZ e))) (zL _ e);refine{.int (ns.getD bi 0),H,I.kept hK,{t,0},q _ ?_ fun m hm=>?_}
   . rw[zJ,zD eU];exact El eU
   . obtain⟨j,hj,ej⟩:=zr hm;have:=b2 j (by rw[zP];lia);have g1:ns.getD j 0=m:=by rw[zJ,zD hj,ej];rfl
     rw[g1] at this;exact this
end L2
namespace L2
open PySem PySem.Spec PyProof.Rows
def N7 (K:AK):R2:=fun x y H Q=>∃a b xs,x=.ref a/\y=.ref b/\AB K H a xs/\AB K H b []/\Q (.bl xs.isEmpty) H
theorem Va (hu:X.A.units<cLine):A1 X (compareOp .Eq) (N7 X.K):=by
 intro pins s σ H x y v u Q I rx ry h;obtain⟨a,b,xs,rfl,rfl,ha,hb,q⟩:=h;cases rx;cases ry;obtain⟨its,r,pl,hz⟩:=I.tuple ha;obtain⟨fZ,r2,iq,hz2⟩:=I.tuple hb;have l1:=r.length;have e2:fZ=[]:=by cases r2;rfl
 subst e2;refine SeqAt.eq_tupleAt (e:=fun _=>true) pl iq hu (fun j _ h2=>absurd h2 (by simp)) {.bl _,H,I,0,?_};have e:((List.range (min its.toArray.size ([]:List Value).toArray.size)).all (fun _=>true) && its.toArray.size==([]:List Value).toArray.size)=xs.isEmpty:=by
  cases xs with
  | nil=>cases r;rfl
  | cons x xs=>cases r;simp
 rw[e];exact q
def FQ (K:AK)(H:Hp)(a:Addr)(M:DT):Prop:=∃rs:List Addr,AD K H a (rs.map V.ref)/\rs.length=M.length/\∀(i:Nat)r row,rs[i]?=some r->M[i]?=some row->H r=some (.lst (row.map oV))
end L2
namespace L2
open PySem PySem.Spec PySem.Calls PyProof.Rows
end L2
namespace L2
open PySem PySem.Spec PyProof.Rows
structure AF (K:AK)(mg:By)(x:Str)(st:Stmt)(f:Addr)(fd:FuncData)(ps:List Str):Prop where
 F:BY K x x st f fd
 b:BR K fd ps []
 m:mg x=some (.ref f)
theorem AI {st:Stmt}(G:AG X.prog X.w X.K X.mg X.base AJ k f fd ps sp)(hr:BB k X.A)(B:AF X.K X.mg x st f fd ps)(ha:PA X (e::es) t)(hg:Gl X x:=by rfl)(jO:(x==("__debug__" : Str))=false:=by decide)(he:starEach (e::es) X.env=(false,eval e X.env)::starEach es X.env:=by rfl)(gN:(backTo pos (starEach es X.env)).any (·.1)=false:=by rfl):PE X (.Call (.Name x p) (e::es) [] pos) (JN sp [] E0 t):=CP G hr hg B.m B.F.kp B.b .nil Eu ha jO he gN
theorem BY.okD {K:AK}{st:Stmt}(F:BY K x qual st f fd)(S:zw N ps (defScope st))
 (gT:∀fg A outer s H vs Q E,BB k (A.deeper (PyProof.Rows.envOfC qual (defScope st) s.heap.objs.size f fg))->sp vs H Q E ->
  ∃t,CY (Dh AJ P w K mg base N qual (defScope st) f fg A outer s H E).nox (defBody st) t/\t { nx:=fun _ H'=>Q .non H',rt:=Q } (start N vs) H)(len:∀vs H Q E,sp vs H Q E->vs.length=ps.length:=by intro _ _ _ _ h;first|(cases h;subst_vars;rfl)|repeat (first|(obtain⟨rfl,_⟩:=h;rfl)|obtain⟨_,h⟩:=h)):AG P w K mg base AJ (k+1) f fd ps sp:=F.ok S len gT
abbrev AH (P:Program)(w:World)(base:Heap){K:AK}{mg:By}{x:Str}{st:Stmt}{f:Addr}{fd:FuncData}{ps:List Str}(k:Nat)(_:AF K mg x st f fd ps)(sp:Sp):Prop:=AG P w K mg base AJ k f fd ps sp
abbrev Fu (K:AK)(x:Str)(st:Stmt)(f:Addr)(fd:FuncData):Prop:=BY K x x st f fd
theorem AW {i:Nat}(hN:X.N.Nodup)(hi:X.N[i]?=some x:=by rfl)(hx:GK X.env.scope x:=by exact Or.inl rfl)(hf:X.fn x=true\/X.env.scope.names.lookup x=some .local:=by first | exact .inl rfl | exact .inr rfl | assumption):PG X (.Name x pos) (Jb i):=B9 hN hi hx hf
theorem Au (hi:PI X tg iter wi)(hg:PG X tg g)(hb:CY X body tb)(hp:PassesOwn (model X.prog X.w) X.A X.env X.xe:=by exact PassesOwn.never)(hc:X.calm=true:=by rfl)(hs:∀x,foldedSetIterable iter X.env x=pure x:=by intro _;rfl):PS X (.For tg iter body [] pos) (PL wi g tb):=MK hp hc hi hg hb hs
theorem Ab (hN:X.N.Nodup)(he:PE X e te)(hi:X.N[i]?=some x:=by rfl)(hx:GK X.env.scope x:=by exact Or.inl rfl)(hs:swapsWith e (some (.Name x pos')) pos.line X.env=pure false:=by rfl)(hf:X.fn x=true\/X.env.scope.names.lookup x=some .local:=by first | exact .inl rfl | exact .inr rfl | assumption):PS X (.Assign [.Name x pos'] e pos) (E9 te (Jb i)):=Dc hN hi hx he hs hf
theorem zt (hr:KY X r)(ha:PE X a ta)(hb:PE X b tb)(hs:YJ b:=by exact fun _ _=>rfl):PE X (.Subscript a b pos) (PB r ta tb):=O6 hr ha hb hs
theorem Aw (hN:X.N.Nodup:=by exact EK rfl)(hi:X.N[0]?=some x:=by rfl)(hx:GK X.env.scope x:=by exact Or.inl rfl)(hf:X.fn x=true\/X.env.scope.names.lookup x=some .local:=by first | exact .inl rfl | exact .inr rfl | assumption):PG X (.Name x pos) (Jb 0):=B9 hN hi hx hf
end L2
namespace K42
open PySem L2 WM
inductive EU {α0 α1:Type}(p:α0->α1->Prop):Prop
 | mk:∀a0 a1,p a0 a1->EU p
inductive GB {α0 α1 α2:Type}(p:α0->α1->α2->Prop):Prop
 | mk:∀a0 a1 a2,p a0 a1 a2->GB p
inductive NG {α0 α1 α2 α3:Type}(p:α0->α1->α2->α3->Prop):Prop
 | mk:∀a0 a1 a2 a3,p a0 a1 a2 a3->NG p
inductive O4 {α0 α1 α2 α3 α4:Type}(p:α0->α1->α2->α3->α4->Prop):Prop
 | mk:∀a0 a1 a2 a3 a4,p a0 a1 a2 a3 a4->O4 p
inductive Rt {α0 α1 α2 α3 α4 α5:Type}(p:α0->α1->α2->α3->α4->α5->Prop):Prop
 | mk:∀a0 a1 a2 a3 a4 a5,p a0 a1 a2 a3 a4 a5->Rt p
inductive Yr {α0 α1 α2 α3 α4 α5 α6 α7:Type}(p:α0->α1->α2->α3->α4->α5->α6->α7->Prop):Prop
 | mk:∀a0 a1 a2 a3 a4 a5 a6 a7,p a0 a1 a2 a3 a4 a5 a6 a7->Yr p
inductive Yv {α0 α1 α2 α3 α4 α5 α6 α7 α8:Type}(p:α0->α1->α2->α3->α4->α5->α6->α7->α8->Prop):Prop
 | mk:∀a0 a1 a2 a3 a4 a5 a6 a7 a8,p a0 a1 a2 a3 a4 a5 a6 a7 a8->Yv p
noncomputable abbrev UA:Stmt:=top 60
noncomputable abbrev IA:Stmt:=top 61
noncomputable abbrev Du:Stmt:=top 62
noncomputable abbrev J4:Stmt:=top 15
noncomputable abbrev N5:Stmt:=top 16
noncomputable abbrev D6:Stmt:=top 17
noncomputable abbrev Dx:Stmt:=top 18
noncomputable abbrev OM:Stmt:=top 19
noncomputable abbrev QE:Stmt:=top 36
noncomputable abbrev Qr:Stmt:=top 37
noncomputable abbrev Qo:Stmt:=top 38
noncomputable abbrev Nc:Stmt:=top 43
noncomputable abbrev N3:Stmt:=top 45
noncomputable abbrev NX:Stmt:=top 46
noncomputable abbrev Hb:Stmt:=top 39
noncomputable abbrev HD:Stmt:=top 41
noncomputable abbrev Nh:Stmt:=top 40
noncomputable abbrev HX:Stmt:=top 42
noncomputable abbrev QW:Stmt:=top 48
noncomputable abbrev Nv:Stmt:=top 49
noncomputable abbrev Ri:Stmt:=top 51
noncomputable abbrev Ro:Stmt:=top 52
noncomputable abbrev RU:Stmt:=top 53
noncomputable abbrev OJ:Stmt:=top 54
noncomputable abbrev Rz:Stmt:=top 56
noncomputable abbrev Rm:Stmt:=top 57
noncomputable abbrev RW:Stmt:=top 58
noncomputable abbrev E7:Stmt:=top 63
noncomputable abbrev HZ:Stmt:=top 64
noncomputable abbrev Hh:Stmt:=top 65
noncomputable abbrev RZ:Stmt:=top 66
noncomputable abbrev E3:Stmt:=top 67
noncomputable abbrev HM:Stmt:=top 68
noncomputable abbrev RS:Stmt:=top 69
noncomputable abbrev Qx:Stmt:=top 70
noncomputable abbrev QN:Stmt:=top 71
noncomputable abbrev QK:Stmt:=top 72
noncomputable abbrev Q7:Stmt:=top 73
noncomputable abbrev Qs:Stmt:=top 74
noncomputable abbrev RJ:Stmt:=top 75
noncomputable abbrev G7:Stmt:=top 76
noncomputable abbrev RH:Stmt:=top 77
noncomputable abbrev HF:Stmt:=top 78
noncomputable abbrev HI:Stmt:=top 79
noncomputable abbrev HQ:Stmt:=top 80
noncomputable abbrev RV:Stmt:=top 22
noncomputable abbrev Rp:Stmt:=top 23
noncomputable abbrev Rk:Stmt:=top 24
noncomputable abbrev Rg:Stmt:=top 25
noncomputable abbrev Rc:Stmt:=top 26
noncomputable abbrev N9:Stmt:=top 27
noncomputable abbrev QM:Stmt:=top 28
noncomputable abbrev NN:Stmt:=top 29
noncomputable abbrev Rb:Stmt:=top 31
noncomputable abbrev Rq:Stmt:=top 32
noncomputable abbrev E5:Stmt:=top 33
noncomputable abbrev R1:Stmt:=top 81
noncomputable abbrev Ru:Stmt:=top 82
noncomputable abbrev OG:Stmt:=top 83
noncomputable abbrev RX:Stmt:=top 84
noncomputable abbrev HA:Stmt:=top 85
noncomputable abbrev G5:Stmt:=top 86
noncomputable abbrev HR:Stmt:=top 87
noncomputable abbrev HS:Stmt:=top 88
noncomputable abbrev Qu:Stmt:=top 89
noncomputable abbrev Rl:Stmt:=mth 2 0
noncomputable abbrev Ha:Stmt:=mth 4 0
noncomputable abbrev Dy:Stmt:=top 93
def CG (H:Hp)(t p:Addr)(N:Nat):Prop:=∃(ns:List Int)(fV rest:Int),H t=some (.lst [.ref p,.int fV,.int rest])/\H p=some (.lst (ns.map V.int))/\p≠t/\0<=fV/\fV<=N/\0<=rest/\ns.length<=63
def Ae (H:Hp)(t:Addr)(N:Nat):Prop:=∃p:Addr,CG H t p N
theorem Ae.mono (h:Ae H t N)(l:N<=M):Ae H t M:=by obtain⟨p,ns,fV,rest,a,b,c,d,e,f⟩:=h;exact{p,ns,fV,rest,a,b,c,d,by lia,f}
def Sm (t:Addr)(H H':Hp):Prop:=∀b o,b≠t->H b=some o->H' b=some o
theorem Sm.trans (a:Sm t H H1)(b:Sm t H1 H2):Sm t H H2:=fun c o n e=>b c o n (a c o n e)
theorem Sm.of (h:AE H H'):Sm t H H':=fun b o _ e=>h b o e
theorem Sm.laid (h:H l=none):Sm t H (upd H l o):=fun b u _ e=>by rw[zj (zq e h)];exact e
theorem Sm.chg (s:Sm t H H')(h:H l=none):Sm t H (upd H' l o):=fun b u n e=>by rw[zj (zq e h)];exact s b u n e
theorem zF (h:H l=none):AE H (upd H l o):=fun b u e=>by rw[zj (zq e h)];exact e
theorem Av (s:AE H H')(h:H l=none):AE H (upd H' l o):=fun b u e=>by rw[zj (zq e h)];exact s b u e
theorem Ae.keep (h:Ae H t N)(k:AE H H'):Ae H' t N:=by obtain⟨p,ns,fV,rest,a,b,c⟩:=h;exact{p,ns,fV,rest,k _ _ a,k _ _ b,c}
theorem Ae.laid (h:Ae H t N)(hl:H l=none):Ae (upd H l o) t N:=h.keep (zF hl)
theorem Ae.ne (h:Ae H t N)(hb:H b=none):b≠t:=by obtain⟨p,ns,fV,rest,a,_⟩:=h;exact (zq a hb).symm
theorem Ae.chg (h:Ae H t N)(hl:H l=some u)(hu:∀xs,u ≠ .lst xs):Ae (upd H l o) t N:=by obtain⟨p,ns,fV,rest,a,b,c⟩:=h;exact{p,ns,fV,rest,by rw[zj (Bu a hl fun z=>hu _ z.symm)];exact a,by rw[zj (Bu b hl fun z=>hu _ z.symm)];exact b,c}
theorem CG.keepF (h:CG H t p N)(k1:∀o,H t=some o->H' t=some o)(k2:∀o,H p=some o->H' p=some o)(l:N<=M):CG H' t p M:=by obtain⟨ns,fV,rest,a,b,c,d,e,f⟩:=h;exact{ns,fV,rest,k1 _ a,k2 _ b,c,d,by lia,f}
def Sg:Sp:=fun vs H Q _=>∃t p N many,vs=[.ref t,.int many]/\CG H t p N/\N<1000000/\0<many/\many<1000000 /\
 ∀r H',0<=r->r<many->CG H' t p (N+1)->(∀b,b≠t->H' b=H b)->Q (.int r) H'
def N1:Sp:=fun vs H Q _=>∃t N many,vs=[.ref t,.int many]/\Ae H t N/\N<1000000/\0<many/\many<1000000 /\
 ∀r H',0<=r->r<many->Ae H' t (N+1)->(∀b,b≠t->H' b=H b)->Q (.int r) H'
def Wo (K:AK):Sp:=fun vs H Q _=>∃a,∃(ns:List Int),vs=[.ref a]/\AD K H a (ns.map V.int)/\ns.length<=63/\∀t H',H t=none->Ae H' t 0->AE H H'->Q (.ref t) H'
theorem LJ:zw Ik Ik (defScope UA):=AV
theorem ZM {fd:FuncData}(F:Fu K "_law_tape" UA f fd):AG P w K mg base AJ 1 f fd Ik (Wo K):=by
 refine F.okD LJ fun _ A _ _ H vs Q E hr h=>?_;obtain⟨a,ns,rfl,hS,hl,k⟩:=h;refine{_,zY (AM (BO (zC (Gj RD (pv 0) Gm (Gv zf)) (CU (CU zM))))),?_};refine{5,a,1,hS,fun p hp=>{GV,fun t ht=>?_}};have npt:p≠t:=fun e=>by rw[e,zI] at ht;cases ht
 have e1:B3 (ns.map V.int) none (some 63)=(ns.take 63).map V.int:=by unfold B3;rw[HT.sIx_none,List.drop_zero,Nat.sub_zero,zB,show (63:Int)=((63:Nat):Int) from rfl,HT.sIx_nat,List.map_take];rw[show min 63 ns.length=ns.length by lia,zW (by rw[zB];exact zK _),zW (by rw[zB];exact hl)]
 have ht0:H t=none:=by rw[zj npt.symm] at ht;exact ht
 refine k t _ ht0 ⟨p,ns.take 63,0,0,zI,?_,npt,Df _,Df _,Df _,by rw[zp];lia⟩ ?_
 . rw[zj npt,zI,e1]
 . exact Av (zF hp) ht0
theorem NQ:zw ["_law_tape_here","_law_many","_law_found_here","_law_spot","_law_cell","_law_mixed"] HP (defScope IA):=AV
theorem JZ {m:Int}(h:0<m):0<=a%m/\a%m<m:={Int.emod_nonneg _ (by lia),Int.emod_lt_of_pos _ h}
theorem TN {fd:FuncData}(F:Fu K "_law_draw" IA f fd) (eS:mg "len"=none):AG P w K mg base AJ 1 f fd HP Sg:=by
 refine F.okD NQ fun _ A _ _ H vs Q E hr h=>?_;obtain⟨t,p,N,many,rfl,T,hN,jo,hm1,k⟩:=h;obtain⟨ns,fV,rest,ht,hp,ft,hs0,hs1,hr0,hl⟩:=T;refine{_,zR (Ad (AR Hl (zt AY (pv 0) zf) zf (AN _))
  (zR (Ab (i:=2) NQ.nd (Aa Hm (zt AY (pv 0) zf) (pv 1)))
  (zR (Gn (Aa QT (zt AY (pv 0) zf) (pv 1)) (Md (pv 0) zf My))
  (zY (AM (pv 2))))) Ac)
  (zR (Ab (i:=3) NQ.nd (zt AY (pv 0) zf))
  (zR (Gn (Aa CA (pv 3) zf) (Md (pv 0) zf My))
  (zR (Ab (i:=4) NQ.nd (Hy (AR Hl (zy Bz eS (zC (zt AY (pv 0) zf) zM)) zf (AN _))
   (zt AY (zt AY (pv 0) zf) (Aa Hm (pv 3) (zy Bz eS (zC (zt AY (pv 0) zf) zM)))) zf))
  (zR (Ad (EL (AR Qb (pv 4) (Aa V9 zf zf) (AN _)) (F8 (AR Mr (pv 3) (zy Bz eS (zC (zt AY (pv 0) zf) zM)) (AN _)))).pt
   (zR (Gn (Aa QT (pv 4) (pv 1)) (Md (pv 0) zf My)) (zY (AM (Aa Hm (pv 4) (pv 1))))) Ac)
  (zR (Ab (i:=5) NQ.nd (Aa Hm (Aa NZ (Aa CA (Aa Hm (pv 4) zf) zf) (Aa CA zf (Aa NZ zf (pv 3)))) zf))
  (zY (AM (Aa Hm (Aa QT (Aa Hm (Aa NZ (Aa CA (pv 5) (Aa NZ (Aa NZ zf (pv 3)) (pv 3))) zf) zf) zf) (pv 1))))))))),?_}
 have cd:PF 0 many:={jo,by lia};refine{1,t,8,AD.of ht,0,2,1,?_};refine Bj (fun hc=>?_) (fun hc=>?_)
 . have hpos:0<rest:=of_decide_eq_true hc;refine{1,t,8,AD.of ht,7,2,jo,?_};refine{1,t,8,AD.of ht,7,2,cd,?_};refine⟨_,rfl,t,_,_,2,rfl,rfl,ht,rfl,?_⟩;refine{1,?_};refine k _ _ (JZ jo).1 (JZ jo).2 {ns,fV,rest/many,zI,by rw[zj ft];exact hp,ft,hs0,by lia,Int.ediv_nonneg hr0 (by lia),hl} fun b hb=>zj hb
 . -- fV=tape[1];tape[1]=fV+1
   refine{1,t,8,AD.of ht,0,?_};refine⟨_,rfl,_,_,rfl,rfl,_,rfl,t,_,_,1,rfl,rfl,ht,rfl,?_⟩;have ht1:(upd H t (.lst [.ref p,.int (fV+1),.int rest])) t=some (.lst [.ref p,.int (fV+1),.int rest]):=zI;have hp1:(upd H t (.lst [.ref p,.int (fV+1),.int rest])) p=some (.lst (ns.map V.int)):=by rw[zj ft];exact hp
   have ex:0<((ns.map V.int).length:Int)->∃c,BI (ns.map V.int) (fV%((ns.map V.int).length:Int))=some (.int c):=fun h=>by
    have hb:=JZ (a:=fV) h;obtain⟨j,hj⟩:=M9 hb.1;have eU:j<ns.length:=by
     have h2:=hb.2;rw[hj,zB] at h2
     lia
    refine{ns[j],?_};rw[hj];exact CV (by simp[eU])
   refine{1,t,8,AD.of ht1,0,p,1,.inl (AD.of hp1),2,1,?_};refine Bj (fun h2=>?a) (fun h2=>?b)
   case' a=>
    obtain⟨c,hc⟩:=ex (of_decide_eq_true h2);refine{1,t,8,AD.of ht1,0,5,t,8,AD.of ht1,0,p,1,.inl (AD.of hp1),2,of_decide_eq_true h2,p,8,AD.of hp1,hc,?_}
   all_goals
    refine{1,2,{by decide,by decide,by decide},2,1,?_};refine Bj (fun h3=>?_) (fun h3=>?_)
   all_goals first
    | (refine{5,t,8,AD.of ht1,0,p,1,.inl (AD.of hp1),2,1,?_};refine Bj (fun h4=>?_) (fun h4=>?_))
    | refine AZ ?_
   all_goals first
    | (refine⟨_,rfl,_,rfl,_,_,rfl,rfl,{jo,by lia},_,rfl,t,_,_,2,rfl,rfl,ht1,rfl,?_⟩
       refine{5,2,jo,?_};refine k _ _ (JZ jo).1 (JZ jo).2 {ns,fV+1,_,zI,by rw[zj ft];exact hp1,ft,by lia,by lia,Int.ediv_nonneg (Int.le_trans (show (0:Int)<=10 ^ (18:Int).toNat by decide) (of_decide_eq_true h3)) (by lia),hl} fun b hb=>by rw[zj hb,zj hb])
    | (refine{1,2,(by first | decide | (dsimp only;decide)),2,1,2,.inl {by decide,by decide},2,2,.inl {by lia,by lia},2,(by first | decide | (dsimp only;decide)),?_}
       refine{5,2,.inl {by decide,by decide},1,2,.inr {by lia,by lia},2,2,.inr {by decide,by decide},2,(by first | decide | (dsimp only;decide)),2,{by decide,by decide},1,2,jo,?_};refine k _ _ (JZ jo).1 (JZ jo).2 {ns,fV+1,rest,ht1,hp1,ft,by lia,by lia,hr0,hl} fun b hb=>zj hb)
theorem Xq {fd:FuncData}(F:Fu K "_law_draw" IA f fd) (eS:mg "len"=none):AG P w K mg base AJ 1 f fd HP N1:=
 (TN F eS).imp fun vs H Q E ⟨t,N,many,e,⟨p,T⟩,a,b,c,k⟩=>{t,p,N,many,e,T,a,b,c,fun r H' h0 h1 T' he=>k r H' h0 h1 ⟨p,T'⟩ he}
theorem Zl {L:List Int}{r:Int}(h0:0<=r)(h1:r<L.length):∃n,n∈L/\BI (L.map V.int) r=some (.int n):=by
 obtain⟨j,rfl⟩:=M9 h0;have hj:j<L.length:=by lia
 exact{L[j],El hj,CV (by simp[hj])}
def BF (H:Hp)(wa:Addr)(n:Int)(ts:List T3):Prop:=∃ta tys,H wa=some (.tup [.int n,.ref ta])/\H ta=some (.tup tys)/\Ao H tys (ts.map tl)/\GW n ts
theorem BF.keepT (h:BF H wa n ts)(k:∀b ys,H b=some (.tup ys)->H' b=some (.tup ys)):BF H' wa n ts:=by obtain⟨ta,tys,a,b,c,d⟩:=h;exact{ta,tys,k _ _ a,k _ _ b,c.keep k,d}
theorem BF.keep (h:BF H wa n ts)(k:AE H H'):BF H' wa n ts:=h.keepT fun b _ e=>k b _ e
theorem BF.sm (h:BF H wa n ts)(T:Ae H t N)(k:Sm t H H'):BF H' wa n ts:=h.keepT fun b _ e=>by obtain⟨p,ns,fV,rest,a,_⟩:=T;exact k b _ (Bu e a (by intro z;cases z)) e
def RP:Sp:=fun vs H Q _=>∃t N n,vs=[.ref t,.int n]/\Ae H t N/\N<900000/\1<=n/\n<=24 /\
 ∀wa ts H',H wa=none->BF H' wa n ts->Ae H' t (N+200)->Sm t H H'->Q (.ref wa) H'
def JD (n:Int)(eO:List (List AQ×V)):Prop:=(∀kv∈eO,∃a b l:Int,kv=([Sum.inl a,Sum.inl b],V.int l)/\0<=a/\a<b/\b<n/\1<=l/\l<=99)/\(eO.map (·.1)).Nodup
theorem JD.nil (n):JD n []:={fun _ h=>by simp at h,List.nodup_nil}
theorem JD.put (h:JD n eO)(h0:0<=a)(h1:a<b)(h2:b<n)(h3:1<=l)(h4:l<=99):JD n (BH eO [Sum.inl a,Sum.inl b] (.int l)):=by
 cases e:Ah eO [Sum.inl a,Sum.inl b] with
 | none=>
  refine{fun kv jA=>?_,Z4 _ h.2 e};rw[SS _ e] at jA;rcases zg.mp jA with q | q
  . exact h.1 kv q
  . rw[zl.mp q];exact{a,b,l,0,h0,h1,h2,h3,h4}
 | some v=>
  have ha:(eO.any fun kv=>decide (kv.1=[Sum.inl a,Sum.inl b]))=true:=by rw[IF,e];rfl
  unfold BH;rw[if_pos ha];refine{fun kv jA=>?_,?_}
  . obtain⟨q,hq,e2⟩:=DS.mp jA;by_cases hk:q.1=[Sum.inl a,Sum.inl b]
    . rw[if_pos hk,hk] at e2;rw[<-e2];exact{a,b,l,0,h0,h1,h2,h3,h4}
    . rw[if_neg hk] at e2;rw[<-e2];exact h.1 q hq
  . have e3:(eO.map fun kv=>if kv.1=[Sum.inl a,Sum.inl b] then (kv.1,V.int l) else kv).map (·.1)=eO.map (·.1):=by
     rw[List.map_map];refine List.map_congr_left fun kv _=>?_;show (if kv.1=[Sum.inl a,Sum.inl b] then (kv.1,V.int l) else kv).1=kv.1
     split <;> rfl
    rw[e3];exact h.2
noncomputable def d9:AQ->Int
 | .inl i=>i
 | .inr _=>0
noncomputable def Fh (eO:List (List AQ×V)):List (List Int):=eO.map fun kv=>kv.1.map d9
theorem JD.keys (h:JD n eO):eO.map (·.1)=(Fh eO).map (List.map Sum.inl):=by unfold Fh;rw[List.map_map];refine List.map_congr_left fun kv jA=>?_;obtain⟨a,b,l,e,_⟩:=h.1 kv jA;rw[e];rfl
theorem JD.ne (h:JD n eO):∀k∈Fh eO,k≠[]:=fun k hk=>by obtain⟨kv,jA,e⟩:=DS.mp hk;obtain⟨a,b,l,e2,_⟩:=h.1 kv jA;rw[<-e,e2];simp[List.map]
theorem JD.nd (h:JD n eO):(Fh eO).Nodup:=by have e:=h.2;rw[h.keys] at e;rw[List.Nodup,Fq] at e;exact e.imp fun h e'=>h (by rw[e'])
theorem JD.val (h:JD n eO)(hk:k∈Fh eO):∃a b l,k=[a,b]/\Ah eO [Sum.inl a,Sum.inl b]=some (.int l)/\0<=a/\a<b/\b<n/\1<=l/\l<=99:=by
 obtain⟨kv,jA,e⟩:=DS.mp hk;obtain⟨a,b,l,e2,h0,h1,h2,h3,h4⟩:=h.1 kv jA;have ek:k=[a,b]:=by rw[<-e,e2];rfl
 have hm:(eO.any fun kv=>decide (kv.1=[Sum.inl a,Sum.inl b]))=true:=List.any_eq_true.mpr {kv,jA,zO (by rw[e2])};rw[IF] at hm;cases hv:Ah eO [Sum.inl a,Sum.inl b] with
 | none=>rw[hv] at hm;cases hm
 | some v=>
  have hv0:=hv;unfold Ah at hv;cases hf:eO.find? fun kv=>decide (kv.1=[Sum.inl a,Sum.inl b]) with
  | none=>rw[hf] at hv;cases hv
  | some q=>
   rw[hf] at hv;obtain⟨a',b',l',e3,_,_,_,g3,g4⟩:=h.1 q (List.mem_of_find?_eq_some hf);have ev:v=.int l':=by rw[e3] at hv;exact (zV hv).symm
   exact{a,b,l',ek,by rw[hv0,ev],h0,h1,h2,g3,g4}
structure WI (H:Hp)(t d la:Addr)(n:Int)(N m:Nat)(H2:Hp):Prop where
 sm:Sm t H H2
 tp:Ae H2 t N
 dc:∃eO,H2 d=some (.dT eO)/\JD n eO/\eO.length<=m
 lg:∃l0 l1 l2:Int,H2 la=some (.lst [.int l0,.int l1,.int l2])/\(∀l∈[l0,l1,l2],1<=l/\l<=99)
theorem WI.draw (h:WI H t d la n N m H2)(hd:d≠t)(hl:la≠t)(T:Ae H3 t (N+1))(he:∀b,b≠t->H3 b=H2 b):WI H t d la n (N+1) m H3:=by
 refine{fun b o nb e=>by rw[he b nb];exact h.sm b o nb e,T,?_,?_}
 . rw[he d hd];exact h.dc
 . rw[he la hl];exact h.lg
theorem WI.laid (h:WI H t d la n N m H2)(hl:H2 l=none):WI H t d la n N m (upd H2 l o):=by obtain⟨eO,a,b⟩:=h.dc;obtain⟨l0,l1,l2,c,e⟩:=h.lg;exact{h.sm.trans (Sm.laid hl),h.tp.laid hl,{eO,by rw[zj (zq a hl)];exact a,b},{l0,l1,l2,by rw[zj (zq c hl)];exact c,e}}
theorem WI.put (h:WI H t d la n N m H2)(hd0:H d=none)(hd:H2 d=some (.dT eO))(h0:0<=a)(h1:a<b)(h2:b<n)(h3:1<=l)(h4:l<=99):
 WI H t d la n N (m+1) (upd H2 d (.dT (BH eO [Sum.inl a,Sum.inl b] (.int l)))):=by
 obtain⟨kvs',e,j,hm⟩:=h.dc;rw[hd] at e;cases e;obtain⟨l0,l1,l2,c,e⟩:=h.lg;refine{h.sm.chg hd0,h.tp.chg hd (by intro xs z;cases z),{_,zI,j.put h0 h1 h2 h3 h4,?_},{l0,l1,l2,by rw[zj (Bu c hd (by intro z;cases z))];exact c,e}};have:=Jl eO [Sum.inl a,Sum.inl b] (V.int l)
 lia
theorem WI.up (h:WI H t d la n N m H2)(hN:N<=N')(hm:m<=m'):WI H t d la n N' m' H2:=by obtain⟨eO,a,b,c⟩:=h.dc;exact{h.sm,h.tp.mono hN,{eO,a,b,by lia},h.lg}
theorem Yu (h:∀l∈[l0,l1,l2],1<=l/\l<=99)(h0:0<=r)(h1:r<3):∃l,BI [V.int l0,V.int l1,V.int l2] r=some (.int l)/\1<=l/\l<=99:=by obtain⟨l,hl,ha⟩:=Zl (L:=[l0,l1,l2]) h0 h1;exact{l,ha,h l hl}
theorem Aq (h:n<=100000):n<sizeLine:=Cv h (by decide)
theorem da (h:JD n eO)(hp:ms.Perm (Fh eO))(hl:eO.length<64)(hn:1<=n)(hn2:n<=24)(e:ts.map (fun t=>[t.1,t.2.1])=ms)(hr:∀t∈ts,0<=t.1/\t.1<t.2.1/\t.2.1<n/\1<=t.2.2/\t.2.2<=99):GW n ts:=by
 have hlen:ts.length=eO.length:=by have:=hp.length_eq;rw[<-e] at this;simpa [Fh] using this
 refine{hn,hn2,by lia,hr,?_};have nd:(ts.map fun t:T3=>[t.1,t.2.1]).Nodup:=by rw[e];exact hp.nodup_iff.mpr h.nd
 rw[List.Nodup,Fq] at nd;exact nd.imp fun ft hc=>ft (by rw[hc.1,hc.2])
theorem Jz:zw ["_law_tape_here","_law_n","_law_longs","_law_joined_here","_law_b","_law_k","_law_a"] GQ (defScope Du):=AV
theorem Km {fd:FuncData}(F:Fu K "_law_web" Du f fd) (FD:AF K mg "_law_draw" IA fD fdD HP) (eS:mg "len"=none)
 (eN:mg "range"=none) (eP:mg "tuple"=none) (eR:mg "sorted"=none):AG P w K mg base AJ 2 f fd GQ RP:=by
 have GD:AH P w base 1 FD N1:=Xq FD.F eS;refine F.okD Jz fun _ A _ _ H vs Q E hr h=>?_;obtain⟨t,N,n,rfl,T,hN,iw,hn2,k⟩:=h;have hu:=Ey hr;obtain⟨es,q0,q1,q2,j3,q3,q4,p1,p2,p3,hbd,hU⟩:∃es q0 q1 q2 j3 q3 q4 p1 p2 p3,defBody Du=.Assign [.Name "_law_longs" q0] (.Subscript (.List es p1) (.Call (.Name "_law_draw" q1) [.Name "_law_tape_here" q2,.Constant (.int 4) j3 q3] [] q4) p2) p3::(defBody Du).drop 1 /\
  Nt es [[1,1,1],[1,2,1],[1,2,3],[5,99,7]]:={4,9,9,6,.cons (.cons (.cons (.cons .nil))) GV (.cons (.cons (.cons (.cons .nil))) GV (.cons (.cons (.cons (.cons .nil))) GV (.cons (.cons (.cons (.cons .nil))) GV (.nil))))}
 rw[hbd];refine{_,zR (Ab (i:=2) Jz.nd (zt AY (BO (bL hU))
  (AI GD hr FD (zC (pv 0) (CU zM)))))
  (zR (Dc (i:=3) Jz.nd rfl (Or.inr rfl) Xu)
  (zR (Ad (AR Hl (AI GD hr FD (zC (pv 0) (CU zM))) zf (AN _))
   (zY (Au (Sh rfl eN (CU (zC (pv 1) zM))) (AW (i:=4) Jz.nd)
    (zY (Nu hu (pv 3) (Af (zC (AI GD hr FD (zC (pv 0) (zC (pv 4) zM))) (zC (pv 4) zM)))
     (zt AY (pv 2) (AI GD hr FD (zC (pv 0) (CU zM)))) rfl)))) Ac)
  (zR (Au (Be rfl eN (zC (AI GD hr FD (zC (pv 0) (zC (Aa CA (Aa CA zf (pv 1)) (Aa QT (pv 1) zf)) zM))) zM)) (AW (i:=5) Jz.nd)
   (zR (Ab (i:=6) Jz.nd (AI GD hr FD (zC (pv 0) (zC (pv 1) zM))))
   (zR (Ab (i:=4) Jz.nd (AI GD hr FD (zC (pv 0) (zC (pv 1) zM))))
   (zY (Ad (AR Mr (pv 6) (pv 4) (AN _)) (zY (Nu hu (pv 3) (Af (zC (pv 6) (zC (pv 4) zM)))
    (zt AY (pv 2) (AI GD hr FD (zC (pv 0) (CU zM)))) rfl)) Ac)))))
  (zY (AM (Af (zC (pv 1) (zC (Cq F7 eP (zC
   (BQ (own:=["_law_pair"]) (cn:=["_law_joined_here"]) (ci:=[3]) rfl (Az rfl rfl) {0,3,trivial} rfl
    (Ep (zy (Z8 rfl) eR (zC (pv 3) zM))) (fun _ _ _ _=>Aw) (fun _ _ _ _=>Bc)
    (fun _ _ _ _=>Af (zC (zt CQ (pv 0) zf) (zC (zt CQ (pv 0) zf) (zC (Ja hu (pv 1) (pv 0) (fun _ _=>rfl)) zM))))) zM)) zM)))))))),?_}
 intro a1 e1 a2 e2 a3 e3 a4 e4;refine{VN,fun al el=>?_};have T5:=((((T.laid (o:=.lst [.int 1,.int 1,.int 1]) e1).laid (o:=.lst [.int 1,.int 2,.int 1]) e2).laid (o:=.lst [.int 1,.int 2,.int 3]) e3).laid (o:=.lst [.int 5,.int 99,.int 7]) e4).laid (o:=.lst [.ref a1,.ref a2,.ref a3,.ref a4]) el;refine⟨_,rfl,t,N,4,rfl,T5,by lia,by decide,by decide,fun r H1 h0 h1 T1 he1=>?_⟩;have nel:al≠t:=((((T.laid (o:=.lst [.int 1,.int 1,.int 1]) e1).laid (o:=.lst [.int 1,.int 2,.int 1]) e2).laid (o:=.lst [.int 1,.int 2,.int 3]) e3).laid (o:=.lst [.int 5,.int 99,.int 7]) e4).ne el;obtain⟨la,l0,l1,l2,hat,iS,hb,nla⟩:∃(la:Addr)(l0 l1 l2:Int),BI [V.ref a1,V.ref a2,V.ref a3,V.ref a4] r=some (.ref la)/\H1 la=some (.lst [.int l0,.int l1,.int l2])/\(∀l∈[l0,l1,l2],1<=l/\l<=99)/\la≠t:=by
  have n1:a1≠t:=T.ne e1;have n2:a2≠t:=(T.laid (o:=.lst [.int 1,.int 1,.int 1]) e1).ne e2;have n3:a3≠t:=((T.laid (o:=.lst [.int 1,.int 1,.int 1]) e1).laid (o:=.lst [.int 1,.int 2,.int 1]) e2).ne e3;have n4:a4≠t:=(((T.laid (o:=.lst [.int 1,.int 1,.int 1]) e1).laid (o:=.lst [.int 1,.int 2,.int 1]) e2).laid (o:=.lst [.int 1,.int 2,.int 3]) e3).ne e4;have g1:H1 a1=some (.lst [.int 1,.int 1,.int 1]):=by rw[he1 a1 n1];exact zF el _ _ (zF e4 _ _ (zF e3 _ _ (zF e2 _ _ zI)))
  have g2:H1 a2=some (.lst [.int 1,.int 2,.int 1]):=by rw[he1 a2 n2];exact zF el _ _ (zF e4 _ _ (zF e3 _ _ zI))
  have g3:H1 a3=some (.lst [.int 1,.int 2,.int 3]):=by rw[he1 a3 n3];exact zF el _ _ (zF e4 _ _ zI)
  have g4:H1 a4=some (.lst [.int 5,.int 99,.int 7]):=by rw[he1 a4 n4];exact zF el _ _ zI
  have hr4:r=0\/r=1\/r=2\/r=3:=by lia
  rcases hr4 with rfl | rfl | rfl | rfl
  . exact⟨a1,1,1,1,rfl,g1,by decide,n1⟩
  . exact⟨a2,1,2,1,rfl,g2,by decide,n2⟩
  . exact⟨a3,1,2,3,rfl,g3,by decide,n3⟩
  . exact⟨a4,5,99,7,rfl,g4,by decide,n4⟩
 refine{al,8,AD.of (by rw[he1 al nel];exact zI),hat,?_};have sm1:Sm t H H1:=fun b o nb e=>by rw[he1 b nb];exact zF el _ _ (zF e4 _ _ (zF e3 _ _ (zF e2 _ _ (zF e1 _ _ e))))
 intro d hd;have nd:d≠t:=T1.ne hd;have hd0:H d=none:=by
  cases q:H d with
  | none=>rfl
  | some o=>have:=sm1 d o nd q;rw[hd] at this;cases this
 have W0:WI H t d la n (N+1) 0 (upd H1 d (.dT [])):={sm1.chg hd0,T1.laid hd,{[],zI,JD.nil n,zK _},{l0,l1,l2,by rw[zj (zq iS hd)];exact iS,hb}};refine⟨_,rfl,t,N+1,3,rfl,W0.tp,by lia,by decide,by decide,fun r1 H2 _ _ T2 he2=>?_⟩;have W2:=W0.draw nd nla T2 he2;refine{2,1,?_};refine Bj (fun _=>?a) (fun _=>?b)
 case' a=>
  refine⟨_,rfl,1,n,rfl,{by decide,by decide,by lia,by lia},CL (lo:=1) (n:=(n-1).toNat) (fun i σ H3=>∃vb:Option V,σ=[some (.ref t),some (.int n),some (.ref la),some (.ref d),vb,none,none]/\WI H t d la n (N+2+2*i) i H3) {none,0,W2} ?turn ?after⟩
  case turn=>
   rintro i σ H3 hi ⟨vb,rfl,W⟩;obtain⟨m0,m1,m2,hm,hmb⟩:=W.lg;refine⟨_,rfl,_,rfl,t,N+2+2*i,3,rfl,W.tp,by lia,by decide,by decide,fun r3 H4 g0 g1 T4 he4=>?_⟩;have W4:=W.draw nd nla T4 he4;obtain⟨lg,hlg,hg1,hg2⟩:=Yu hmb g0 g1;refine{la,8,AD.of (by rw[he4 la nla];exact hm),hlg,?_};refine⟨_,rfl,_,rfl,_,rfl,t,N+2+2*i+1,1+i,rfl,W4.tp,by lia,by lia,by lia,fun r5 H5 q0 q1 T5 he5=>?_⟩;have W5:=W4.draw nd nla T5 he5;refine{1,Al,fun p hp=>?_};have W6:=W5.laid (o:=.tup [.int r5,.int (1+i)]) hp;obtain⟨eO,hk,J,hkl⟩:=W6.dc;refine{d,1,IG.t (k:=[Sum.inl r5,Sum.inl (1+(i:Int))]) hk zI (Aq (by lia)),?_};exact{1,(W6.put hd0 hk q0 q1 (by lia) hg1 hg2).up (by lia) (by lia)}
  case' after=>
   rintro σ H3 ⟨vb,rfl,W⟩;have W3:WI H t d la n (N+50) 23 H3:=W.up (by lia) (by lia)
 case' b=>
  have W3:WI H t d la n (N+50) 23 H2:=W2.up (by lia) (by lia)
 all_goals
  refine{5,2,1,2,{by decide,by decide},2,t,N+50,1,W3.tp,by lia,by lia,by lia,fun r4 H4 p0 p1 T4 he4=>?_};have W4:=W3.draw nd nla T4 he4;refine{r4,0,by lia,by lia,CL (lo:=0) (n:=r4.toNat) (fun i σ H5=>GB fun (vb vk va:Option V)=>σ=[some (.ref t),some (.int n),some (.ref la),some (.ref d),vb,vk,va]/\WI H t d la n (N+51+3*i) (23+i) H5) {_,6,W4} ?turn2 ?after2}
  case turn2=>
   rintro i σ H5 hi ⟨vb,vk,va,rfl,W⟩;refine{5,t,N+51+3*i,n,0,W.tp,by lia,by lia,by lia,fun a H6 a0 a1 T6 he6=>?_};have W6:=W.draw nd nla T6 he6;refine{5,t,N+51+3*i+1,n,0,W6.tp,by lia,by lia,by lia,fun b H7 b0 b1 T7 he7=>?_};have W7:=W6.draw nd nla T7 he7;refine{5,2,1,?_};refine Bj (fun hc=>?_) (fun hc=>?_)
   . have ja:a<b:=of_decide_eq_true hc;obtain⟨m0,m1,m2,hm,hmb⟩:=W7.lg;refine⟨_,rfl,_,rfl,t,N+51+3*i+1+1,3,rfl,W7.tp,by lia,by decide,by decide,fun r3 H8 g0 g1 T8 he8=>?_⟩;have W8:=W7.draw nd nla T8 he8;obtain⟨lg,hlg,hg1,hg2⟩:=Yu hmb g0 g1;refine{la,8,AD.of (by rw[he8 la nla];exact hm),hlg,?_};refine{1,5,Al,fun p hp=>?_};have W9:=W8.laid (o:=.tup [.int a,.int b]) hp;obtain⟨eO,hk,J,hkl⟩:=W9.dc;refine{d,1,IG.t (k:=[Sum.inl a,Sum.inl b]) hk zI (Aq (by lia)),?_};exact{_,6,(W9.put hd0 hk a0 ja b1 hg1 hg2).up (by lia) (by lia)}
   . exact{_,6,W7.up (by lia) (by lia)}
  case after2=>
   rintro σ H5 ⟨vb,vk,va,rfl,W⟩;obtain⟨eO,hk,J,hkl⟩:=W.dc;have hk64:eO.length<64:=by lia
   refine{5,d,eO,Fh eO,0,hk,J.keys,J.ne,by rw[Fh,zB];exact hk64,fun l zs ms hl TA hp _=>?_};refine{l,0,{_,AD.of zI},[.ref d],0,fun D hD=>?_};have hlz:=TA.length;have hlm:ms.length=eO.length:=by rw[hp.length_eq,Fh,zB]
   have nlD:l≠D:=fun e=>by rw[<-e,zI] at hD;cases hD
   have hk1:(upd H5 l (.lst zs)) d=some (.dT eO):=zF hl _ _ hk;have hZ:H5 D=none:=by rw[zj nlD.symm] at hD;exact hD
   refine Nf (a:=l) (xs:=zs) (fun i ys H6=>∃ts:List T3,ts.length=i/\ts.map (fun t:T3=>[t.1,t.2.1])=ms.take i/\(∀t∈ts,0<=t.1/\t.1<t.2.1/\t.2.1<n/\1<=t.2.2/\t.2.2<=99)/\H6 D=some (.lst ys)/\Ao H6 ys (ts.map tl)/\AE (upd H5 l (.lst zs)) H6)
    {[],3,fun _ h=>by simp at h,zI,trivial,zF hD} (fun i ys H6 h=>?_) (fun i ys H6 h=>?_) (fun i x ys H6 hx h=>?_) (fun ys H6 h=>?_)
   . obtain⟨_,_,_,_,_,_,s6⟩:=h;exact AD.of (s6 _ _ zI)
   . obtain⟨ts,e1,e2,_,_,T6,_⟩:=h;have e3:=T6.length;rw[zB] at e3;have e4:=congrArg List.length e2;rw[zB,zp] at e4;exact Aq (by lia)
   . obtain⟨ts,e1,e2,hts,hV,T6,s6⟩:=h;obtain⟨pa,kx,ex,hkx,hpa,_⟩:=TA.get hx;subst ex;have hpa6:H6 pa=some (.tup (kx.map V.int)):=s6 _ _ (zF hl _ _ hpa);obtain⟨a,b,lg,ek,hv,a0,ab,bn,lg1,lg2⟩:=J.val (hp.mem_iff.mp (zQ hkx));subst ek;refine{{3},?_};refine Bf ?_;refine{1,pa,8,AB.of hpa6,7,pa,8,AB.of hpa6,0,5,d,1,hv ▸ BK.t (k:=[Sum.inl a,Sum.inl b]) (s6 _ _ hk1) hpa6,GV,fun p hp6=>?_};have nDp:D≠p:=zq hV hp6;refine{by rw[zj nDp];exact hV,ts++[(a,b,lg)],by rw[zH,e1];rfl,?_,?_,zI,?_,?_}
     . rw[zT,e2,zu,hkx];rfl
     . intro t ht;rcases zg.mp ht with q | q
       . exact hts t q
       . rw[zl.mp q];exact⟨a0,ab,bn,lg1,lg2⟩
     . rw[zT];refine (T6.keep fun c xs e=>?_).snoc {p,0,by rw[zj nDp.symm,zI];rfl,by simp[tl]};rw[zj (Bu e hV (by intro z;cases z)),zj (zq e hp6)];exact e
     . exact Av (s6.trans (zF hp6)) hD
   . obtain⟨ts,e1,e2,hts,hV,T6,s6⟩:=h;refine{D,ys,0,.inl {AD.of hV,fun ta gG=>?_}};refine{Al,fun wa gB=>?_};rw[hlz,zW (zK _)] at e2;have G:GW n ts:=da J hp hk64 iw hn2 e2 hts;have nwt:wa≠ta:=fun e=>by rw[e,zI] at gB;cases gB
     have h6wa:H6 wa=none:=by rw[zj nwt] at gB;exact gB
     have s7:AE H6 (upd (upd H6 ta (.tup ys)) wa (.tup [.int n,.ref ta])):=Av (zF gG) h6wa;have T7:Ae (upd (upd H6 ta (.tup ys)) wa (.tup [.int n,.ref ta])) t (N+200):=((W.tp.mono (by lia)).keep ((zF hl).trans (s6.trans s7)));have nwa:wa≠t:=((W.tp.keep ((zF hl).trans s6)).ne h6wa);have sm7:Sm t H (upd (upd H6 ta (.tup ys)) wa (.tup [.int n,.ref ta])):=W.sm.trans (Sm.of ((zF hl).trans (s6.trans s7)));refine k wa ts _ ?_ {ta,ys,zI,by rw[zj nwt.symm,zI],T6.keep fun c xs e=>s7 _ _ e,G} T7 sm7;cases q:H wa with
     | none=>rfl
     | some o=>have:=(W.sm.trans (Sm.of ((zF hl).trans s6))) wa o nwa q;rw[h6wa] at this;cases this
theorem Zx (a b):Gb (.int a) (.int b)=(a==b):=rfl
theorem DA :∀{l:List Int},Bw (.int z) (l.map V.int)=decide (z∈l)
 | []=>rfl
 | x::r=>by
  show (Gb (.int x) (.int z) || Bw (.int z) (r.map V.int))=_;rw[DA (l:=r),Zx];by_cases h:x=z
  . subst h;simp
  . have h':(x==z)=false:=by simpa using h
    rw[h',Bool.false_or];simp[Ne.symm h]
theorem DD:∀(l:List Int),(l.map V.int).all Fj=true
 | []=>rfl
 | _::r=>by rw[Cn,List.all_cons,DD r];rfl
theorem Am {q:Prop}(h:c=true)(hp:p):(if c=true then p else q):=by rw[if_pos h];exact hp
theorem As {q:Prop}(h:c=false)(hq:q):(if c=true then p else q):=by rw[if_neg (by simp[h])];exact hq
section
open PySem.Spec PyProof.Rows
structure Fn (n p:Nat)(d:PyData):Prop where
 wt:d.weight<=n
 dp:d.depth<=p
 cl:d.canLay0=true
 sh:d.intsShort 50=true
 sw:d.showable=true
theorem Fn.mono (h:Fn n p d)(hn:n<=n')(hp:p<=p'):Fn n' p' d:={BX h.wt hn,BX h.dp hp,h.cl,h.sh,h.sw}
theorem Xs (b:Bool):Fn 0 0 (.bool b):={zK _,zK _,0,3}
theorem Q4 (h:i.natAbs<10 ^ 40):Fn 140 0 (.int i):=by
 have hl:i.natAbs.log2<134:=by
  by_cases h0:i.natAbs=0
  . rw[h0];decide
  . exact (Nat.log2_lt h0).mpr (by lia)
 have ht:=Zy h;refine{?_,zK _,0,?_,?_}
 . simp only[PyData.weight];split <;> lia
 . simp only[PyData.intsShort,PyData.shown];exact zO (by lia)
 . simp only[PyData.showable];exact zO (by lia)
theorem Wi :∀{ds:List PyData},(∀d∈ds,Fn n p d)->PyData.weightAll ds<=ds.length*(n+1)/\PyData.depthAll ds<=p/\PyData.canLayAll0 ds=true/\PyData.intsShortAll 50 ds=true/\PyData.showableAll ds=true
 | [],_=>{by simp[PyData.weightAll],by simp[PyData.depthAll],by simp[PyData.canLayAll0],by simp[PyData.intsShortAll],by simp[PyData.showableAll]}
 | d::ds,h=>by
  obtain⟨a,b,c,e,f⟩:=Wi (ds:=ds) fun x hx=>h x (zd _ hx);have g:=h d zX;refine{?_,?_,?_,?_,?_}
  . simp only[PyData.weightAll,zk];have:=g.wt;rw[Nat.add_mul]
    lia
  . simp only[PyData.depthAll];have:=g.dp
    lia
  . simp only[PyData.canLayAll0,g.cl,c,Bool.and_self]
  . simp only[PyData.intsShortAll,g.sh,e,Bool.and_self]
  . simp only[PyData.showableAll,g.sw,f,Bool.and_self]
theorem Xj (h:∀d∈ds,Fn n p d)(hl:ds.length<=L):Fn (L*(n+1)) (p+1) (.tuple ds):=by
 obtain⟨a,b,c,e,f⟩:=Wi h;refine{?_,?_,?_,?_,?_}
 . simp only[PyData.weight];exact BX a (Nat.mul_le_mul_right _ hl)
 . simp only[PyData.depth];lia
 . simp only[PyData.canLay0];exact c
 . simp only[PyData.intsShort];exact e
 . simp only[PyData.showable];exact f
theorem Fn.len (h:Fn n p d)(hn:n<=300000)(hp:p<=60):d.shown.length<=sizeLine/\d.hasDict=false:=by
 have hl:PyData.layable0 d=true:=by show (PyData.canLay0 d && decide (PyData.depth d<=64) && decide (PyData.weight d<=2 ^ 20))=true;rw[h.cl,zO (show PyData.depth d<=64 by have:=h.dp;lia),zO (show PyData.weight d<=2 ^ 20 by have:=h.wt;lia)];rfl
 have e:=PyData.shown_le 50 (by decide) d (PyData.leavesShort_of_canLay0 50 d h.cl h.sh);have:sizeLine=16777216:=rfl;have:=h.wt;exact{by lia,PyData.hasDict_of_layable hl}
inductive JT (xs:List V)(H:Hp)(Q:VK):Prop
 | mk:∀x d,(xs=[x])->(Ag H x d)->(Fn 300000 50 d)->(Q (.str d.shown) H)->JT xs H Q
theorem YO (hr:BB k X.A):CH X (.builtin "repr") JT:=by
 intro pins s σ H xs us Q I r h;obtain⟨x,d,rfl,sh,f,q⟩:=h;obtain⟨u,rfl,rx⟩:=DF r;obtain⟨hz,hnd⟩:=f.len (zK _) (by decide);have hu:=hr.units;cases sh with
 | non=>cases (show u=Value.none from rx);exact PySem.P.repr_of_none {.str _,H,I.tok _,{1},by simpa only [PyData.shown] using q}
 | bl b=>cases (show u=Value.bool b from rx);exact PySem.P.repr_of_bool {.str _,H,I.tok _,{1},by simpa only [PyData.shown] using q}
 | int i=>obtain⟨t,rfl⟩:=rx;exact PySem.P.repr_of_int (by have:=f.sw;simpa only [PyData.showable,decide_eq_true_eq] using this) {.str _,H,I.tok _,{1},by simpa only [PyData.shown] using q}
 | str z=>obtain⟨t,rfl⟩:=rx;exact PySem.P.repr_of_str {.str _,H,I.tok _,{1},by simpa only [PyData.shown] using q} (by simpa only [PyData.shown] using hz)
 | tup e al=>cases (show u=Value.ref _ from rx);obtain⟨as,rd⟩:=Ag.reads I.hok (.tup e al) (u:=.ref _) rfl;exact repr_of_reads' rd f.sw (PyData.noDict_hsm hnd) hr.gd (by have:=f.dp;lia) (fun _ _ e=>e) (fun h' u tk hk=>{.str _,H,I.kept hk,{u,0},q}) hz
 | lst e al=>cases (show u=Value.ref _ from rx);obtain⟨as,rd⟩:=Ag.reads I.hok (.lst e al) (u:=.ref _) rfl;exact repr_of_reads' rd f.sw (PyData.noDict_hsm hnd) hr.gd (by have:=f.dp;lia) (fun _ _ e=>e) (fun h' u tk hk=>{.str _,H,I.kept hk,{u,0},q}) hz
end
theorem Jj (h:Bh H xs ds):xs.length=ds.length:=by
 induction xs generalizing ds with
 | nil=>cases h;rfl
 | cons x xs ih=>
  cases h with
  | cons a b=>rw[zk,zk,ih b]
theorem BP (k:AE H H')(s:Ag H v d):Ag H' v d:=
 Ag.rec (motive_1:=fun v d _=>Ag H' v d) (motive_2:=fun xs ds _=>Bh H' xs ds) .non (fun b=>.bl b) (fun i=>.int i) (fun x=>.str x) (fun e _ ih=>.tup (k _ _ e) ih) (fun e _ ih=>.lst (k _ _ e) ih) .nil (fun _ _ i1 i2=>.cons i1 i2) s
theorem L7 (h:x.length<=60)(ok:PyData.strOk x=true):Fn 100 0 (.str x):=by
 refine{?_,zK _,?_,3}
 . simp only[PyData.weight];have:x.cps.size=x.length:=rfl
   lia
 . simp only[PyData.canLay0];exact ok
theorem Ew :decide (V.int a=V.int b)=decide (a=b):=by
 by_cases h:a=b
 . rw[zO h,zO (congrArg V.int h)]
 . rw[zS h,zS fun z=>h (V.int.inj z)]
def Uh (K:AK):R2:=fun x y H Q=>∃a b,∃(xs ys:List Int),x=.ref a/\y=.ref b/\AD K H a (xs.map V.int)/\AD K H b (ys.map V.int)/\Q (.bl (decide (xs=ys))) H
theorem MA (hu:X.A.units<cLine):A1 X (compareOp .Eq) (Uh X.K):=by
 intro pins s σ H x y v u Q I rx ry h;obtain⟨a,b,xs,ys,rfl,rfl,ha,hb,q⟩:=h;cases rx;cases ry;obtain⟨its,r,pl,hz⟩:=I.list ha;obtain⟨fZ,r2,iq,hz2⟩:=I.list hb;have h1:=DH r;have h2:=DH r2;have l1:=h1.length;have l2:=h2.length;by_cases hl:its.length=fZ.length
 . refine SeqAt.eq_listAt (e:=fun j=>xs.getD j 0==ys.getD j 0) pl.isList iq.isList (by rw[zP,zP];exact hl) hu (fun j a b=>Th h1 h2 j a b) {.bl _,H,I,0,?_};rw[zP];have e:=To (xs:=xs) (ys:=ys);rw[show min xs.length ys.length=its.length by lia,show (xs.length==ys.length)=true by simpa using (by lia),Bool.and_true] at e;rw[e];exact q
 . refine SeqAt.eq_list_lengthsAt pl.isList iq.isList (by rw[zP,zP];simpa using hl) hu {.bl _,H,I,0,?_};have ft:xs≠ys:=fun e=>hl (by rw[l1,l2,e]);rw[zS ft] at q;exact q
def Qq:Sp:=fun vs H Q _=>∃i:Int,vs=[.int i]/\Q (.bl true) H
def HH:Sp:=fun vs H Q _=>∃i a b:Int,vs=[.int i,.int a,.int b]/\a<=i/\i<=b/\Q (.bl true) H
def Hf:Sp:=fun vs H Q _=>∃n i:Int,vs=[.int n,.int i]/\0<=i/\i<=n-1/\Q (.bl true) H
def Nx:Sp:=fun vs H Q _=>∃p ys,vs=[.ref p,.int ys.length]/\H p=some (.tup ys)/\Q (.bl true) H
structure KN (n:Int)(os:List Int):Prop where
 ln:os.length=n.toNat
 nd:os.Nodup
 rng:∀p∈os,0<=p/\p<n
theorem OC:zw Cb Cb (defScope J4):=AV
theorem R6 (F:Fu K "is_number" J4 f eQ) (eT:mg "isinstance"=none) (fq:mg "int"=none) (eZ:mg "bool"=none):AG P w K mg base AJ 1 f eQ Cb Qq:=by
 refine F.okD OC fun _ A _ _ H vs Q E hr h=>?_;obtain⟨i,rfl,k⟩:=h;refine{_,zY (AM (Ba (zy DE eT (zC (pv 0) (zC (CS (T := "int") fq) zM)))
  (Bl (XY (zy DE eT (zC (pv 0) (zC (CS (T := "bool") eZ) zM))))))),?_}
 refine{1,9,true,0,.int i,0,true,0,Ak ?_};exact{1,9,false,0,.int i,0,false,0,k}
theorem Up:zw NL NL (defScope N5):=AV
theorem Oz (F:Fu K "is_within" N5 f eQ) (FN:AF K mg "is_number" J4 fN fdN Cb) (eT:mg "isinstance"=none) (fq:mg "int"=none) (eZ:mg "bool"=none):
 AG P w K mg base AJ 2 f eQ NL HH:=by
 have GN:AH P w base 1 FN Qq:=R6 FN.F eT fq eZ;refine F.okD Up fun _ A _ _ H vs Q E hr h=>?_;obtain⟨i,a,b,rfl,h1,h2,k⟩:=h;refine{_,zY (AM (Ba (AI GN hr FN (zC (pv 0) zM)) (Ba (BN Qi (pv 1) (pv 0) (AN _)) (Bl (BN Qi (pv 0) (pv 2) (AN _)))))),?_};refine{1,i,0,true,0,Ak ?_};refine{5,2,1,?_};refine Am (zO h1) ?_;refine{5,2,?_};show Q (.bl (decide (i<=b))) H;rw[zO h2];exact k
theorem UX:zw B5 B5 (defScope OM):=AV
theorem Ia (F:Fu K "is_place" OM f eQ) (FW:AF K mg "is_within" N5 fW fdW NL) (FN:AF K mg "is_number" J4 fN fdN Cb) (eT:mg "isinstance"=none) (fq:mg "int"=none) (eZ:mg "bool"=none):
 AG P w K mg base AJ 3 f eQ B5 Hf:=by
 have GW':AH P w base 2 FW HH:=Oz FW.F FN eT fq eZ;refine F.okD UX fun _ A _ _ H vs Q E hr h=>?_;obtain⟨n,i,rfl,h1,h2,k⟩:=h;refine{_,zY (AM (AI GW' hr FW (zC (pv 1) (zC zf (zC (Aa EN (pv 0) zf) zM))))),?_};exact⟨_,rfl,_,rfl,_,_,rfl,rfl,i,0,n-1,rfl,h1,h2,k⟩
theorem P4:zw MC MC (defScope D6):=AV
theorem Yb (F:Fu K "is_tuple_of" D6 f eQ) (eT:mg "isinstance"=none) (eP:mg "tuple"=none) (eS:mg "len"=none):AG P w K mg base AJ 1 f eQ MC Nx:=by
 refine F.okD P4 fun _ A _ _ H vs Q E hr h=>?_;obtain⟨p,ys,rfl,hp,k⟩:=h;refine{_,zY (AM (Ba (zy DE eT (zC (pv 0) (zC (CS (T := "tuple") eP) zM)))
  (Bl (BN BG (zy Bz eS (zC (pv 0) zM)) (pv 1) (AN _))))),?_}
 refine{1,9,true,0,.tup hp,0,true,0,Ak ?_};refine{1,p,1,.inr (AB.of hp),_,3,?_};rw[zO rfl];exact k
def SK:Sp:=fun vs H Q _=>∃wa n ts p,vs=[.ref wa,.int p]/\BF H wa n ts /\
 ∀l zs ms H',AE H H'->H l=none->H' l=some (.lst zs)->Ao H' zs ms->ms.Perm (fd p ts)->QL ms->Q (.ref l) H'
theorem Nb:zw ["web","place","found","a","b","long"] QB (defScope N3):=AV
theorem VV (F:Fu K "ties_at" N3 f eQ) (eR:mg "sorted"=none):AG P w K mg base AJ 1 f eQ QB SK:=by
 refine F.okD Nb fun _ A _ _ H vs Q E hr h=>?_;obtain⟨wa,n,ts,p,rfl,⟨ta,tys,gB,gG,TA,G⟩,k⟩:=h;refine{_,zR (Ab (i:=2) Nb.nd (BO zM))
  (zR (Au (Ay (zt AU (pv 0) zf)) (CC rfl (zx (AW (i:=3) Nb.nd) (zx (AW (i:=4) Nb.nd) (zx (AW (i:=5) Nb.nd) Br))))
   (zR (Ad (AR BG (pv 3) (pv 1) (AN _)) (zY (B0 (Cz PySem.F.plainAttrs_list PySem.F.slot_list_append PySem.F.type_list_append Eg (pv 2) (zC (Af (zC (pv 4) (zC (pv 5) zM))) zM)))) Ac)
   (zY (Ad (AR BG (pv 4) (pv 1) (AN _)) (zY (B0 (Cz PySem.F.plainAttrs_list PySem.F.slot_list_append PySem.F.type_list_append Eg (pv 2) (zC (Af (zC (pv 3) (zC (pv 5) zM))) zM)))) Ac))))
  (zY (AM (zy cX eR (zC (pv 2) zM))))),?_}
 refine{zh _,fun l hl=>?_};have hwl:wa≠l:=zq gB hl;have htl:ta≠l:=zq gG hl;have eU:tys.length=ts.length:=by rw[TA.length,zB]
 refine{1,wa,8,AB.of (by rw[zj hwl];exact gB),0,ta,0,{_,AB.of (by rw[zj htl];exact gG)},Ed (K:=K) (a:=ta) (xs:=tys)
  (fun i σ H2=>NG fun (va vb vl:Option V)(xs:List V)=>σ=[some (.ref wa),some (.int p),some (.ref l),va,vb,vl]/\AE H H2/\H2 l=some (.lst xs)/\Ao H2 xs (fd p (ts.take i)))
  {none,none,none,[],0,zF hl,zI,trivial} (fun i σ H2 _ ⟨_,_,_,_,_,s2,_⟩=>AB.of (s2 _ _ gG)) ?turn ?after}
 case turn=>
  rintro i y σ H2 hi ⟨va,vb,vl,xs,rfl,s2,gJ,T2⟩;obtain⟨ya,ky,rfl,f9,iK,_⟩:=TA.get hi;rw[zN] at f9;obtain⟨⟨a,b,c⟩,gg,rfl⟩:∃t:T3,ts[i]?=some t/\tl t=ky:=by
   cases e:ts[i]? with
   | none=>rw[e] at f9;cases f9
   | some t=>rw[e] at f9;exact{t,0,zV f9}
  have iT:i<ts.length:=(zG.mp gg).1;have hlen:∀{xs':List V}{H3:Hp},Ao H3 xs' (fd p (ts.take i))->xs'.length<sizeLine:=fun T=>by have e1:=T.length;have e2:=Q1 (n:=n) p (ts:=ts.take i) fun t ht=>(G.rng t (List.mem_of_mem_take ht)).2.1;rw[zp] at e2;exact Aq (by have:=G.len;lia)
  have hfd:fd p (ts.take (i+1))=fd p (ts.take i)++((if a=p then [[b,c]] else [])++(if b=p then [[a,c]] else [])):=by
   rw[zu,gg,So];show _++((if a=p then [[b,c]] else [])++(if b=p then [[a,c]] else [])++[])=_
   rw[zv]
  have ja:a<b:=(G.rng _ (zQ gg)).2.1;refine{ya,1,AB.of (s2 _ _ iK),0,6,6,2,?_};have app:∀{x:Int},∀q,H2 q=none->∃xs',(upd (upd H2 q (.tup [.int x,.int c])) l (.lst (xs++[.ref q]))) l=some (.lst xs')/\AE H (upd (upd H2 q (.tup [.int x,.int c])) l (.lst (xs++[.ref q])))/\Ao (upd (upd H2 q (.tup [.int x,.int c])) l (.lst (xs++[.ref q]))) xs' (fd p (ts.take i)++[[x,c]]):=by intro x q hq;have nlq:l≠q:=zq gJ hq;refine{_,zI,Av (s2.trans (zF hq)) hl,(T2.keep fun e ys he=>?_).snoc {q,0,by rw[zj nlq.symm,zI];rfl,by simp}};rw[zj (Bu he gJ (by intro z;cases z)),zj (zq he hq)];exact he
  refine{5,7,?_};refine Bj (fun h1=>?_) (fun h1=>?_)
  . have e1:a=p:=by have:=of_decide_eq_true h1;injection this
    have n2:¬ b=p:=by lia
    refine{1,.inl {0,_,AD.of gJ},5,Al,fun q hq=>?_};have nlq:l≠q:=zq gJ hq;refine{l,2,by rw[zj nlq];exact gJ,hlen T2,?_};refine{5,7,?_};rw[show decide (V.int b=V.int p)=false from zS fun e=>n2 (by injection e)];refine AZ ?_;obtain⟨xs',g1,g2,g3⟩:=app (x:=b) q hq;refine{9,xs',0,g2,g1,?_};rw[hfd,if_pos e1,if_neg n2];exact g3
  . have n1:¬ a=p:=fun e=>by have:=h1;rw[e] at this;exact this (zO rfl)
    refine{5,7,?_};refine Bj (fun h2=>?_) (fun h2=>?_)
    . have e2:b=p:=by have:=of_decide_eq_true h2;injection this
      refine{1,.inl {0,_,AD.of gJ},5,Al,fun q hq=>?_};have nlq:l≠q:=zq gJ hq;refine{l,2,by rw[zj nlq];exact gJ,hlen T2,?_};obtain⟨xs',g1,g2,g3⟩:=app (x:=a) q hq;refine{9,xs',0,g2,g1,?_};rw[hfd,if_neg n1,if_pos e2];exact g3
    . have n2:¬ b=p:=fun e=>by have:=h2;rw[e] at this;exact this (zO rfl)
      refine{9,xs,0,s2,gJ,?_};rw[hfd,if_neg n1,if_neg n2,zv,zv];exact T2
 case after=>
  rintro σ H2 ⟨va,vb,vl,xs,rfl,s2,gJ,T2⟩;rw[eU,zW (zK _)] at T2;have e2:=Q1 (n:=n) p (ts:=ts) fun t ht=>(G.rng t ht).2.1;refine{1,l,xs,fd p ts,0,AD.of gJ,T2,by have:=G.len;lia,fun l' zs ms gO T3 hp hrs=>?_};have nll:l'≠l:=fun e=>by rw[e,gJ] at gO;cases gO
  have hl0:H l'=none:=by
   cases q:H l' with
   | none=>rfl
   | some o=>have:=s2 l' o q;rw[gO] at this;cases this
  exact k l' zs ms _ (s2.trans (zF gO)) hl0 zI (T3.keep fun e ys he=>zF gO _ _ he) hp hrs
def Qv:Sp:=fun vs H Q _=>∃wa n ts one other,vs=[.ref wa,.int one,.int other]/\BF H wa n ts /\
 ∀r H',AE H H'->((∃l,Ai ts one other l/\r=.int l)\/((∀l,¬ Ai ts one other l)/\r=.non))->Q r H'
theorem Sw:zw ["web","one","other","place","long"] Px (defScope NX):=AV
theorem cw {fT:Addr}(F:Fu K "long_of" NX f eQ) (FT:AF K mg "ties_at" N3 fT jD QB) (eR:mg "sorted"=none):
 AG P w K mg base AJ 2 f eQ Px Qv:=by
 have GT:AH P w base 1 FT SK:=VV FT.F eR;refine F.okD Sw fun _ A _ _ H vs Q E hr h=>?_;obtain⟨wa,n,ts,one,other,rfl,W,k⟩:=h;refine{_,zR (Au (Ep (AI GT hr FT (zC (pv 0) (zC (pv 1) zM)))) (CC rfl (zx (AW (i:=3) Sw.nd) (zx (AW (i:=4) Sw.nd) Br)))
  (zY (Ad (AR BG (pv 3) (pv 2) (AN _)) (zY (AM (pv 4))) Ac)))
  (zY (AM Ar)),?_}
 refine{5,wa,n,ts,one,0,W,fun l zs ms H1 s1 hl0 iC T1 hp _=>?_};refine{l,0,{_,AD.of iC},Mb (K:=K) (a:=l) (xs:=zs) (fun i σ H2=>EU fun (va vb:Option V)=>σ=[some (.ref wa),some (.int one),some (.int other),va,vb]/\H2=H1/\∀j k,j<i->ms[j]?=some k->hd k≠other)
  {none,none,3,fun j _ h=>by lia} (fun i σ H2 _ ⟨_,_,_,e,_⟩=>e ▸ AD.of iC) ?turn ?after}
 case turn=>
  rintro i y σ H2 hi ⟨va,vb,rfl,rfl,iG⟩;obtain⟨ya,ky,rfl,f9,iK,_⟩:=T1.get hi;have hm:ky∈fd one ts:=hp.mem_iff.mp (zQ f9);obtain⟨z,c,rfl,ha⟩:=Jq.mp hm;refine{ya,1,AB.of iK,0,6,2,?_};refine{5,7,?_};refine Bj (fun h1=>?_) (fun h1=>?_)
  . have e1:z=other:=by have:=of_decide_eq_true h1;injection this
    subst e1;exact{1,k _ _ s1 (.inl {c,ha,0})}
  . have n1:z≠other:=fun e=>by have:=h1;rw[e] at this;exact this (zO rfl)
    refine{2,fun j kj hj hkj=>?_};by_cases hji:j<i
    . exact iG j kj hji hkj
    . have e:j=i:=by lia
      subst e;rw[f9] at hkj;cases hkj;exact n1
 case after=>
  rintro σ H2 ⟨va,vb,rfl,rfl,iG⟩;refine k _ _ s1 (.inr {fun c ha=>?_,0});have hm:[other,c]∈ms:=hp.mem_iff.mpr (Jq.mpr {other,c,0,ha});obtain⟨j,hj,e⟩:=zr hm;exact iG j _ (by have:=T1.length;lia) (by rw[zD hj,e]) rfl
noncomputable def eV (e:En):List V:=[.int e.h,.int e.l,oV e.u,oV e.d]
def DZ (H:Hp)(as:List Addr)(es:List En):Prop:=as.length=es.length/\∀(i:Nat)a,as[i]?=some a->∃e,es[i]?=some e/\H a=some (.tup (eV e))
def CI (H:Hp)(p:Addr)(es:List En):Prop:=∃as:List Addr,H p=some (.tup (as.map V.ref))/\DZ H as es/\es.length<=1000
theorem DZ.keep (h:DZ H as es)(k:∀b ys,H b=some (.tup ys)->H' b=some (.tup ys)):DZ H' as es:=
 {h.1,fun i a ha=>let ⟨e,h1,h2⟩:=h.2 i a ha;{e,h1,k _ _ h2}}
theorem DZ.snoc (h:DZ H as es)(ha:H a=some (.tup (eV e))):DZ H (as++[a]) (es++[e]):=by
 refine{by rw[zH,zH,h.1];rfl,fun i b hb=>?_};by_cases c:i<as.length
 . rw[ze c] at hb;obtain⟨e',h1,h2⟩:=h.2 i b hb;exact{e',by rw[ze (by rw[<-h.1];exact c)];exact h1,h2}
 . rw[za (by lia)] at hb;have hi:i-as.length=0:=by
    cases z:i-as.length with
    | zero=>rfl
    | succ m=>rw[z] at hb;simp at hb
   rw[hi] at hb;have:a=b:=by simpa using hb
   subst this;exact{e,by rw[za (by rw[<-h.1];lia),<-h.1,hi];rfl,ha}
theorem CI.keep (h:CI H p es)(k:∀b ys,H b=some (.tup ys)->H' b=some (.tup ys)):CI H' p es:=
 let ⟨as,h1,h2,h3⟩:=h;{as,k _ _ h1,h2.keep k,h3}
theorem CI.same (h:CI H p es)(k:AE H H'):CI H' p es:=h.keep fun b ys e=>k _ _ e
theorem DZ.at (h:DZ H as es){i:Nat}(hv:(as.map V.ref)[i]?=some v):∃a e,v=.ref a/\es[i]?=some e/\H a=some (.tup (eV e)):=by
 rw[zN] at hv;cases z:as[i]? with
 | none=>rw[z] at hv;cases hv
 | some a=>rw[z] at hv;obtain⟨e,h1,h2⟩:=h.2 i a z;exact{a,e,(zV hv).symm,h1,h2}
def Ii:Sp:=fun vs H Q _=>∃p es e r,vs=[.ref p]/\CI H p es/\es.filter (fun e=>decide (e.l=0))=e::r/\∀H',AE H H'->Q (.int e.h) H'
def JO:Sp:=fun vs H Q _=>∃p q es fs,vs=[.ref p,.ref q]/\CI H p es/\CI H q fs/\C3 fs /\
 ∀r lm H',AE H H'->Cy (Cd es fs) lm->H' r=some (.tup [oV (lm.map (·.1)),oV (lm.map (·.2))])->Q (.ref r) H'
def QR:Sp:=fun vs H Q _=>∃p q es fs,vs=[.ref p,.ref q]/\CI H p es/\CI H q fs/\C3 fs /\
 ∀lm H',AE H H'->Cy (Cd es fs) lm->Q (oV (lm.map (·.1))) H'
def Il:Sp:=fun vs H Q _=>∃p es x,vs=[.ref p,.int x]/\CI H p es /\
 (Bk es x=none->Q .non H)/\(∀e a,Bk es x=some e->H a=some (.tup (eV e))->Q (.ref a) H)
theorem BV (h:n<=1000):n<sizeLine:=Cv h (by decide)
theorem Pz:zw ["label"] ["label"] (defScope Hb):=AV
theorem LV (F:Fu K "own_place" Hb f eQ):AG P w K mg base AJ 1 f eQ ["label"] Ii:=by
 refine F.okD Pz fun _ A _ _ H vs Q E hr h=>?_;obtain⟨p,es,e,r,rfl,L,hf,k⟩:=h;obtain⟨as,hp,EA,hl⟩:=id L;refine{_,zY (AM (zt AY (BQ (own:=VJ) (cn:=[]) (ci:=[]) rfl (Az rfl rfl) trivial rfl (Ay (pv 0))
  (fun _ _ _ _=>UT (n:=4) rfl (zx (Aw) (zx (B9 (i:=1) (EK rfl) rfl (Or.inl rfl)) (zx (B9 (i:=2) (EK rfl) rfl (Or.inl rfl)) (zx (B9 (i:=3) (EK rfl) rfl (Or.inl rfl)) Br)))))
  (fun _ _ _ _=>C0 (AR BG (pv 1) zf (AN _))) (fun _ _ _ _=>pv 0)) zf)),?_}
 refine{1,p,0,{_,AB.of hp},[],0,fun D hD=>?_};refine BJ (a:=p) (xs:=as.map V.ref) (fun i ys H4=>ys=((es.take i).filter fun e=>decide (e.l=0)).map (fun e=>V.int e.h)/\H4=upd H D (.lst ys)) {3} (fun i ys H4 h=>?_) (fun i ys H4 h=>?_) (fun i v ys H4 hv h=>?_) (fun ys H4 h=>?_)
 . obtain⟨_,rfl⟩:=h;exact AB.of (by rw[zj (zq hp hD)];exact hp)
 . obtain⟨rfl,_⟩:=h;rw[zB];exact Cv (C8 _ _) (BV (by rw[zp];lia))
 . obtain⟨rfl,rfl⟩:=h;obtain⟨a,x,rfl,hx,ha⟩:=EA.at hv;refine{a,1,AB.of (by rw[zj (zq ha hD)];exact ha),0,6,6,6,2,{3},?_};refine{1,7,?_};rw[Ew];have st:=Qp (fun e:En=>decide (e.l=0)) hx;refine Bj (fun c=>?_) (fun c=>?_)
   . refine{1,zI,?_,EE};rw[st,if_pos c,zT];rfl
   . refine{?_,0};rw[st,if_neg c,zv]
 . obtain⟨rfl,rfl⟩:=h;rw[zB,EA.1,zW (zK _),hf];exact{D,4,.int e.h,3,AD.of zI,CB (by decide) rfl,k _ (zF hD)}
theorem JE:zw ["label","hub","entry"] ["label","hub"] (defScope HX):=AV
theorem KO (F:Fu K "entry_of" HX f eQ):AG P w K mg base AJ 1 f eQ ["label","hub"] Il:=by
 refine F.okD JE fun _ A _ _ H vs Q E hr h=>?_;obtain⟨p,es,x,rfl,L,kn,ks⟩:=h;obtain⟨as,hp,EA,hl⟩:=id L;refine{_,zR (Au (Ay (pv 0)) (AW (i:=2) JE.nd)
  (zY (Ad (AR BG (zt AU (pv 2) zf) (pv 1) (AN _)) (zY (AM (pv 2))) Ac)))
  (zY (AM Ar)),?_}
 refine{1,p,0,{_,AB.of hp},Ed (K:=K) (a:=p) (xs:=as.map V.ref) (fun i σ H2=>∃va:Option V,σ=[some (.ref p),some (.int x),va]/\H2=H/\∀e∈es.take i,e.h≠x)
  {none,3,fun e he=>by simp at he} (fun i σ H2 _ ⟨_,_,e,_⟩=>e ▸ AB.of hp) ?turn ?after}
 case turn=>
  rintro i y σ H2 hi ⟨va,rfl,rfl,iG⟩;obtain⟨a,e,rfl,he,ha⟩:=EA.at hi;refine{1,a,4,.int e.h,3,AB.of ha,7,7,?_};rw[Ew];refine Bj (fun c=>?_) (fun c=>?_)
  . have c':e.h=x:=of_decide_eq_true c;refine{1,ks e a ?_ ha};unfold Bk;have eU:=(zG.mp he).1;rw[<-Jw i es,List.find?_append,List.find?_eq_none.mpr (fun f hf=>by simpa using iG f hf)];rw[M6 eU,(zG.mp he).2,IJ,zO c'];rfl
  . refine{_,3,fun f hf=>?_};rw[zu,he] at hf;rcases zg.mp hf with z | z
    . exact iG f z
    . have:f=e:=by simpa using z
      subst this;exact fun q=>c (zO q)
 case after=>
  rintro σ H2 ⟨va,rfl,rfl,iG⟩;refine kn (Xx.mpr fun e he=>iG e ?_);rw[zB,EA.1,zW (zK _)];exact he
theorem Td:zw ["one","other","longs","sums"] GZ (defScope HD):=AV
theorem Lm (F:Fu K "least_sum" HD f eQ) (gC:mg "dict"=none) (fu:mg "min"=none):AG P w K mg base AJ 1 f eQ GZ JO:=by
 refine F.okD Td fun _ A _ _ H vs Q E hr h=>?_;obtain⟨p,q,es,fs,rfl,L1,L2',hF,k⟩:=h;obtain⟨as,hp,EA,hl⟩:=id L1;obtain⟨bs,hq,EB,gJ⟩:=id L2';have hu:=Ey hr;refine{_,zR (Dc (i:=2) Td.nd rfl (Or.inr rfl) (Cq (Ts rfl) gC (zC
  (BQ (own:=VJ) (cn:=[]) (ci:=[]) rfl (Az rfl rfl) trivial rfl (Ay (pv 1))
   (fun _ _ _ _=>UT (n:=4) rfl (zx (Aw) (zx (B9 (i:=1) (EK rfl) rfl (Or.inl rfl)) (zx (B9 (i:=2) (EK rfl) rfl (Or.inl rfl)) (zx (B9 (i:=3) (EK rfl) rfl (Or.inl rfl)) Br)))))
   (fun _ _ _ _=>Bc) (fun _ _ _ _=>Af (zC (pv 0) (zC (pv 1) zM)))) zM)))
  (zR (Ea (i:=3) (own:=VJ) (cn:=["longs"]) (ci:=[2]) Td.nd rfl (Or.inl rfl) rfl (Az rfl rfl) {0,3,trivial} rfl (Ay (pv 0))
   (fun _ _ _ _=>UT (n:=4) rfl (zx (Aw) (zx (B9 (i:=1) (EK rfl) rfl (Or.inl rfl)) (zx (B9 (i:=2) (EK rfl) rfl (Or.inl rfl)) (zx (B9 (i:=3) (EK rfl) rfl (Or.inl rfl)) Br)))))
   (fun _ _ _ _=>C0 (Gx (Na hu (pv 0) (pv 4)))) (fun _ _ _ _=>Af (zC (Aa CA (pv 1) (Ja hu (pv 4) (pv 0) (fun _ _=>rfl))) (zC (pv 0) zM))))
  (zY (AM (X4 rfl hu (by rfl) fu (zC (pv 3) zM) (Af (zC Ar (zC Ar zM))))))),?_}
 refine{1,q,0,{_,AB.of hq},[],0,fun D hD=>?_};refine BJ (a:=q) (xs:=bs.map V.ref) (fun i ys H4=>i<=fs.length/\ys.length=i/\(∀(j:Nat)(y:V),ys[j]?=some y->∃c e,y=.ref c/\fs[j]?=some e/\H4 c=some (.tup [.int e.h,.int e.l]))/\AE H H4/\H4 D=some (.lst ys)) {zh _,0,fun j y z=>by simp at z,zF hD,zI} (fun i ys H4 h=>?_) (fun i ys H4 h=>?_) (fun i v ys H4 hv h=>?_) (fun ys H4 h=>?_)
 . exact AB.of (h.2.2.2.1 _ _ hq)
 . exact BV (by have:=h.1;have:=h.2.1;lia)
 . obtain⟨hi,ie,hys,s4,fv⟩:=h;obtain⟨a,x,rfl,hx,ha⟩:=EB.at hv;refine{a,1,AB.of (s4 _ _ ha),0,6,6,6,2,{3},?_};refine Bf ?_;refine{5,Al,fun c hc=>?_};have nDc:D≠c:=zq fv hc;refine{zF hc _ _ fv,(zG.mp hx).1,by rw[zH,ie];rfl,fun j y hy=>?_,Av (s4.trans (zF hc)) hD,zI};by_cases cj:j<i
   . rw[ze (by lia)] at hy;obtain⟨c',e,h1,h2,h3⟩:=hys j y hy;refine{c',e,h1,h2,?_};rw[zj (Bu h3 fv (by intro z;cases z))];exact zF hc _ _ h3
   . have ej:j=i:=by have:=(zG.mp hy).1;rw[zH,ie] at this;simp at this;lia
     subst ej;rw[za (by lia),ie,Fz] at hy;have ey:V.ref c=y:=by simpa using hy
     subst ey;exact{c,x,0,hx,by rw[zj (Ne.symm nDc)];exact zI}
 . obtain⟨_,ie,hys,s4,fv⟩:=h;rw[zB,EB.1] at ie;refine{D,ys,fs.map fun e=>(Sum.inl e.h,V.int e.l),0,AD.of fv,{by rw[zB,ie],fun j y hy=>?_},fun dd jB=>?_}
   . obtain⟨c,e,h1,h2,h3⟩:=hys j y hy;exact{c,Sum.inl e.h,.int e.l,h1,h3,by rw[zN,h2];rfl}
   have hnd:((fs.map fun e=>((Sum.inl e.h:AQ),V.int e.l)).map (·.1)).Nodup:=by rw[List.map_map,List.Nodup,Fq];exact hF.imp fun h z=>by injection z with z;lia
   rw[Tf hnd];have gI:∀x:Int,Ah (fs.map fun e=>((Sum.inl e.h:AQ),V.int e.l)) (Sum.inl x)=(Bk fs x).map fun e=>V.int e.l:=fun x=>by
    unfold Ah Bk;rw[List.find?_map,Option.map_map];have:((fun kv:AQ×V=>decide (kv.1=Sum.inl x))∘fun e:En=>((Sum.inl e.h:AQ),V.int e.l))=fun e:En=>decide (e.h=x):=by
     funext e;show decide ((Sum.inl e.h:AQ)=Sum.inl x)=_;by_cases c:e.h=x
     . rw[zO c,zO (by rw[c])]
     . rw[zS c,zS (by intro z;injection z with z;exact c z)]
    rw[this];rfl
   have s5:AE H (upd H4 dd (.dK (fs.map fun e=>(Sum.inl e.h,V.int e.l)))):=s4.trans (zF jB);have jP:(upd H4 dd (.dK (fs.map fun e=>((Sum.inl e.h:AQ),V.int e.l)))) dd=some (.dK (fs.map fun e=>(Sum.inl e.h,V.int e.l))):=zI;generalize upd H4 dd (.dK (fs.map fun e=>((Sum.inl e.h:AQ),V.int e.l)))=H5 at s5 jP ⊢;generalize (fs.map fun e=>((Sum.inl e.h:AQ),V.int e.l))=eO at gI jP;refine{1,p,0,{_,AB.of (s5 _ _ hp)},[.ref dd],0,fun D2 fM=>?_};refine BJ (a:=p) (xs:=as.map V.ref) (fun i ys H6=>Ao H6 ys (((es.take i).filterMap (CM fs)).map fun c=>[c.1,c.2])/\AE H5 H6/\H6 D2=some (.lst ys)) {trivial,zF fM,zI} (fun i ys H6 h=>?_) (fun i ys H6 h=>?_) (fun i v ys H6 hv h=>?_) (fun ys H6 h=>?_)
   . exact AB.of (h.2.1 _ _ (s5 _ _ hp))
   . have:=h.1.length;rw[this,zB];exact Cv (List.length_filterMap_le _ _) (BV (by rw[zp];lia))
   . obtain⟨T6,s6,hV⟩:=h;obtain⟨a,x,rfl,hx,ha⟩:=EA.at hv;refine{a,1,AB.of (s6 _ _ (s5 _ _ ha)),0,6,6,6,2,{3},?_};refine{5,dd,1,BK.k (k:=Sum.inl x.h) (s6 _ _ jP),1,?_};have st:=We (CM fs) hx;have i8:=gI x.h;cases e:Bk fs x.h with
     | none=>
      rw[e] at i8;rw[i8];refine AZ ?_;have ec:CM fs x=none:=by unfold CM;rw[e];rfl
      refine{?_,s6,hV};rw[st,ec];simpa using T6
     | some g=>
      rw[e] at i8;have hv3:Ah eO (Sum.inl x.h)=some (.int g.l):=i8;rw[hv3];refine Ak ?_;have ec:CM fs x=some (x.l+g.l,x.h):=by unfold CM;rw[e];rfl
      refine{1,5,dd,.int g.l,0,hv3 ▸ BK.k (k:=Sum.inl x.h) (s6 _ _ jP),2,1,Al,fun c hc=>?_};refine{zF hc _ _ hV,?_,Av (s6.trans (zF hc)) fM,zI};rw[st,ec,zT];refine Ao.snoc (T6.keep fun b zs e=>?_) {c,0,?_,by intro z;cases z}
      . rw[zj (Bu e hV (by intro z;cases z))];exact zF hc _ _ e
      . rw[zj (Ne.symm (zq hV hc))];exact zI
   . obtain⟨T6,s6,hV⟩:=h;rw[zB,EA.1,zW (zK _)] at T6;have hmem:=fun c=>KH (es:=es) hF c;generalize es.filterMap (CM fs)=cs at T6 hmem;refine{5,Al,fun n hn=>?_};have s7:AE H (upd H6 n (.tup [.non,.non])):=(s5.trans s6).trans (zF hn);refine{D2,ys,0,.inl (AD.of (zF hn _ _ hV)),fun e0=>?_,.inl {_,T6.keep fun b zs e=>zF hn _ _ e,fun i y kk hy hk gp=>?_}}
     . refine k n none _ s7 (fun c z=>?_) zI;have:cs=[]:=by have:=T6.length;rw[e0,zB] at this;exact Hk.mp this.symm
       rw[<-hmem,this] at z;simp at z
     . obtain⟨a,k',e1,e2,e3,_⟩:=T6.get hy;rw[hk] at e2;cases e2;rw[zN] at hk;cases ec:cs[i]? with
       | none=>rw[ec] at hk;cases hk
       | some c=>
        rw[ec] at hk;have ek:[c.1,c.2]=kk:=zV hk;subst ek e1;refine k a (some c) _ s7 {(hmem c).mp (zQ ec),fun c' iH=>?_} (zF hn _ _ e3);have:=gp [c'.1,c'.2] (DS.mpr {c',(hmem c').mpr iH,0});rw[HT.lexLt_cons] at this;by_cases q:c'.1=c.1
        . rw[if_pos q,HT.lexLt_cons] at this;by_cases q2:c'.2=c.2
          . exact .inr {q.symm,by lia}
          . rw[if_neg q2] at this;have:=of_decide_eq_false this;exact .inr {q.symm,by lia}
        . rw[if_neg q] at this;have:=of_decide_eq_false this;exact .inl (by lia)
theorem Kv:zw GZ GZ (defScope Nh):=AV
theorem aD (F:Fu K "told" Nh f eQ) (FS:AF K mg "least_sum" HD fS fdS GZ) (gC:mg "dict"=none) (fu:mg "min"=none):AG P w K mg base AJ 2 f eQ GZ QR:=by have GS:AH P w base 1 FS JO:=Lm FS.F gC fu;refine F.okD Kv fun _ A _ _ H vs Q E hr h=>?_;obtain⟨p,q,es,fs,rfl,L1,L2',hF,k⟩:=h;refine{_,zY (AM (zt AU (AI GS hr FS (zC (pv 0) (zC (pv 1) zM))) zf)),?_};refine{5,p,q,es,fs,0,L1,L2',hF,fun r lm H' s1 hm gD=>?_};exact{r,8,AB.of gD,0,k lm H' s1 hm}
def Gu (ts:List T3)(rk:Int->Int)(h v:Int):Prop:=(∃d,WM.IsD ts h v d)/\∀p,Yn ts h v p->rk h<=rk p
def Hs (P:Int->Prop):Option Int->Prop
 | none=>∀p,¬ P p
 | some m=>P m/\∀p,P p->m<=p
structure Qz (ts:List T3)(n:Int)(rk:Int->Int)(v:Int)(e:En):Prop where
 rng:0<=e.h/\e.h<n
 hub:Gu ts rk e.h v
 len:WM.IsD ts v e.h e.l
 up:Hs (Bx ts v e.h) e.u
 dn:Hs (Bx ts e.h v) e.d
structure Ms (ts:List T3)(n:Int)(rk:Int->Int)(v:Int)(es:List En):Prop where
 hub:C3 es
 ent:∀e∈es,Qz ts n rk v e
 all:∀h,0<=h->h<n->Gu ts rk h v->∃e∈es,e.h=h
 len:es.length<=24
def EJ (H:Hp)(l:Addr)(eM:List (List En)):Prop:=∃as:List Addr,H l=some (.tup (as.map V.ref))/\as.length=eM.length/\∀(i:Nat)a,as[i]?=some a->∃es,eM[i]?=some es/\CI H a es
theorem EJ.keep (h:EJ H l eM)(k:∀b ys,H b=some (.tup ys)->H' b=some (.tup ys)):EJ H' l eM:=
 let ⟨as,h1,h2,h3⟩:=h;{as,k _ _ h1,h2,fun i a ha=>let ⟨es,e1,e2⟩:=h3 i a ha;{es,e1,e2.keep k}}
theorem aS (R:Rows ts n M)(x0:0<=x)(x1:x<n)(y0:0<=y)(y1:y<n)(h:WM.IsD ts x y d):0<=d/\d<=2376:=by
 have L:=R.2 x x0 x1;have l:=L.len y y0 y1;cases e:A8 (M.getD x.toNat []) y with
 | none=>rw[e] at l;exact absurd h.1 (l d)
 | some d'=>
  rw[e] at l;have ed:d'=d:=WM.IsD.uniq l h;subst ed;refine L.bd (some d') ?_ d' rfl;unfold A8 at e;rw[if_pos y0,zJ] at e;cases e2:(M.getD x.toNat [])[y.toNat]? with
  | none=>rw[e2] at e;cases e
  | some o=>rw[e2] at e;have eo:o=some d':=e;rw[<-eo];exact zQ e2
def Dt (n:Int)(os:List Int)(rk:Int->Int):Prop:=∀p,0<=p->p<n->0<=rk p/\os[(rk p).toNat]?=some p
def WH (ts:List T3)(n:Int)(rk:Int->Int)(eM:List (List En)):Prop:=eM.length=n.toNat/\∀(i:Nat)es,eM[i]?=some es->Ms ts n rk i es
theorem KN.mem {os:List Int}(O:KN n os)(h0:0<=p)(h1:p<n):p∈os:=by
 apply Nd;intro hn;have:=LH (n:=n.toNat) (l:=p::os) (D8.mpr ⟨hn,O.nd⟩) fun x hx=>by
  rcases zb.mp hx with rfl | hx
  . lia
  . have:=O.rng x hx;lia
 rw[zk,O.ln] at this
 lia
theorem Hs.some_of {P:Int->Prop}(h:Hs P o)(hp:P p):∃m,o=some m/\P m:=by
 cases o with
 | none=>exact absurd hp (h p)
 | some m=>exact{m,0,h.1}
theorem Ms.lg (G:GW n ts)(L:Ms ts n rk v es)(v0:0<=v)(v1:v<n):LG ts n v es:=by
 refine{L.hub,fun e he=>?_,?_}
 . have E:=L.ent e he;refine{E.rng,E.len,fun ft=>?_,fun ft=>?_}
   . obtain⟨p,hp⟩:=Bx.exists G E.len (Ne.symm ft);exact E.up.some_of hp
   . obtain⟨p,hp⟩:=Bx.exists G E.len.symm ft;exact E.dn.some_of hp
 . refine L.all v v0 v1 {⟨0,Jc G v⟩,fun p hp=>?_};obtain⟨a,b,ia,ib,iab⟩:=hp;have e0:a+b=0:=iab.uniq (Jc G v);have:=ia.1.nn G;have:=ib.1.nn G;have:a=0:=by lia
   rw[<-(NS G ia).mp this];exact Df _
theorem Vf (q):lowTo (q+1)=lowTo q++[(q:Int)]:=by unfold lowTo;rw[List.range_succ,zT];rfl
theorem D9 (q):(lowTo q).length=q:=by unfold lowTo;rw[zB,DG]
theorem Ta:∀(l:List Int)(k:Nat),(l.map V.int).eraseIdx k=(l.eraseIdx k).map V.int
 | [],_=>rfl
 | _::_,0=>rfl
 | x::r,k+1=>by show V.int x::(r.map V.int).eraseIdx k=V.int x::(r.eraseIdx k).map V.int;rw[Ta r k]
theorem UE:∀{l:List Int}{k:Nat}(h:k<l.length),(l[k]::l.eraseIdx k).Perm l
 | [],_,h=>absurd h (Ce _)
 | _::_,0,_=>List.Perm.refl _
 | x::r,k+1,h=>by
  have hk:k<r.length:=by simpa using h
  show (r[k]::x::r.eraseIdx k).Perm (x::r);exact (List.Perm.swap x r[k] _).trans ((UE hk).cons x)
def TM:Sp:=fun vs H Q _=>∃t N n,vs=[.ref t,.int n]/\Ae H t N/\N<900000/\1<=n/\n<=24 /\
 ∀l os H',H' l=some (.tup (os.map V.int))->KN n os->Ae H' t (N+24)->Sm t H H'->Q (.ref l) H'
theorem Qk:zw ["_law_tape_here","_law_n","_law_left","_law_found_here","_law_k"] GQ (defScope RS):=AV
theorem dy (F:Fu K "_law_order" RS f eQ) (FD:AF K mg "_law_draw" IA fD fdD HP)
 (eS:mg "len"=none) (eN:mg "range"=none) (eP:mg "tuple"=none) (eY:mg "list"=none):AG P w K mg base AJ 2 f eQ GQ TM:=by
 have GD:AH P w base 1 FD Sg:=TN FD.F eS;refine F.okD Qk fun _ A _ _ H vs Q E hr h=>?_;obtain⟨t,N,n,rfl,TT,hN,iw,gL,k⟩:=h;obtain⟨tp,TP⟩:=TT;refine{_,zR (Ab (i:=2) Qk.nd (XD rfl rfl eY rfl eN (zC (pv 1) zM)))
  (zR (Ab (i:=3) Qk.nd (BO zM))
  (zR (Au (Be rfl eN (zC (pv 1) zM)) (AW (i:=4) Qk.nd)
   (zY (B0 (Cz PySem.F.plainAttrs_list PySem.F.slot_list_append PySem.F.type_list_append Eg (pv 3)
    (zC (Cz PySem.F.plainAttrs_list PySem.F.slot_list_pop PySem.F.type_list_pop XJ (pv 2)
     (zC (AI GD hr FD (zC (pv 0) (zC (zy Bz eS (zC (pv 2) zM)) zM))) zM)) zM)))))
  (zY (AM (Cq F7 eP (zC (pv 3) zM)))))),?_}
 refine{1,n,0,by lia,by lia,fun lf hlf=>?_};obtain⟨ns0,sp0,re0,ht0,jV,_⟩:=id TP;have nlt:lf≠t:=(zq ht0 hlf).symm;have nlp:lf≠tp:=(zq jV hlf).symm;refine{zh _,fun D hD=>?_};have nDl:D≠lf:=fun z=>by rw[z,zI] at hD;cases hD
 have hD0:H D=none:=by rw[zj nDl] at hD;exact hD
 have nDt:D≠t:=(zq ht0 hD0).symm;have nDp:D≠tp:=(zq jV hD0).symm;refine{1,n,0,by lia,by lia,CL (lo:=0) (n:=n.toNat) (fun q σ H2=>GB fun (v4:Option V)(row left:List Int)=>σ=[some (.ref t),some (.int n),some (.ref lf),some (.ref D),v4]/\row.length=q/\(row++left).Perm (lowTo n.toNat)/\H2 lf=some (.lst (left.map V.int))/\H2 D=some (.lst (row.map V.int))/\CG H2 t tp (N+q)/\Sm t H H2)
  {none,[],lowTo n.toNat,3,List.Perm.refl _,by rw[zj nDl.symm,zI],zI,TP.keepF (fun o e=>by rw[zj nDt.symm,zj nlt.symm];exact e) (fun o e=>by rw[zj nDp.symm,zj nlp.symm];exact e) (by lia),(Sm.laid hlf).chg hD0} ?turn ?after}
 case after=>
  rintro σ H2 ⟨v4,row,left,rfl,hl,hp,jL,fM,TP2,s2⟩;have hleft:left=[]:=by have:=hp.length_eq;rw[zH,D9,hl] at this;exact Hk.mp (by lia)
  subst hleft;rw[zv] at hp;have nd:row.Nodup:=hp.nodup_iff.mpr ((QY _).imp fun h=>by lia);refine{1,D,1,.inl {AD.of fM,fun l gO=>?_}};refine k l row _ zI {hl,nd,fun p ij=>?_} (Ae.mono (Ae.laid ⟨tp,TP2⟩ gO) (by lia)) (s2.trans (Sm.laid gO));have:=M7.mp (hp.mem_iff.mp ij)
  lia
 case turn=>
  rintro q σ H2 hq ⟨v4,row,left,rfl,hl,hp,jL,fM,TP2,s2⟩;have hll:row.length+left.length=n.toNat:=by have:=hp.length_eq;rw[zH,D9] at this;exact this
  refine{1,.inl {0,_,AD.of fM},1,.inl {0,_,AD.of jL},?_};refine{5,lf,1,.inl (AD.of jL),t,tp,N+q,1,TP2,by lia,by rw[zB];lia,by rw[zB];lia,fun rr H3 h0 h1 TP3 e3=>?_};rw[zB] at h1;have eU:rr.toNat<left.length:=by lia
  refine{lf,left.map V.int,rr,rr.toNat,.int left[rr.toNat],3,by rw[e3 lf nlt];exact jL,by lia,by lia,PySem.StrLaws.seqIndex_nonneg h0 (by rw[zB];lia),by rw[zN,zD eU];rfl,?_};rw[Ta left rr.toNat];have s3:Sm t H H3:=fun b o nb e=>by rw[e3 b nb];exact s2 b o nb e
  have hlf0:H lf=none:=hlf;refine{D,2,by rw[zj nDl,e3 D nDt];exact fM,by rw[zB];exact Aq (by lia),?_};refine{_,row++[left[rr.toNat]],left.eraseIdx rr.toNat,0,by rw[zH,hl];rfl,?_,by rw[zj nDl.symm,zI],by rw[zT];exact zI,TP3.keepF (fun o e=>by rw[zj nDt.symm,zj nlt.symm];exact e) (fun o e=>by rw[zj nDp.symm,zj nlp.symm];exact e) (by lia),(s3.chg hlf0).chg hD0};refine List.Perm.trans ?_ hp;rw[Dk];exact (UE eU).append_left row
theorem IS (a):decide (oV (some a)=V.non)=false:=zS (by intro z;cases z)
def UM:Sp:=fun vs H Q _=>∃a b:Option Int,vs=[oV a,oV b]/\Q (oV (Dv a b)) H
def IY:Sp:=fun vs H Q _=>∃a b:Option Int,vs=[oV a,oV b]/\Q (oV (Dz a b)) H
def Cr (H:Hp)(rs:List Addr)(M:DT):Prop:=rs.length=M.length/\rs.Nodup/\∀(i:Nat)r row,rs[i]?=some r->M[i]?=some row->H r=some (.lst (row.map oV))
theorem Cr.keep (h:Cr H rs M)(k:∀b ys,H b=some (.lst ys)->b∈rs->H' b=some (.lst ys)):Cr H' rs M:={h.1,h.2.1,fun i r row a b=>k r _ (h.2.2 i r row a b) (zQ a)}
theorem Cr.get (h:Cr H rs M)(S:C7 n M)(ha:0<=a)(iY:a<n):∃r row,rs[a.toNat]?=some r/\M[a.toNat]?=some row/\M.getD a.toNat []=row/\row.length=n.toNat/\H r=some (.lst (row.map oV))/\∀y,A8 row y=A3 M a y:=by
 obtain⟨row,h1,h2,h3⟩:=S.row ha iY;have hl:a.toNat<rs.length:=by rw[h.1,S.ln];lia
 exact{rs[a.toNat],row,zD hl,h1,h2,h3,h.2.2 _ _ _ (zD hl) h1,fun y=>by unfold A3;rw[if_pos ha,h2]}
theorem Cr.set (h:Cr H rs M)(S:C7 n M)(ha:0<=a)(iY:a<n)(h1:rs[a.toNat]?=some r)(h2:M[a.toNat]?=some row):
 Cr (upd H r (.lst ((row.map oV).set b.toNat (oV v)))) rs (D7 M a b v):=by
 refine{by unfold D7;rw[List.length_set];exact h.1,h.2.1,fun i r' row' a1 a2=>?_};unfold D7 at a2;rw[List.getElem?_set] at a2;have eU:a.toNat<M.length:=(zG.mp h2).1;by_cases e:a.toNat=i
 . subst e;rw[if_pos rfl,if_pos eU] at a2;rw[h1] at a1;cases a1;cases a2;rw[zI,zJ,h2,Option.getD_some,List.map_set]
 . rw[if_neg e] at a2;have ft:r'≠r:=fun z=>by subst z;exact e ((List.getElem?_inj ((zG.mp h1).1) h.2.1).mp (h1.trans a1.symm))
   rw[zj ft];exact h.2.2 i r' row' a1 a2
theorem RI (hl:row.length=n.toNat)(h0:0<=y)(h1:y<n):BI (row.map oV) y=some (oV (A8 row y)):=by
 have eU:y.toNat<row.length:=by lia
 refine CB h0 ?_;rw[zN,zD eU];unfold A8;rw[if_pos h0,zJ,zD eU];rfl
noncomputable def Ex (a:Int)(j:Nat):List (Option Int):=(List.range j).map fun (b:Nat)=>if a=(b:Int) then some 0 else none
theorem XQ (a)(j):Ex a (j+1)=Ex a j++[if a=(j:Int) then some 0 else none]:=by unfold Ex;rw[List.range_succ,zT];rfl
theorem Vb (a)(j):(Ex a j).length=j:=by unfold Ex;rw[zB,DG]
theorem ZH {j:Nat}{y:Int}(h0:0<=y)(h1:y<j):A8 (Ex a j) y=if a=y then some 0 else none:=by
 unfold A8 Ex;rw[if_pos h0,zJ,zN,NC (by lia)];show (if a=((y.toNat:Nat):Int) then some 0 else none)=_
 rw[show ((y.toNat:Nat):Int)=y by lia]
def UD:Sp:=fun vs H Q _=>∃wa n ts,vs=[.ref wa]/\BF H wa n ts /\
 ∀fl rs M H',AE H H'->H' fl=some (.lst (rs.map V.ref))->Cr H' rs M->Rows ts n M->Q (.ref fl) H'
theorem QA:zw DJ DJ (defScope E7):=AV
theorem Wu (F:Fu K "_law_added" E7 f eQ):AG P w K mg base AJ 1 f eQ DJ UM:=by
 refine F.okD QA fun _ A _ _ H vs Q E hr h=>?_;obtain⟨a,b,rfl,k⟩:=h;refine{_,zY (AM (Hy (PW.pt (Bb (AR Dq (pv 0) Ar (AN _)) (Bs (AR Dq (pv 1) Ar (AN _))))) Ar (Aa CA (pv 0) (pv 1)))),?_};cases a with
 | none=>exact{1,7,Am (zO rfl) (Am rfl k)}
 | some a=>
  refine{1,7,As (IS a) ?_};cases b with
  | none=>exact{1,7,Am (zO rfl) k}
  | some b=>exact{1,7,As (IS b) {5,a,b,3,k}}
theorem Oo:zw DJ DJ (defScope HZ):=AV
theorem Kg (F:Fu K "_law_lesser" HZ f eQ) (fu:mg "min"=none):AG P w K mg base AJ 1 f eQ DJ IY:=by
 refine F.okD Oo fun _ A _ _ H vs Q E hr h=>?_;obtain⟨a,b,rfl,k⟩:=h;refine{_,zR (Ad (PW.pt (Bb (AR Dq (pv 0) Ar (AN _)) (Bs (AR Dq (pv 1) Ar (AN _))))) (zY (AM (Hy (AR Dq (pv 0) Ar (AN _)) (pv 1) (pv 0)))) Ac)
  (zY (AM (zy (Xe rfl) fu (zC (pv 0) (zC (pv 1) zM))))),?_}
 cases a with
 | none=>exact{1,7,Am (zO rfl) (Am rfl {1,7,Am (zO rfl) {1,k}})}
 | some a=>
  refine{1,7,As (IS a) ?_};cases b with
  | none=>exact{1,7,Am (zO rfl) {1,7,As (IS a) {1,k}}}
  | some b=>exact{1,7,As (IS b) {5,a,b,0,k}}
theorem EV:zw ["_law_web_here","_law_n","_law_ties","_law_far_here","_law_a","_law_b","_law_long","_law_k","_law_way"] DU (defScope Hh):=AV
theorem Ks (F:Fu K "_law_far" Hh f eQ) (FA:AF K mg "_law_added" E7 fA fdA DJ)
 (FL:AF K mg "_law_lesser" HZ fL fdL DJ) (eN:mg "range"=none) (fu:mg "min"=none):AG P w K mg base AJ 2 f eQ DU UD:=by
 have GA:AH P w base 1 FA UM:=Wu FA.F;have GL:AH P w base 1 FL IY:=Kg FL.F fu;refine F.okD EV fun _ A _ _ H vs Q E hr h=>?_;obtain⟨wa,n,ts,rfl,W,k⟩:=h;obtain⟨ta,tys,gB,gG,TA,G⟩:=id W;have iw:=G.n1;have gL:=G.n24;refine{_,zR (Gn (pv 0) (CC rfl (zx (B9 (i:=1) EV.nd rfl (Or.inr rfl)) (zx (AW (i:=2) EV.nd) Br))))
  (zR (Xg (yc := "_law_a") (i:=3) (own:=["_law_a"]) (cn:=["_law_n"]) (ci:=[1]) EV.nd rfl (Or.inl rfl) rfl (PJ rfl (fun _ _=>rfl) rfl rfl) {0,3,trivial} rfl
   (Be rfl eN (zC (pv 1) zM)) (fun _ _ _ _=>B9 (i:=0) (EK rfl) rfl (Or.inr rfl)) (fun _ _ _ _=>Bc)
   (fun _ _ _ _=>BQ (own:=["_law_b"]) (cn:=["_law_a"]) (ci:=[0]) rfl (Az rfl rfl) {0,3,trivial} rfl
    (Be rfl eN (zC (pv 1) zM)) (fun _ _ _ _=>Aw) (fun _ _ _ _=>Bc)
    (fun _ _ _ _=>Hy (AR BG (pv 1) (pv 0) (AN _)) zf Ar)))
  (zR (Au (Ay (pv 2)) (CC rfl (zx (AW (i:=4) EV.nd) (zx (AW (i:=5) EV.nd) (zx (AW (i:=6) EV.nd) Br))))
   (zR (Gn (pv 6) (Md (zt AY (pv 3) (pv 4)) (pv 5) My))
   (zY (Gn (pv 6) (Md (zt AY (pv 3) (pv 5)) (pv 4) My)))))
  (zR (Au (Be rfl eN (zC (pv 1) zM)) (AW (i:=7) EV.nd)
   (zY (Au (Be rfl eN (zC (pv 1) zM)) (AW (i:=4) EV.nd)
    (zY (Au (Be rfl eN (zC (pv 1) zM)) (AW (i:=5) EV.nd)
     (zR (Ab (i:=8) EV.nd (AI GA hr FA (zC (zt AY (zt AY (pv 3) (pv 4)) (pv 7)) (zC (zt AY (zt AY (pv 3) (pv 7)) (pv 5)) zM))))
     (zY (Gn (AI GL hr FL (zC (zt AY (zt AY (pv 3) (pv 4)) (pv 5)) (zC (pv 8) zM))) (Md (zt AY (pv 3) (pv 4)) (pv 5) My)))))))))
  (zY (AM (pv 3)))))),?_}
 refine{1,wa,1,AB.of gB,0,6,2,?_};refine{1,n,0,by lia,by lia,[.int n],0,fun D hD=>?_};refine IP (lo:=0) (n:=n.toNat) (fun q ys H1=>q<=n.toNat/\EU fun (rs:List Addr)(M:DT)=>ys=rs.map V.ref/\rs.length=q/\Cr H1 rs M/\(∀x:Nat,x<q->M[x]?=some (Ex x n.toNat))/\(∀r∈rs,H r=none/\r≠D)/\AE H H1/\H1 D=some (.lst ys))
  {zh _,[],[],3,{0,List.nodup_nil,fun i r row h=>by simp at h},fun x hx=>absurd hx (Ce _),fun r h=>by simp at h,zF hD,zI} (fun q ys H1 h=>?_) (fun q ys H1 hq h=>?_) (fun ys H1 h=>?_)
 . obtain⟨hq,rs,M,rfl,hl,_⟩:=h;rw[zB,hl];exact Aq (by lia)
 . obtain⟨_,rs,M,rfl,hl,R,L,fr,sm,gU⟩:=h;rw[Bt];refine{{3},?_};refine Bf ?_;refine{1,n,0,by lia,by lia,[.int q],0,fun D2 fM=>?_};have nD2:D2≠D:=fun z=>by rw[z,gU] at fM;cases fM
   refine IP (lo:=0) (n:=n.toNat) (fun j ys H2=>j<=n.toNat/\ys=(Ex q j).map oV/\AE H1 H2/\H2 D2=some (.lst ys))
    {zh _,0,zF fM,zI} (fun j ys H2 h=>?_) (fun j ys H2 hj h=>?_) (fun ys H2 h=>?_)
   . obtain⟨hj,rfl,_⟩:=h;rw[zB,Vb];exact Aq (by lia)
   . obtain⟨_,rfl,s2,h2⟩:=h;rw[Bt];refine{{3},?_};refine Bf ?_;refine{5,7,?_};by_cases e:(q:Int)=(j:Int)
     . refine Am (zO (congrArg V.int e)) ?_;refine{h2,hj,?_,Av s2 fM,zI};rw[XQ,if_pos e,zT];rfl
     . refine As (zS fun z=>e (V.int.inj z)) ?_;refine{h2,hj,?_,Av s2 fM,zI};rw[XQ,if_neg e,zT];rfl
   . obtain⟨_,rfl,s2,h2⟩:=h;have iD:H2 D=some (.lst (rs.map V.ref)):=s2 _ _ gU;have frD2:H D2=none:=by
      cases z:H D2 with
      | none=>rfl
      | some o=>rw[sm _ _ z] at fM;cases fM
     have nin:D2∉rs:=fun z=>by
      obtain⟨i,hi,e⟩:=zr z;have hM:i<M.length:=by rw[<-R.1];exact hi
      have:=R.2.2 i D2 M[i] (by rw[zD hi,e]) (zD hM);rw[fM] at this;cases this
     refine{iD,hq,rs++[D2],M++[Ex q n.toNat],by rw[zT];rfl,by rw[zH,hl];rfl,{by rw[zH,zH,R.1];rfl,?_,fun i r row h1 h3=>?_},fun x hx=>?_,fun r gD=>?_,Av (sm.trans s2) hD,zI}
     . exact Fs.mpr {R.2.1,by simp,fun a ha b hb=>by
        have e:b=D2:=by simpa using hb
        rw[e];exact fun z=>nin (z ▸ ha)}
     . have key:H2 r=some (.lst (row.map oV))/\r≠D:=by
        by_cases hi:i<rs.length
        . rw[ze hi] at h1;rw[ze (by rw[<-R.1];exact hi)] at h3;exact{s2 _ _ (R.2.2 i r row h1 h3),(fr r (zQ h1)).2}
        . rw[za (by lia)] at h1;rw[za (by rw[<-R.1];lia),<-R.1] at h3;cases hz:i-rs.length with
          | zero=>
           rw[hz] at h1 h3;have e1:D2=r:=by simpa using h1
           have e2:Ex q n.toNat=row:=by simpa using h3
           subst e1 e2;exact⟨h2,nD2⟩
          | succ k=>rw[hz] at h1;simp at h1
       rw[zj key.2];exact key.1
     . by_cases fK:x<q
       . rw[ze (by rw[<-R.1,hl];exact fK)];exact L x fK
       . have e:x=q:=by lia
         subst e;rw[za (by rw[<-R.1,hl];exact zK _),<-R.1,hl];simp
     . rcases zg.mp gD with z | z
       . exact fr r z
       . have e:r=D2:=by simpa using z
         rw[e];exact⟨frD2,nD2⟩
 . obtain⟨_,rs,M,rfl,hl,R,L,fr,sm,gU⟩:=h;have hML:M.length=n.toNat:=by rw[<-R.1,hl]
   have S0:C7 n M:={hML,fun r gD=>by obtain⟨i,hi,e⟩:=zr gD;have:=L i (by lia);rw[zD hi,e] at this;rw[zV this,Vb]}
   have M0:∀x y,0<=x->x<n->0<=y->y<n->A3 M x y=if x=y then some 0 else none:=fun x y hx fK hy fj=>by
    unfold A3
    rw[if_pos hx,zJ,L x.toNat (by lia),Option.getD_some,ZH hy (by lia),show ((x.toNat:Nat):Int)=x by lia]
   have wr:∀{H2:Hp}{r:Addr}{o:HO},r∈rs->AE H H2->AE H (upd H2 r o):=fun {H2 r o} gD s2=>Av s2 (fr r gD).1;have wD:∀{H2:Hp}{r:Addr}{o:HO},r∈rs->H2 D=some (.lst (rs.map V.ref))->(upd H2 r o) D=some (.lst (rs.map V.ref)):=fun {H2 r o} gD e=>by rw[zj (fr r gD).2.symm];exact e
   refine{1,ta,0,{_,AB.of (sm _ _ gG)},Ed (K:=K) (a:=ta) (xs:=tys)
    (fun i σ H2=>Rt fun (v4 v5 v6 v7 v8:Option V)(M:DT)=>σ=[some (.ref wa),some (.int n),some (.ref ta),some (.ref D),v4,v5,v6,v7,v8]/\AE H H2/\H2 D=some (.lst (rs.map V.ref))/\Cr H2 rs M/\C7 n M/\Ft (ts.take i) n (A3 M))
    {4,9,M,0,sm,gU,R,S0,by rw[Gf];exact Ft.nil n M0} (fun i σ H2 _ ⟨_,_,_,_,_,_,_,s,_⟩=>AB.of (s _ _ gG)) ?turn1 ?after1}
   case turn1=>
    rintro i y σ H2 hi ⟨v4,v5,v6,v7,v8,M2,rfl,s2,fM,R2,S2,T2⟩;obtain⟨ya,ky,rfl,f9,iK,_⟩:=TA.get hi;rw[zN] at f9;obtain⟨⟨a,b,c⟩,gg,rfl⟩:∃t:T3,ts[i]?=some t/\tl t=ky:=by
     cases e:ts[i]? with
     | none=>rw[e] at f9;cases f9
     | some t=>rw[e] at f9;exact{t,0,zV f9}
    have hm:=zQ gg;have hr3:=G.rng _ hm;simp only at hr3;obtain⟨ra,jf,a1,a2,a3,a4,a5,_⟩:=R2.get S2 (a:=a) (by lia) (by lia);have ma:=zQ a1;refine{ya,1,AB.of (s2 _ _ iK),0,6,6,2,?_};refine{1,5,D,4,.ref ra,3,AD.of fM,CB (by lia) (by rw[zN,a1];rfl),1,ra,_,b,b.toNat,3,a5,SW (by lia) (by rw[zB,a4];lia),?_};have R3:Cr (upd H2 ra (.lst ((jf.map oV).set b.toNat (.int c)))) rs (D7 M2 a b (some c)):=R2.set S2 (v:=some c) (by lia) (by lia) a1 a2;have S3:C7 n (D7 M2 a b (some c)):=S2.set (by lia) (by lia);have s3:=wr (o:=.lst ((jf.map oV).set b.toNat (.int c))) ma s2;have gE:=wD (o:=.lst ((jf.map oV).set b.toNat (.int c))) ma fM;generalize upd H2 ra (.lst ((jf.map oV).set b.toNat (.int c)))=H3 at R3 s3 gE ⊢;obtain⟨rb,rowb,b1,b2,b3,b4,b5,_⟩:=R3.get S3 (a:=b) (by lia) (by lia);have mb:=zQ b1;refine{1,5,D,4,.ref rb,3,AD.of gE,CB (show 0<=b by lia) (by rw[zN,b1];rfl),1,rb,_,a,a.toNat,3,b5,SW (by lia) (by rw[zB,b4];lia),?_};have R4:Cr (upd H3 rb (.lst ((rowb.map oV).set a.toNat (.int c)))) rs (D7 (D7 M2 a b (some c)) b a (some c)):=R3.set S3 (v:=some c) (by lia) (by lia) b1 b2;refine{_,9,6,wr mb s3,wD mb gE,R4,S3.set (by lia) (by lia),?_};have gW:ts=ts.take i++(a,b,c)::ts.drop (i+1):=by
     have iT:=(zG.mp gg)
     conv=>lhs;rw[<-Jw i ts,M6 iT.1,iT.2]
    have htk:ts.take (i+1)=ts.take i++[(a,b,c)]:=by rw[zu,gg];rfl
    rw[htk];refine (Ft.put (post:=ts.drop (i+1)) (by rw[<-gW];exact G) T2).congr fun x y hx fK hy fj=>?_;rw[Tx S3 (by lia) (by lia) (by lia) (by lia) hx fK,Tx S2 (by lia) (by lia) (by lia) (by lia) hx fK]
   case after1=>
    rintro σ H2 ⟨v4,v5,v6,v7,v8,M2,rfl,s2,fM,R2,S2,T2⟩;have eU:tys.length=ts.length:=by rw[TA.length,zB]
    rw[eU,List.take_length] at T2;have FC:=T2.fw G;refine{1,n,0,by lia,by lia,CL (lo:=0) (n:=n.toNat)
     (fun kk σ H3=>Rt fun (v4 v5 v6 v7 v8:Option V)(M:DT)=>σ=[some (.ref wa),some (.int n),some (.ref ta),some (.ref D),v4,v5,v6,v7,v8]/\AE H H3/\H3 D=some (.lst (rs.map V.ref))/\Cr H3 rs M/\C7 n M/\Fw ts n (A3 M)/\L4 ts n (kk:Int) (A3 M))
     {4,9,M2,0,s2,fM,R2,S2,FC.1,FC.2} ?turn2 ?after2}
    case after2=>
     rintro σ H3 ⟨v4,v5,v6,v7,v8,M3,rfl,s3,gE,R3,S3,f3,c3⟩;rw[show ((n.toNat:Nat):Int)=n by lia] at c3;exact{1,k D rs M3 H3 s3 gE R3 (aL G S3 f3 c3)}
    case turn2=>
     rintro kk σ H3 hkk ⟨v4,v5,v6,v7,v8,M3,rfl,s3,gE,R3,S3,f3,c3⟩;rw[Bt];refine{1,n,0,by lia,by lia,CL (lo:=0) (n:=n.toNat)
      (fun aa σ H4=>O4 fun (v4 v5 v6 v8:Option V)(M:DT)=>σ=[some (.ref wa),some (.int n),some (.ref ta),some (.ref D),v4,v5,v6,some (.int (kk:Int)),v8]/\AE H H4/\H4 D=some (.lst (rs.map V.ref))/\Cr H4 rs M/\C7 n M/\Fm ts n (kk:Int) (A3 M) (fun x _=>x<(aa:Int)))
      {_,9,M3,0,s3,gE,R3,S3,(Fm.enter f3 c3).congr (fun _ _ _ _ _ _=>rfl) fun x y hx _ _ _ z=>by lia} ?turn3 ?after3}
     case after3=>
      rintro σ H4 ⟨v4,v5,v6,v8,M4,rfl,s4,fv,R4,S4,F4⟩;have fc:=F4.leave fun x y _ fK _ _=>by lia
      exact{4,9,M4,0,s4,fv,R4,S4,fc.1,fc.2}
     case turn3=>
      rintro aa σ H4 haa ⟨v4,v5,v6,v8,M4,rfl,s4,fv,R4,S4,F4⟩;rw[Bt];refine{1,n,0,by lia,by lia,CL (lo:=0) (n:=n.toNat)
       (fun bb σ H5=>NG fun (v5 v6 v8:Option V)(M:DT)=>σ=[some (.ref wa),some (.int n),some (.ref ta),some (.ref D),some (.int (aa:Int)),v5,v6,some (.int (kk:Int)),v8]/\AE H H5/\H5 D=some (.lst (rs.map V.ref))/\Cr H5 rs M/\C7 n M/\Fm ts n (kk:Int) (A3 M) (fun x y=>x<(aa:Int)\/(x=(aa:Int)/\y<(bb:Int))))
       {9,M4,0,s4,fv,R4,S4,F4.congr (fun _ _ _ _ _ _=>rfl) fun x y _ _ hy _ z=>by lia} ?turn4 ?after4}
      case after4=>
       rintro σ H5 ⟨v5,v6,v8,M5,rfl,s5,hZ,R5,S5,F5⟩;exact{_,9,M5,0,s5,hZ,R5,S5,F5.congr (fun _ _ _ _ _ _=>rfl) fun x y _ _ _ fj z=>by lia}
      case turn4=>
       rintro bb σ H5 hbb ⟨v5,v6,v8,M5,rfl,s5,hZ,R5,S5,F5⟩;rw[Bt];obtain⟨ra,jf,a1,a2,a3,a4,a5,a6⟩:=R5.get S5 (a:=(aa:Int)) (by lia) (by lia);obtain⟨rk,rowk,k1,k2,k3,k4,k5,k6⟩:=R5.get S5 (a:=(kk:Int)) (by lia) (by lia);have ma:=zQ a1;refine{5,D,4,.ref ra,3,AD.of hZ,CB (by lia) (by rw[zN,a1];rfl),1,ra,8,AD.of a5,RI a4 (by lia) (by lia),?_};refine{5,D,4,.ref rk,3,AD.of hZ,CB (by lia) (by rw[zN,k1];rfl),1,rk,8,AD.of k5,RI k4 (by lia) (by lia),?_};refine{6,?_};refine{5,D,4,.ref ra,3,AD.of hZ,CB (by lia) (by rw[zN,a1];rfl),1,ra,8,AD.of a5,RI a4 (by lia) (by lia),?_};refine{1,6,?_};refine{5,D,4,.ref ra,3,AD.of hZ,CB (by lia) (by rw[zN,a1];rfl),1,ra,4,(bb:Int).toNat,3,a5,SW (by lia) (by rw[zB,a4];lia),?_};refine{4,6,wr ma s5,wD ma hZ,R5.set S5 (by lia) (by lia) a1 a2,S5.set (by lia) (by lia),?_};refine (Fm.step G F5 (a:=(aa:Int)) (b:=(bb:Int)) (by lia) (by lia) (by lia) (by lia) (by lia) (by lia)).congr (fun x y hx fK hy fj=>?_) fun x y _ _ _ _ z=>by lia
       rw[Tx S5 (by lia) (by lia) (by lia) (by lia) hx fK,a6,a6,k6]
def PD (ts:List T3)(eO:List (List AQ×V)):Prop:=∀x y:Int,(∀l,Ah eO [Sum.inl x,Sum.inl y]=some (.int l)↔Ai ts x y l)/\∀v,Ah eO [Sum.inl x,Sum.inl y]=some v->∃l,v=.int l
theorem PD.nil:PD [] []:=fun x y=>{fun l=>by simp[WJ,Ai],fun v h=>by simp[WJ] at h}
theorem Vu :([Sum.inl x,Sum.inl y]:List AQ)=[Sum.inl a,Sum.inl b]↔x=a/\y=b:=by simp
theorem PD.put (g:GW n ts)(e:ts=pre++(a,b,c)::post)(h:PD pre eO):PD (pre++[(a,b,c)]) (BH (BH eO [Sum.inl a,Sum.inl b] (.int c)) [Sum.inl b,Sum.inl a] (.int c)):=by
 have hin:(a,b,c)∈ts:=by rw[e];simp
 have ja:=(g.rng _ hin).2.1;simp only at ja;have sub:∀ {x y l},Ai (pre++[(a,b,c)]) x y l->Ai ts x y l:=fun h=>by
  rw[e];rcases h with h | h
  . refine .inl ?_;rcases zg.mp h with q | q
    . exact DP _ q
    . rw[zl.mp q];simp
  . refine .inr ?_;rcases zg.mp h with q | q
    . exact DP _ q
    . rw[zl.mp q];simp
 have new:Ai (pre++[(a,b,c)]) a b c:=.inl (by simp);intro x y;rw[TC,TC];by_cases h1:x=b/\y=a
 . obtain⟨rfl,rfl⟩:=h1;rw[if_pos rfl];refine{fun l=>{fun hl=>?_,fun ha=>?_},fun v hv=>{c,(zV hv).symm}}
   . have:c=l:=by have:=zV hl;injection this
     subst this;exact new.symm
   . rw[g.uniq (sub ha) (sub new.symm)]
 . rw[if_neg (fun z=>h1 (Vu.mp z))];by_cases h2:x=a/\y=b
   . obtain⟨rfl,rfl⟩:=h2;rw[if_pos rfl];refine{fun l=>{fun hl=>?_,fun ha=>?_},fun v hv=>{c,(zV hv).symm}}
     . have:c=l:=by have:=zV hl;injection this
       subst this;exact new
     . rw[g.uniq (sub ha) (sub new)]
   . rw[if_neg (fun z=>h2 (Vu.mp z))];refine{fun l=>?_,(h x y).2};rw[(h x y).1 l];constructor
     . rintro (q | q)
       . exact .inl (DP _ q)
       . exact .inr (DP _ q)
     . rintro (q | q)
       . rcases zg.mp q with q | q
         . exact .inl q
         . exfalso;have:=zl.mp q;injection this with q1 q2;injection q2 with q2 q3;exact h2 ⟨q1,q2⟩
       . rcases zg.mp q with q | q
         . exact .inr q
         . exfalso;have:=zl.mp q;injection this with q1 q2;injection q2 with q2 q3;exact h1 ⟨q2,q1⟩
theorem PD.some (h:PD ts eO)(x y):(Ah eO [Sum.inl x,Sum.inl y]).isSome=true↔∃l,Ai ts x y l:=by
 constructor
 . intro hs;obtain⟨v,hv⟩:=Jv.mp hs;obtain⟨l,rfl⟩:=(h x y).2 v hv;exact{l,((h x y).1 l).mp hv}
 . rintro ⟨l,ha⟩;rw[((h x y).1 l).mpr ha];rfl
theorem UC (a b):L8 (oV a) (oV b)=true:=by cases a <;> cases b <;> rfl
theorem TK:decide (oV none=V.non)=true:=zO rfl
theorem Tn (a b):decide (oV a=oV b)=decide (a=b):=decide_eq_decide.mpr {fun h=>by
 cases a with
 | none=>
  cases b with
  | none=>rfl
  | some b=>cases h
 | some a=>
  cases b with
  | none=>cases h
  | some b=>rw[V.int.inj h],fun h=>by rw[h]}
def Dg (H:Hp)(fl:Addr)(n:Int)(ts:List T3)(M:DT):Prop:=∃rs:List Addr,H fl=some (.lst (rs.map V.ref))/\Cr H rs M/\Rows ts n M
theorem ZD (R:Rows ts n M):C7 n M:={R.1,fun r hr=>by obtain⟨i,hi,e⟩:=zr hr;have h1:=R.1;have:=(R.2 (i:Int) (by lia) (by lia)).ln;rw[Bm,zJ,zD hi,Option.getD_some,e] at this;exact this}
theorem Dg.keep (h:Dg H fl n ts M)(k:∀b ys,H b=some (.lst ys)->H' b=some (.lst ys)):Dg H' fl n ts M:=by obtain⟨rs,a,b,c⟩:=h;exact{rs,k _ _ a,b.keep fun b ys e _=>k b ys e,c}
theorem Dg.get (h:Dg H fl n ts M)(hx:0<=x)(fK:x<n)(hy:0<=y)(fj:y<n):
 ∃rs r row,H fl=some (.lst rs)/\BI rs x=some (.ref r)/\H r=some (.lst row)/\BI row y=some (oV (A3 M x y))/\Cs ts x y (A3 M x y):=by
 obtain⟨rs,a,b,c⟩:=h;obtain⟨r,row,e1,e2,e3,e4,e5,e6⟩:=b.get (ZD c) hx fK;have L:=c.2 x hx fK;rw[e3] at L;refine{_,r,_,a,CB hx (by rw[zN,e1];rfl),e5,?_,?_}
 . rw[<-e6];exact RI e4 hy fj
 . rw[<-e6];exact L.len y hy fj
noncomputable def Cc (M:DT)(p x y:Int):Bool:=match A3 M x y with
 | none=>false
 | some d=>decide (Dv (A3 M x p) (A3 M p y)=some d)
theorem Wg (h:Dg H fl n ts M)(hp:0<=p)(ij:p<n)(hx:0<=x)(fK:x<n)(hy:0<=y)(fj:y<n):Cc M p x y=true↔Yn ts x y p:=by
 obtain⟨_,_,_,_,_,_,_,l1⟩:=h.get hx fK hy fj;obtain⟨_,_,_,_,_,_,_,l2⟩:=h.get hx fK hp ij;obtain⟨_,_,_,_,_,_,_,l3⟩:=h.get hp ij hy fj;unfold Cc;constructor
 . intro z;cases e:A3 M x y with
   | none=>rw[e] at z;cases z
   | some d=>rw[e] at z l1;obtain⟨a,b,e1,e2,e3⟩:=Wz (of_decide_eq_true z);rw[e1] at l2;rw[e2] at l3;exact{a,b,l2,l3,by rw[e3];exact l1}
 . rintro ⟨a,b,h1,h2,h3⟩;have e1:=Cs.uniq l1 (show Cs ts x y (some (a+b)) from h3);have e2:=Cs.uniq l2 (show Cs ts x p (some a) from h1);have e3:=Cs.uniq l3 (show Cs ts p y (some b) from h2);rw[e1,e2,e3];exact zO rfl
def Kj:Sp:=fun vs H Q _=>∃fl n ts M p x y,vs=[.ref fl,.int p,.int x,.int y]/\Dg H fl n ts M/\0<=p/\p<n/\0<=x/\x<n/\0<=y/\y<n/\Q (.bl (Cc M p x y)) H
def Q8:Sp:=fun vs H Q _=>∃wa n ts,vs=[.ref wa]/\BF H wa n ts/\∀d eO H',AE H H'->H' d=some (.dT eO)->PD ts eO->Q (.ref d) H'
def Ib:Sp:=fun vs H Q _=>∃wa fl,∃(n:Int),∃ts M,∃(x y:Int),vs=[.ref wa,.ref fl,.int x,.int y]/\BF H wa n ts/\Dg H fl n ts M/\0<=x/\x<n/\0<=y/\y<n /\
 ∀l(xs:List Int)H',AE H H'->H' l=some (.lst (xs.map V.int))->xs.Pairwise (· < ·)->(∀p,p∈xs↔Bx ts x y p)->Q (.ref l) H'
theorem Ol:zw ["_law_far_here","_law_place","_law_one","_law_other","_law_due"] RT (defScope RZ):=AV
theorem Ou (F:Fu K "_law_on" RZ f eQ) (FA:AF K mg "_law_added" E7 fA fdA DJ):AG P w K mg base AJ 2 f eQ RT Kj:=by
 have GA:AH P w base 1 FA UM:=Wu FA.F;refine F.okD Ol fun _ A _ _ H vs Q E hr h=>?_;obtain⟨fl,n,ts,M,p,x,y,rfl,FR,hp,ij,hx,fK,hy,fj,k⟩:=h;refine{_,zR (Ab (i:=4) Ol.nd (zt AY (zt AY (pv 0) (pv 2)) (pv 3)))
  (zY (AM (Ba (BN Ff (pv 4) Ar (AN _)) (Bl (BN BG (AI GA hr FA (zC (zt AY (zt AY (pv 0) (pv 2)) (pv 1)) (zC (zt AY (zt AY (pv 0) (pv 1)) (pv 3)) zM))) (pv 4) (AN _)))))),?_}
 obtain⟨r1,a1,w1,f1,g1,i1,j1,_⟩:=FR.get hx fK hy fj;obtain⟨r2,a2,w2,f2,g2,i2,j2,_⟩:=FR.get hx fK hp ij;obtain⟨r3,a3,w3,f3,g3,i3,j3,_⟩:=FR.get hp ij hy fj;refine{5,fl,4,.ref a1,3,AD.of f1,g1,1,a1,8,AD.of i1,j1,?_};refine{1,7,?_};unfold Cc at k;cases e:A3 M x y with
 | none=>rw[e] at k;exact As (by rw[TK];rfl) k
 | some d=>rw[e] at k;refine Am (by rw[IS];rfl) ?_;refine{5,fl,4,.ref a2,3,AD.of f2,g2,1,a2,8,AD.of i2,j2,?_};refine{5,fl,4,.ref a3,3,AD.of f3,g3,1,a3,8,AD.of i3,j3,?_};refine{_,5,UC _ (some d),?_};rw[Tn];exact k
theorem NU:zw Yt DU (defScope E3):=AV
theorem YD (F:Fu K "_law_joined" E3 f eQ):AG P w K mg base AJ 1 f eQ DU Q8:=by
 refine F.okD NU fun _ A _ _ H vs Q E hr h=>?_;obtain⟨wa,n,ts,rfl,W,k⟩:=h;obtain⟨ta,tys,gB,gG,TA,G⟩:=id W;have eU:tys.length=ts.length:=by rw[TA.length,zB]
 have hu:=Ey hr;refine{_,zR (Ab (i:=1) NU.nd Xu)
  (zR (Au (Ay (zt AU (pv 0) zf)) (CC rfl (zx (AW (i:=2) NU.nd) (zx (AW (i:=3) NU.nd) (zx (AW (i:=4) NU.nd) Br))))
   (zR (Nu hu (pv 1) (Af (zC (pv 2) (zC (pv 3) zM))) (pv 4) rfl) (zY (Nu hu (pv 1) (Af (zC (pv 3) (zC (pv 2) zM))) (pv 4) rfl))))
  (zY (AM (pv 1)))),?_}
 intro d hd;refine{1,wa,8,AB.of (zF hd _ _ gB),0,ta,0,{_,AB.of (zF hd _ _ gG)},Ed (K:=K) (a:=ta) (xs:=tys)
  (fun j σ H5=>NG fun (v2 v3 v4:Option V)(eO:List (List AQ×V))=>σ=[some (.ref wa),some (.ref d),v2,v3,v4]/\AE H H5/\H5 d=some (.dT eO)/\eO.length<=2*j/\PD (ts.take j) eO)
  {9,[],0,zF hd,zI,zK _,PD.nil} (fun j σ H5 _ ⟨_,_,_,_,_,s5,_⟩=>AB.of (s5 _ _ gG)) ?turn1 ?after1}
 case turn1=>
  rintro j y σ H5 hj ⟨v2,v3,v4,eO,rfl,s5,jP,hkl,pd⟩;obtain⟨ya,ky,rfl,f9,iK,_⟩:=TA.get hj;rw[zN] at f9;obtain⟨⟨x,z,c⟩,htj,rfl⟩:∃t:T3,ts[j]?=some t/\tl t=ky:=by
   cases e:ts[j]? with
   | none=>rw[e] at f9;cases f9
   | some t=>rw[e] at f9;exact{t,0,zV f9}
  have hjl:j<ts.length:=(zG.mp htj).1;have ik:=G.len;refine{ya,1,AB.of (s5 _ _ iK),0,6,6,2,?_};refine{5,5,Al,fun p hp=>?_};refine{d,1,IG.t (k:=[Sum.inl x,Sum.inl z]) (zF hp _ _ jP) zI (Aq (by lia)),?_};refine{5,5,Al,fun p2 gk=>?_};refine{d,1,IG.t (k:=[Sum.inl z,Sum.inl x]) (zF gk _ _ zI) zI (Aq (BX (Jl _ _ _) (by lia))),?_};refine{4,6,?_,zI,BX (Jl _ _ _) (BX (Nat.succ_le_succ (Jl _ _ _)) (by lia)),?_}
  . have a1:AE H (upd (upd H5 p (.tup [.int x,.int z])) d (.dT (BH eO [Sum.inl x,Sum.inl z] (.int c)))):=Av (s5.trans (zF hp)) hd;exact Av (a1.trans (zF gk)) hd
  . rw[zu,htj];refine PD.put G (post:=ts.drop (j+1)) ?_ pd;have e1:ts.drop j=(x,z,c)::ts.drop (j+1):=by rw[M6 hjl];rw[zD hjl] at htj;rw[zV htj]
    rw[<-e1,Jw]
 case after1=>
  rintro σ H5 ⟨v2,v3,v4,eO,rfl,s5,jP,hkl,pd⟩;rw[eU,zW (zK _)] at pd;exact{1,k d eO H5 s5 jP pd}
noncomputable def nb (eO:List (List AQ×V))(M:DT)(x y d p:Int):Bool:=match Ah eO [Sum.inl x,Sum.inl p],A3 M p y with
 | some (.int l),some b=>decide (l+b=d)
 | _,_=>false
theorem RN:zw ["_law_web_here","_law_far_here","_law_one","_law_other","_law_due","_law_pairs","_law_some"] Rx (defScope HM):=AV
theorem Lr (F:Fu K "_law_nexts" HM f eQ) (FJ:AF K mg "_law_joined" E3 fJ fdJ DU) (eN:mg "range"=none):AG P w K mg base AJ 2 f eQ Rx Ib:=by
 have GJ:AH P w base 1 FJ Q8:=YD FJ.F;refine F.okD RN fun _ A _ _ H vs Q E hr h=>?_;obtain⟨wa,fl,n,ts,M,x,y,rfl,W,FR,hx,fK,hy,fj,k⟩:=h;obtain⟨ta,tys,gB,gG,TA,G⟩:=id W;have hu:=Ey hr;have iw:=G.n1;have gL:=G.n24;refine{_,zR (Dc (i:=4) RN.nd rfl (Or.inr rfl) (zt AY (zt AY (pv 1) (pv 2)) (pv 3)))
  (zR (Ad (PW.pt (Bb (AR BG (pv 2) (pv 3) (AN _)) (Bs (AR Dq (pv 4) Ar (AN _))))) (zY (AM (BO zM))) Ac)
  (zR (Dc (i:=5) RN.nd rfl (Or.inr rfl) (AI GJ hr FJ (zC (pv 0) zM)))
  (zR (Ea (i:=6) (own:=["_law_place"]) (cn:=["_law_one","_law_pairs"]) (ci:=[2,5]) RN.nd rfl (Or.inl rfl) rfl (Az rfl rfl) {3,3,3,trivial} rfl
   (Be rfl eN (zC (zt AU (pv 0) zf) zM)) (fun _ _ _ _=>Aw)
   (fun _ _ _ _=>C0 (Gx (Na hu (Af (zC (pv 1) (zC (pv 0) zM))) (pv 2)))) (fun _ _ _ _=>pv 0))
  (zY (AM (BQ (own:=["_law_place"]) (cn:=["_law_pairs","_law_one","_law_far_here","_law_other","_law_due"]) (ci:=[5,2,1,3,4]) rfl (Az rfl rfl) {0,3,3,3,3,3,3,3,trivial} rfl
   (Ep (pv 6)) (fun _ _ _ _=>Aw)
   (fun _ _ _ _=>C0 (AR BG (Aa CA (Ja hu (pv 1) (Af (zC (pv 2) (zC (pv 0) zM))) (fun _ _=>rfl)) (zt Qh (zt Qh (pv 3) (pv 0)) (pv 4))) (pv 5) (AN _)))
   (fun _ _ _ _=>pv 0))))))),?_}
 obtain⟨r1,a1,w1,f1,g1,i1,j1,l1⟩:=FR.get hx fK hy fj;refine{5,fl,4,.ref a1,3,AD.of f1,g1,1,a1,8,AD.of i1,j1,?_};refine{5,7,?_};by_cases hxy:x=y
 . refine Am (zO (congrArg V.int hxy)) (Am rfl ?_);exact{zh _,fun l hl=>k l [] _ (zF hl) zI Jo fun p=>{fun z=>by simp at z,fun z=>absurd hxy (Bx.ne G z)}}
 refine As (zS fun z=>hxy (V.int.inj z)) ?_;refine{1,7,?_};cases e:A3 M x y with
 | none=>rw[e] at l1;refine Am TK ?_;exact{zh _,fun l hl=>k l [] _ (zF hl) zI Jo fun p=>{fun z=>by simp at z,fun ⟨l,b,_,_,z⟩=>absurd z.1 (l1 _)}}
 | some d=>
  rw[e] at l1;have hxy':WM.IsD ts x y d:=l1;refine As (IS d) ?_;refine{1,wa,n,ts,0,W,fun dd eO H1 s1 hd1 pd=>?_};refine{1,wa,8,AB.of (s1 _ _ gB),0,n,0,by lia,by lia,[.int x,.ref dd],0,fun D hD=>?_};refine IP (lo:=0) (n:=n.toNat) (fun q ys H7=>q<=n.toNat/\ys=((lowTo q).filter fun o=>(Ah eO [Sum.inl x,Sum.inl o]).isSome).map V.int/\AE H1 H7/\H7 D=some (.lst ys)) {zh _,0,zF hD,zI} (fun q ys H7 h=>?_) (fun q ys H7 hq h=>?_) (fun ys H7 h=>?_)
  . obtain⟨hq,rfl,_⟩:=h;rw[zB];refine Cv (C8 _ _) (Aq ?_);rw[lowTo,zB,DG]
    lia
  . obtain⟨_,rfl,s7,hD7⟩:=h;rw[Bt];refine{{3},?_};refine{5,Al,fun p hp=>?_};refine{1,dd,1,BK.t (k:=[Sum.inl x,Sum.inl (q:Int)]) (zF hp _ _ (s7 _ _ hd1)) zI,1,?_};refine Bj (fun hc=>?_) (fun hc=>?_)
    . refine{1,zF hp _ _ hD7,hq,?_,Av (s7.trans (zF hp)) hD,zI};rw[Vf,Hr,J0 (p:=fun o=>(Ah eO [Sum.inl x,Sum.inl o]).isSome) hc,Ei,zT];rfl
    . refine{hq,?_,s7.trans (zF hp),zF hp _ _ ?_}
      . rw[Vf,Hr,IK (p:=fun o=>(Ah eO [Sum.inl x,Sum.inl o]).isSome) hc,Ei,zv]
      . exact hD7
  . obtain⟨_,rfl,s7,hD7⟩:=h;generalize hsm:((lowTo n.toNat).filter fun o=>(Ah eO [Sum.inl x,Sum.inl o]).isSome)=sm at hD7 ⊢;have sm_rise:sm.Pairwise (· < ·):=by rw[<-hsm];exact (QY _).sublist List.filter_sublist
    have sm_mem:∀p,p∈sm↔∃l,Ai ts x p l:=fun p=>by
     rw[<-hsm,ES,pd.some];refine{fun h=>h.2,fun h=>{M7.mpr ?_,h}};obtain⟨c,ha⟩:=h;have:=G.adj ha
     lia
    have sm_len:sm.length<=24:=by
     rw[<-hsm];refine BX (C8 _ _) ?_;rw[lowTo,zB,DG]
     lia
    have nb_iff:∀p,p∈sm.filter (nb eO M x y d)↔Bx ts x y p:=fun p=>by
     rw[ES,sm_mem];constructor
     . rintro ⟨⟨l,ha⟩,hb⟩;have iX:=G.adj ha;obtain⟨_,_,_,_,_,_,_,l3⟩:=FR.get (x:=p) (y:=y) (by lia) (by lia) hy fj;unfold nb at hb;rw[((pd x p).1 l).mpr ha] at hb;cases e2:A3 M p y with
       | none=>rw[e2] at hb;cases hb
       | some b=>rw[e2] at hb l3;have hs:l+b=d:=of_decide_eq_true hb;exact{l,b,ha,l3,by rw[hs];exact hxy'}
     . rintro ⟨l,b,ha,h2,h3⟩;have iX:=G.adj ha;obtain⟨_,_,_,_,_,_,_,l3⟩:=FR.get (x:=p) (y:=y) (by lia) (by lia) hy fj;refine{⟨l,ha⟩,?_};unfold nb;rw[((pd x p).1 l).mpr ha,Cs.uniq l3 (show Cs ts p y (some b) from h2)];exact zO (WM.IsD.uniq h3 hxy')
    refine{1,D,0,{_,AD.of hD7},[.ref dd,.int x,.ref fl,.int y,.int d],0,fun D2 fM=>?_};have nDD:D≠D2:=zq hD7 fM;refine Nf (a:=D) (xs:=sm.map V.int) (fun i ys H8=>ys=((sm.take i).filter (nb eO M x y d)).map V.int/\AE H7 H8/\H8 D2=some (.lst ys)) {0,zF fM,zI} (fun i ys H8 h=>?_) (fun i ys H8 h=>?_) (fun i v ys H8 hv h=>?_) (fun ys H8 h=>?_)
    . exact AD.of (h.2.1 _ _ hD7)
    . rw[h.1,zB];refine Cv (C8 _ _) (Aq ?_);rw[zp];lia
    . obtain⟨rfl,s8,hD8⟩:=h;obtain⟨p,hp,rfl⟩:∃p,sm[i]?=some p/\V.int p=v:=by
       rw[zN] at hv;cases e:sm[i]? with
       | none=>rw[e] at hv;cases hv
       | some p=>rw[e] at hv;exact{p,0,zV hv}
      obtain⟨l,ha⟩:=(sm_mem p).mp (zQ hp);have iX:=G.adj ha;have gI:=((pd x p).1 l).mpr ha;have s18:AE H H8:=s1.trans (s7.trans s8);refine{{3},?_};refine{1,5,Al,fun q hq=>?_};have sq:AE H (upd H8 q (.tup [.int x,.int p])):=s18.trans (zF hq);obtain⟨r3,a3,w3,f3,g3,i3,j3,l3⟩:=(FR.keep fun b ys e=>sq _ _ e).get (x:=p) (y:=y) (by lia) (by lia) hy fj;obtain⟨b,eb⟩:∃b,A3 M p y=some b:=by
       cases e2:A3 M p y with
       | none=>rw[e2] at l3;exact absurd ((WM.Way.one ha).symm.trans hxy'.1) (l3 _)
       | some b=>exact{b,0}
      rw[eb] at j3;refine{dd,1,gI ▸ BK.t (k:=[Sum.inl x,Sum.inl p]) (zF hq _ _ (s8 _ _ (s7 _ _ hd1))) zI,?_};refine{5,fl,4,.ref a3,3,AD.of f3,g3,1,a3,8,AD.of i3,j3,l,b,3,?_};refine{1,7,?_};have ek:sm.take (i+1)=sm.take i++[p]:=by rw[zu,hp];rfl
      have enb:nb eO M x y d p=decide (l+b=d):=by unfold nb;rw[gI,eb]
      by_cases hs:l+b=d
      . refine Am (zO (congrArg V.int hs)) ?_;refine{1,zF hq _ _ hD8,?_,Av (s8.trans (zF hq)) fM,zI};rw[ek,Hr,J0 (by rw[enb];exact zO hs),Ei,zT];rfl
      . refine As (zS fun z=>hs (V.int.inj z)) ?_;refine{?_,s8.trans (zF hq),zF hq _ _ hD8};rw[ek,Hr,IK (by rw[enb,zS hs];decide),Ei,zv]
    . obtain⟨rfl,s8,hD8⟩:=h;rw[zB,List.take_length] at hD8;exact k D2 _ H8 (s1.trans (s7.trans s8)) hD8 (sm_rise.sublist List.filter_sublist) nb_iff
def UG:Sp:=fun vs H Q _=>∃wa fl n ts M v h,vs=[.ref wa,.ref fl,.int v,.int h]/\BF H wa n ts/\Dg H fl n ts M/\0<=v/\v<n/\0<=h/\h<n/\(∃d,WM.IsD ts h v d) /\
 ∀a e H',AE H H'->H' a=some (.tup (eV e))->e.h=h->WM.IsD ts v h e.l->Hs (Bx ts v h) e.u->Hs (Bx ts h v) e.d->Q (.ref a) H'
theorem Y0 :BI ((x::l).map V.int) 0=some (.int x):=CV (j:=0) rfl
theorem XX {P:Int->Prop}(r:xs.Pairwise (· < ·))(m:∀p,p∈xs↔P p)(ne:∃p,P p):∃x r,xs=x::r/\Hs P (some x):=by
 obtain⟨p,hp⟩:=ne;cases xs with
 | nil=>exact absurd ((m p).mpr hp) (by simp)
 | cons x l=>
  refine{x,l,0,(m x).mp zX,fun q hq=>?_};rcases zb.mp ((m q).mpr hq) with e | e
  . lia
  . have:=(Gy.mp r).1 q e
    lia
theorem LX:zw QD QD (defScope Qx):=AV
theorem bN (F:Fu K "_law_entry" Qx f eQ) (FN:AF K mg "_law_nexts" HM fN fdN Rx) (GN:AH P w base 2 FN Ib):
 AG P w K mg base AJ 3 f eQ QD UG:=by
 refine F.okD LX fun _ A _ _ H vs Q E hr h=>?_;obtain⟨wa,fl,n,ts,M,v,h,rfl,W,FR,v0,v1,h0,h1,⟨d,hd⟩,k⟩:=h;obtain⟨_,_,_,_,_,G⟩:=id W;refine{_,zR (Ad (AR BG (pv 2) (pv 3) (AN _)) (zY (AM (Af (zC (pv 3) (zC zf (zC Ar (zC Ar zM))))))) Ac)
  (zY (AM (Af (zC (pv 3) (zC (zt AY (zt AY (pv 1) (pv 2)) (pv 3))
   (zC (zt AY (AI GN hr FN (zC (pv 0) (zC (pv 1) (zC (pv 2) (zC (pv 3) zM))))) zf)
   (zC (zt AY (AI GN hr FN (zC (pv 0) (zC (pv 1) (zC (pv 3) (zC (pv 2) zM))))) zf) zM))))))),?_}
 refine{5,7,?_};by_cases c:v=h
 . subst c;refine Am (zO rfl) ?_;refine{1,VN,fun p hp=>?_};have hz:Hs (Bx ts v v) none:=fun p hp=>Bx.ne G hp rfl;exact k p ⟨v,0,none,none⟩ _ (zF hp) zI rfl (Jc G v) hz hz
 . refine As (zS fun z=>c (V.int.inj z)) ?_;obtain⟨rs,r,row,f1,f2,f3,f4,f5⟩:=FR.get v0 v1 h0 h1;have hv:WM.IsD ts v h d:=hd.symm;obtain⟨d',em⟩:∃d',A3 M v h=some d':=by
    cases e:A3 M v h with
    | some d'=>exact{d',0}
    | none=>rw[e] at f5;exact absurd hv.1 (f5 d)
   rw[em] at f4 f5;refine{1,5,fl,4,.ref r,3,AD.of f1,f2,1,r,8,AD.of f3,f4,?_};refine{5,5,wa,fl,n,ts,M,v,h,0,W,FR,v0,v1,h0,h1,fun l xs H1 s1 hl rise mem=>?_};obtain⟨u,ur,rfl,mu⟩:=XX rise mem (Bx.exists G hv c);refine⟨l,_,0,.int u,rfl,rfl,AD.of hl,Y0,?_⟩;refine{5,5,wa,fl,n,ts,M,h,v,0,W.keep s1,FR.keep fun b ys e=>s1 _ _ e,h0,h1,v0,v1,fun l2 xs2 H2 s2 gJ rise2 mem2=>?_};obtain⟨dn,dr,rfl,md⟩:=XX rise2 mem2 (Bx.exists G hd fun z=>c z.symm);refine⟨l2,_,0,.int dn,rfl,rfl,AD.of gJ,Y0,?_⟩;refine{VN,fun p hp=>?_};exact k p {h,d',some u,some dn} _ ((s1.trans s2).trans (zF hp)) zI rfl f5 mu md
def Tg:Sp:=fun vs H Q _=>∃wa p n ts os,vs=[.ref wa,.ref p]/\BF H wa n ts/\H p=some (.tup (os.map V.int))/\KN n os /\
 ∀l eM rk H',AE H H'->EJ H' l eM->Dt n os rk->WH ts n rk eM->(∀es∈eM,∀e∈es,0<=e.l/\e.l<=2376)->Q (.ref l) H'
theorem Dt.ex {os:List Int}(O:KN n os):∃rk,Dt n os rk:=by
 classical
 refine{fun p=>if h:∃i:Nat,os[i]?=some p then ((Classical.choose h:Nat):Int) else 0,fun p h0 h1=>?_}
 obtain⟨i,hi,ei⟩:=zr (O.mem (p:=p) h0 h1);have hex:∃i:Nat,os[i]?=some p:={i,by rw[zD hi,ei]};simp only[hex,dif_pos];exact{by lia,by rw[Bm];exact Classical.choose_spec hex}
theorem Wd {os:List Int}(O:KN n os)(R:Dt n os rk)(h0:0<=h)(h1:h<n)(x0:0<=x)(x1:x<n):x∈os.take (rk h).toNat↔rk x<rk h:=by
 obtain⟨a0,a1⟩:=R h h0 h1;obtain⟨b0,b1⟩:=R x x0 x1;obtain⟨i1,e1⟩:=zG.mp a1;obtain⟨i2,e2⟩:=zG.mp b1;constructor
 . intro m;obtain⟨j,hj,ej⟩:=zr m;rw[zp] at hj;rw[List.getElem_take] at ej;have:=(List.getElem_inj O.nd).mp (ej.trans e2.symm)
   lia
 . intro l;rw[<-e2];exact List.mem_take_iff_getElem.mpr {(rk x).toNat,by lia,0}
theorem Y2 {os:List Int}(G:GW n ts)(FR:Dg H fl n ts M)(O:KN n os)(R:Dt n os rk)(h0:0<=h)(h1:h<n)(v0:0<=v)(v1:v<n):
 Gu ts rk h v↔(A3 M h v).isSome=true/\((os.take (rk h).toNat).filter fun x=>Cc M x h v)=[]:=by
 obtain⟨_,_,_,_,_,_,_,l1⟩:=FR.get h0 h1 v0 v1;constructor
 . rintro ⟨⟨d,hd⟩,z⟩;refine{?_,List.filter_eq_nil_iff.mpr fun x hx c=>?_}
   . cases e:A3 M h v with
     | none=>rw[e] at l1;exact absurd hd.1 (l1 d)
     | some _=>rfl
   . have xr:=O.rng x (List.mem_of_mem_take hx);have:=z x ((Wg FR xr.1 xr.2 h0 h1 v0 v1).mp c);have:=(Wd O R h0 h1 xr.1 xr.2).mp hx
     lia
 . rintro ⟨z1,z2⟩;refine{?_,fun x hx=>?_}
   . cases e:A3 M h v with
     | none=>rw[e] at z1;cases z1
     | some d=>rw[e] at l1;exact⟨d,l1⟩
   . obtain⟨a,b,ia,_⟩:=id hx;have xr:=ia.1.in_ G h0 h1;by_cases c:rk x<rk h
     . exact absurd ((Wg FR xr.1 xr.2 h0 h1 v0 v1).mpr hx) (List.filter_eq_nil_iff.mp z2 x ((Wd O R h0 h1 xr.1 xr.2).mpr c))
     . lia
theorem int_at {l:List Int}{i:Nat}(h:(l.map V.int)[i]?=some x):∃y,l[i]?=some y/\V.int y=x:=by
 rw[zN] at h;cases e:l[i]? with
 | none=>rw[e] at h;cases h
 | some y=>rw[e] at h;exact{y,0,zV h}
theorem Jk:zw ["_law_web_here","_law_order_here","_law_far_here","_law_labels_here","_law_place","_law_entries","_law_hub","_law_sooner"] Pm (defScope QN):=AV
theorem ZC (F:Fu K "_law_labels" QN f eQ) (FF:AF K mg "_law_far" Hh fF fdF DU) (GF:AH P w base 3 FF UD)
 (FO:AF K mg "_law_on" RZ fO fdO RT) (GO:AH P w base 3 FO Kj)
 (FE:AF K mg "_law_entry" Qx fE fdE QD) (GE:AH P w base 3 FE UG)
 (eN:mg "range"=none) (eP:mg "tuple"=none):AG P w K mg base AJ 4 f eQ Pm Tg:=by
 refine F.okD Jk fun _ A _ _ H vs Q E hr h=>?_;obtain⟨wa,p,n,ts,os,rfl,W,hp,O,k⟩:=h;obtain⟨ta,tys,gB,_,_,G⟩:=id W;have iw:=G.n1;have gL:=G.n24;have iL:=hr.units0;refine{_,zR (Dc (i:=2) Jk.nd rfl (Or.inr rfl) (AI GF hr FF (zC (pv 0) zM)))
  (zR (Ab (i:=3) Jk.nd (BO zM))
  (zR (Au (Be rfl eN (zC (zt AU (pv 0) zf) zM)) (B9 (i:=4) Jk.nd rfl (Or.inr rfl))
   (zR (Ab (i:=5) Jk.nd (BO zM))
   (zR (Au (Be rfl eN (zC (zt AU (pv 0) zf) zM)) (B9 (i:=6) Jk.nd rfl (Or.inr rfl))
    (zR (Ea (i:=7) (own:=Hc) (cn:=["_law_far_here","_law_hub","_law_place"]) (ci:=[2,6,4]) Jk.nd rfl (Or.inl rfl) rfl (Az rfl rfl) {0,3,3,3,3,trivial} rfl
     (Ay (Gj XB (pv 1) Gm (Gv (Le PySem.F.slot_tuple_index PySem.F.type_tuple_index aY (pv 1) (zC (pv 6) zM))))) (fun _ _ _ _=>Aw)
     (fun _ _ _ _=>C0 (A0 (AI GO hr FO (zC (pv 1) (zC (pv 0) (zC (pv 2) (zC (pv 3) zM))))))) (fun _ _ _ _=>pv 0))
    (zY (Ad (PW.pt (EL (AR Ff (zt AY (zt AY (pv 2) (pv 6)) (pv 4)) Ar (AN _)) (F8 (AR (SO iL) (pv 7) (BO zM) (AN _)))))
     (zY (B0 (Cz PySem.F.plainAttrs_list PySem.F.slot_list_append PySem.F.type_list_append Eg (pv 5) (zC (AI GE hr FE (zC (pv 0) (zC (pv 2) (zC (pv 4) (zC (pv 6) zM))))) zM)))) Ac))))
   (zY (B0 (Cz PySem.F.plainAttrs_list PySem.F.slot_list_append PySem.F.type_list_append Eg (pv 3) (zC (Cq F7 eP (zC (pv 5) zM)) zM)))))))
  (zY (AM (Cq F7 eP (zC (pv 3) zM)))))),?_}
 refine{1,wa,n,ts,0,W,fun fl A2 FM H0 s0 hfl FLR FRR=>?_};have FR0:Dg H0 fl n ts FM:=⟨A2,hfl,FLR,FRR⟩;have W0:=W.keep s0;have hwa0:=s0 _ _ gB;have jV:=s0 _ _ hp;obtain⟨rk,R⟩:=Dt.ex O;refine{zh _,fun D hD=>?_};refine{1,wa,8,AB.of (zF hD _ _ hwa0),0,n,0,by lia,by lia,CL (lo:=0) (n:=n.toNat) (fun q σ H1=>∃(v4 v5 v6 v7:Option V)(bs:List Addr)(eM:List (List En)),σ=[some (.ref wa),some (.ref p),some (.ref fl),some (.ref D),v4,v5,v6,v7]/\bs.length=q/\eM.length=q/\H1 D=some (.lst (bs.map V.ref))/\(∀(i:Nat)(b:Addr),bs[i]?=some b->∃es,eM[i]?=some es/\CI H1 b es)/\(∀(i:Nat)(es:List En),eM[i]?=some es->Ms ts n rk i es)/\AE H0 H1)
  {none,none,none,none,[],[],0,3,zI,(fun i b z=>by simp at z),(fun i b z=>by simp at z),zF hD} ?turn ?after}
 case after=>
  rintro σ H1 ⟨v4,v5,v6,v7,bs,eM,rfl,hbl,hel,gU,hlab,gF,s1⟩;refine{1,D,1,.inl {AD.of gU,fun l hl=>?_}};refine k l eM rk _ (s0.trans (s1.trans (zF hl))) {bs,zI,by lia,fun i b hb=>?_} R ⟨hel,gF⟩ ?bound
  case bound=>
   intro es hU e he;obtain⟨i,hi,ei⟩:=zr hU;have EO:=(gF i es (by rw[zD hi,ei])).ent e he;exact aS FRR (by lia) (by lia) EO.rng.1 EO.rng.2 EO.len
  obtain⟨es,e1,e2⟩:=hlab i b hb;exact{es,e1,e2.same (zF hl)}
 case turn=>
  rintro q σ H1 hq ⟨v4,v5,v6,v7,bs,eM,rfl,hbl,hel,gU,hlab,gF,s1⟩;rw[Bt];have q0:(0:Int)<=q:=by lia
  have qn:(q:Int)<n:=by lia
  refine{zh _,fun E' hE=>?_};have nED:D≠E':=zq gU hE;refine{1,wa,8,AB.of (zF hE _ _ (s1 _ _ hwa0)),0,n,0,by lia,by lia,CL (lo:=0) (n:=n.toNat) (fun j σ H2=>∃(v6 v7:Option V)(as:List Addr)(es:List En),σ=[some (.ref wa),some (.ref p),some (.ref fl),some (.ref D),some (.int q),some (.ref E'),v6,v7]/\H2 E'=some (.lst (as.map V.ref))/\DZ H2 as es/\C3 es/\(∀e∈es,Qz ts n rk q e/\e.h<j)/\(∀h:Int,0<=h->h<j->Gu ts rk h q->∃e∈es,e.h=h)/\es.length<=j/\AE H1 H2)
   {v6,v7,[],[],0,zI,{0,fun i a z=>by simp at z},Jo,(fun e z=>by simp at z),(fun h a b=>by lia),zK _,zF hE} ?turn2 ?after2}
  case after2=>
   rintro σ H2 ⟨v6,v7,as,es,rfl,hE2,EA,hub,ent,alh,jq,s2⟩;refine{1,.inl {0,_,AD.of (s2 _ _ gU)},?_};refine{1,E',1,.inl {AD.of hE2,fun l hl=>?_}};have sl:=zF (o:=.tup (as.map V.ref)) hl;refine{D,_,.ref l,3,sl _ _ (s2 _ _ gU),?_,?_}
   . rw[zB];exact Aq (by lia)
   . have kT:∀b ys,H1 b=some (.tup ys)->(upd (upd H2 l (.tup (as.map V.ref))) D (.lst (bs.map V.ref++[.ref l]))) b=some (.tup ys):=fun b ys e=>by
      have hb:b≠D:=fun z=>by rw[z,gU] at e;cases e
      rw[zj hb];exact sl _ _ (s2 _ _ e)
     have nlD:l≠D:=fun z=>by rw[z,s2 _ _ gU] at hl;cases hl
     have gO:(upd (upd H2 l (.tup (as.map V.ref))) D (.lst (bs.map V.ref++[.ref l]))) l=some (.tup (as.map V.ref)):=by rw[zj nlD];exact zI
     refine{_,9,bs++[l],eM++[es],0,by rw[zH,hbl];rfl,by rw[zH,hel];rfl,by rw[zI,zT];rfl,fun i b hb=>?_,fun i jb he=>?_,Av ((s1.trans s2).trans sl) hD}
     . by_cases c:i<bs.length
       . rw[ze c] at hb;obtain⟨jb,e1,e2⟩:=hlab i b hb;exact{jb,by rw[ze (by lia)];exact e1,e2.keep kT}
       . have hi:i=bs.length:=by have:=(zG.mp hb).1;rw[zH] at this;simp at this;lia
         subst hi;rw[za (zK _),Fz] at hb;have eb:l=b:=by simpa using hb
         subst eb;refine{es,by rw[za (by lia),hbl,hel,Fz];rfl,as,gO,EA.keep fun b ys e=>?_,by lia};have hb:b≠D:=fun z=>by rw[z,s2 _ _ gU] at e;cases e
         rw[zj hb];exact sl _ _ e
     . by_cases c:i<eM.length
       . rw[ze c] at he;exact gF i jb he
       . have hi:i=eM.length:=by have:=(zG.mp he).1;rw[zH] at this;simp at this;lia
         subst hi;rw[za (zK _),Fz] at he;have ee:es=jb:=by simpa using he
         subst ee;rw[hel];exact{hub,fun e he=>(ent e he).1,fun h h0 h1 z=>alh h h0 (by lia) z,by lia}
  case turn2=>
   rintro j σ H2 hj ⟨v6,v7,as,es,rfl,hE2,EA,hub,ent,alh,jq,s2⟩;rw[Bt];have j0:(0:Int)<=j:=by lia
   have jn:(j:Int)<n:=by lia
   obtain⟨rj0,jl⟩:=R (j:Int) j0 jn;obtain⟨iT,hie⟩:=zG.mp jl;have gk:=s2 _ _ (s1 _ _ jV);have iG:∀m,m<(rk j).toNat->os[m]?≠some (j:Int):=fun m hm e=>by
    obtain⟨hm',em⟩:=zG.mp e;have:=(List.getElem_inj O.nd).mp (em.trans hie.symm)
    lia
   have ec:B3 (os.map V.int) none (some (((rk j).toNat:Nat):Int))=(os.take (rk j).toNat).map V.int:=by unfold B3;rw[HT.sIx_none,HT.sIx_nat,List.drop_zero,Nat.sub_zero,zB,Nat.min_eq_left (by lia),List.map_take]
   refine{5,{p,1,gk},1,p,os,(rk j).toNat,j,3,AB.of gk,jl,iG,(((rk j).toNat:Nat):Int),0,p,1,AB.of gk,fun z=>?whole,fun _ t ht=>?_}
   case whole=>
    have z2:=z.2;rw[HT.sIx_nat,zB] at z2
    lia
   rw[ec];have st:=zF (o:=.tup ((os.take (rk j).toNat).map V.int)) ht;have ht3:(upd H2 t (.tup ((os.take (rk j).toNat).map V.int))) t=some (.tup ((os.take (rk j).toNat).map V.int)):=zI;generalize upd H2 t (.tup ((os.take (rk j).toNat).map V.int))=H3 at st ht3 ⊢;have FR3:Dg H3 fl n ts FM:=FR0.keep fun b ys e=>st _ _ (s2 _ _ (s1 _ _ e));refine{t,0,{_,AB.of ht3},[.ref fl,.int j,.int q],0,fun D3 gE=>?_};refine BJ (a:=t) (xs:=(os.take (rk j).toNat).map V.int) (fun m ys H4=>ys=(((os.take (rk j).toNat).take m).filter fun x=>Cc FM x j q).map V.int/\H4=upd H3 D3 (.lst ys)) {3} (fun m ys H4 z=>?_) (fun m ys H4 z=>?_) (fun m x ys H4 hx z=>?_) (fun ys H4 z=>?_)
   . obtain⟨_,rfl⟩:=z;exact AB.of (by rw[zj (zq ht3 gE)];exact ht3)
   . obtain⟨rfl,_⟩:=z;rw[zB];refine Cv (C8 _ _) ?_;rw[zp,zp];exact Aq (by have:=O.ln;lia)
   . obtain⟨rfl,rfl⟩:=z;obtain⟨y,hy,rfl⟩:=int_at hx;have yr:=O.rng y (List.mem_of_mem_take (zQ hy));have sty:((os.take (rk j).toNat).take (m+1)).filter (fun x=>Cc FM x j q)=((os.take (rk j).toNat).take m).filter (fun x=>Cc FM x j q)++[y].filter (fun x=>Cc FM x j q):=by rw[zu,hy,Hr];rfl
     refine{{3},?_};refine{5,5,fl,n,ts,FM,y,j,q,0,FR3.keep fun b ys e=>zF gE _ _ e,yr.1,yr.2,j0,jn,q0,qn,?_};refine{1,?_};by_cases c:Cc FM y j q=true
     . refine Am c ?_;refine{1,zI,?_,EE};rw[sty,J0 (p:=fun x=>Cc FM x j q) c,Ei,zT];rfl
     . refine As (Bool.not_eq_true _ ▸ c) {?_,0};rw[sty,IK (p:=fun x=>Cc FM x j q) c,Ei,zv]
   . obtain⟨rfl,rfl⟩:=z;rw[zB,zW (zK _)];have sD3:=zF (o:=.lst (((os.take (rk j).toNat).filter fun x=>Cc FM x j q).map V.int)) gE;have hDl:(upd H3 D3 (.lst (((os.take (rk j).toNat).filter fun x=>Cc FM x j q).map V.int))) D3=some (.lst (((os.take (rk j).toNat).filter fun x=>Cc FM x j q).map V.int)):=zI;generalize upd H3 D3 (.lst (((os.take (rk j).toNat).filter fun x=>Cc FM x j q).map V.int))=H4 at sD3 hDl ⊢;have FR4:Dg H4 fl n ts FM:=FR3.keep fun b ys e=>sD3 _ _ e;have s24:AE H2 H4:=st.trans sD3;have key:=Y2 G FR4 O R j0 jn q0 qn;obtain⟨rs1,r1,row1,f1,g1,i1,j1,l1⟩:=FR4.get (x:=(j:Int)) (y:=(q:Int)) j0 jn q0 qn;refine{5,fl,4,.ref r1,3,AD.of f1,g1,1,r1,8,AD.of i1,j1,7,?_};have stay:∀{Hx:Hp},AE H2 Hx->¬ Gu ts rk j q->∃(v6 v7:Option V)(as:List Addr)(es:List En),[some (V.ref wa),some (.ref p),some (.ref fl),some (.ref D),some (.int q),some (.ref E'),some (.int j),some (.ref D3)]=[some (.ref wa),some (.ref p),some (.ref fl),some (.ref D),some (.int q),some (.ref E'),v6,v7]/\Hx E'=some (.lst (as.map V.ref))/\DZ Hx as es/\C3 es/\(∀e∈es,Qz ts n rk q e/\e.h<((j+1:Nat):Int))/\(∀h:Int,0<=h->h<((j+1:Nat):Int)->Gu ts rk h q->∃e∈es,e.h=h)/\es.length<=j+1/\AE H1 Hx:=fun {Hx} sx nh=>
      {4,as,es,0,sx _ _ hE2,EA.keep fun b ys e=>sx _ _ e,hub,fun e he=>{(ent e he).1,by have:=(ent e he).2;lia},fun h h0 h1 z=>by
       by_cases c:h=j
       . subst c;exact absurd z nh
       . exact alh h h0 (by lia) z,by lia,s2.trans sx}
     cases e:A3 FM j q with
     | none=>
      have nh:¬ Gu ts rk j q:=fun z=>by have:=(key.mp z).1;rw[e] at this;cases this
      refine As (by rw[TK];rfl) ?_;exact AZ (stay s24 nh)
     | some d=>
      refine Am (by rw[IS];rfl) ?_;refine{1,zh _,fun b hb=>?_};have sb:=zF (o:=.lst []) hb;refine{D3,b,_,3,AD.of (sb _ _ hDl),AD.of zI,1,?_};by_cases c:((os.take (rk j).toNat).filter fun x=>Cc FM x j q)=[]
      . have yh:Gu ts rk j q:=key.mpr {by rw[e];rfl,c};refine Am (by rw[c];rfl) ?_;have s25:=s24.trans sb;generalize upd H4 b (.lst [])=H5 at s25 sb ⊢;refine{1,.inl {0,_,AD.of (s25 _ _ hE2)},?_};refine{5,5,wa,fl,n,ts,FM,q,j,0,W0.keep (s1.trans (s2.trans s25)),FR4.keep fun b ys e=>sb _ _ e,q0,qn,j0,jn,yh.1,fun a en H6 s6 ha eh el eu ed=>?_};have hE6:=s6 _ _ (s25 _ _ hE2);refine{E',_,.ref a,3,hE6,?_,?_}
        . rw[zB,EA.1];exact Aq (by lia)
        . have kT:∀b ys,H2 b=some (.tup ys)->(upd H6 E' (.lst (as.map V.ref++[.ref a]))) b=some (.tup ys):=fun b ys e=>by
           have hb:b≠E':=fun z=>by rw[z,hE2] at e;cases e
           rw[zj hb];exact s6 _ _ (s25 _ _ e)
          have naE:a≠E':=fun z=>by rw[z,hE6] at ha;cases ha
          have EO:Qz ts n rk q en:=by refine{by rw[eh];exact⟨j0,jn⟩,by rw[eh];exact yh,by rw[eh];exact el,by rw[eh];exact eu,by rw[eh];exact ed}
          refine{4,as++[a],es++[en],0,by rw[zI,zT];rfl,(EA.keep kT).snoc (by rw[zj naE];exact ha),?_,fun e he=>?_,fun h h0 h1 z=>?_,by rw[zH];show es.length+1<=j+1;lia,Av ((s2.trans s25).trans s6) hE}
          . refine List.pairwise_append.mpr {hub,List.pairwise_singleton _ _,fun x hx y hy=>?_};have ey:y=en:=by simpa using hy
            rw[ey,eh];exact (ent x hx).2
          . rcases zg.mp he with m | m
            . exact{(ent e m).1,by have:=(ent e m).2;lia}
            . have ee:e=en:=by simpa using m
              rw[ee];exact{EO,by rw[eh];lia}
          . by_cases ch:h=j
            . exact{en,by simp,by rw[eh,ch]}
            . obtain⟨e',m,iU⟩:=alh h h0 (by lia) z;exact{e',DP _ m,iU}
      . have nh:¬ Gu ts rk j q:=fun z=>c (key.mp z).2;refine As ?_ (stay (s24.trans sb) nh);cases z:((os.take (rk j).toNat).filter fun x=>Cc FM x j q) with
        | nil=>exact absurd z c
        | cons _ _=>rfl
structure VE (n:Int)(e:En):Prop where
 rng:0<=e.h/\e.h<n
 nn:0<=e.l
 own:e.l=0->e.u=none/\e.d=none
 far:e.l≠0->∃u d,e.u=some u/\e.d=some d/\0<=u/\u<n/\0<=d/\d<n
structure Gs (n:Int)(es:List En):Prop where
 ent:∀e∈es,VE n e
 hub:C3 es
 len:(es.length:Int)<=n
 one:(es.map (·.l)).countP (fun x=>x==0)=1
def JK:Sp:=fun vs H Q _=>∃p,∃(xs:List Int),vs=[.ref p]/\H p=some (.lst (xs.map V.int))/\xs.Pairwise (· < ·)/\xs.length<=1000/\∀H',AE H H'->Q (.bl true) H'
def Sz:Sp:=fun vs H Q _=>∃n a e,vs=[.int n,.ref a]/\H a=some (.tup (eV e))/\VE n e/\Q (.bl true) H
def TX:Sp:=fun vs H Q _=>∃n p es,vs=[.int n,.ref p]/\CI H p es/\Gs n es/\∀H',AE H H'->Q (.bl true) H'
def S1:Sp:=fun vs H Q _=>∃n l eM,vs=[.int n,.ref l]/\EJ H l eM/\(eM.length:Int)=n/\n<=24/\(∀es∈eM,Gs n es)/\∀H',AE H H'->Q (.bl true) H'
theorem JM:zw G6 G6 (defScope Dx):=AV
theorem Ll (F:Fu K "is_rising" Dx f eQ) (eS:mg "len"=none) (eN:mg "range"=none) (gA:mg "all"=none):AG P w K mg base AJ 1 f eQ G6 JK:=by
 refine F.okD JM fun _ A _ _ H vs Q E hr h=>?_;obtain⟨p,xs,rfl,hp,jj,hl,k⟩:=h;refine{_,zY (AM (zy (NA rfl) gA (zC (BQ (own:=["k"]) (cn:=G6) (ci:=[0]) rfl (Az rfl rfl) {0,3,trivial} rfl
  (Sh rfl eN (zC zf (zC (zy Bz eS (zC (pv 0) zM)) zM))) (fun _ _ _ _=>Aw) (fun _ _ _ _=>Bc)
  (fun _ _ _ _=>BN Mr (zt Qh (pv 1) (Aa EN (pv 0) zf)) (zt Qh (pv 1) (pv 0)) (AN _))) zM))),?_}
 refine⟨_,rfl,p,_,rfl,.inl (AD.of hp),1,_,rfl,{by decide,by decide,by rw[zB];lia,by rw[zB];lia},[.ref p],rfl,fun D hD=>?_⟩;refine IP (lo:=1) (n:=(((xs.map V.int).length:Int)-1).toNat) (fun q ys H4=>q<=(((xs.map V.int).length:Int)-1).toNat/\ys=(List.replicate q true).map V.bl/\H4=upd H D (.lst ys)) {zh _,3} (fun q ys H4 z=>?_) (fun q ys H4 hq z=>?_) (fun ys H4 z=>?_)
 . obtain⟨hq,rfl,_⟩:=z;rw[zB] at hq;rw[zB,Cj];exact BV (by lia)
 . obtain⟨_,rfl,rfl⟩:=z;rw[zB] at hq;have iO:=zF (o:=.lst ((List.replicate q true).map V.bl)) hD _ _ hp;have h1:q<xs.length:=by lia
   have h2:q+1<xs.length:=by lia
   refine{{3},?_};refine Bf ?_;refine{5,2,p,4,.int xs[q],3,AD.of iO,CB (by lia) (by rw[show ((1:Int)+q-1).toNat=q by lia,zN,zD h1];rfl),5,p,4,.int xs[q+1],3,AD.of iO,CB (by lia) (by rw[show ((1:Int)+q).toNat=q+1 by lia,zN,zD h2];rfl),2,zI,by rw[zB];lia,?_,EE};have eU:=Ef.mp jj q (q+1) h1 h2 (by lia)
   try dsimp only
   rw[zO eU,Js,zT];rfl
 . obtain⟨_,rfl,rfl⟩:=z;refine{D,1,AD.of zI,?_};have gF:∀m,(List.replicate m true).all id=true:=fun m=>J8.mpr fun b hb=>(List.mem_replicate.mp hb).2;rw[gF];exact k _ (zF hD)
theorem LF:zw B5 B5 (defScope Qr):=AV
theorem aW {fT:Addr}(F:Fu K "is_entry" Qr f eQ) (FT:AF K mg "is_tuple_of" D6 fT jD MC)
 (FW:AF K mg "is_within" N5 fW fdW NL) (FP:AF K mg "is_place" OM fP fdP B5) (FN:AF K mg "is_number" J4 fN fdN Cb)
 (eT:mg "isinstance"=none) (fq:mg "int"=none) (eZ:mg "bool"=none) (eP:mg "tuple"=none) (eS:mg "len"=none):AG P w K mg base AJ 4 f eQ B5 Sz:=by
 have GT:AH P w base 3 FT Nx:=(Yb FT.F eT eP eS).mono;have GN:AH P w base 3 FN Qq:=(R6 FN.F eT fq eZ).mono;have GP:AH P w base 3 FP Hf:=Ia FP.F FW FN eT fq eZ;refine F.okD LF fun _ A _ _ H vs Q E hr h=>?_;obtain⟨n,a,e,rfl,ha,O,k⟩:=h;refine{_,zR (Ad (PW.pt (Bb (BC (A0 (AI GT hr FT (zC (pv 1) (zC zf zM))))) (Bs (BC (A0 (AI GP hr FP (zC (pv 0) (zC (zt AU (pv 1) zf) zM)))))))) (zY (AM Eh)) Ac)
  (zR (Ad (PW.pt (Bb (BC (A0 (AI GN hr FN (zC (zt AU (pv 1) zf) zM)))) (Bs (AR Mr (zt AU (pv 1) zf) zf (AN _))))) (zY (AM Eh)) Ac)
  (zR (Ad (AR BG (zt AU (pv 1) zf) zf (AN _)) (zY (AM (Ba (BN Dq (zt AU (pv 1) zf) Ar (AN _)) (Bl (BN Dq (zt AU (pv 1) zf) Ar (AN _)))))) Ac)
  (zY (AM (Ba (AI GP hr FP (zC (pv 0) (zC (zt AU (pv 1) zf) zM))) (Bl (AI GP hr FP (zC (pv 0) (zC (zt AU (pv 1) zf) zM))))))))),?_}
 have gD:=O.rng;have ht:=AB.of (K:=K) ha;refine{1,a,eV e,0,ha,1,AZ ?_};refine{5,a,4,.int e.h,3,ht,0,n,e.h,0,gD.1,by lia,1,AZ ?_};refine{1,a,4,.int e.l,3,ht,0,e.l,7,AZ ?_};have hnn:=O.nn;refine{1,a,4,.int e.l,3,ht,0,2,1,As (zS (by lia)) ?_};refine{1,a,4,.int e.l,3,ht,0,7,?_};rw[Ew];by_cases c:e.l=0
 . refine Am (zO c) ?_;obtain⟨hu,hd⟩:=O.own c;refine{1,a,4,oV e.u,3,ht,0,7,?_};refine Am (by rw[hu];rfl) ?_;refine{1,a,4,oV e.d,3,ht,3,?_};rw[hd,show decide (oV none=V.non)=true from rfl];exact k
 . refine As (zS c) ?_;obtain⟨u,d,hu,hd,u0,u1,d0,d1⟩:=O.far c;refine{5,a,4,oV e.u,3,ht,0,n,u,by rw[hu];rfl,u0,by lia,true,0,Ak ?_};exact{5,a,4,oV e.d,3,ht,0,n,d,by rw[hd];rfl,d0,by lia,k}
theorem Qd (m):(List.replicate m true).all id=true:=J8.mpr fun b hb=>(List.mem_replicate.mp hb).2
theorem Vq:zw ["n","thing","longs"] B5 (defScope QE):=AV
theorem aV (F:Fu K "is_label" QE f eQ) (FE:AF K mg "is_entry" Qr fE fdE B5) (GE:AH P w base 4 FE Sz)
 (FR:AF K mg "is_rising" Dx fR fdR G6) (GR:AH P w base 4 FR JK) (eT:mg "isinstance"=none) (eP:mg "tuple"=none) (eS:mg "len"=none) (gA:mg "all"=none):
 AG P w K mg base AJ 5 f eQ B5 TX:=by
 refine F.okD Vq fun _ A _ _ H vs Q E hr h=>?_;obtain⟨n,p,es,rfl,L,LK,k⟩:=h;obtain⟨as,hp,EA,hl⟩:=id L;have hlen:=LK.len;refine{_,zR (Ad (PW.pt (Bb (BC (A0 (zy DE eT (zC (pv 1) (zC (CS (T := "tuple") eP) zM))))) (Bs (AR Hl (zy Bz eS (zC (pv 1) zM)) (pv 0) (AN _))))) (zY (AM Eh)) Ac)
  (zR (Ad (BC (A0 (zy (NA rfl) gA (zC (BQ (own:=["entry"]) (cn:=["n"]) (ci:=[0]) rfl (Az rfl rfl) {0,3,trivial} rfl (Ay (pv 1)) (fun _ _ _ _=>Aw) (fun _ _ _ _=>Bc)
   (fun _ _ _ _=>AI GE hr FE (zC (pv 1) (zC (pv 0) zM)))) zM)))) (zY (AM Eh)) Ac)
  (zR (Ea (i:=2) (own:=["entry"]) (cn:=[]) (ci:=[]) Vq.nd rfl (Or.inl rfl) rfl (Az rfl rfl) trivial rfl (Ay (pv 1)) (fun _ _ _ _=>Aw) (fun _ _ _ _=>Bc) (fun _ _ _ _=>zt CQ (pv 0) zf))
  (zY (AM (Ba (BN BG (Cz PySem.F.plainAttrs_list PySem.F.slot_list_count PySem.F.type_list_count Wc (pv 2) (zC zf zM)) zf (AN _)) (Bl (AI GR hr FR
   (zC (BQ (own:=["entry"]) (cn:=[]) (ci:=[]) rfl (Az rfl rfl) trivial rfl (Ay (pv 1)) (fun _ _ _ _=>Aw) (fun _ _ _ _=>Bc) (fun _ _ _ _=>zt CQ (pv 0) zf)) zM)))))))),?_}
 refine{1,9,true,0,.tup hp,7,AZ ?_};refine{1,p,1,.inr (AB.of hp),1,2,1,As (zS (by rw[zB,EA.1];lia)) ?_};refine{1,p,0,{_,AB.of hp},[.int n],0,fun D hD=>?_};refine BJ (a:=p) (xs:=as.map V.ref) (fun i ys H4=>i<=es.length/\ys=(List.replicate i true).map V.bl/\H4=upd H D (.lst ys)) {zh _,3} (fun i ys H4 z=>?_) (fun i ys H4 z=>?_) (fun i v ys H4 hv z=>?_) (fun ys H4 z=>?_)
 . obtain⟨_,_,rfl⟩:=z;exact AB.of (zF hD _ _ hp)
 . obtain⟨hi,rfl,_⟩:=z;rw[zB,Cj];exact BV (by lia)
 . obtain⟨_,rfl,rfl⟩:=z;obtain⟨a,x,rfl,hx,ha⟩:=EA.at hv;refine{{3},?_};refine Bf ?_;refine{5,n,a,x,0,zF hD _ _ ha,LK.ent x (zQ hx),zI,(zG.mp hx).1,?_,EE};rw[Js,zT];rfl
 . obtain⟨_,rfl,rfl⟩:=z;refine{D,1,AD.of zI,1,?_};rw[Qd];refine AZ ?_;have s1:=zF (o:=.lst ((List.replicate (as.map V.ref).length true).map V.bl)) hD;generalize upd H D (.lst ((List.replicate (as.map V.ref).length true).map V.bl))=H1 at s1 ⊢;refine{1,p,0,{_,AB.of (s1 _ _ hp)},[],0,fun D2 fM=>?_};refine BJ (a:=p) (xs:=as.map V.ref) (fun i ys H4=>ys=((es.take i).map (·.l)).map V.int/\H4=upd H1 D2 (.lst ys)) {3} (fun i ys H4 z=>?_) (fun i ys H4 z=>?_) (fun i v ys H4 hv z=>?_) (fun ys H4 z=>?_)
   . obtain⟨_,rfl⟩:=z;exact AB.of (zF fM _ _ (s1 _ _ hp))
   . obtain⟨rfl,_⟩:=z;rw[zB,zB,zp];exact BV (by lia)
   . obtain⟨rfl,rfl⟩:=z;obtain⟨a,x,rfl,hx,ha⟩:=EA.at hv;refine{{3},?_};refine Bf ?_;refine{1,a,4,.int x.l,3,AB.of (zF fM _ _ (s1 _ _ ha)),0,zI,?_,EE};rw[zu,hx,zT,zT];rfl
   . obtain⟨rfl,rfl⟩:=z;rw[zB,EA.1,zW (zK _)];have s2:=s1.trans (zF (o:=.lst ((es.map (·.l)).map V.int)) fM);have iD:(upd H1 D2 (.lst ((es.map (·.l)).map V.int))) D2=some (.lst ((es.map (·.l)).map V.int)):=zI;generalize upd H1 D2 (.lst ((es.map (·.l)).map V.int))=H2 at s2 iD ⊢;refine⟨_,rfl,.inl {0,_,AD.of iD},D2,es.map (·.l),0,rfl,rfl,AD.of iD,rfl,_,rfl,?_⟩;refine Am (by rw[LK.one];rfl) ?_;refine{1,p,0,{_,AB.of (s2 _ _ hp)},[],0,fun D3 gE=>?_};refine BJ (a:=p) (xs:=as.map V.ref) (fun i ys H4=>ys=((es.take i).map (·.h)).map V.int/\H4=upd H2 D3 (.lst ys)) {3} (fun i ys H4 z=>?_) (fun i ys H4 z=>?_) (fun i v ys H4 hv z=>?_) (fun ys H4 z=>?_)
     . obtain⟨_,rfl⟩:=z;exact AB.of (zF gE _ _ (s2 _ _ hp))
     . obtain⟨rfl,_⟩:=z;rw[zB,zB,zp];exact BV (by lia)
     . obtain⟨rfl,rfl⟩:=z;obtain⟨a,x,rfl,hx,ha⟩:=EA.at hv;refine{{3},?_};refine Bf ?_;refine{1,a,4,.int x.h,3,AB.of (zF gE _ _ (s2 _ _ ha)),0,zI,?_,EE};rw[zu,hx,zT,zT];rfl
     . obtain⟨rfl,rfl⟩:=z;rw[zB,EA.1,zW (zK _)];refine{D3,es.map (·.h),0,zI,by rw[Fq];exact LK.hub,by rw[zB];lia,fun H5 s5=>?_};exact k _ ((s2.trans (zF gE)).trans s5)
theorem du:zw B5 B5 (defScope Qo):=AV
theorem cD {fT:Addr}(F:Fu K "are_labels" Qo f eQ) (FT:AF K mg "is_tuple_of" D6 fT jD MC) (GT:AH P w base 5 FT Nx)
 (FL:AF K mg "is_label" QE fL fdL B5) (GL:AH P w base 5 FL TX) (gA:mg "all"=none):AG P w K mg base AJ 6 f eQ B5 S1:=by
 refine F.okD du fun _ A _ _ H vs Q E hr h=>?_;obtain⟨n,l,eM,rfl,⟨as,hl,g6,iS⟩,hn,gL,hk,k⟩:=h;refine{_,zY (AM (Ba (AI GT hr FT (zC (pv 1) (zC (pv 0) zM))) (Bl (zy (NA rfl) gA (zC (BQ (own:=["label"]) (cn:=["n"]) (ci:=[0]) rfl (Az rfl rfl) {0,3,trivial} rfl (Ay (pv 1)) (fun _ _ _ _=>Aw) (fun _ _ _ _=>Bc)
  (fun _ _ _ _=>AI GL hr FL (zC (pv 1) (zC (pv 0) zM)))) zM))))),?_}
 have jq:((as.map V.ref).length:Int)=n:=by rw[zB,g6];exact hn
 refine{5,l,as.map V.ref,by rw[jq];rfl,hl,true,0,Ak ?_};refine{1,l,0,{_,AB.of hl},[.int n],0,fun D hD=>?_};refine BJ (a:=l) (xs:=as.map V.ref) (fun i ys H4=>i<=as.length/\ys=(List.replicate i true).map V.bl/\AE H H4/\H4 D=some (.lst ys)) {zh _,0,zF hD,zI} (fun i ys H4 z=>?_) (fun i ys H4 z=>?_) (fun i v ys H4 hv z=>?_) (fun ys H4 z=>?_)
 . exact AB.of (z.2.2.1 _ _ hl)
 . obtain⟨hi,rfl,_⟩:=z;rw[zB,Cj];exact BV (by lia)
 . obtain⟨_,rfl,s4,fv⟩:=z;obtain⟨a,ha,rfl⟩:∃a,as[i]?=some a/\V.ref a=v:=by
    rw[zN] at hv;cases e:as[i]? with
    | none=>rw[e] at hv;cases hv
    | some a=>rw[e] at hv;exact{a,0,zV hv}
   obtain⟨es,e1,e2⟩:=iS i a ha;refine{{3},?_};refine Bf ?_;refine{5,n,a,es,0,e2.same s4,hk es (zQ e1),fun H5 s5=>?_};refine{s5 _ _ fv,(zG.mp ha).1,?_,Av (s4.trans s5) hD,zI};rw[Js,zT];rfl
 . obtain⟨_,rfl,s4,fv⟩:=z;refine{D,1,AD.of fv,?_};rw[Qd];exact k _ s4
theorem V1:∀{l:List Int}{a b:Int},l.Pairwise (· < ·)->(∀x∈l,a<=x/\x<b)->a<=b->(l.length:Int)<=b-a
 | [],a,b,_,_,h=>by simp;lia
 | x::r,a,b,hp,hb,h=>by
  have hx:=hb x zX;obtain⟨h1,h2⟩:=Gy.mp hp;have:=V1 (l:=r) (a:=x+1) (b:=b) h2 (fun y hy=>{by have:=h1 y hy;lia,(hb y (zd _ hy)).2}) (by lia);rw[zk]
  lia
theorem Ms.kind (G:GW n ts)(L:Ms ts n rk v es)(v0:0<=v)(v1:v<n):Gs n es:=by
 refine{fun e he=>?_,L.hub,?_,?_}
 . have E:=L.ent e he;refine{E.rng,E.len.1.nn G,fun h0=>?_,fun ft=>?_}
   . have ev:=(NS G E.len).mp h0;constructor
     . have u:=E.up;cases hu:e.u with
       | none=>rfl
       | some m=>rw[hu] at u;exact absurd ev (u.1.ne G)
     . have u:=E.dn;cases hu:e.d with
       | none=>rfl
       | some m=>rw[hu] at u;exact absurd ev.symm (u.1.ne G)
   . have ev:v≠e.h:=fun z=>ft ((NS G E.len).mpr z);obtain⟨p,hp⟩:=Bx.exists G E.len ev;obtain⟨q,hq⟩:=Bx.exists G E.len.symm ev.symm;obtain⟨u,eu,pu⟩:=E.up.some_of hp;obtain⟨d,ed,pd⟩:=E.dn.some_of hq;obtain⟨l1,b1,a1,_⟩:=pu;obtain⟨l2,b2,a2,_⟩:=pd;have g1:=G.adj a1;have g2:=G.adj a2;exact{u,d,eu,ed,by lia,by lia,by lia,by lia}
 . have:=V1 (l:=es.map (·.h)) (a:=0) (b:=n) (by rw[Fq];exact L.hub) (fun x hx=>by obtain⟨e,he,rfl⟩:=DS.mp hx;exact (L.ent e he).rng) (by lia)
   rw[zB] at this
   lia
 . obtain⟨e,r,hf,_⟩:=(L.lg G v0 v1).zero G;have hv:∀x∈es.filter (fun e=>decide (e.l=0)),x.h=v:=fun x hx=>by obtain⟨h1,h2⟩:=ES.mp hx;exact ((NS G (L.ent x h1).len).mp (of_decide_eq_true h2)).symm
   have hp:(es.filter (fun e=>decide (e.l=0))).Pairwise fun a b=>a.h<b.h:=List.Pairwise.filter _ L.hub;rw[hf] at hv hp;have hr:r=[]:=by
    cases r with
    | nil=>rfl
    | cons e' r'=>
     have h1:=hv e zX;have h2:=hv e' (zd _ zX);have:=(Gy.mp hp).1 e' zX
     lia
   rw[List.countP_map,List.countP_eq_length_filter];have:(fun x:Int=>x==0)∘(fun e:En=>e.l)=fun e=>decide (e.l=0):=by
    funext e;show (e.l==0)=decide (e.l=0);cases h:decide (e.l=0) with
    | true=>have:=of_decide_eq_true h;rw[this];rfl
    | false=>have:=of_decide_eq_false h;exact beq_false_of_ne this
   rw[this,hf,hr];rfl
noncomputable def Bp (eM:List (List En)):Nat->List (Nat×En)
 | 0=>[]
 | i+1=>Bp eM i++((eM.getD i []).filter fun e=>decide (e.l≠0)).map fun e=>(i,e)
def Ee (H:Hp)(ys:List V)(fe:List (Nat×En)):Prop:=ys.length=fe.length/\∀(j:Nat)y,ys[j]?=some y->∃c a,∃(i:Nat),∃e,y=.ref c/\fe[j]?=some (i,e)/\H c=some (.tup [.int i,.ref a])/\H a=some (.tup (eV e))
theorem Ee.keep (h:Ee H ys fe)(k:∀b zs,H b=some (.tup zs)->H' b=some (.tup zs)):Ee H' ys fe:=
 {h.1,fun j y e=>let ⟨c,a,i,x,h1,h2,h3,h4⟩:=h.2 j y e;{c,a,i,x,h1,h2,k _ _ h3,k _ _ h4}}
theorem Ee.app (h:Ee H ys fe)(g:Ee H zs ge):Ee H (ys++zs) (fe++ge):=by
 refine{by rw[zH,zH,h.1,g.1],fun j y e=>?_};by_cases c:j<ys.length
 . rw[ze c] at e;obtain⟨a,b,i,x,h1,h2,h3⟩:=h.2 j y e;exact{a,b,i,x,h1,by rw[ze (by rw[<-h.1];exact c)];exact h2,h3}
 . rw[za (by lia)] at e;obtain⟨a,b,i,x,h1,h2,h3⟩:=g.2 _ y e;exact{a,b,i,x,h1,by rw[za (by rw[<-h.1];lia),<-h.1];exact h2,h3}
def QI:Sp:=fun vs H Q _=>∃l eM,vs=[.ref l]/\EJ H l eM/\eM.length<=24/\(∀es∈eM,es.length<=24) /\
 ∀a ys H',AE H H'->H a=none->H' a=some (.lst ys)->Ee H' ys (Bp eM eM.length)->Q (.ref a) H'
theorem NB :∀{n i:Nat}{e:En},(i,e)∈Bp eM n->i<n/\e∈eM.getD i []
 | 0,_,_,h=>by simp[Bp] at h
 | n+1,i,e,h=>by
  rcases zg.mp (show (i,e)∈Bp eM n++_ from h) with z | z
  . have:=NB z;exact{by lia,this.2}
  . obtain⟨x,hx,ex⟩:=DS.mp z;simp only[Prod.mk.injEq] at ex;obtain⟨rfl,rfl⟩:=ex;exact{by lia,(ES.mp hx).1}
theorem UR (h:∀es∈eM,es.length<=24):∀n,(Bp eM n).length<=24*n
 | 0=>zK _
 | n+1=>by
  show (Bp eM n++_).length<=_;rw[zH,zB];have h1:=UR h n;have h2:=C8 (fun e:En=>decide (e.l≠0)) (eM.getD n []);have h3:(eM.getD n []).length<=24:=by
   rw[zJ];cases e:eM[n]? with
   | none=>exact zh _
   | some x=>exact h x (zQ e)
  lia
theorem QG:zw ["labels","found","place","label"] G8 (defScope Nc):=AV
theorem cK (F:Fu K "far_entries" Nc f eQ) (gH:mg "enumerate"=none):AG P w K mg base AJ 1 f eQ G8 QI:=by
 refine F.okD QG fun _ A _ _ H vs Q E hr h=>?_;obtain⟨l,eM,rfl,LL,hn,hU,k⟩:=h;obtain⟨as,hl,g6,hA⟩:=id LL;refine{_,zR (Ab (i:=1) QG.nd (BO zM))
  (zR (Au (SN (by rfl) gH (zC (pv 0) zM)) (CC rfl (zx (B9 (i:=2) QG.nd rfl (Or.inr rfl)) (zx (AW (i:=3) QG.nd) Br)))
   (zY (B0 (Cz PySem.F.plainAttrs_list PySem.F.slot_list_extend PySem.F.type_list_extend YS (pv 1) (zC
    (BQ (own:=["entry"]) (cn:=["place"]) (ci:=[2]) rfl (Az rfl rfl) {0,3,trivial} rfl (Ay (pv 3)) (fun _ _ _ _=>Aw)
     (fun _ _ _ _=>C0 (AR N0 (zt CQ (pv 0) zf) zf (AN _)))
     (fun _ _ _ _=>Af (zC (pv 1) (zC (pv 0) zM)))) zM)))))
  (zY (AM (pv 1)))),?_}
 refine{E4,fun D hD=>?_};have s0:=zF (o:=.lst []) hD;refine{1,l,0,{_,AB.of (s0 _ _ hl)},R8 (K:=K) (a:=l) (xs:=as.map V.ref) (fun i σ H2=>GB fun (v2 v3:Option V)(ys:List V)=>σ=[some (.ref l),some (.ref D),v2,v3]/\AE H H2/\H2 D=some (.lst ys)/\Ee H2 ys (Bp eM i))
  {4,[],0,s0,zI,0,fun j y e=>by simp at e} (fun i σ H2 _ ⟨_,_,_,_,s2,_⟩=>AB.of (s2 _ _ hl)) ?turn ?after}
 case after=>
  rintro σ H2 ⟨v2,v3,ys,rfl,s2,fM,FA⟩;rw[zB,g6] at FA;exact{1,k D ys H2 s2 hD fM FA}
 case turn=>
  rintro i x σ H2 Tp hx ⟨v2,v3,ys,rfl,s2,fM,FA⟩ hTp;rw[zN] at hx;cases ha:as[i]? with
  | none=>rw[ha] at hx;cases hx
  | some a=>
  rw[ha] at hx;cases hx;have hia:=(zG.mp ha).1;obtain⟨es,jv,bs,hb,EA,hl3⟩:=hA i a ha;have eget:eM.getD i []=es:=by rw[zJ,jv];rfl
  have hel:=hU es (zQ jv);have sT:=zF (o:=.tup [.int (i:Int),.ref a]) hTp;have s3:=s2.trans sT;refine{Tp,1,AB.of zI,0,6,2,?_};refine{1,.inl {0,_,AD.of (sT _ _ fM)},1,a,0,{_,AB.of (s3 _ _ hb)},[.int i],0,fun D2 jz=>?_};have EA3:DZ (upd H2 Tp (.tup [.int (i:Int),.ref a])) bs es:=EA.keep fun b zs e=>s3 _ _ e;have hbl:=EA.1;refine BJ (a:=a) (xs:=bs.map V.ref) (fun j zs H4=>Ee H4 zs (((es.take j).filter fun e=>decide (e.l≠0)).map fun e=>(i,e))/\AE (upd H2 Tp (.tup [.int (i:Int),.ref a])) H4/\H4 D2=some (.lst zs)) {{0,fun j y e=>by simp at e},zF jz,zI} (fun j zs H4 h=>?_) (fun j zs H4 h=>?_) (fun j v zs H4 hv h=>?_) (fun zs H4 h=>?_)
  . exact AB.of (h.2.1 _ _ (s3 _ _ hb))
  . rw[h.1.1,zB];exact Cv (C8 _ _) (BV (by rw[zp];lia))
  . obtain⟨F4,s4,fv⟩:=h;obtain⟨c,e,rfl,he,hc⟩:=EA3.at hv;have jZ:=s4 _ _ hc;refine{{3},?_};refine{1,c,4,.int e.l,3,AB.of jZ,0,7,?_};rw[Ew];have st:=Qp (fun e:En=>decide (e.l≠0)) he;by_cases cc:e.l=0
    . rw[zO cc];refine AZ {?_,s4,fv};rw[st,if_neg (by simp[cc]),zv];exact F4
    . rw[zS cc];refine Ak ?_;refine{5,Al,fun q hq=>?_};have nDq:=zq fv hq;refine{zF hq _ _ fv,?_,Av (s4.trans (zF hq)) jz,zI};rw[st,if_pos (by simp[cc]),zT];have kp:∀b us,H4 b=some (.tup us)->(upd (upd H4 q (.tup [.int (i:Int),.ref c])) D2 (.lst (zs++[.ref q]))) b=some (.tup us):=fun b us e=>by rw[zj (Bu e fv (by intro z;cases z))];exact zF hq _ _ e
      refine (F4.keep kp).app {0,fun j' y' e'=>?_};cases j' with
      | zero=>
       have:V.ref q=y':=by simpa using e'
       subst this;exact{q,c,i,e,3,by rw[zj nDq.symm];exact zI,kp _ _ jZ}
      | succ z=>simp at e'
  . obtain⟨F4,s4,fv⟩:=h;rw[zB,EA.1,zW (zK _)] at F4;have hDD:=s4 _ _ (sT _ _ fM);have f1:=UR hU i;have f2:=FA.1;have f3:=F4.1;have f4:=C8 (fun e:En=>decide (e.l≠0)) es;rw[zB] at f3;refine{D,D2,2,hDD,fv,CT (BV (by lia)),?_};have s5:=Av (o:=.lst (ys++zs)) (s3.trans s4) hD;have kp:∀b us,H4 b=some (.tup us)->(upd H4 D (.lst (ys++zs))) b=some (.tup us):=fun b us e=>by rw[zj (Bu e hDD (by intro z;cases z))];exact e
    refine{4,ys++zs,0,s5,zI,?_};show Ee _ _ (Bp eM i++_);rw[eget];exact ((FA.keep fun b us e=>s4 _ _ (sT _ _ e)).keep kp).app (F4.keep kp)
theorem C1 :CY X st (fun _ _ _=>False):=fun _ _ _ _ _ _ h=>h.elim
theorem JI (h:PS X st u)(m:∀D σ H,u' D σ H->u D σ H):PS X st u':=fun pins s σ H D I q=>h pins s σ H D I (m D σ H q)
structure FK (n:Int)(eM:List (List En)):Prop where
 ln:eM.length=n.toNat
 kd:∀es∈eM,Gs n es
 lo:∀es∈eM,∀e∈es,e.l<=2376
def Sj:Sp:=fun vs H Q _=>∃n a e,vs=[.int n,.ref a]/\H a=some (.tup (eV e))/\VE n e/\e.l<=2376/\Q (.bl true) H
def Tr:Sp:=fun vs H Q _=>∃n p es,vs=[.int n,.ref p]/\CI H p es/\Gs n es/\(∀e∈es,e.l<=2376)/\n<=24/\∀H',AE H H'->Q (.bl true) H'
def TJ:Sp:=fun vs H Q _=>∃n l eM,vs=[.int n,.ref l]/\EJ H l eM/\0<=n/\n<=24/\FK n eM/\∀H',AE H H'->Q (.bl true) H'
theorem Kq:zw P8 P8 (defScope QK):=AV
theorem Z3 (F:Fu K "_law_is_number" QK f eQ) (eT:mg "isinstance"=none) (fq:mg "int"=none) (eZ:mg "bool"=none):
 AG P w K mg base AJ 1 f eQ P8 HH:=by
 refine F.okD Kq fun _ A _ _ H vs Q E hr h=>?_;obtain⟨i,a,b,rfl,h1,h2,k⟩:=h;refine{_,zY (AM (Ba (zy DE eT (zC (pv 0) (zC (CS (T := "int") fq) zM)))
  (Ba (XY (zy DE eT (zC (pv 0) (zC (CS (T := "bool") eZ) zM)))) (Bl (ZA Qi Qi (pv 1) (pv 0) (pv 2)))))),?_}
 refine{1,9,true,0,.int i,0,true,0,Ak ?_};refine{1,9,false,0,.int i,0,false,7,Ak ?_};refine{5,2,1,Am (zO h1) {1,2,?_}};dsimp only;rw[zO h2];exact k
theorem Kd:zw DV DV (defScope Q7):=AV
theorem dP (F:Fu K "_law_is_entry" Q7 f eQ) (FL:AF K mg "_law_is_number" QK fL fdL P8)
 (eT:mg "isinstance"=none) (fq:mg "int"=none) (eZ:mg "bool"=none) (eP:mg "tuple"=none) (eS:mg "len"=none):AG P w K mg base AJ 2 f eQ DV Sj:=by
 have GL:AH P w base 1 FL HH:=Z3 FL.F eT fq eZ;refine F.okD Kd fun _ A _ _ H vs Q E hr h=>?_;obtain⟨n,a,e,rfl,ha,O,hl,k⟩:=h;refine{_,zR (Ad (PW.pt (Bb (BC (A0 (zy DE eT (zC (pv 1) (zC (CS (T := "tuple") eP) zM))))) (Bs (Gx (Xh (zy Bz eS (zC (pv 1) zM)) zf))))) C1 Ac)
  (zR (Ad (PW.pt (Bb (BC (A0 (AI GL hr FL (zC (zt AU (pv 1) zf) (zC zf (zC (Aa EN (pv 0) zf) zM)))))) (Bs (BC (A0 (AI GL hr FL (zC (zt AU (pv 1) zf) (zC zf (zC (Aa V9 zf zf) zM))))))))) C1 Ac)
  (zR (Ad (AR BG (zt AU (pv 1) zf) zf (AN _)) (zY (AM (Ba (BN Dq (zt AU (pv 1) zf) Ar (AN _)) (Bl (BN Dq (zt AU (pv 1) zf) Ar (AN _)))))) Ac)
  (zY (AM (Ba (AI GL hr FL (zC (zt AU (pv 1) zf) (zC zf (zC (Aa EN (pv 0) zf) zM)))) (Bl (AI GL hr FL (zC (zt AU (pv 1) zf) (zC zf (zC (Aa EN (pv 0) zf) zM)))))))))),?_}
 have gD:=O.rng;have hb:e.l<=10 ^ (60:Int).toNat:=Int.le_trans hl (by decide);have ht:=AB.of (K:=K) ha;refine{1,9,true,0,.tup ha,7,AZ ?_};refine{1,a,1,.inr ht,2,1,AZ ?_};refine⟨_,rfl,a,_,_,.int e.h,rfl,rfl,ht,rfl,_,rfl,_,_,rfl,rfl,e.h,0,n-1,rfl,gD.1,by lia,_,rfl,AZ ?_⟩;refine⟨_,rfl,a,_,_,.int e.l,rfl,rfl,ht,rfl,_,_,rfl,rfl,{by decide,by decide,by decide},e.l,0,_,rfl,O.nn,hb,_,rfl,AZ ?_⟩;refine{1,a,4,.int e.l,3,ht,0,7,?_};rw[Ew];by_cases c:e.l=0
 . refine Am (zO c) ?_;obtain⟨hu,hd⟩:=O.own c;refine{1,a,4,oV e.u,3,ht,0,7,Am (by rw[hu];rfl) ?_};refine{1,a,4,oV e.d,3,ht,3,?_};rw[hd,show decide (oV none=V.non)=true from rfl];exact k
 . refine As (zS c) ?_;obtain⟨u,d,hu,hd,u0,u1,d0,d1⟩:=O.far c;refine⟨_,rfl,a,_,_,oV e.u,rfl,rfl,ht,rfl,_,rfl,_,_,rfl,rfl,u,0,n-1,by rw[hu];rfl,u0,by lia,true,rfl,Ak ?_⟩;exact⟨_,rfl,a,_,_,oV e.d,rfl,rfl,ht,rfl,_,rfl,_,_,rfl,rfl,d,0,n-1,by rw[hd];rfl,d0,by lia,k⟩
theorem Ye:zw ["_law_n","_law_thing","_law_hubs"] DV (defScope Qs):=AV
theorem bK (F:Fu K "_law_is_label" Qs f eQ) (FE:AF K mg "_law_is_entry" Q7 fE fdE DV) (GE:AH P w base 2 FE Sj)
 (eT:mg "isinstance"=none) (eP:mg "tuple"=none) (eR:mg "sorted"=none) (iA:mg "set"=none):
 AG P w K mg base AJ 3 f eQ DV Tr:=by
 refine F.okD Ye fun _ A _ _ H vs Q E hr h=>?_;obtain⟨n,p,es,rfl,⟨as,hp,EA,_⟩,LK,hb,hn,k⟩:=h;have iL:=hr.units0;have hlen:=LK.len;refine{_,zR (Ad (PW.pt (Bb (BC (A0 (zy DE eT (zC (pv 1) (zC (CS (T := "tuple") eP) zM)))))
  (Bs (AR (Qj iL) (BQ (own:=Im) (cn:=["_law_n"]) (ci:=[0]) rfl (Az rfl rfl) {0,3,trivial} rfl (Ay (pv 1)) (fun _ _ _ _=>Aw)
   (fun _ _ _ _=>C0 (BC (A0 (AI GE hr FE (zC (pv 1) (zC (pv 0) zM)))))) (fun _ _ _ _=>pv 0)) (BO zM) (AN _))))) C1 Ac)
  (zR (Ea (i:=2) (own:=Im) (cn:=[]) (ci:=[]) Ye.nd rfl (Or.inl rfl) rfl (Az rfl rfl) trivial rfl (Ay (pv 1)) (fun _ _ _ _=>Aw) (fun _ _ _ _=>Bc) (fun _ _ _ _=>zt CQ (pv 0) zf))
  (zY (AM (Ba (BN (MA iL) (pv 2) (SD rfl rfl eR rfl iA (zC (pv 2) zM)) (AN _))
   (Bl (BN BG (Cz PySem.F.plainAttrs_list PySem.F.slot_list_count PySem.F.type_list_count Wc (BQ (own:=Im) (cn:=[]) (ci:=[]) rfl (Az rfl rfl) trivial rfl (Ay (pv 1)) (fun _ _ _ _=>Aw) (fun _ _ _ _=>Bc) (fun _ _ _ _=>zt CQ (pv 0) zf)) (zC zf zM)) zf (AN _))))))),?_}
 refine{1,9,true,0,.tup hp,7,AZ ?_};refine{1,p,0,{_,AB.of hp},[.int n],0,fun D hD=>?_};refine BJ (a:=p) (xs:=as.map V.ref) (fun i ys H4=>ys=[]/\H4=upd H D (.lst [])) {3} (fun i ys H4 z=>?_) (fun i ys H4 z=>?_) (fun i v ys H4 hv z=>?_) (fun ys H4 z=>?_)
 . rw[z.2];exact AB.of (zF hD _ _ hp)
 . rw[z.1];exact Aq (by decide)
 . obtain⟨rfl,rfl⟩:=z;obtain⟨a,x,rfl,hx,ha⟩:=EA.at hv;have hm:=zQ hx;exact{{3},5,n,a,x,0,zF hD _ _ ha,LK.ent x hm,hb x hm,true,0,AZ {3}}
 . obtain⟨rfl,rfl⟩:=z;refine{zh _,fun b hb=>?_};have s1:=(zF (o:=.lst []) hD).trans (zF (o:=.lst []) hb);refine{D,b,[],3,AD.of (zF hb _ _ zI),AD.of zI,1,AZ ?_};generalize upd (upd H D (.lst [])) b (.lst [])=H1 at s1 ⊢;refine{1,p,0,{_,AB.of (s1 _ _ hp)},[],0,fun D2 fM=>?_};refine BJ (a:=p) (xs:=as.map V.ref) (fun i ys H4=>ys=((es.take i).map (·.h)).map V.int/\H4=upd H1 D2 (.lst ys)) {3} (fun i ys H4 z=>?_) (fun i ys H4 z=>?_) (fun i v ys H4 hv z=>?_) (fun ys H4 z=>?_)
   . obtain⟨_,rfl⟩:=z;exact AB.of (zF fM _ _ (s1 _ _ hp))
   . obtain⟨rfl,_⟩:=z;rw[zB,zB,zp];exact BV (by lia)
   . obtain⟨rfl,rfl⟩:=z;obtain⟨a,x,rfl,hx,ha⟩:=EA.at hv;refine{{3},Bf {1,a,4,.int x.h,3,AB.of (zF fM _ _ (s1 _ _ ha)),0,zI,?_,EE}};rw[zu,hx,zT,zT];rfl
   . obtain⟨rfl,rfl⟩:=z;rw[zB,EA.1,zW (zK _)];have s2:=s1.trans (zF (o:=.lst ((es.map (·.h)).map V.int)) fM);have iD:(upd H1 D2 (.lst ((es.map (·.h)).map V.int))) D2=some (.lst ((es.map (·.h)).map V.int)):=zI;generalize upd H1 D2 (.lst ((es.map (·.h)).map V.int))=H2 at s2 iD ⊢;refine{5,D2,es.map (·.h),0,.inl (AD.of iD),by rw[zB];lia,fun l ms hl3 hr3 hm3=>?_};have s3:=s2.trans (zF (o:=.lst (ms.map V.int)) hl3);refine{D2,l,es.map (·.h),ms,3,AD.of (zF hl3 _ _ iD),AD.of zI,1,Am (zO (SV (by rw[Fq];exact LK.hub) hr3 fun z=>(hm3 z).symm)) ?_};generalize upd H2 l (.lst (ms.map V.int))=H3 at s3 ⊢;refine{1,p,0,{_,AB.of (s3 _ _ hp)},[],0,fun D3 gE=>?_};refine BJ (a:=p) (xs:=as.map V.ref) (fun i ys H4=>ys=((es.take i).map (·.l)).map V.int/\H4=upd H3 D3 (.lst ys)) {3} (fun i ys H4 z=>?_) (fun i ys H4 z=>?_) (fun i v ys H4 hv z=>?_) (fun ys H4 z=>?_)
     . obtain⟨_,rfl⟩:=z;exact AB.of (zF gE _ _ (s3 _ _ hp))
     . obtain⟨rfl,_⟩:=z;rw[zB,zB,zp];exact BV (by lia)
     . obtain⟨rfl,rfl⟩:=z;obtain⟨a,x,rfl,hx,ha⟩:=EA.at hv;refine{{3},Bf {1,a,4,.int x.l,3,AB.of (zF gE _ _ (s3 _ _ ha)),0,zI,?_,EE}};rw[zu,hx,zT,zT];rfl
     . obtain⟨rfl,rfl⟩:=z;rw[zB,EA.1,zW (zK _)];refine⟨.inl {0,_,AD.of zI},D3,es.map (·.l),0,rfl,rfl,AD.of zI,rfl,?_⟩;rw[Ew,LK.one];exact k _ (s3.trans (zF gE))
theorem a9:zw DV DV (defScope RJ):=AV
theorem bM (F:Fu K "_law_are_labels" RJ f eQ) (FL:AF K mg "_law_is_label" Qs fL fdL DV) (GL:AH P w base 3 FL Tr)
 (eT:mg "isinstance"=none) (eP:mg "tuple"=none) (eS:mg "len"=none):AG P w K mg base AJ 4 f eQ DV TJ:=by
 refine F.okD a9 fun _ A _ _ H vs Q E hr h=>?_;obtain⟨n,l,eM,rfl,⟨as,hl,g6,iS⟩,n0,n24,kd,k⟩:=h;have iL:=hr.units0;refine{_,zY (AM (Ba (zy DE eT (zC (pv 1) (zC (CS (T := "tuple") eP) zM)))
  (Ba (BN BG (zy Bz eS (zC (pv 1) zM)) (pv 0) (AN _))
   (Bl (BN (SO iL) (BQ (own:=Hc) (cn:=["_law_n"]) (ci:=[0]) rfl (Az rfl rfl) {0,3,trivial} rfl (Ay (pv 1)) (fun _ _ _ _=>Aw)
    (fun _ _ _ _=>C0 (BC (A0 (AI GL hr FL (zC (pv 1) (zC (pv 0) zM)))))) (fun _ _ _ _=>pv 0)) (BO zM) (AN _)))))),?_}
 have jq:=kd.ln;refine{1,9,true,0,.tup hl,0,true,0,Ak ?_};refine{1,l,1,.inr (AB.of hl),1,7,?_};rw[Ew];refine Am (zO (by rw[zB];lia)) ?_;refine{1,l,0,{_,AB.of hl},[.int n],0,fun D hD=>?_};refine BJ (a:=l) (xs:=as.map V.ref) (fun i ys H4=>ys=[]/\AE H H4/\H4 D=some (.lst [])) {0,zF hD,zI} (fun i ys H4 z=>?_) (fun i ys H4 z=>?_) (fun i v ys H4 hv z=>?_) (fun ys H4 z=>?_)
 . exact AB.of (z.2.1 _ _ hl)
 . rw[z.1];exact Aq (by decide)
 . obtain⟨rfl,s4,h4⟩:=z;obtain⟨a,ha,rfl⟩:∃a,as[i]?=some a/\V.ref a=v:=by
    rw[zN] at hv;cases e:as[i]? with
    | none=>rw[e] at hv;cases hv
    | some a=>rw[e] at hv;exact{a,0,zV hv}
   obtain⟨es,e1,e2⟩:=iS i a ha;have hm:=zQ e1;exact{{3},5,n,a,es,0,e2.same s4,kd.kd es hm,kd.lo es hm,n24,fun H5 s5=>{true,0,AZ {0,s4.trans s5,s5 _ _ h4}}}
 . obtain⟨rfl,s4,h4⟩:=z;refine{zh _,fun b hb=>?_};exact{D,b,[],3,AD.of (zF hb _ _ h4),AD.of zI,k _ (s4.trans (zF hb))}
theorem Ip (n:dx≠e):upd (upd (upd H dx o1) e x) dx o2=upd (upd H dx o2) e x:=by
 funext b;by_cases h1:b=dx
 . subst h1;rw[zI,zj n,zI]
 . by_cases h2:b=e
   . subst h2;rw[zj h1,zI,zI]
   . rw[zj h1,zj h2,zj h1,zj h2,zj h1]
theorem U0:zw C4 C4 (defScope Rl):=AV
theorem O9 (F:BY K "__init__" "NoLabels.__init__" Rl f eQ) (EI:CK K C f)(mo:PySem.W.mroIn K C (.type "object")=some true) (n1:PySem.W.findIn K (.ref C) "word"=some none) (n2:PySem.W.findIn K (.ref C) "at"=some none):AG P w K mg base AJ 1 f eQ C4 (Ho C "word" "at"):=by
 refine F.okD U0 fun _ A _ _ H vs Q E hr h=>?_;obtain⟨e,t,v1,v2,rfl,he,k⟩:=h;refine{_,zR (Qm EI mo n1 (pv 0) (pv 1)) (zY (Qm EI mo n2 (pv 0) (pv 2))),?_};refine{5,e,t,0,.inl {he,fun dx gw=>?_}};have ne:dx≠e:=fun z=>by rw[z,he] at gw;cases gw
 refine{5,e,t,0,.inr {dx,_,zI,by rw[zj ne,zI],by show 1<900;decide,?_}};show Q _ _;rw[Ip ne];exact k dx gw ne
structure Ur (eM:List (List En))(i:Nat)(e:En):Prop where
 hi:i<eM.length
 mem:e∈eM.getD i []
 far:e.l≠0
def Hd (ts:List T3)(eM:List (List En))(i:Nat)(e:En):Prop:=∃u t f,e.u=some u/\Ai ts i u t/\f∈eM.getD u.toNat []/\f.h=e.h/\f.l=e.l-t
def JF (ts:List T3)(eM:List (List En))(i:Nat)(e:En):Prop:=∃d t c,e.d=some d/\Ai ts e.h d t/\Cy (Cd (eM.getD d.toNat []) (eM.getD i [])) (some c)/\c.1=e.l-t
theorem getD_some {α:Type}{l:List (List α)}(h:i<l.length):l[i]?=some (l.getD i []):=by rw[zJ,zD h];rfl
theorem FK.at (K:FK n eM)(h:i<eM.length):Gs n (eM.getD i []):=K.kd _ (zQ (getD_some h))
theorem WX:∀l:List (Int×Int),∃lm,Cy (fun c=>c∈l) lm
 | []=>{none,fun c z=>by cases z}
 | a::l=>by
  obtain⟨lm,h⟩:=WX l;cases lm with
  | none=>
   refine{some a,zX,fun c hc=>?_};rcases zb.mp hc with rfl | z
   . exact .inr {0,Df _}
   . exact absurd z (h c)
  | some b=>
   by_cases q:a.1<b.1\/(a.1=b.1/\a.2<=b.2)
   . refine{some a,zX,fun c hc=>?_};rcases zb.mp hc with rfl | z
     . exact .inr {0,Df _}
     . have:=h.2 c z
       lia
   . refine{some b,zd _ h.1,fun c hc=>?_};rcases zb.mp hc with rfl | z
     . lia
     . exact h.2 c z
theorem Ss (hf:C3 fs):∃lm,Cy (Cd es fs) lm:=by obtain⟨lm,h⟩:=WX (es.filterMap (CM fs));exact{lm,h.congr (KH hf)}
theorem Gs.zero (K:Gs n es):∃e,es.filter (fun e=>decide (e.l=0))=[e]:=by
 have h:=K.one;rw[List.countP_map,List.countP_eq_length_filter] at h;have e:(fun e:En=>decide (e.l=0))=((fun x:Int=>x==0)∘fun x:En=>x.l):=by funext x;show decide (x.l=0)=(x.l==0);rw[Bool.eq_iff_iff,decide_eq_true_iff,beq_iff_eq]
 rw[<-e] at h;exact List.length_eq_one_iff.mp h
def A4 {α:Type}(l:List α)(ok:α->Prop)(dat:α->PyData):Option PyData->Prop
 | none=>∀x∈l,ok x
 | some d=>∃(m:Nat)(x:α),l[m]?=some x/\¬ ok x/\d=dat x/\∀(k:Nat)(y:α),k<m->l[k]?=some y->ok y
theorem A4.uniq :∀{a b:Option PyData},A4 l ok dat a->A4 l ok dat b->a=b
 | none,none,_,_=>rfl
 | none,some _,h,{_,x,hx,no,_}=>absurd (h x (zQ hx)) no
 | some _,none,{_,x,hx,no,_},h=>absurd (h x (zQ hx)) no
 | some _,some _,⟨m,x,hx,no,e,a⟩,⟨m',x',fK,no',e',a'⟩=>by
  rcases Nat.lt_trichotomy m m' with z | z | z
  . exact absurd (a' m x z hx) no
  . subst z;rw[hx] at fK;cases fK;rw[e,e']
  . exact absurd (a m' x' z fK) no'
def O3 (eM:List (List En))(i:Nat):Prop:=∀e r,(eM.getD i []).filter (fun e=>decide (e.l=0))=e::r->e.h=i
def JX (eM:List (List En)):Option PyData->Prop:=A4 (List.range eM.length) (O3 eM) (fun i=>.int i)
noncomputable def E6 (x:Nat×En):PyData:=.tuple [.int x.1,.int x.2.h]
def Ic (ts:List T3)(eM:List (List En)):Option PyData->Prop:=A4 (Bp eM eM.length) (fun x=>Hd ts eM x.1 x.2) E6
def NK (ts:List T3)(eM:List (List En)):Option PyData->Prop:=A4 (Bp eM eM.length) (fun x=>JF ts eM x.1 x.2) E6
noncomputable def Rn:Option Int->Option Int->Int->Bool
 | none,_,_=>false
 | some _,none,_=>true
 | some d,some c,l=>decide (d+l<c)
def Ds (ts:List T3)(eM:List (List En))(u v w:Nat):Prop:=∃t lv lw,Ai ts v w t/\Cy (Cd (eM.getD v []) (eM.getD u [])) lv/\Cy (Cd (eM.getD w []) (eM.getD u [])) lw/\Rn (lv.map (·.1)) (lw.map (·.1)) t=true
def Cm (ts:List T3)(eM:List (List En)):Option PyData->Prop
 | none=>∀u v w:Nat,u<eM.length->v<eM.length->w<eM.length->¬ Ds ts eM u v w
 | some d=>∃u v w:Nat,u<eM.length/\v<eM.length/\w<eM.length/\Ds ts eM u v w/\d=.tuple [.int u,.int v,.int w]/\∀u' v' w':Nat,(u'<u\/(u'=u/\(v'<v\/(v'=v/\w'<w))))->v'<eM.length->w'<eM.length->¬ Ds ts eM u' v' w'
theorem Cm.uniq :∀{a b:Option PyData},Cm ts eM a->Cm ts eM b->a=b
 | none,none,_,_=>rfl
 | none,some _,h,{u,v,w,hu,hv,hw,g,_}=>absurd g (h u v w hu hv hw)
 | some _,none,{u,v,w,hu,hv,hw,g,_},h=>absurd g (h u v w hu hv hw)
 | some _,some _,⟨u,v,w,hu,hv,hw,g,e,a⟩,⟨u',v',w',hu',jH,jU,g',e',a'⟩=>by
  by_cases c:u=u'/\v=v'/\w=w'
  . obtain⟨rfl,rfl,rfl⟩:=c;rw[e,e']
  . by_cases l:u'<u\/(u'=u/\(v'<v\/(v'=v/\w'<w)))
    . exact absurd g' (a u' v' w' l jH jU)
    . exact absurd g (a' u v w (by lia) hv hw)
inductive Fo (ts:List T3)(eM:List (List En)):Option (Str×PyData)->Prop
 | own (d:PyData)(h:JX eM (some d)):Fo ts eM (some ("own",d))
 | up (d:PyData)(o:JX eM none)(h:Ic ts eM (some d)):Fo ts eM (some ("up",d))
 | tie (d:PyData)(o:JX eM none)(u:Ic ts eM none)(h:Cm ts eM (some d)):Fo ts eM (some ("tie",d))
 | down (d:PyData)(o:JX eM none)(u:Ic ts eM none)(t:Cm ts eM none)(h:NK ts eM (some d)):Fo ts eM (some ("down",d))
 | none (o:JX eM none)(u:Ic ts eM none)(t:Cm ts eM none)(h:NK ts eM none):Fo ts eM Option.none
theorem Fo.uniq (x:Fo ts eM a)(y:Fo ts eM b):a=b:=by
 cases x with
 | own d h=>cases y with
  | own d' h'=>cases A4.uniq h h';rfl
  | up _ o _=>cases A4.uniq h o
  | tie _ o _ _=>cases A4.uniq h o
  | down _ o _ _ _=>cases A4.uniq h o
  | none o _ _ _=>cases A4.uniq h o
 | up d o h=>cases y with
  | own d' h'=>cases A4.uniq o h'
  | up d' _ h'=>cases A4.uniq h h';rfl
  | tie _ _ u _=>cases A4.uniq h u
  | down _ _ u _ _=>cases A4.uniq h u
  | none _ u _ _=>cases A4.uniq h u
 | tie d o u h=>cases y with
  | own d' h'=>cases A4.uniq o h'
  | up d' _ h'=>cases A4.uniq u h'
  | tie d' _ _ h'=>cases Cm.uniq h h';rfl
  | down _ _ _ t _=>cases Cm.uniq h t
  | none _ _ t _=>cases Cm.uniq h t
 | down d o u t h=>cases y with
  | own d' h'=>cases A4.uniq o h'
  | up d' _ h'=>cases A4.uniq u h'
  | tie d' _ _ h'=>cases Cm.uniq t h'
  | down d' _ _ _ h'=>cases A4.uniq h h';rfl
  | none _ _ _ d'=>cases A4.uniq h d'
 | none o u t d=>cases y with
  | own d' h'=>cases A4.uniq o h'
  | up d' _ h'=>cases A4.uniq u h'
  | tie d' _ _ h'=>cases Cm.uniq t h'
  | down d' _ _ _ h'=>cases A4.uniq d h'
  | none _ _ _ _=>rfl
structure HE (H:Hp)(wa la:Addr)(n:Int)(ts:List T3)(eM:List (List En)):Prop where
 wb:BF H wa n ts
 lb:EJ H la eM
 kd:FK n eM
theorem HE.same (h:HE H wa la n ts eM)(s:AE H H'):HE H' wa la n ts eM:={h.wb.keep s,h.lb.keep fun b ys e=>s _ _ e,h.kd}
def D5 (R:List T3->List (List En)->Nat->En->Prop):Sp:=fun vs H Q _=>∃wa la a,∃(i:Nat)(n:Int),∃ts eM e,vs=[.ref wa,.ref la,.int i,.ref a]/\HE H wa la n ts eM/\H a=some (.tup (eV e))/\Ur eM i e/\∀(b:Bool) H',(b=true↔R ts eM i e)->AE H H'->Q (.bl b) H'
def Gg (G:List T3->List (List En)->Option PyData->Prop):Sp:=fun vs H Q _=>∃wa la n ts eM,vs=[.ref wa,.ref la]/\HE H wa la n ts eM/\∀(o:Option PyData) v H',G ts eM o->Ag H' v (o.getD .none)->AE H H'->Q v H'
def K6:Sp:=fun vs H Q _=>∃wa la n ts eM,vs=[.ref la]/\HE H wa la n ts eM/\∀(o:Option PyData) v H',JX eM o->Ag H' v (o.getD .none)->AE H H'->Q v H'
def OV:Sp:=fun vs H Q _=>∃x y l,vs=[oV x,oV y,.int l]/\Q (.bl (Rn x y l)) H
def Mf (C:Addr):Sp:=fun vs H Q E=>∃x v,vs=[.str x,v]/\(v=.non->Q .non H)/\(v ≠ .non->∀tt dx,H tt=none->H dx=none->tt≠dx->E (.ref C) (some dx) (upd (upd H tt (.tup [.str x,v])) dx (dO dx [("word",.str x),("at",v)])))
theorem HE.at (h:HE H wa la n ts eM)(p0:0<=p)(p1:p<n):∃(as:List Addr)(c:Addr),H la=some (.tup (as.map V.ref))/\(as.map V.ref)[p.toNat]?=some (.ref c)/\p.toNat<eM.length/\CI H c (eM.getD p.toNat [])/\Gs n (eM.getD p.toNat []):=by
 obtain⟨as,hl,g6,hA⟩:=h.lb;have jq:=h.kd.ln;have hp:p.toNat<as.length:=by lia
 obtain⟨es,he,L⟩:=hA p.toNat as[p.toNat] (zD hp);have e:eM.getD p.toNat []=es:=by rw[zJ,he];rfl
 refine{as,as[p.toNat],hl,by rw[zN,zD hp];rfl,by lia,by rw[e];exact L,h.kd.at (by lia)}
theorem LQ:zw ["web","labels","place","entry","tie","above"] Ga (defScope RU):=AV
theorem PV (F:Fu K "is_up_right" RU f eQ) (FL:AF K mg "long_of" NX fL fdL Px) (GL:AH P w base 3 FL Qv)
 (FE:AF K mg "entry_of" HX fE fdE ["label","hub"]) (GE:AH P w base 3 FE Il):AG P w K mg base AJ 4 f eQ Ga (D5 Hd):=by
 refine F.okD LQ fun _ A _ _ H vs Q E hr h=>?_;obtain⟨wa,la,a,i,n,ts,eM,e,rfl,I,ha,fe,k⟩:=h;obtain⟨_,_,_,_,_,G⟩:=id I.wb;obtain⟨p,d,eu,ed,p0,p1,_⟩:=((I.kd.at fe.hi).ent e fe.mem).far fe.far;have hev:eV e=[.int e.h,.int e.l,.int p,oV e.d]:=by unfold eV;rw[eu];rfl
 refine{_,zR (Ab (i:=4) LQ.nd (AI GL hr FL (zC (pv 0) (zC (pv 2) (zC (zt AU (pv 3) zf) zM)))))
  (zR (Ab (i:=5) LQ.nd (AI GE hr FE (zC (zt AU (pv 1) (zt AU (pv 3) zf)) (zC (zt AU (pv 3) zf) zM))))
  (zY (AM (Ba (BN Ff (pv 4) Ar (AN _)) (Ba (BN Ff (pv 5) Ar (AN _)) (Bl (BN BG (zt AU (pv 5) zf) (Aa EN (zt AU (pv 3) zf) (pv 4)) (AN _)))))))),?_}
 rw[hev] at ha;refine{1,5,a,4,.int p,3,AB.of ha,0,wa,n,ts,i,p,0,I.wb,fun r H1 s1 hr1=>?_};obtain⟨as,c,h1,h2,hp,L3,K3⟩:=(I.same s1).at p0 p1;have ha1:=s1 _ _ ha;refine{5,a,4,.int p,3,AB.of ha1,0,la,4,.ref c,3,AB.of h1,CB p0 h2,1,a,4,.int e.h,3,AB.of ha1,0,c,_,e.h,0,L3,(fun z=>?_),fun g a' hg iY=>?_}
 . have no:¬ Hd ts eM i e:=fun ⟨u,t,f,hu,_,hf,fh,_⟩=>by rw[eu] at hu;cases hu;exact Xx.mp z f hf fh
   rcases hr1 with ⟨l,hl,rfl⟩ | ⟨nt,rfl⟩
   . refine{1,7,Am (by rfl) ?_};exact{1,7,As (by rfl) (k false H1 {(fun z=>by cases z),fun z=>absurd z no} s1)}
   . exact{1,7,As (by rfl) (k false H1 {(fun z=>by cases z),fun z=>absurd z no} s1)}
 . obtain⟨gm,gh⟩:=(Mt K3.hub).mp hg;rcases hr1 with ⟨l,hl,rfl⟩ | ⟨nt,rfl⟩
   . refine{1,7,Am (by rfl) ?_};refine{1,7,Am (by rfl) ?_};refine{1,a',4,.int g.l,3,AB.of iY,7,a,4,.int e.l,3,AB.of ha1,7,2,0,?_};refine k _ H1 {fun z=>?_,fun ⟨u,t,f,hu,ht,hf,fh,fl⟩=>?_} s1
     . have z':=of_decide_eq_true z;injection z' with z';exact⟨p,l,g,eu,hl,gm,gh,z'⟩
     . rw[eu] at hu;cases hu;obtain rfl:=G.uniq hl ht;have:Bk (eM.getD p.toNat []) e.h=some f:=(Mt K3.hub).mpr ⟨hf,fh⟩;rw[hg] at this;cases this;exact zO (by rw[fl])
   . refine{1,7,As (by rfl) (k false H1 {(fun z=>by cases z),fun ⟨u,t,f,hu,ht,_⟩=>?_} s1)};rw[eu] at hu;cases hu;exact absurd ht (nt t)
theorem OI:zw ["web","labels","place","entry","tie"] Ga (defScope RW):=AV
theorem O5 {fT:Addr}(F:Fu K "is_down_right" RW f eQ) (FL:AF K mg "long_of" NX fL fdL Px) (GL:AH P w base 3 FL Qv)
 (FT:AF K mg "told" Nh fT jD GZ) (GT:AH P w base 3 FT QR):AG P w K mg base AJ 4 f eQ Ga (D5 JF):=by
 refine F.okD OI fun _ A _ _ H vs Q E hr h=>?_;obtain⟨wa,la,a,i,n,ts,eM,e,rfl,I,ha,fe,k⟩:=h;obtain⟨_,_,_,_,_,G⟩:=id I.wb;obtain⟨u,p,eu,ed,_,_,p0,p1⟩:=((I.kd.at fe.hi).ent e fe.mem).far fe.far;have jq:=I.kd.ln;have hi:=fe.hi;have hev:eV e=[.int e.h,.int e.l,oV e.u,.int p]:=by unfold eV;rw[ed];rfl
 refine{_,zR (Ab (i:=4) OI.nd (AI GL hr FL (zC (pv 0) (zC (zt AU (pv 3) zf) (zC (zt AU (pv 3) zf) zM)))))
  (zY (AM (Ba (BN Ff (pv 4) Ar (AN _)) (Bl (BN BG (AI GT hr FT (zC (zt AU (pv 1) (zt AU (pv 3) zf)) (zC (zt AU (pv 1) (pv 2)) zM))) (Aa EN (zt AU (pv 3) zf) (pv 4)) (AN _)))))),?_}
 rw[hev] at ha;refine{5,a,4,.int e.h,3,AB.of ha,7,a,4,.int p,3,AB.of ha,0,wa,n,ts,e.h,p,0,I.wb,fun r H1 s1 hr1=>?_};have ha1:=s1 _ _ ha;rcases hr1 with ⟨l,hl,rfl⟩ | ⟨nt,rfl⟩
 . obtain⟨as,ax,h1,gx,hp,lx,Kx⟩:=(I.same s1).at p0 p1;obtain⟨as2,ay,h12,gy,gq,ly,Ky⟩:=(I.same s1).at (show (0:Int)<=i by lia) (show (i:Int)<n by lia);rw[show ((i:Int)).toNat=i by lia] at gy gq ly Ky;rw[h1] at h12;have e12:as.map V.ref=as2.map V.ref:=by injection h12 with z;injection z
   rw[<-e12] at gy;refine{1,7,Am (by rfl) ?_};refine{5,a,4,.int p,3,AB.of ha1,0,la,4,.ref ax,3,AB.of h1,CB p0 gx,5,la,4,.ref ay,3,AB.of h1,CB (by lia) gy,ax,ay,6,lx,ly,Ky.hub,fun lm H2 s2 hm=>?_};have s12:=s1.trans s2;refine{1,a,4,.int e.l,3,AB.of (s12 _ _ ha),7,2,by cases lm <;> rfl,?_};refine k _ H2 {fun z=>?_,fun ⟨d,t,c,hd,ht,hm',hc⟩=>?_} s12
   . have z':=of_decide_eq_true z;cases lm with
     | none=>cases z'
     | some c=>injection (show V.int c.1=V.int (e.l-l) from z') with z';exact⟨p,l,c,ed,hl,hm,z'⟩
   . rw[ed] at hd;cases hd;obtain rfl:=G.uniq hl ht;obtain rfl:=hm.uniq hm';exact zO (by show V.int c.1=_;rw[hc])
 . refine{1,7,As (by rfl) (k false H1 {(fun z=>by cases z),fun ⟨d,t,c,hd,ht,_⟩=>?_} s1)};rw[ed] at hd;cases hd;exact absurd ht (nt t)
theorem Lx:zw Ga DL (defScope Ro):=AV
theorem Nr :∀{n i:Nat}{e:En},(i,e)∈Bp eM n->e.l≠0
 | 0,_,_,h=>by simp[Bp] at h
 | n+1,i,e,h=>by
  rcases zg.mp (show (i,e)∈Bp eM n++_ from h) with z | z
  . exact Nr z
  . obtain⟨x,hx,ex⟩:=DS.mp z;simp only[Prod.mk.injEq] at ex;obtain⟨rfl,rfl⟩:=ex;simpa using (ES.mp hx).2
theorem P5 (F:Fu K "up_fault" Ro f eQ) (FF:AF K mg "far_entries" Nc fF fdF G8) (GF:AH P w base 4 FF QI)
 (FU:AF K mg "is_up_right" RU fU fdU Ga) (GU:AH P w base 4 FU (D5 Hd)):AG P w K mg base AJ 5 f eQ DL (Gg Ic):=by
 refine F.okD Lx fun _ A _ _ H vs Q E hr h=>?_;obtain⟨wa,la,n,ts,eM,rfl,I,k⟩:=h;obtain⟨_,_,_,_,_,G⟩:=id I.wb;have hn:=G.n24;have hl:=I.kd.ln;refine{_,zR (Au (Ep (AI GF hr FF (zC (pv 1) zM))) (CC rfl (zx (AW (i:=2) Lx.nd) (zx (AW (i:=3) Lx.nd) Br)))
  (zY (Ad (BC (A0 (AI GU hr FU (zC (pv 0) (zC (pv 1) (zC (pv 2) (zC (pv 3) zM))))))) (zY (AM (Af (zC (pv 2) (zC (zt AU (pv 3) zf) zM))))) Ac)))
  (zY (AM Ar)),?_}
 refine{1,la,eM,0,I.lb,by lia,fun es hU=>?_,fun D ys H1 s1 _ hD FA=>?_}
 . have:=(I.kd.kd es hU).len
   lia
 refine{D,0,{_,AD.of hD},Mb (K:=K) (a:=D) (xs:=ys) (fun j σ H2=>EU fun (v2 v3:Option V)=>σ=[some (.ref wa),some (.ref la),v2,v3]/\AE H1 H2/\∀i e,(i,e)∈(Bp eM eM.length).take j->Hd ts eM i e) {6,AE.refl _,(fun i e z=>by rw[Gf] at z;cases z)} (fun j σ H2 _ z=>?_) (fun j x σ H2 hx z=>?_) (fun σ H2 z=>?_)}
 . obtain⟨_,_,_,s2,_⟩:=z;exact AD.of (s2 _ _ hD)
 . obtain⟨v2,v3,rfl,s2,all⟩:=z;obtain⟨c,a,i,e,rfl,hf,hc,ha⟩:=FA.2 j x hx;have hm:=zQ hf;obtain⟨m1,m2⟩:=NB hm;have fe:Ur eM i e:={m1,m2,Nr hm};refine{c,1,AB.of (s2 _ _ hc),0,6,2,?_};refine{5,5,wa,la,a,i,n,ts,eM,e,0,(I.same s1).same s2,s2 _ _ ha,fe,fun b H3 hb s3=>?_};refine{b,0,?_};cases b with
   | true=>
    refine AZ {6,s2.trans s3,fun i' e' z=>?_};rw[zu,hf] at z;rcases zg.mp z with z | z
    . exact all i' e' z
    . have:=zl.mp z;injection this with q1 q2;subst q1 q2;exact hb.mp rfl
   | false=>refine Ak ?_;refine{5,a,4,.int e.h,3,AB.of (s3 _ _ (s2 _ _ ha)),0,Al,fun q hq=>?_};refine k (some (E6 (i,e))) _ _ {j,(i,e),hf,(fun z=>by cases hb.mpr z),0,fun k' y hk hy=>all y.1 y.2 ?_} (.tup zI (.cons (.int _) (.cons (.int _) .nil))) (s1.trans (s2.trans (s3.trans (zF hq))));exact zQ (i:=k') (by rw[List.getElem?_take,if_pos hk];exact hy)
 . obtain⟨v2,v3,rfl,s2,all⟩:=z;refine k none _ _ (fun x hx=>all x.1 x.2 ?_) .non (s1.trans s2);rw[FA.1,zW (zK _)];exact hx
theorem MX:zw Ga DL (defScope Rm):=AV
theorem OL (F:Fu K "down_fault" Rm f eQ) (FF:AF K mg "far_entries" Nc fF fdF G8) (GF:AH P w base 4 FF QI)
 (FU:AF K mg "is_down_right" RW fU fdU Ga) (GU:AH P w base 4 FU (D5 JF)):AG P w K mg base AJ 5 f eQ DL (Gg NK):=by
 refine F.okD MX fun _ A _ _ H vs Q E hr h=>?_;obtain⟨wa,la,n,ts,eM,rfl,I,k⟩:=h;obtain⟨_,_,_,_,_,G⟩:=id I.wb;have hn:=G.n24;have hl:=I.kd.ln;refine{_,zR (Au (Ep (AI GF hr FF (zC (pv 1) zM))) (CC rfl (zx (AW (i:=2) MX.nd) (zx (AW (i:=3) MX.nd) Br)))
  (zY (Ad (BC (A0 (AI GU hr FU (zC (pv 0) (zC (pv 1) (zC (pv 2) (zC (pv 3) zM))))))) (zY (AM (Af (zC (pv 2) (zC (zt AU (pv 3) zf) zM))))) Ac)))
  (zY (AM Ar)),?_}
 refine{1,la,eM,0,I.lb,by lia,fun es hU=>?_,fun D ys H1 s1 _ hD FA=>?_}
 . have:=(I.kd.kd es hU).len
   lia
 refine{D,0,{_,AD.of hD},Mb (K:=K) (a:=D) (xs:=ys) (fun j σ H2=>EU fun (v2 v3:Option V)=>σ=[some (.ref wa),some (.ref la),v2,v3]/\AE H1 H2/\∀i e,(i,e)∈(Bp eM eM.length).take j->JF ts eM i e) {6,AE.refl _,(fun i e z=>by rw[Gf] at z;cases z)} (fun j σ H2 _ z=>?_) (fun j x σ H2 hx z=>?_) (fun σ H2 z=>?_)}
 . obtain⟨_,_,_,s2,_⟩:=z;exact AD.of (s2 _ _ hD)
 . obtain⟨v2,v3,rfl,s2,all⟩:=z;obtain⟨c,a,i,e,rfl,hf,hc,ha⟩:=FA.2 j x hx;have hm:=zQ hf;obtain⟨m1,m2⟩:=NB hm;have fe:Ur eM i e:={m1,m2,Nr hm};refine{c,1,AB.of (s2 _ _ hc),0,6,2,?_};refine{5,5,wa,la,a,i,n,ts,eM,e,0,(I.same s1).same s2,s2 _ _ ha,fe,fun b H3 hb s3=>?_};refine{b,0,?_};cases b with
   | true=>
    refine AZ {6,s2.trans s3,fun i' e' z=>?_};rw[zu,hf] at z;rcases zg.mp z with z | z
    . exact all i' e' z
    . have:=zl.mp z;injection this with q1 q2;subst q1 q2;exact hb.mp rfl
   | false=>refine Ak ?_;refine{5,a,4,.int e.h,3,AB.of (s3 _ _ (s2 _ _ ha)),0,Al,fun q hq=>?_};refine k (some (E6 (i,e))) _ _ {j,(i,e),hf,(fun z=>by cases hb.mpr z),0,fun k' y hk hy=>all y.1 y.2 ?_} (.tup zI (.cons (.int _) (.cons (.int _) .nil))) (s1.trans (s2.trans (s3.trans (zF hq))));exact zQ (i:=k') (by rw[List.getElem?_take,if_pos hk];exact hy)
 . obtain⟨v2,v3,rfl,s2,all⟩:=z;refine k none _ _ (fun x hx=>all x.1 x.2 ?_) .non (s1.trans s2);rw[FA.1,zW (zK _)];exact hx
theorem MN:zw ["labels","place","label"] G8 (defScope Ri):=AV
theorem Pk (F:Fu K "own_fault" Ri f eQ) (FO:AF K mg "own_place" Hb fO fdO ["label"]) (GO:AH P w base 4 FO Ii) (gH:mg "enumerate"=none):AG P w K mg base AJ 5 f eQ G8 K6:=by
 refine F.okD MN fun _ A _ _ H vs Q E hr h=>?_;obtain⟨wa,la,n,ts,eM,rfl,I,k⟩:=h;obtain⟨_,_,_,_,_,G⟩:=id I.wb;obtain⟨as,hl,g6,hA⟩:=id I.lb;refine{_,zR (Au (SN (by rfl) gH (zC (pv 0) zM)) (CC rfl (zx (AW (i:=1) MN.nd) (zx (AW (i:=2) MN.nd) Br)))
  (zY (Ad (AR N0 (AI GO hr FO (zC (pv 2) zM)) (pv 1) (AN _)) (zY (AM (pv 1))) Ac)))
  (zY (AM Ar)),?_}
 have gd:∀ {i es},eM[i]?=some es->eM.getD i []=es:=fun {i es} he=>by rw[zJ,he];rfl
 refine{1,la,0,{_,AB.of hl},R8 (K:=K) (a:=la) (xs:=as.map V.ref) (fun i σ H2=>EU fun (v1 v2:Option V)=>σ=[some (.ref la),v1,v2]/\AE H H2/\∀(j:Nat) e r,j<i->(eM.getD j []).filter (fun e=>decide (e.l=0))=e::r->e.h=j) {6,AE.refl _,(fun j e r z=>absurd z (Ce _))} (fun i σ H2 _ ⟨_,_,_,s2,_⟩=>AB.of (s2 _ _ hl)) (fun i x σ H2 Tp hx z hTp=>?_) (fun σ H2 z=>?_)}
 . obtain⟨v1,v2,rfl,s2,all⟩:=z;rw[zN] at hx;cases ha:as[i]? with
   | none=>rw[ha] at hx;cases hx
   | some a=>
   rw[ha] at hx;cases hx;obtain⟨es,he,L⟩:=hA i a ha;have hi:i<eM.length:=(zG.mp he).1;obtain⟨e,hf⟩:=(I.kd.at hi).zero;rw[gd he] at hf;have s3:=s2.trans (zF (o:=.tup [.int (i:Int),.ref a]) hTp);refine{Tp,1,AB.of zI,0,6,2,?_};generalize upd H2 Tp (.tup [.int (i:Int),.ref a])=H3 at s3 ⊢;refine{1,a,es,e,[],0,L.same s3,hf,fun H4 s4=>?_};refine{1,7,?_};by_cases c:e.h=i
   . refine As (by rw[c];simp) {6,s3.trans s4,fun j e' r' hj jM=>?_};by_cases q:j=i
     . subst q;rw[gd he,hf] at jM;cases jM;exact c
     . exact all j e' r' (by lia) jM
   . refine Am (by simp[c]) {1,k (some (.int i)) _ _ {i,i,NC hi,(fun z=>c (z e [] (by rw[gd he];exact hf))),0,fun k' y hk hy e' r' jM=>?_} (.int _) (s3.trans s4)};obtain⟨hk2,rfl⟩:=zG.mp hy;rw[List.getElem_range] at jM ⊢;exact all k' e' r' hk jM
 . obtain⟨v1,v2,rfl,s2,all⟩:=z;refine k none _ _ (fun i hi e r hf=>all i e r ?_ hf) .non s2;rw[zB,g6];exact Eo.mp hi
theorem VL:zw Pp Pp (defScope Rz):=AV
theorem Om (F:Fu K "grows_too_much" Rz f eQ):AG P w K mg base AJ 1 f eQ Pp OV:=by
 refine F.okD VL fun _ A _ _ H vs Q E hr h=>?_;obtain⟨x,y,l,rfl,k⟩:=h;refine{_,zR (Ad (AR Dq (pv 0) Ar (AN _)) (zY (AM Eh)) Ac)
  (zY (AM (Tq (BN Dq (pv 1) Ar (AN _)) (Bl (BN Hl (pv 1) (Aa CA (pv 0) (pv 2)) (AN _)))))),?_}
 cases x with
 | none=>exact{1,7,Am (by rfl) k}
 | some d=>
  refine{1,7,As (by rfl) ?_};cases y with
  | none=>exact{1,7,Am (by rfl) k}
  | some c=>refine{1,7,As (by rfl) ?_};exact{1,5,2,2,k}
theorem JU:zw ["web","labels","u","label","row","v","w","long"] DL (defScope OJ):=AV
theorem Ph {fT:Addr}(F:Fu K "tie_fault" OJ f eQ) (FT:AF K mg "told" Nh fT jD GZ) (GT:AH P w base 4 FT QR)
 (FA:AF K mg "ties_at" N3 fA fdA QB) (GA:AH P w base 4 FA SK)
 (FG:AF K mg "grows_too_much" Rz fG fdG Pp) (GG:AH P w base 4 FG OV) (gH:mg "enumerate"=none) (eN:mg "range"=none):AG P w K mg base AJ 5 f eQ DL (Gg Cm):=by
 refine F.okD JU fun _ A _ _ H vs Q E hr h=>?_;obtain⟨wa,la,n,ts,eM,rfl,I,k⟩:=h;obtain⟨ta,tys,gB,_,_,G⟩:=id I.wb;have iw:=G.n1;have hn:=G.n24;have jq:=I.kd.ln;obtain⟨as,hl,g6,hA⟩:=id I.lb;refine{_,zR (Au (SN (by rfl) gH (zC (pv 1) zM)) (CC rfl (zx (AW (i:=2) JU.nd) (zx (B9 (i:=3) JU.nd rfl (Or.inr rfl)) Br)))
  (zR (Ea (i:=4) (own:=["other"]) (cn:=["label"]) (ci:=[3]) JU.nd rfl (Or.inl rfl) rfl (Az rfl rfl) {0,3,trivial} rfl (Ay (pv 1)) (fun _ _ _ _=>Aw) (fun _ _ _ _=>Bc)
   (fun _ _ _ _=>AI GT hr FT (zC (pv 0) (zC (pv 1) zM))))
  (zY (Au (Be rfl eN (zC (zt AU (pv 0) zf) zM)) (AW (i:=5) JU.nd)
   (zY (Au (Ep (AI GA hr FA (zC (pv 0) (zC (pv 5) zM)))) (CC rfl (zx (AW (i:=6) JU.nd) (zx (AW (i:=7) JU.nd) Br)))
    (zY (Ad (A0 (AI GG hr FG (zC (zt AY (pv 4) (pv 5)) (zC (zt AY (pv 4) (pv 6)) (zC (pv 7) zM))))) (zY (AM (Af (zC (pv 2) (zC (pv 5) (zC (pv 6) zM)))))) Ac))))))))
  (zY (AM Ar)),?_}
 have gd:∀ {i es},eM[i]?=some es->eM.getD i []=es:=fun {i es} he=>by rw[zJ,he];rfl
 refine{1,la,0,{_,AB.of hl},R8 (K:=K) (a:=la) (xs:=as.map V.ref) (fun i σ H2=>Rt fun (v2 v3 v4 v5 v6 v7:Option V)=>σ=[some (.ref wa),some (.ref la),v2,v3,v4,v5,v6,v7]/\AE H H2/\∀u v w:Nat,u<i->v<eM.length->w<eM.length->¬ Ds ts eM u v w) {_,9,6,AE.refl _,(fun u v w z=>absurd z (Ce _))} (fun i σ H2 _ ⟨_,_,_,_,_,_,_,s2,_⟩=>AB.of (s2 _ _ hl)) (fun u x σ H2 Tp hx z hTp=>?_) (fun σ H2 z=>?_)}
 . obtain⟨v2,v3,v4,v5,v6,v7,rfl,s2,all⟩:=z;rw[zN] at hx;cases ha:as[u]? with
   | none=>rw[ha] at hx;cases hx
   | some a=>
   rw[ha] at hx;cases hx;obtain⟨fs,hfs,Lu⟩:=hA u a ha;have hul:u<eM.length:=(zG.mp hfs).1;have gu:=I.kd.at hul;rw[gd hfs] at gu;have s3:=s2.trans (zF (o:=.tup [.int (u:Int),.ref a]) hTp);refine{Tp,1,AB.of zI,0,6,2,?_};generalize upd H2 Tp (.tup [.int (u:Int),.ref a])=H3 at s3 ⊢;refine{1,la,0,{_,AB.of (s3 _ _ hl)},[.ref a],0,fun D hD=>?_};refine BJ (a:=la) (xs:=as.map V.ref) (fun i ys H4=>∃os:List (Option Int),ys=os.map oV/\os.length=i/\(∀(j:Nat) o,os[j]?=some o->∃lm,Cy (Cd (eM.getD j []) fs) lm/\o=lm.map (·.1))/\i<=eM.length/\AE H3 H4/\H4 D=some (.lst ys)) {[],3,(fun j o e=>by simp at e),zh _,zF hD,zI} (fun i ys H4 z=>?_) (fun i ys H4 z=>?_) (fun i x ys H4 hx z=>?_) (fun ys H4 z=>?_)
   . obtain⟨_,_,_,_,_,s4,_⟩:=z;exact AB.of (s4 _ _ (s3 _ _ hl))
   . obtain⟨os,rfl,ho,_,hi,_⟩:=z;rw[zB];exact Aq (by lia)
   . obtain⟨os,rfl,ho,jk,hi,s4,h4⟩:=z;rw[zN] at hx;cases hb:as[i]? with
     | none=>rw[hb] at hx;cases hx
     | some b=>
     rw[hb] at hx;cases hx;obtain⟨es,hU,Li⟩:=hA i b hb;have s34:=s3.trans s4;refine{{3},?_};refine Bf ?_;refine{5,b,a,es,fs,0,Li.same s34,Lu.same s34,gu.hub,fun lm H5 s5 hm=>?_};refine{s5 _ _ h4,os++[lm.map (·.1)],by rw[zT];rfl,by rw[zH,ho];rfl,fun j o e=>?_,(zG.mp hU).1,Av (s4.trans s5) hD,zI};by_cases c:j<os.length
     . rw[ze c] at e;exact jk j o e
     . rw[za (by lia)] at e;have hj:j=i:=by
        have:=(zG.mp e).1;rw[Me] at this
        lia
       subst hj;rw[show j-os.length=0 by lia] at e;cases e;exact{lm,by rw[gd hU];exact hm,0}
   . obtain⟨os,rfl,ho,jk,_,s4,h4⟩:=z;rw[zB,g6] at ho;have s34:=s3.trans s4;have at':∀x:Int,0<=x->x<n->∃lm,BI (os.map oV) x=some (oV (lm.map (·.1)))/\Cy (Cd (eM.getD x.toNat []) (eM.getD u [])) lm:=fun x x0 x1=>by
      have hx:x.toNat<os.length:=by lia
      obtain⟨lm,h1,h2⟩:=jk x.toNat _ (zD hx);exact{lm,CB x0 (by rw[zN,zD hx,h2];rfl),by rw[gd hfs];exact h1}
     refine{1,wa,8,AB.of (s34 _ _ gB),0,n,0,by lia,by lia,CL (lo:=0) (n:=n.toNat) (fun i σ H5=>GB fun (v5 v6 v7:Option V)=>σ=[some (.ref wa),some (.ref la),some (.int u),some (.ref a),some (.ref D),v5,v6,v7]/\AE H4 H5/\∀v w:Nat,v<i->w<eM.length->¬ Ds ts eM u v w) {_,6,AE.refl _,(fun v w z=>absurd z (Ce _))} (fun v σ H5 hv z=>?_) (fun σ H5 z=>?_)}
     . obtain⟨w5,w6,w7,rfl,s5,allv⟩:=z;rw[Bt];have s35:=s34.trans s5;refine{5,wa,n,ts,v,0,I.wb.keep s35,fun l zs ms H6 s6 _ hl6 TA hp hris=>?_};refine{l,0,{_,AD.of hl6},Mb (K:=K) (a:=l) (xs:=zs) (fun j σ H7=>EU fun (v6 v7:Option V)=>σ=[some (.ref wa),some (.ref la),some (.int u),some (.ref a),some (.ref D),some (.int v),v6,v7]/\AE H6 H7/\∀(r t:Int),[r,t]∈ms.take j->¬ Ds ts eM u v r.toNat) {6,AE.refl _,(fun r t z=>by rw[Gf] at z;cases z)} (fun j σ H7 _ z=>?_) (fun j x σ H7 hx z=>?_) (fun σ H7 z=>?_)}
       . obtain⟨_,_,_,s7,_⟩:=z;exact AD.of (s7 _ _ hl6)
       . obtain⟨x6,x7,rfl,s7,allt⟩:=z;obtain⟨ya,ky,rfl,f9,iK,_⟩:=TA.get hx;obtain⟨r,c,rfl,iX⟩:=Jq.mp (hp.mem_iff.mp (zQ f9));obtain⟨r0,r1⟩:0<=r/\r<n:=(Way.one iX).in_ G (by lia) (by lia);have h47:H7 D=some (.lst (os.map oV)):=s7 _ _ (s6 _ _ (s5 _ _ h4));obtain⟨o1,a1,L1⟩:=at' v (by lia) (by lia);obtain⟨o2,a2,L2⟩:=at' r r0 r1;rw[show ((v:Int)).toNat=v by lia] at L1;refine{ya,1,AB.of (s7 _ _ iK),0,6,2,?_};refine{5,D,8,AD.of h47,a1,5,D,8,AD.of h47,a2,1,o1.map (·.1),o2.map (·.1),c,0,?_};refine{1,?_};cases hg:Rn (o1.map (·.1)) (o2.map (·.1)) c with
         | false=>
          refine AZ {6,s7,fun r' t' z=>?_};rw[zu,f9] at z;rcases zg.mp z with z | z
          . exact allt r' t' z
          . have:=zl.mp z;injection this with q1 q2;injection q2 with q2 _;subst q1 q2;rintro ⟨t2,lv,lw,ad,hlv,hlw,g⟩;rw[show ((r'.toNat:Nat):Int)=r' by lia] at ad;rw[hlv.uniq L1,hlw.uniq L2,G.uniq ad iX,hg] at g;cases g
         | true=>
          refine Ak {1,5,GV,fun q hq=>?_};have rt:((r.toNat:Nat):Int)=r:=by lia
          refine k (some (.tuple [.int u,.int v,.int r.toNat])) _ _ {u,v,r.toNat,hul,by lia,by lia,{c,4,by rw[rt];exact iX,L1,L2,hg},0,fun u' v' w' l jH jU=>?_} (.tup zI (.cons (.int _) (.cons (.int _) (.cons (by rw[rt];exact .int _) .nil)))) (s35.trans (s6.trans (s7.trans (zF hq))));rcases l with l | ⟨rfl,l⟩
          . exact all u' v' w' l jH jU
          . rcases l with l | ⟨rfl,l⟩
            . exact allv v' w' l jU
            . intro gr;obtain⟨t2,_,_,ad,_⟩:=id gr;have hin:[(w':Int),t2]∈ms:=hp.mem_iff.mpr (Jq.mpr {w',t2,0,ad});obtain⟨k',jY,ek'⟩:=zr hin;have lt:k'<j:=by
               rcases Nat.lt_trichotomy k' j with q | q | q
               . exact q
               . subst q;rw[zD jY,ek'] at f9;injection f9 with f9;injection f9 with h1
                 lia
               . obtain⟨hj',ej'⟩:=zG.mp f9;have:=Ef.mp hris j k' hj' jY q;rw[ej',ek'] at this;rw[HT.lexLt_cons] at this;have ne:¬ (w':Int)=r:=by lia
                 rw[if_neg ne] at this;have:=of_decide_eq_false this
                 lia
              have:=allt w' t2 (zQ (i:=k') (by rw[List.getElem?_take,if_pos lt,zD jY,ek']));exact this (by rw[show ((w':Int)).toNat=w' by lia];exact gr)
       . obtain⟨x6,x7,rfl,s7,allt⟩:=z;refine{_,6,s5.trans (s6.trans s7),fun v' w' jH jU=>?_};by_cases q:v'=v
         . subst q;rintro gr;obtain⟨t2,_,_,ad,_⟩:=id gr;refine allt w' t2 ?_ (by rw[show ((w':Int)).toNat=w' by lia];exact gr);rw[TA.length,zW (zK _)];exact hp.mem_iff.mpr (Jq.mpr {w',t2,0,ad})
         . exact allv v' w' (by lia) jU
     . obtain⟨w5,w6,w7,rfl,s5,allv⟩:=z;refine{_,9,6,s34.trans s5,fun u' v' w' hu' jH jU=>?_};by_cases q:u'=u
       . subst q;exact allv v' w' (by lia) jU
       . exact all u' v' w' (by lia) jH jU
 . obtain⟨v2,v3,v4,v5,v6,v7,rfl,s2,all⟩:=z;refine k none _ _ (fun u v w hu hv hw=>all u v w ?_ hv hw) .non s2;rw[zB,g6];exact hu
theorem LY:zw C2 C2 (defScope Nv):=AV
theorem cg (F:Fu K "refuse_at" Nv f eQ) (mC:mg "NoLabels"=some (.ref C)) (EI:CK K C fI)(bI:BR K fdI C4 []) (GI:AG P w K mg base AJ 1 fI fdI C4 (Ho C "word" "at")):AG P w K mg base (BZ P w) 3 f eQ C2 (Mf C):=by
 refine F.okI LY (fun vs H Q E h=>?_) (fun fg A outer s H vs Q E hr h=>?_)
 . obtain⟨x,v,rfl,_⟩:=h;rfl
 . obtain⟨x,v,rfl,kY,kN⟩:=h;refine{_,zY (Ad (AR Ff (pv 1) Ar (AN _)) (zY (YG (E:=E) rfl mC EI rfl GI hr bI (zC (pv 0) (zC (pv 1) zM)) (fun pins σ H s ea tt dx I he hn h0 hE=>Vw I he rfl rfl rfl rfl hn h0 hE))) Ac),?_};refine{1,7,?_};by_cases c:v=.non
   . exact As (by rw[zO c];rfl) (kY c)
   . refine Am (by rw[zS c];rfl) ?_;exact{5,6,kN c}
def JR (H:Hp)(dx:Addr)(x:Str)(v:V):Prop:=H dx=some (dO dx [("word",.str x),("at",v)])
theorem Mz (h:Ag H v .none):v=.non:=by cases h;rfl
theorem Mx (h:Ag H v d)(nn:d ≠ .none):v ≠ .non:=fun z=>by subst z;cases h;exact nn rfl
theorem A4.nn (h:A4 l ok dat (some d))(nn:∀x,dat x ≠ .none):d ≠ .none:=by obtain⟨_,x,_,_,rfl,_⟩:=h;exact nn x
theorem Cm.nn (h:Cm ts eM (some d)):d ≠ .none:=by obtain⟨_,_,_,_,_,_,_,rfl,_⟩:=h;intro z;cases z
def TL (H:Hp)(wa:Addr)(v:V)(F:Option (Str×PyData)->Prop):Prop:=∃la n ts eM,v=.ref la/\HE H wa la n ts eM/\F=Fo ts eM
def Mn (C:Addr)(T:Hp->Addr->V->(Option (Str×PyData)->Prop)->Prop):Sp:=fun vs H Q E=>∃wa v F,vs=[.ref wa,v]/\T H wa v F/\(F none->∀H',AE H H'->Q (.bl true) H') /\
 ∀x e u dx H',F (some (x,e))->AE H H'->Ag H' u e->JR H' dx x u->E (.ref C) (some dx) H'
theorem NO {E:XK}{F:Option (Str×PyData)->Prop}(kN:∀x e u dx H',F (some (x,e))->AE H H'->Ag H' u e->JR H' dx x u->E (.ref C) (some dx) H')
 (fo:F (some (x,e)))(s1:AE H H1)(Su:Ag H1 u e)(tt dx)(ht:H1 tt=none)(hd:H1 dx=none)(ne:tt≠dx):E (.ref C) (some dx) (upd (upd H1 tt (.tup [.str x,u])) dx (dO dx [("word",.str x),("at",u)])):=by
 have s2:=(zF (o:=.tup [.str x,u]) ht).trans (zF (o:=dO dx [("word",.str x),("at",u)]) (by rw[zj (Ne.symm ne)];exact hd));exact kN _ _ _ _ _ fo (s1.trans s2) (BP s2 Su) zI
theorem LP:zw DW DW (defScope QW):=AV
theorem dS {fT:Addr}(F:Fu K "lets_labels" QW f eQ)
 (FP:AF K mg "are_labels" Qo fP fdP B5) (GP:AH P w base (m+1) FP S1)
 (FR:BY K "refuse_at" "refuse_at" Nv fR fdR) (bR:BR K fdR C2 []) (mR:mg "refuse_at_checker"=some (.ref fR)) (GR:AG P w K mg base (BZ P w) (m+1) fR fdR C2 (Mf C))
 (FO:AF K mg "own_fault" Ri fO fdO G8) (GO:AH P w base (m+1) FO K6)
 (FU:AF K mg "up_fault" Ro fU fdU DL) (GU:AH P w base (m+1) FU (Gg Ic))
 (FT:BY K "tie_fault" "tie_fault" OJ fT jD) (bT:BR K jD DL []) (mT:mg "tie_fault_checker"=some (.ref fT)) (GT:AG P w K mg base AJ (m+1) fT jD DL (Gg Cm))
 (FD:AF K mg "down_fault" Rm fD fdD DL) (GD:AH P w base (m+1) FD (Gg NK)):AG P w K mg base (BZ P w) (m+2) f eQ DW (Mn C TL):=by
 refine F.okI LP (fun vs H Q E h=>?_) (fun fg A outer s H vs Q E hr h=>?_)
 . obtain⟨wa,v,_,rfl,_⟩:=h;rfl
 . obtain⟨wa,_,_,rfl,⟨la,n,ts,eM,rfl,K0,rfl⟩,kY,kN⟩:=h;obtain⟨ta,tys,gB,_,_,G⟩:=id K0.wb;have iw:=G.n1;have jq:=K0.kd.ln;refine{_,zR (Ad (BC (A0 (AI GP hr FP (zC (zt AU (pv 0) zf) (zC (pv 1) zM))))) C1 Ac)
    (zR (B0 (CP GR hr rfl mR FR.kp bR .nil Je (zC Cw (zC (AI GO hr FO (zC (pv 1) zM)) zM))))
    (zR (B0 (CP GR hr rfl mR FR.kp bR .nil Je (zC Cw (zC (AI GU hr FU (zC (pv 0) (zC (pv 1) zM))) zM))))
    (zR (B0 (CP GR hr rfl mR FR.kp bR .nil Je (zC Cw (zC (CP GT hr rfl mT FT.kp bT .nil Eu (zC (pv 0) (zC (pv 1) zM))) zM))))
    (zR (B0 (CP GR hr rfl mR FR.kp bR .nil Je (zC Cw (zC (AI GD hr FD (zC (pv 0) (zC (pv 1) zM))) zM))))
    (zY (AM Eh)))))),?_}
   refine{1,wa,8,AB.of gB,7,n,la,eM,0,K0.lb,by lia,G.n24,K0.kd.kd,fun H1 s1=>{1,AZ ?_}};refine{1,wa,la,n,ts,eM,0,K0.same s1,fun o v2 H2 ho S2 s2=>?_};have i6:=s1.trans s2;cases o with
   | some d2=>exact{6,(fun z=>absurd z (Mx S2 (ho.nn fun x z=>by cases z))),fun _=>NO kN (.own d2 ho) i6 S2}
   | none=>
    cases Mz S2;refine{6,fun _=>{5,wa,la,n,ts,eM,0,K0.same i6,fun o v3 H3 hp S3 s3=>?_},fun z=>absurd rfl z};have ic:=i6.trans s3;cases o with
    | some d3=>exact{6,(fun z=>absurd z (Mx S3 (hp.nn fun x z=>by cases z))),fun _=>NO kN (.up d3 ho hp) ic S3}
    | none=>
     cases Mz S3;refine{6,fun _=>{5,wa,la,n,ts,eM,0,K0.same ic,fun o v4 H4 ht S4 s4=>?_},fun z=>absurd rfl z};have g9:=ic.trans s4;cases o with
     | some d4=>exact{6,(fun z=>absurd z (Mx S4 ht.nn)),fun _=>NO kN (.tie d4 ho hp ht) g9 S4}
     | none=>
      cases Mz S4;refine{6,fun _=>{5,wa,la,n,ts,eM,0,K0.same g9,fun o v5 H5 hd S5 s5=>?_},fun z=>absurd rfl z};have gR:=g9.trans s5;cases o with
      | some d5=>exact{6,(fun z=>absurd z (Mx S5 (hd.nn fun x z=>by cases z))),fun _=>NO kN (.down d5 ho hp ht hd) gR S5}
      | none=>cases Mz S5;exact{6,fun _=>kY (.none ho hp ht hd) H5 gR,fun z=>absurd rfl z}
def DX (S:List Int):Option Int->Prop
 | none=>S=[]
 | some m=>m∈S/\∀a∈S,m<=a
theorem DX.uniq (h:DX S o)(h':DX S o'):o=o':=by
 cases o with
 | none=>
  cases o' with
  | none=>rfl
  | some m=>rw[show S=[] from h] at h';simp[DX] at h'
 | some m=>
  cases o' with
  | none=>rw[show S=[] from h'] at h;simp[DX] at h
  | some m'=>rw[Int.le_antisymm (h.2 _ h'.1) (h'.2 _ h.1)]
noncomputable def HN:List Int->Option Int
 | []=>none
 | a::r=>some (match HN r with
  | none=>a
  | some b=>min a b)
theorem QJ:∀S,DX S (HN S)
 | []=>rfl
 | a::r=>by
  have ih:=QJ r;show DX (a::r) (some _);cases e:HN r with
  | none=>rw[e] at ih;have hr:r=[]:=ih;subst hr;exact{zX,fun x hx=>by rw[zl.mp hx];exact Df _}
  | some b=>
   rw[e] at ih;refine{?_,fun x hx=>?_}
   . show min a b∈a::r;by_cases c:a<=b
     . rw[Int.min_eq_left c];exact zX
     . rw[Int.min_eq_right (by lia)];exact zd _ ih.1
   . show min a b<=x;rcases zb.mp hx with rfl | hx
     . exact Int.min_le_left _ _
     . exact Int.le_trans (Int.min_le_right _ _) (ih.2 x hx)
noncomputable def sE (es fs:List En):List Int:=(es.filterMap (CM fs)).map (·.1)
noncomputable def tv (es fs:List En):Option Int:=HN (sE es fs)
theorem YN (hf:C3 fs):x∈sE es fs↔∃e∈es,∃f∈fs,f.h=e.h/\x=e.l+f.l:=by
 unfold sE;rw[DS];constructor
 . rintro ⟨c,hc,rfl⟩;obtain⟨e,he,f,hfm,hh,rfl⟩:=(KH hf c).mp hc;exact{e,he,f,hfm,hh,0}
 . rintro ⟨e,he,f,hfm,hh,rfl⟩;exact{(e.l+f.l,e.h),(KH hf _).mpr {e,he,f,hfm,hh,0},0}
theorem DX.congr (h:∀x,x∈S↔x∈T)(m:DX S o):DX T o:=by
 cases o with
 | none=>
  have hS:S=[]:=m;cases T with
  | nil=>rfl
  | cons t r=>exact absurd ((h t).mpr zX) (by rw[hS];simp)
 | some v=>exact{(h v).mp m.1,fun a ha=>m.2 a ((h a).mpr ha)}
theorem TV (h:DX (sE es fs) o):o=tv es fs:=h.uniq (QJ _)
theorem TH (hf:C3 fs)(h:Cy (Cd es fs) lm):lm.map (·.1)=tv es fs:=by
 refine TV ?_;cases lm with
 | none=>
  show sE es fs=[];unfold sE;cases e:es.filterMap (CM fs) with
  | nil=>rfl
  | cons c r=>exact absurd ((KH hf c).mp (by rw[e];exact zX)) (h c)
 | some c=>
  refine{DS.mpr {c,(KH hf c).mpr h.1,0},fun x hx=>?_};obtain⟨c',iH,rfl⟩:=DS.mp hx;have:=h.2 c' ((KH hf c').mp iH);show c.1<=c'.1
  lia
theorem X0 (he:C3 es)(hf:C3 fs):tv es fs=tv fs es:=by
 refine DX.uniq (S:=sE fs es) (DX.congr (fun x=>?_) (QJ (sE es fs))) (QJ _);rw[YN hf,YN he];constructor
 . rintro ⟨e,a,f,b,c,rfl⟩;exact{f,b,e,a,c.symm,by lia}
 . rintro ⟨e,a,f,b,c,rfl⟩;exact{f,b,e,a,c.symm,by lia}
theorem Zd {tl:TE}(hl:PE (EF X pl N' sc yc fp s3 H3) l tl):PI (EF X pl N' sc yc fp s3 H3) tg l (MO X.K tl):=Ay hl
def Ow:R2:=fun x y H Q=>∃a b xs ys,x=.ref a/\y=.ref b/\H a=some (.tup xs)/\H b=some (.tup ys)/\xs.length+ys.length<=sizeLine/\∀p H',AE H H'->H' p=some (.tup (xs++ys))->Q (.ref p) H'
theorem RA:A1 X (binaryOp .Add) Ow:=fun pins s σ H x y v u Q I rx ry h=>by
 obtain⟨a,b,xs,ys,rfl,rfl,ha,hb,hz,q⟩:=h;refine Vc pins s σ H _ _ v u Q I rx ry {a,b,xs,ys,3,AB.of ha,AB.of hb,hz,fun e=>?_,fun _ e=>?_,fun _ _ p hp=>q p _ (zF hp) zI}
 . subst e;exact q b H (AE.refl _) hb
 . subst e;exact q a H (AE.refl _) (by rw[zv];exact ha)
def VG:V->Option Int->Option Int->Hp->VK->Prop:=fun x lo hi H Q=>∃a xs,x=.ref a/\H a=some (.tup xs)/\∀p H',AE H H'->H' p=some (.tup (B3 xs lo hi))->Q (.ref p) H'
theorem Qa:Oj X VG:=fun pins s σ H x v vl vu lo hi sl Q I rx hs pl pu h=>by
 obtain⟨a,xs,rfl,ha,q⟩:=h;refine XB pins s σ H _ v vl vu lo hi sl Q I rx hs pl pu {a,xs,0,AB.of ha,fun e=>?_,fun _ p hp=>q p _ (zF hp) zI};refine q a H (AE.refl _) ?_;have:B3 xs lo hi=xs:=by unfold B3;rw[e.1,e.2,List.drop_zero,Nat.sub_zero,zW (zK _)]
 rw[this];exact ha
theorem XU (g:En->V)(x):Ah (fs.map fun e=>((Sum.inl e.h:AQ),g e)) (Sum.inl x)=(Bk fs x).map g:=by
 unfold Ah Bk;rw[List.find?_map,Option.map_map];have:((fun kv:AQ×V=>decide (kv.1=Sum.inl x))∘fun e:En=>((Sum.inl e.h:AQ),g e))=fun e:En=>decide (e.h=x):=by
  funext e;show decide ((Sum.inl e.h:AQ)=Sum.inl x)=_;by_cases c:e.h=x
  . rw[zO c,zO (by rw[c])]
  . rw[zS c,zS (by intro z;injection z with z;exact c z)]
 rw[this];rfl
theorem XE (hF:C3 fs)(g:En->V):((fs.map fun e=>((Sum.inl e.h:AQ),g e)).map (·.1)).Nodup:=by rw[List.map_map,List.Nodup,Fq];exact hF.imp fun h z=>by injection z with z;lia
noncomputable def JH (eM:List (List En)):List (List (Option Int)):=eM.map fun a=>eM.map fun b=>tv a b
def Ir:Sp:=fun vs H Q _=>∃p q es fs,vs=[.ref p,.ref q]/\CI H p es/\CI H q fs/\C3 fs/\∀H',AE H H'->Q (oV (tv es fs)) H'
theorem Z1 (h:AD K H a xs)(s:AE H H'):AD K H' a xs:=by
 rcases h with (h | ⟨o,h⟩) | h
 . exact .inl (.inl (s _ _ h))
 . exact .inl (.inr {o,s _ _ h})
 . exact .inr h
theorem Qf (h:FQ K H a M)(s:AE H H'):FQ K H' a M:=by obtain⟨rs,a1,a2,a3⟩:=h;exact{rs,Z1 a1 s,a2,fun i r row h1 h2=>s _ _ (a3 i r row h1 h2)}
theorem SJ:zw ["_law_one","_law_other","_law_longs","_law_some"] DJ (defScope G7):=AV
theorem Kz (F:Fu K "_law_told" G7 f eQ) (gC:mg "dict"=none) (fu:mg "min"=none):AG P w K mg base AJ 1 f eQ DJ Ir:=by
 refine F.okD SJ fun _ A _ _ H vs Q E hr h=>?_;obtain⟨p,q,es,fs,rfl,L1,L2',hF,k⟩:=h;obtain⟨as,hp,EA,hl⟩:=id L1;obtain⟨bs,hq,EB,gJ⟩:=id L2';have hu:=Ey hr;have iL:=hr.units0;refine{_,zR (Dc (i:=2) SJ.nd rfl (Or.inr rfl) (Cq (Ts rfl) gC (zC
  (BQ (own:=Im) (cn:=[]) (ci:=[]) rfl (Az rfl rfl) trivial rfl (Ay (pv 1)) (fun _ _ _ _=>Aw)
   (fun _ _ _ _=>Bc) (fun _ _ _ _=>Af (zC (zt CQ (pv 0) zf) (zC (zt CQ (pv 0) zf) zM)))) zM)))
  (zR (Ea (i:=3) (own:=Im) (cn:=["_law_longs"]) (ci:=[2]) SJ.nd rfl (Or.inl rfl) rfl (Az rfl rfl) {0,3,trivial} rfl (Ay (pv 0)) (fun _ _ _ _=>Aw)
   (fun _ _ _ _=>C0 (Gx (Na hu (zt CQ (pv 0) zf) (pv 1)))) (fun _ _ _ _=>Aa CA (zt CQ (pv 0) zf) (Ja hu (pv 1) (zt CQ (pv 0) zf) (fun _ _=>rfl))))
  (zY (AM (Hy (AR (SO iL) (pv 3) (BO zM) (AN _)) Ar (zy (aA rfl) fu (zC (pv 3) zM)))))),?_}
 refine{1,q,0,{_,AB.of hq},[],0,fun D hD=>?_};refine BJ (a:=q) (xs:=bs.map V.ref) (fun i ys H4=>i<=fs.length/\ys.length=i/\(∀(j:Nat)(y:V),ys[j]?=some y->∃c e,y=.ref c/\fs[j]?=some e/\H4 c=some (.tup [.int e.h,.int e.l]))/\AE H H4/\H4 D=some (.lst ys)) {zh _,0,fun j y z=>by simp at z,zF hD,zI} (fun i ys H4 h=>?_) (fun i ys H4 h=>?_) (fun i v ys H4 hv h=>?_) (fun ys H4 h=>?_)
 . exact AB.of (h.2.2.2.1 _ _ hq)
 . rw[h.2.1];exact BV (by have:=h.1;lia)
 . obtain⟨_,ie,hys,s4,fv⟩:=h;obtain⟨a,x,rfl,hx,ha⟩:=EB.at hv;refine{{3},?_};refine Bf ?_;refine{1,a,4,.int x.h,3,AB.of (s4 _ _ ha),7,a,4,.int x.l,3,AB.of (s4 _ _ ha),0,Al,fun c hc=>?_};have nDc:D≠c:=zq fv hc;refine{zF hc _ _ fv,(zG.mp hx).1,by rw[zH,ie];rfl,fun j y hy=>?_,Av (s4.trans (zF hc)) hD,zI};by_cases cj:j<i
   . rw[ze (by lia)] at hy;obtain⟨c',e,h1,h2,h3⟩:=hys j y hy;refine{c',e,h1,h2,?_};rw[zj (Bu h3 fv (by intro z;cases z))];exact zF hc _ _ h3
   . have ej:j=i:=by have:=(zG.mp hy).1;rw[zH,ie] at this;simp at this;lia
     subst ej;rw[za (by lia),ie,Fz] at hy;have ey:V.ref c=y:=by simpa using hy
     subst ey;exact{c,x,0,hx,by rw[zj (Ne.symm nDc)];exact zI}
 obtain⟨_,ie,hys,s4,fv⟩:=h;rw[zB,EB.1] at ie;refine{D,ys,fs.map fun e=>(Sum.inl e.h,V.int e.l),0,AD.of fv,{by rw[zB,ie],fun j y hy=>?_},fun dd jB=>?_}
 . obtain⟨c,e,h1,h2,h3⟩:=hys j y hy;exact{c,Sum.inl e.h,.int e.l,h1,h3,by rw[zN,h2];rfl}
 rw[Tf (XE hF fun e=>V.int e.l)];have gI:∀x:Int,Ah (fs.map fun e=>((Sum.inl e.h:AQ),V.int e.l)) (Sum.inl x)=(Bk fs x).map fun e=>V.int e.l:=fun x=>XU _ x;have s5:AE H (upd H4 dd (.dK (fs.map fun e=>(Sum.inl e.h,V.int e.l)))):=s4.trans (zF jB);have jP:(upd H4 dd (.dK (fs.map fun e=>((Sum.inl e.h:AQ),V.int e.l)))) dd=some (.dK (fs.map fun e=>(Sum.inl e.h,V.int e.l))):=zI;generalize upd H4 dd (.dK (fs.map fun e=>((Sum.inl e.h:AQ),V.int e.l)))=H5 at s5 jP ⊢;generalize (fs.map fun e=>((Sum.inl e.h:AQ),V.int e.l))=eO at gI jP;refine{1,p,0,{_,AB.of (s5 _ _ hp)},[.ref dd],0,fun D2 fM=>?_};refine BJ (a:=p) (xs:=as.map V.ref) (fun i ys H6=>ys=((((es.take i).filterMap (CM fs)).map (·.1))).map V.int/\AE H5 H6/\H6 D2=some (.lst ys)) {0,zF fM,zI} (fun i ys H6 h=>?_) (fun i ys H6 h=>?_) (fun i v ys H6 hv h=>?_) (fun ys H6 h=>?_)
 . exact AB.of (h.2.1 _ _ (s5 _ _ hp))
 . obtain⟨rfl,_⟩:=h;rw[zB,zB];exact Cv (List.length_filterMap_le _ _) (BV (by rw[zp];lia))
 . obtain⟨rfl,s6,hV⟩:=h;obtain⟨a,x,rfl,hx,ha⟩:=EA.at hv;have ha6:=s6 _ _ (s5 _ _ ha);refine{{3},?_};refine{1,a,4,.int x.h,3,AB.of ha6,7,dd,1,BK.k (k:=Sum.inl x.h) (s6 _ _ jP),1,?_};have st:=We (CM fs) hx;have i8:=gI x.h;cases e:Bk fs x.h with
   | none=>
    rw[e] at i8;rw[i8];refine AZ ?_;have ec:CM fs x=none:=by unfold CM;rw[e];rfl
    refine{?_,s6,hV};rw[st,ec];simp
   | some g=>
    rw[e] at i8;have hv3:Ah eO (Sum.inl x.h)=some (.int g.l):=i8;rw[hv3];refine Ak ?_;have ec:CM fs x=some (x.l+g.l,x.h):=by unfold CM;rw[e];rfl
    refine{1,a,4,.int x.l,3,AB.of ha6,0,5,a,4,.int x.h,3,AB.of ha6,0,dd,.int g.l,0,hv3 ▸ BK.k (k:=Sum.inl x.h) (s6 _ _ jP),2,hV,?_,Av s6 fM,zI};rw[st,ec,zT,zT];rfl
 obtain⟨rfl,s6,hV⟩:=h;rw[zB,EA.1,zW (zK _)] at hV;have hD6':H6 D2=some (.lst ((sE es fs).map V.int)):=hV;refine{1,E4,fun e0 he0=>?_};have s7:=zF (o:=.lst []) he0;refine{D2,e0,_,3,AD.of (s7 _ _ hD6'),AD.of zI,1,?_};have s07:=(s5.trans s6).trans s7;cases hS:sE es fs with
 | nil=>refine Ak ?_;have:tv es fs=none:=(TV (o:=none) hS).symm;have z:=k _ s07;rw[this] at z;exact z
 | cons x r=>rw[hS] at hD6';refine AZ ?_;refine{1,D2,x::r,0,AD.of (s7 _ _ hD6'),by simp,fun m hm hb=>?_};have:tv es fs=some m:=(TV (o:=some m) (by rw[hS];exact⟨hm,hb⟩)).symm;have z:=k _ s07;rw[this] at z;exact z
def Ej (H:Hp)(ys:List V)(fe:List (Nat×En)):Prop:=ys.length=fe.length/\∀(j:Nat)y,ys[j]?=some y->∃c,∃(i:Nat),∃e,y=.ref c/\fe[j]?=some (i,e)/\H c=some (.tup (.int i::eV e))
theorem Ej.keep (h:Ej H ys fe)(k:∀b zs,H b=some (.tup zs)->H' b=some (.tup zs)):Ej H' ys fe:=
 {h.1,fun j y e=>let ⟨c,i,x,h1,h2,h3⟩:=h.2 j y e;{c,i,x,h1,h2,k _ _ h3}}
theorem Ej.app (h:Ej H ys fe)(g:Ej H zs ge):Ej H (ys++zs) (fe++ge):=by
 refine{by rw[zH,zH,h.1,g.1],fun j y e=>?_};by_cases c:j<ys.length
 . rw[ze c] at e;obtain⟨a,i,x,h1,h2,h3⟩:=h.2 j y e;exact{a,i,x,h1,by rw[ze (by rw[<-h.1];exact c)];exact h2,h3}
 . rw[za (by lia)] at e;obtain⟨a,i,x,h1,h2,h3⟩:=g.2 _ y e;exact{a,i,x,h1,by rw[za (by rw[<-h.1];lia),<-h.1];exact h2,h3}
def XA:Sp:=fun vs H Q _=>∃l eM,vs=[.ref l]/\EJ H l eM/\eM.length<=24/\(∀es∈eM,es.length<=24) /\
 ∀a ys H',AE H H'->H' a=some (.lst ys)->Ej H' ys (Bp eM eM.length)->Q (.ref a) H'
theorem UL (T:FQ K H a (JH eM))(hu:u<eM.length)(hv:v<eM.length):∃xs r ys,AD K H a xs/\BI xs (u:Int)=some (.ref r)/\AD K H r ys/\BI ys (v:Int)=some (oV (tv (eM.getD u []) (eM.getD v []))):=by
 obtain⟨rs,h1,h2,h3⟩:=T;have hl:rs.length=eM.length:=by rw[h2];unfold JH;rw[zB]
 have e1:rs[u]?=some (rs[u]'(by lia)):=zD (by lia);have e2:(JH eM)[u]?=some (eM.map fun b=>tv (eM.getD u []) b):=by unfold JH;rw[zN,getD_some hu];rfl
 refine{_,rs[u]'(by lia),_,h1,CV (by rw[zN,e1];rfl),AD.of (h3 u _ _ e1 e2),CV (by rw[zN,zN,getD_some hv];rfl)}
theorem ZI (hk:FK n eM){w:Nat}(hu:u<eM.length)(hv:v<eM.length)(hw:w<eM.length):Ds ts eM u v w↔∃t,Ai ts v w t/\Rn (tv (eM.getD u []) (eM.getD v [])) (tv (eM.getD u []) (eM.getD w [])) t=true:=by
 have Hu:=(hk.at hu).hub;have Hv:=(hk.at hv).hub;have Hw:=(hk.at hw).hub;obtain⟨lv,h1⟩:=Ss (es:=eM.getD v []) Hu;obtain⟨lw,h2⟩:=Ss (es:=eM.getD w []) Hu;rw[X0 Hu Hv,X0 Hu Hw,<-TH Hu h1,<-TH Hu h2];constructor
 . rintro ⟨t,a,b,ad,ha,hb,g⟩;rw[ha.uniq h1,hb.uniq h2] at g;exact⟨t,ad,g⟩
 . rintro ⟨t,ad,g⟩;exact{t,4,ad,h1,h2,g}
def Iw (K:AK):Sp:=fun vs H Q _=>∃dp ta n ts eM eO,vs=[.int n,.ref dp,.ref ta]/\GW n ts/\FK n eM/\H dp=some (.dT eO)/\PD ts eO/\FQ K H ta (JH eM)/\∀(o:Option PyData) v H',Cm ts eM o->Ag H' v (o.getD .none)->AE H H'->Q v H'
theorem SX:zw ["_law_labels_here","_law_found_here","_law_place"] Rw (defScope RH):=AV
theorem ag (F:Fu K "_law_hung" RH f eQ) (eN:mg "range"=none) (eS:mg "len"=none):AG P w K mg base AJ 1 f eQ Rw XA:=by
 refine F.okD SX fun _ A _ _ H vs Q E hr h=>?_;obtain⟨l,eM,rfl,LL,hn,hU,k⟩:=h;obtain⟨as,hl,g6,hA⟩:=id LL;refine{_,zR (Ab (i:=1) SX.nd (BO zM))
  (zR (Au (Be rfl eN (zC (zy Bz eS (zC (pv 0) zM)) zM)) (B9 (i:=2) SX.nd rfl (Or.inr rfl))
   (zY (B0 (Cz PySem.F.plainAttrs_list PySem.F.slot_list_extend PySem.F.type_list_extend YS (pv 1) (zC
    (BQ (own:=Im) (cn:=["_law_place"]) (ci:=[2]) rfl (Az rfl rfl) {0,3,trivial} rfl (Ay (zt AU (pv 0) (pv 2))) (fun _ _ _ _=>Aw)
     (fun _ _ _ _=>C0 (AR N0 (zt CQ (pv 0) zf) zf (AN _)))
     (fun _ _ _ _=>Aa RA (Af (zC (pv 1) zM)) (pv 0))) zM)))))
  (zY (AM (pv 1)))),?_}
 refine{E4,fun D hD=>?_};have s0:=zF (o:=.lst []) hD;refine{1,l,1,.inr (AB.of (s0 _ _ hl)),?_};rw[zB,g6];refine{(eM.length:Int),0,by lia,by lia,CL (lo:=0) (n:=((eM.length:Int)).toNat) (fun i σ H2=>EU fun (v2:Option V)(ys:List V)=>σ=[some (.ref l),some (.ref D),v2]/\AE H H2/\H2 D=some (.lst ys)/\Ej H2 ys (Bp eM i))
  {_,[],0,s0,zI,0,fun j y e=>by simp at e} (fun i σ H2 hi z=>?_) (fun σ H2 z=>?_)}
 . obtain⟨v2,ys,rfl,s2,fM,FA⟩:=z;rw[Bt];have gq:i<as.length:=by lia
   obtain⟨a,ha⟩:∃a,as[i]?=some a:={_,zD gq};obtain⟨es,jv,bs,hb,EA,hl3⟩:=hA i a ha;have eget:eM.getD i []=es:=by rw[zJ,jv];rfl
   have hel:=hU es (zQ jv);refine{1,.inl {0,_,AD.of fM},5,l,4,.ref a,3,AB.of (s2 _ _ hl),CV (by rw[zN,ha];rfl),a,0,{_,AB.of (s2 _ _ hb)},[.int i],0,fun D2 jz=>?_};have EA3:DZ H2 bs es:=EA.keep fun b zs e=>s2 _ _ e;have hbl:=EA.1;refine BJ (a:=a) (xs:=bs.map V.ref) (fun j zs H4=>Ej H4 zs (((es.take j).filter fun e=>decide (e.l≠0)).map fun e=>(i,e))/\AE H2 H4/\H4 D2=some (.lst zs)) {{0,fun j y e=>by simp at e},zF jz,zI} (fun j zs H4 h=>?_) (fun j zs H4 h=>?_) (fun j v zs H4 hv h=>?_) (fun zs H4 h=>?_)
   . exact AB.of (h.2.1 _ _ (s2 _ _ hb))
   . rw[h.1.1,zB];exact Cv (C8 _ _) (BV (by rw[zp];lia))
   . obtain⟨F4,s4,fv⟩:=h;obtain⟨c,e,rfl,he,hc⟩:=EA3.at hv;have jZ:=s4 _ _ hc;refine{{3},?_};refine{1,c,4,.int e.l,3,AB.of jZ,0,7,?_};rw[Ew];have st:=Qp (fun e:En=>decide (e.l≠0)) he;by_cases cc:e.l=0
     . rw[zO cc];refine AZ {?_,s4,fv};rw[st,if_neg (by simp[cc]),zv];exact F4
     . rw[zS cc];refine Ak ?_;refine{1,MR,fun q0 hq0=>{1,q0,c,2,zI,zF hq0 _ _ jZ,by show 1+4<=sizeLine;decide,fun q H5 s5 h5=>?_}};have s45:=(zF (o:=.tup [.int (i:Int)]) hq0).trans s5;have hZ:=s45 _ _ fv;refine{hZ,?_,Av (s4.trans s45) jz,zI};rw[st,if_pos (by simp[cc]),zT];have kp:∀b us,H5 b=some (.tup us)->(upd H5 D2 (.lst (zs++[.ref q]))) b=some (.tup us):=fun b us e=>by rw[zj (Bu e hZ (by intro z;cases z))];exact e
       refine ((F4.keep fun b us e=>s45 _ _ e).keep kp).app {0,fun j' y' e'=>?_};cases j' with
       | zero=>
        have:V.ref q=y':=by simpa using e'
        subst this;exact{q,i,e,3,kp _ _ h5}
       | succ z=>simp at e'
   . obtain⟨F4,s4,fv⟩:=h;rw[zB,EA.1,zW (zK _)] at F4;have hDD:=s4 _ _ fM;have f1:=UR hU i;have f2:=FA.1;have f3:=F4.1;have f4:=C8 (fun e:En=>decide (e.l≠0)) es;rw[zB] at f3;refine{D,D2,2,hDD,fv,CT (BV (by lia)),?_};have s5:=Av (o:=.lst (ys++zs)) (s2.trans s4) hD;have kp:∀b us,H4 b=some (.tup us)->(upd H4 D (.lst (ys++zs))) b=some (.tup us):=fun b us e=>by rw[zj (Bu e hDD (by intro z;cases z))];exact e
     refine{_,ys++zs,0,s5,zI,?_};show Ej _ _ (Bp eM i++_);rw[eget];exact ((FA.keep fun b us e=>s4 _ _ e).keep kp).app (F4.keep kp)
 . obtain⟨v2,ys,rfl,s2,fM,FA⟩:=z;rw[Bm] at FA;exact{1,k D ys H2 s2 fM FA}
theorem QX:zw ["_law_n","_law_pairs","_law_tells","_law_u","_law_v","_law_w"] Ra (defScope HF):=AV
theorem ML (F:Fu K "_law_tie_fault" HF f eQ) (eN:mg "range"=none):AG P w K mg base AJ 1 f eQ Ra (Iw K):=by
 refine F.okD QX fun _ A _ _ H vs Q E hr h=>?_;obtain⟨dp,ta,n,ts,eM,eO,rfl,G,hk,hdp,pd,T,k⟩:=h;have iw:=G.n1;have gL:=G.n24;have jq:=hk.ln;have hu:=Ey hr;refine{_,zR (Au (Be rfl eN (zC (pv 0) zM)) (AW (i:=3) QX.nd)
  (zY (Au (Be rfl eN (zC (pv 0) zM)) (AW (i:=4) QX.nd)
   (zY (Au (Be rfl eN (zC (pv 0) zM)) (AW (i:=5) QX.nd)
    (zY (Ad (PW.pt (EL (Gx (Na hu (Af (zC (pv 4) (zC (pv 5) zM))) (pv 1))) (F8 (AR Ff (zt AY (zt AY (pv 2) (pv 3)) (pv 4)) Ar (AN _)))))
     (zY (Ad (PW.pt (Bb (AR Dq (zt AY (zt AY (pv 2) (pv 3)) (pv 5)) Ar (AN _)) (Bs (AR Hl (zt AY (zt AY (pv 2) (pv 3)) (pv 5)) (Aa CA (zt AY (zt AY (pv 2) (pv 3)) (pv 4)) (Ja hu (pv 1) (Af (zC (pv 4) (zC (pv 5) zM))) (fun _ _=>rfl))) (AN _)))))
      (zY (AM (Af (zC (pv 3) (zC (pv 4) (zC (pv 5) zM)))))) Ac)) Ac)))))))
  (zY (AM Ar)),?_}
 refine{1,n,0,by lia,by lia,CL (lo:=0) (n:=n.toNat) (fun i σ H1=>GB fun (v3 v4 v5:Option V)=>σ=[some (.int n),some (.ref dp),some (.ref ta),v3,v4,v5]/\AE H H1/\∀u v w:Nat,u<i->v<eM.length->w<eM.length->¬ Ds ts eM u v w)
  {_,6,AE.refl _,fun u v w z=>absurd z (Ce _)} (fun u σ H1 hu' z=>?_) (fun σ H1 z=>?_)}
 . obtain⟨v3,v4,v5,rfl,s1,all1⟩:=z;rw[Bt];have hu1:u<eM.length:=by lia
   refine{1,n,0,by lia,by lia,CL (lo:=0) (n:=n.toNat) (fun i σ H2=>EU fun (v4 v5:Option V)=>σ=[some (.int n),some (.ref dp),some (.ref ta),some (.int u),v4,v5]/\AE H H2/\∀v w:Nat,v<i->w<eM.length->¬ Ds ts eM u v w)
    {6,s1,fun v w z=>absurd z (Ce _)} (fun v σ H2 jH z=>?_) (fun σ H2 z=>?_)}
   . obtain⟨v4,v5,rfl,s2,all2⟩:=z;rw[Bt];have hv1:v<eM.length:=by lia
     refine{1,n,0,by lia,by lia,CL (lo:=0) (n:=n.toNat) (fun i σ H3=>∃v5:Option V,σ=[some (.int n),some (.ref dp),some (.ref ta),some (.int u),some (.int v),v5]/\AE H H3/\∀w:Nat,w<i->¬ Ds ts eM u v w)
      {1,s2,fun w z=>absurd z (Ce _)} (fun x σ H3 fK z=>?_) (fun σ H3 z=>?_)}
     . obtain⟨v5,rfl,s3,all3⟩:=z;rw[Bt];have hx1:x<eM.length:=by lia
       have gi:=ZI (ts:=ts) hk hu1 hv1 hx1;have next:∀H4,AE H H4->¬ Ds ts eM u v x->∃v5:Option V,[some (V.int n),some (.ref dp),some (.ref ta),some (.int u),some (.int v),some (.int x)]=[some (.int n),some (.ref dp),some (.ref ta),some (.int u),some (.int v),v5]/\AE H H4/\∀w:Nat,w<x+1->¬ Ds ts eM u v w:=fun H4 s4 ng=>{1,s4,fun w hw=>by
        by_cases c:w=x
        . subst c;exact ng
        . exact all3 w (by lia)}
       refine{5,Al,fun p hp=>?_};have s4:=s3.trans (zF (o:=.tup [.int (v:Int),.int (x:Int)]) hp);refine{1,dp,1,BK.t (k:=[Sum.inl (v:Int),Sum.inl (x:Int)]) (s4 _ _ hdp) zI,1,Bj (fun c=>?_) (fun c=>?_)}
       . obtain⟨t,ad⟩:=(pd.some v x).mp c;have gI:=((pd v x).1 t).mpr ad;obtain⟨xs,r,ys,h1,h2,h3,h4⟩:=UL (Qf T s4) hu1 hv1;refine{5,ta,4,.ref r,3,h1,h2,1,r,8,h3,h4,7,?_};have only:∀t',Ai ts v x t'->t'=t:=fun t' ad'=>G.uniq ad' ad;cases e1:tv (eM.getD u []) (eM.getD v []) with
         | none=>refine As (by rfl) ?_;refine next _ s4 fun z=>?_;obtain⟨t',_,g⟩:=gi.mp z;rw[e1] at g;cases g
         | some a=>
          rw[e1] at h4;refine Am (by rfl) ?_;obtain⟨xs',r',iZ,g1,g2,g3,g4⟩:=UL (Qf T s4) hu1 hx1;have ret:∀H5,AE H H5->Ds ts eM u v x->∀q,H5 q=none->Q (.ref q) (upd H5 q (.tup [.int (u:Int),.int (v:Int),.int (x:Int)])):=fun H5 s5 gr q hq=>by
           refine k (some (.tuple [.int u,.int v,.int x])) _ _ {u,v,x,hu1,hv1,hx1,gr,0,fun u' v' w' l jH jU=>?_} (.tup zI (.cons (.int _) (.cons (.int _) (.cons (.int _) .nil)))) (s5.trans (zF hq));rcases l with l | ⟨rfl,l⟩
           . exact all1 u' v' w' l jH jU
           . rcases l with l | ⟨rfl,l⟩
             . exact all2 v' w' l jU
             . exact all3 w' l
          refine{5,ta,4,.ref r',3,g1,g2,1,r',8,g3,g4,7,?_};cases e2:tv (eM.getD u []) (eM.getD x []) with
          | none=>refine Am (by rfl) (Ak ?_);refine{1,5,GV,fun q hq=>ret _ s4 (gi.mpr {t,ad,by rw[e1,e2];rfl}) q hq}
          | some b=>
           rw[e2] at g4;refine As (by rfl) ?_;refine{5,ta,4,.ref r',3,g1,g2,1,r',8,g3,g4,5,ta,4,.ref r,3,h1,h2,1,r,8,h3,h4,1,5,Al,fun p2 gk=>?_};have s5:=s4.trans (zF (o:=.tup [.int (v:Int),.int (x:Int)]) gk);refine{dp,1,gI ▸ BK.t (k:=[Sum.inl (v:Int),Sum.inl (x:Int)]) (s5 _ _ hdp) zI,2,2,1,Bj (fun c2=>?_) (fun c2=>?_)}
           . refine{1,5,GV,fun q hq=>ret _ s5 (gi.mpr {t,ad,by rw[e1,e2];exact c2}) q hq}
           . refine next _ s5 fun z=>?_;obtain⟨t',ad',g⟩:=gi.mp z;rw[e1,e2,only t' ad'] at g;exact c2 g
       . refine AZ ?_;refine next _ s4 fun z=>?_;obtain⟨t',ad',_⟩:=gi.mp z;exact c ((pd.some v x).mpr ⟨t',ad'⟩)
     . obtain⟨v5,rfl,s3,all3⟩:=z;refine{6,s3,fun v' w' i8 hw2=>?_};by_cases c:v'=v
       . subst c;exact all3 w' (by lia)
       . exact all2 v' w' (by lia) hw2
   . obtain⟨v4,v5,rfl,s2,all2⟩:=z;refine{_,6,s2,fun u' v' w' hu2 i8 hw2=>?_};by_cases c:u'=u
     . subst c;exact all2 v' w' (by lia) hw2
     . exact all1 u' v' w' (by lia) i8 hw2
 . obtain⟨v3,v4,v5,rfl,s1,all1⟩:=z;exact k none _ _ (fun u v w hu2 i8 hw2=>all1 u v w (by lia) i8 hw2) .non s1
noncomputable def fD:Option (Str×PyData)->PyData
 | none=>.tuple []
 | some (x,e)=>.tuple [.str x,e]
def Mm (T:Hp->Addr->V->(Option (Str×PyData)->Prop)->Prop):Sp:=fun vs H Q _=>∃wa v F,vs=[.ref wa,v]/\T H wa v F/\∀f q H',F f->AE H H'->Ag H' (.ref q) (fD f)->Q (.ref q) H'
theorem Lv (hk:FK n eM)(G:GW n ts){i:Nat}(hu:e.u=some u)(u0:0<=u)(u1:u<n)(ad:Ai ts i u t):Hd ts eM i e↔(Bk (eM.getD u.toNat []) e.h).map (·.l)=some (e.l-t):=by
 have Hu:=(hk.at (i:=u.toNat) (by have:=hk.ln;lia)).hub;constructor
 . rintro ⟨u',t',f,h1,h2,h3,h4,h5⟩;rw[hu] at h1;cases h1;rw[(Mt Hu).mpr ⟨h3,h4⟩,<-G.uniq h2 ad,<-h5];rfl
 . intro h;cases e1:Bk (eM.getD u.toNat []) e.h with
   | none=>rw[e1] at h;cases h
   | some f=>rw[e1] at h;obtain⟨a,b⟩:=(Mt Hu).mp e1;exact{u,t,f,hu,ad,a,b,zV h}
theorem Lg (hk:FK n eM)(G:GW n ts)(hi:i<eM.length)(hd:e.d=some d)(ad:Ai ts e.h d t):JF ts eM i e↔tv (eM.getD d.toNat []) (eM.getD i [])=some (e.l-t):=by
 have Hi:=(hk.at hi).hub;obtain⟨lm,hm⟩:=Ss (es:=eM.getD d.toNat []) Hi;rw[<-TH Hi hm];constructor
 . rintro ⟨d',t',c,h1,h2,h3,h4⟩;rw[hd] at h1;cases h1;rw[hm.uniq h3,<-G.uniq h2 ad,<-h4];rfl
 . intro h;cases lm with
   | none=>cases h
   | some c=>exact{d,t,c,hd,ad,hm,zV h}
theorem Zc {tl:TE}(hl:PE (BM X pl N' sc fp s3 H3) l tl):PI (BM X pl N' sc fp s3 H3) tg l (MO X.K tl):=Ay hl
theorem YV :KY (BM (BM X pl N' sc fp s3 H3) pl' N2 sc' fp' s3' H3') (MF X.K):=AU
theorem dX (hc:X.calm=true):CH (BM X pl N' sc fp s3 H3) (.type "dict") (MH X.K):=Ts (X:=BM X pl N' sc fp s3 H3) hc
noncomputable def Ge (es:List En):List (AQ×V):=es.map fun e=>(Sum.inl e.h,V.int e.l)
def Ue (H:Hp)(ds:List Addr)(eM:List (List En)):Prop:=∀(j:Nat)dd,ds[j]?=some dd->∃es,eM[j]?=some es/\H dd=some (.dK (Ge es))
theorem Co:zw ["_law_web_here","_law_thing","_law_n","_law_place","_law_pairs","_law_longs","_law_hub","_law_long","_law_up","_law_down","_law_tells","_law_fault_here"] B4 (defScope HI):=AV
theorem L6 {fT:Addr}(F:Fu K "_law_fault" HI f eQ) (FA:AF K mg "_law_are_labels" RJ fA fdA DV) (GA:AH P w base 4 FA TJ)
 (FJ:AF K mg "_law_joined" E3 fJ fdJ DU) (GJ:AH P w base 4 FJ Q8)
 (FH:AF K mg "_law_hung" RH fH fdH Rw) (GH:AH P w base 4 FH XA)
 (FT:AF K mg "_law_told" G7 fT jD DJ) (GT:AH P w base 4 FT Ir)
 (FF:AF K mg "_law_tie_fault" HF fF fdF Ra) (GF:AH P w base 4 FF (Iw K))
 (eN:mg "range"=none) (gC:mg "dict"=none):AG P w K mg base AJ 5 f eQ B4 (Mm TL):=by
 refine F.okD Co fun _ A _ _ H vs Q E hr h=>?_;obtain⟨wa,_,_,rfl,⟨la,n,ts,eM,rfl,⟨W,LA,kd⟩,rfl⟩,k⟩:=h;obtain⟨ta,tys,gB,gG,TA,G⟩:=id W;have iw:=G.n1;have gL:=G.n24;have hu:=Ey hr;have iL:=hr.units0;refine{_,zR (Ab (i:=2) Co.nd (zt AU (pv 0) zf))
  (zR (Ad (BC (A0 (AI GA hr FA (zC (pv 2) (zC (pv 1) zM))))) C1 Ac)
  (zR (Au (Be rfl eN (zC (pv 2) zM)) (AW (i:=3) Co.nd)
   (zY (Ad (AR (Lb iL) (BQ (own:=Im) (cn:=[]) (ci:=[]) rfl (Az rfl rfl) trivial rfl (Ay (zt AU (pv 1) (pv 3))) (fun _ _ _ _=>Aw)
    (fun _ _ _ _=>C0 (AR BG (zt CQ (pv 0) zf) zf (AN _)))
    (fun _ _ _ _=>zt CQ (pv 0) zf)) (BO (zC (pv 3) zM)) (AN _))
    (zY (AM (Af (zC Cw (zC (pv 3) zM))))) Ac)))
  (zR (Ab (i:=4) Co.nd (AI GJ hr FJ (zC (pv 0) zM)))
  (zR (Ea (i:=5) (own:=["_law_label"]) (cn:=[]) (ci:=[]) Co.nd rfl (Or.inl rfl) rfl (Az rfl rfl) trivial rfl (Ay (pv 1)) (fun _ _ _ _=>Aw) (fun _ _ _ _=>Bc)
   (fun _ _ _ _=>Cq (dX rfl) gC (zC
    (BQ (own:=Im) (cn:=[]) (ci:=[]) rfl (Az rfl rfl) trivial rfl (Zc (pv 0)) (fun _ _ _ _=>Aw)
     (fun _ _ _ _=>Bc) (fun _ _ _ _=>Af (zC (zt YV (pv 0) zf) (zC (zt YV (pv 0) zf) zM)))) zM)))
  (zR (Au (Ep (AI GH hr FH (zC (pv 1) zM))) (CC rfl (zx (AW (i:=3) Co.nd) (zx (AW (i:=6) Co.nd) (zx (AW (i:=7) Co.nd) (zx (AW (i:=8) Co.nd) (zx (AW (i:=9) Co.nd) Br))))))
   (zY (Ad (PW.pt (Bb (Gx (Xk hu (Af (zC (pv 3) (zC (pv 8) zM))) (pv 4))) (Bs (AR N0 (bD hu (zt AY (pv 5) (pv 8)) (pv 6) {3,3}) (Aa EN (pv 7) (Ja hu (pv 4) (Af (zC (pv 3) (zC (pv 8) zM))) (fun _ _=>rfl))) (AN _)))))
    (zY (AM (Af (zC Cw (zC (Af (zC (pv 3) (zC (pv 6) zM))) zM))))) Ac)))
  (zR (Xg (yc := "_law_one") (i:=10) (own:=Hc) (cn:=NJ) (ci:=[1]) Co.nd rfl (Or.inl rfl) rfl (PJ rfl (fun _ _=>rfl) rfl rfl) {0,3,trivial} rfl
   (Ay (pv 1)) (fun _ _ _ _=>B9 (i:=0) (EK rfl) rfl (Or.inr rfl)) (fun _ _ _ _=>Bc)
   (fun _ _ _ _=>BQ (own:=["_law_other"]) (cn:=Hc) (ci:=[0]) rfl (Az rfl rfl) {0,3,trivial} rfl
    (Zd (pv 1)) (fun _ _ _ _=>Aw) (fun _ _ _ _=>Bc)
    (fun _ _ _ _=>AI GT hr FT (zC (pv 1) (zC (pv 0) zM)))))
  (zR (Ab (i:=11) Co.nd (AI GF hr FF (zC (pv 2) (zC (pv 4) (zC (pv 10) zM)))))
  (zR (Ad (AR Ff (pv 11) Ar (AN _)) (zY (AM (Af (zC Cw (zC (pv 11) zM))))) Ac)
  (zR (Au (Ep (AI GH hr FH (zC (pv 1) zM))) (CC rfl (zx (AW (i:=3) Co.nd) (zx (AW (i:=6) Co.nd) (zx (AW (i:=7) Co.nd) (zx (AW (i:=8) Co.nd) (zx (AW (i:=9) Co.nd) Br))))))
   (zY (Ad (PW.pt (Bb (Gx (Xk hu (Af (zC (pv 6) (zC (pv 9) zM))) (pv 4))) (Bs (AR N0 (zt AY (zt AY (pv 10) (pv 9)) (pv 3)) (Aa EN (pv 7) (Ja hu (pv 4) (Af (zC (pv 6) (zC (pv 9) zM))) (fun _ _=>rfl))) (AN _)))))
    (zY (AM (Af (zC Cw (zC (Af (zC (pv 3) (zC (pv 6) zM))) zM))))) Ac)))
  (zY (AM (Af zM)))))))))))),?_}
 refine{1,wa,8,AB.of gB,0,?_};refine{5,n,la,eM,0,LA,by lia,gL,kd,fun H1 s1=>?_};refine{1,?_};refine AZ ?_;have h24:∀es∈eM,es.length<=24:=fun es he=>by have:=(kd.kd es he).len;lia
 have jq:=kd.ln;obtain⟨as,iS,g6,hA⟩:=id LA;have gd:∀ {i es},eM[i]?=some es->eM.getD i []=es:=fun {i es} he=>by rw[zJ,he];rfl
 have two:∀(x:Str)(i:Nat)(h:Int)(H5:Hp)(q q2:Addr),AE H H5->H5 q=none->(upd H5 q (.tup [.int (i:Int),.int h])) q2=none->Fo ts eM (some (x,.tuple [.int i,.int h]))->Q (.ref q2) (upd (upd H5 q (.tup [.int (i:Int),.int h])) q2 (.tup [.str x,.ref q])):=fun x i h H5 q q2 s5 hq iM fl=>
  k _ q2 _ fl (s5.trans ((zF hq).trans (zF iM))) (.tup zI (.cons (.str _) (.cons (.tup (zF iM _ _ zI) (.cons (.int _) (.cons (.int _) .nil))) .nil)))
 refine{1,n,0,by lia,by lia,CL (lo:=0) (n:=n.toNat) (fun i σ H2=>Yv fun (v3 v4 v5 v6 v7 v8 v9 v10 v11:Option V)=>σ=[some (.ref wa),some (.ref la),some (.int n),v3,v4,v5,v6,v7,v8,v9,v10,v11]/\AE H H2/\∀j:Nat,j<i->O3 eM j)
  {_,9,9,6,s1,fun j z=>absurd z (Ce _)} (fun i σ H2 hi z=>?_) (fun σ H2 z=>?_)}
 . obtain⟨v3,v4,v5,v6,v7,v8,v9,v10,v11,rfl,s2,all⟩:=z;rw[Bt];have gq:i<eM.length:=by lia
   obtain⟨a,ha⟩:∃a,as[i]?=some a:={_,zD (by lia)};obtain⟨es,he,cs,hc,EA,hl3⟩:=hA i a ha;obtain⟨e,hf⟩:=(kd.at gq).zero;rw[gd he] at hf;refine{5,la,4,.ref a,3,AB.of (s2 _ _ iS),CV (by rw[zN,ha];rfl),a,0,{_,AB.of (s2 _ _ hc)},[],0,fun D hD=>?_};refine BJ (a:=a) (xs:=cs.map V.ref) (fun j ys H3=>ys=(((es.take j).filter fun e=>decide (e.l=0)).map (·.h)).map V.int/\AE H2 H3/\H3 D=some (.lst ys)) {0,zF hD,zI} (fun j ys H3 h=>?_) (fun j ys H3 h=>?_) (fun j v ys H3 hv h=>?_) (fun ys H3 h=>?_)
   . exact AB.of (h.2.1 _ _ (s2 _ _ hc))
   . rw[h.1,zB,zB];exact Cv (C8 _ _) (BV (by rw[zp];lia))
   . obtain⟨rfl,s3,gE⟩:=h;obtain⟨c,e',rfl,iU,iH⟩:=EA.at hv;have hc3:=s3 _ _ (s2 _ _ iH);refine{{3},?_};refine{1,c,4,.int e'.l,3,AB.of hc3,0,7,?_};rw[Ew];have st:=Qp (fun e:En=>decide (e.l=0)) iU;by_cases cc:e'.l=0
     . rw[zO cc];refine Ak {1,c,4,.int e'.h,3,AB.of hc3,0,gE,?_,Av s3 hD,zI};rw[st,if_pos (by simp[cc]),zT,zT];rfl
     . rw[zS cc];refine AZ {?_,s3,gE};rw[st,if_neg (by simp[cc]),zv]
   . obtain⟨rfl,s3,gE⟩:=h;rw[zB,EA.1,zW (zK _),hf] at gE;refine{1,MR,fun p hp=>?_};have s4:=(s2.trans s3).trans (zF (o:=.lst [.int (i:Int)]) hp);refine{D,p,[e.h],[(i:Int)],3,AD.of (zF hp _ _ gE),AD.of zI,1,?_};by_cases c:e.h=i
     . rw[c,zO rfl];refine AZ {_,9,9,6,s4,fun j hj=>?_};by_cases q:j=i
       . subst q;intro e' r' jM;rw[gd he,hf] at jM;cases jM;exact c
       . exact all j (by lia)
     . rw[zS (by intro z;injection z with z;exact c z)];refine Ak {1,Al,fun q hq=>?_};refine k _ q _ (id (.own (.int i) {i,i,NC gq,(fun z=>c (z e [] (by rw[gd he];exact hf))),0,fun k' y hk hy=>?_})) (s4.trans (zF hq)) (.tup zI (.cons (.str _) (.cons (.int _) .nil)));obtain⟨hk2,rfl⟩:=zG.mp hy;rw[List.getElem_range];exact all k' hk
 . obtain⟨v3,v4,v5,v6,v7,v8,v9,v10,v11,rfl,s2,all⟩:=z;have OW:JX eM none:=fun i hi=>all i (by have:=Eo.mp hi;lia);clear all;refine{1,wa,n,ts,0,W.keep s2,fun dp eO H3 s3 hdp pd=>?_};have ic:=s2.trans s3;refine{1,la,0,{_,AB.of (ic _ _ iS)},[],0,fun fl hfl=>?_};refine BJ (a:=la) (xs:=as.map V.ref) (fun i ys H4=>i<=eM.length/\∃ds:List Addr,ys=ds.map V.ref/\ds.length=i/\Ue H4 ds eM/\AE H3 H4/\H4 fl=some (.lst ys))
    {zh _,[],3,fun j dd z=>by simp at z,zF hfl,zI} (fun i ys H4 h=>?_) (fun i ys H4 h=>?_) (fun i v ys H4 hv h=>?_) (fun ys H4 h=>?_)
   . obtain⟨_,_,_,_,_,s4,_⟩:=h;exact AB.of (s4 _ _ (ic _ _ iS))
   . obtain⟨hi,ds,rfl,hdl,_⟩:=h;rw[zB,hdl];exact BV (by lia)
   . obtain⟨_,ds,rfl,hdl,hds,s4,hf4⟩:=h;rw[zN] at hv;cases ha:as[i]? with
     | none=>rw[ha] at hv;cases hv
     | some a=>
     rw[ha] at hv;cases hv;obtain⟨es,he,cs,hc,EA,hl3⟩:=hA i a ha;have gq:i<eM.length:=(zG.mp he).1;have Hub':=(kd.at gq).hub;rw[gd he] at Hub';have g9:=ic.trans s4;refine{{3},?_};refine Bf ?_;refine{1,a,0,{_,AB.of (g9 _ _ hc)},[],0,fun D hD=>?_};refine BJ (a:=a) (xs:=cs.map V.ref) (fun j zs H5=>j<=es.length/\zs.length=j/\(∀(m:Nat)(y:V),zs[m]?=some y->∃c e,y=.ref c/\es[m]?=some e/\H5 c=some (.tup [.int e.h,.int e.l]))/\AE H4 H5/\H5 D=some (.lst zs)) {zh _,0,fun m y z=>by simp at z,zF hD,zI} (fun j zs H5 h=>?_) (fun j zs H5 h=>?_) (fun j v zs H5 hv h=>?_) (fun zs H5 h=>?_)
     . exact AB.of (h.2.2.2.1 _ _ (g9 _ _ hc))
     . rw[h.2.1];exact BV (by have:=h.1;lia)
     . obtain⟨_,gV,hzs,s5,hZ⟩:=h;obtain⟨x,e,rfl,hx,hxe⟩:=EA.at hv;have hx5:=s5 _ _ (g9 _ _ hxe);refine{{3},?_};refine Bf ?_;refine{1,x,4,.int e.h,3,AB.of hx5,7,x,4,.int e.l,3,AB.of hx5,0,Al,fun c hc=>?_};have nDc:D≠c:=zq hZ hc;refine{zF hc _ _ hZ,(zG.mp hx).1,by rw[zH,gV];rfl,fun m y hy=>?_,Av (s5.trans (zF hc)) hD,zI};by_cases cj:m<j
       . rw[ze (by lia)] at hy;obtain⟨c',e',h1,h2,h3⟩:=hzs m y hy;refine{c',e',h1,h2,?_};rw[zj (Bu h3 hZ (by intro z;cases z))];exact zF hc _ _ h3
       . have ej:m=j:=by have:=(zG.mp hy).1;rw[zH,gV] at this;simp at this;lia
         subst ej;rw[za (by lia),gV,Fz] at hy;have ey:V.ref c=y:=by simpa using hy
         subst ey;exact{c,e,0,hx,by rw[zj (Ne.symm nDc)];exact zI}
     . obtain⟨_,gV,hzs,s5,hZ⟩:=h;rw[zB,EA.1] at gV;refine{D,zs,Ge es,0,AD.of hZ,{by unfold Ge;rw[zB,gV],fun m y hy=>?_},fun dd jB=>?_}
       . obtain⟨c,e,h1,h2,h3⟩:=hzs m y hy;exact{c,Sum.inl e.h,.int e.l,h1,h3,by unfold Ge;rw[zN,h2];rfl}
       rw[Tf (show ((Ge es).map (·.1)).Nodup from XE Hub' fun e=>V.int e.l)];have s6:=s5.trans (zF (o:=.dK (Ge es)) jB);have hf6:=s6 _ _ hf4;have kp:∀b kv,(upd H5 dd (.dK (Ge es))) b=some (.dK kv)->(upd (upd H5 dd (.dK (Ge es))) fl (.lst (ds.map V.ref++[.ref dd]))) b=some (.dK kv):=fun b kv z=>by rw[zj (Bu z hf6 (by intro z;cases z))];exact z
       refine{hf6,by lia,ds++[dd],by rw[zT];rfl,by rw[zH,hdl];rfl,fun j d' jw=>?_,Av (s4.trans s6) hfl,zI};by_cases cj:j<ds.length
       . rw[ze cj] at jw;obtain⟨jb,e1,e2⟩:=hds j d' jw;exact{jb,e1,kp _ _ (s6 _ _ e2)}
       . rw[za (by lia)] at jw;cases hz:j-ds.length with
         | zero=>
          rw[hz] at jw;have e1:dd=d':=by simpa using jw
          subst e1;exact{es,by rw[show j=i by lia];exact he,kp _ _ zI}
         | succ z=>rw[hz] at jw;simp at jw
   . obtain⟨_,ds,rfl,hdl,hds,s4,hf4⟩:=h;rw[zB,g6] at hdl;have g9:=ic.trans s4;have hdp4:=s4 _ _ hdp;refine{1,la,eM,0,LA.keep fun b us e=>g9 _ _ e,by lia,h24,fun hn ys H5 s5 h5 HU=>?_};have iy:=s5 _ _ hdp4;have gR:=g9.trans s5;refine{hn,0,{_,AD.of h5},Mb (K:=K) (a:=hn) (xs:=ys) (fun i σ H6=>O4 fun (v3 v6 v7 v8 v9:Option V)=>σ=[some (.ref wa),some (.ref la),some (.int n),v3,some (.ref dp),some (.ref fl),v6,v7,v8,v9,v10,v11]/\AE H5 H6/\∀(j:Nat)(x:Nat×En),j<i->(Bp eM eM.length)[j]?=some x->Hd ts eM x.1 x.2)
      {9,6,AE.refl _,fun j x z=>absurd z (Ce _)} (fun i σ H6 hi z=>?_) (fun i y σ H6 hy z=>?_) (fun σ H6 z=>?_)}
     . obtain⟨_,_,_,_,_,_,s6,_⟩:=z;exact AD.of (s6 _ _ h5)
     . obtain⟨v3',v6',v7',v8',v9',rfl,s6,all⟩:=z;obtain⟨c,i',e,rfl,hfe,hc⟩:=HU.2 i y hy;have hm:=zQ hfe;obtain⟨m1,m2⟩:=NB hm;obtain⟨u,dn,hu1,hd1,u0,u1,d0,d1⟩:=((kd.at m1).ent e m2).far (Nr hm);have iH:H6 c=some (.tup [.int (i':Int),.int e.h,.int e.l,.int u,.int dn]):=by rw[s6 _ _ hc];unfold eV;rw[hu1,hd1];rfl
       have s06:=gR.trans s6;refine{c,1,AB.of iH,0,6,6,6,6,2,?_};have ret:∀(H7:Hp)(q q2:Addr),AE H H7->H7 q=none->(upd H7 q (.tup [.int (i':Int),.int e.h])) q2=none->¬ Hd ts eM i' e->Q (.ref q2) (upd (upd H7 q (.tup [.int (i':Int),.int e.h])) q2 (.tup [.str "up",.ref q])):=fun H7 q q2 s7 hq iM nu=>two _ i' e.h H7 q q2 s7 hq iM (.up _ OW {i,(i',e),hfe,nu,0,fun k' y hk hy=>all k' y hk hy});refine{5,Al,fun p hp=>?_};have s7:=s6.trans (zF (o:=.tup [.int (i':Int),.int u]) hp);have s07:=gR.trans s7;refine{1,dp,1,BK.t (k:=[Sum.inl (i':Int),Sum.inl u]) (s7 _ _ iy) zI,1,Bj (fun c1=>?_) (fun c1=>?_)}
       . refine Ak {5,Al,fun q hq=>{Al,fun q2 iM=>ret _ q q2 s07 hq iM ?_}};rintro ⟨u',t',f',h1,h2,_⟩;rw[hu1] at h1;cases h1;have:=(pd.some i' u).mpr ⟨t',h2⟩;rw[this] at c1;cases c1
       . have c1':(Ah eO [Sum.inl (i':Int),Sum.inl u]).isSome=true:=by
          cases z:(Ah eO [Sum.inl (i':Int),Sum.inl u]).isSome with
          | true=>rfl
          | false=>rw[z] at c1;exact absurd rfl c1
         obtain⟨t,ad⟩:=(pd.some i' u).mp c1';have gI:=((pd i' u).1 t).mpr ad;have ui:=Lv kd G hu1 u0 u1 ad;have hul:u.toNat<ds.length:=by lia
         obtain⟨dd,jB⟩:∃dd,ds[u.toNat]?=some dd:={_,zD hul};obtain⟨es,he,hdk⟩:=hds _ _ jB;rw[gd he] at ui;have s47:=s5.trans s7;have hdk7:=s47 _ _ hdk;refine{5,fl,4,.ref dd,3,AD.of (s47 _ _ hf4),?ix,dd,0,.inl {_,.inl hdk7},1,_,BK.k (k:=Sum.inl e.h) hdk7,?_}
         case ix=>
          rw[show u=((u.toNat:Nat):Int) by lia];exact CV (by rw[zN,jB];rfl)
         have eo:(Ah (Ge es) (Sum.inl e.h)).getD .non=oV ((Bk es e.h).map (·.l)):=by rw[show Ge es=es.map fun e=>((Sum.inl e.h:AQ),V.int e.l) from rfl,XU];cases Bk es e.h <;> rfl
         rw[eo];refine{5,5,Al,fun p2 gk=>?_};have s8:=s7.trans (zF (o:=.tup [.int (i':Int),.int u]) gk);refine{dp,1,gI ▸ BK.t (k:=[Sum.inl (i':Int),Sum.inl u]) (s8 _ _ iy) zI,2,UC _ (some (e.l-t)),1,?_};show (if (!decide (oV ((Bk es e.h).map (·.l))=oV (some (e.l-t))))=true then _ else _)
         rw[Tn];by_cases cu:(Bk es e.h).map (·.l)=some (e.l-t)
         . rw[zO cu];refine AZ {9,6,s8,fun j x hj hx=>?_};by_cases q:j=i
           . subst q;rw[hfe] at hx;cases hx;exact ui.mpr cu
           . exact all j x (by lia) hx
         . rw[zS cu];exact Ak {5,Al,fun q hq=>{Al,fun q2 iM=>ret _ q q2 (gR.trans s8) hq iM fun z=>cu (ui.mp z)}}
     . obtain⟨v3',v6',v7',v8',v9',rfl,s6,all⟩:=z;have UP:Ic ts eM none:=fun x hx=>by obtain⟨j,hj,ej⟩:=zr hx;exact all j x (by rw[HU.1];exact hj) (by rw[zD hj,ej])
       clear all HU hds hf4;have s06:=gR.trans s6;have hdp6:=s6 _ _ iy;generalize hHx:H6=Hx at s06 hdp6;subst hHx;clear s6 h5 iy gR s5 hdp4 s4 g9 ic s3 s2 s1;have LLx:EJ H6 la eM:=LA.keep fun b us e=>s06 _ _ e;obtain⟨as',hlx,halx,hAx⟩:=id LLx;refine{1,la,0,{_,AB.of hlx},[.ref la],0,fun D hD=>?_};refine BJ (a:=la) (xs:=as'.map V.ref) (fun i ys H1=>i<=eM.length/\∃rs:List Addr,ys=rs.map V.ref/\rs.length=i/\(∀(j:Nat)(r:Addr),rs[j]?=some r->r≠D/\∃es,eM[j]?=some es/\H1 r=some (.lst ((eM.map fun b=>tv es b).map oV)))/\AE H6 H1/\H1 D=some (.lst ys))
        {zh _,[],3,fun j r z=>by simp at z,zF hD,zI} (fun i ys H1 h=>?_) (fun i ys H1 h=>?_) (fun i v ys H1 hv h=>?_) (fun ys H1 h=>?_)
       . obtain⟨_,_,_,_,_,s1,_⟩:=h;exact AB.of (s1 _ _ hlx)
       . obtain⟨hi,rs,rfl,hrl,_⟩:=h;rw[zB,hrl];exact BV (by lia)
       . obtain⟨_,rs,rfl,hrl,hR,s1,gU⟩:=h;rw[zN] at hv;cases ha:as'[i]? with
         | none=>rw[ha] at hv;cases hv
         | some a=>
         rw[ha] at hv;cases hv;obtain⟨es,hU,LE⟩:=hAx i a ha;have hia:=(zG.mp ha).1;refine{{3},?_};refine Bf ?_;refine{1,la,0,{_,AB.of (s1 _ _ hlx)},[.ref a],0,fun D2 fM=>?_};have nDD:D≠D2:=zq gU fM;refine BJ (a:=la) (xs:=as'.map V.ref) (fun j zs H2=>j<=eM.length/\zs=((eM.take j).map fun b=>tv es b).map oV/\AE H1 H2/\H2 D2=some (.lst zs)) {zh _,0,zF fM,zI} (fun j zs H2 h=>?_) (fun j zs H2 h=>?_) (fun j v zs H2 hv h=>?_) (fun zs H2 h=>?_)
         . exact AB.of (h.2.2.1 _ _ (s1 _ _ hlx))
         . obtain⟨hj,rfl,_⟩:=h;rw[zB,zB,zp];exact BV (by lia)
         . obtain⟨_,rfl,s2,h2⟩:=h;rw[zN] at hv;cases hb:as'[j]? with
           | none=>rw[hb] at hv;cases hv
           | some b=>
           rw[hb] at hv;cases hv;obtain⟨fs,hfs,LF'⟩:=hAx j b hb;have hjb:=(zG.mp hb).1;refine{{3},?_};refine Bf ?_;refine{5,a,b,es,fs,0,(LE.same s1).same s2,(LF'.same s1).same s2,(kd.kd fs (zQ hfs)).hub,fun H3 s3=>?_};refine{s3 _ _ h2,by lia,?_,Av (s2.trans s3) fM,zI};rw[zu,hfs,zT,zT];rfl
         . obtain⟨_,rfl,s2,h2⟩:=h;rw[zB,halx,zW (zK _)] at h2;have hDD:=s2 _ _ gU;have kp:∀(r:Addr)(u:List V),r≠D->H2 r=some (.lst u)->(upd H2 D (.lst (rs.map V.ref++[.ref D2]))) r=some (.lst u):=fun r u n z=>by rw[zj n];exact z
           refine{hDD,by lia,rs++[D2],by rw[zT];rfl,by rw[zH,hrl];rfl,fun j r gD=>?_,Av (s1.trans s2) hD,zI};by_cases cj:j<rs.length
           . rw[ze cj] at gD;obtain⟨ne,jb,e1,e2⟩:=hR j r gD;exact{ne,jb,e1,kp r _ ne (s2 _ _ e2)}
           . rw[za (by lia)] at gD;cases hz:j-rs.length with
             | zero=>
              rw[hz] at gD;have e1:D2=r:=by simpa using gD
              subst e1;have ej:j=i:=by lia
              subst ej;exact{nDD.symm,es,hU,kp D2 _ nDD.symm h2}
             | succ z=>rw[hz] at gD;simp at gD
       . obtain⟨_,rs,rfl,hrl,hR,s1,gU⟩:=h;rw[zB,halx] at hrl;have TB:FQ K H1 D (JH eM):={rs,AD.of gU,by unfold JH;rw[zB,hrl],fun j r row gD iB=>by obtain⟨_,es,e1,e2⟩:=hR j r gD;unfold JH at iB;rw[zN,e1] at iB;rw[<-zV iB];exact e2}
         clear hR gU;have s01:=s06.trans s1;refine{1,5,dp,D,n,ts,eM,eO,0,G,kd,s1 _ _ hdp6,pd,TB,fun o vf H2 ht Sf s2=>?_};have i6:=s01.trans s2;refine{1,7,?_};cases o with
         | some dt=>rw[zS (Mx Sf ht.nn)];refine Ak {1,Al,fun q hq=>?_};exact k _ q _ (id (.tie dt OW UP ht)) (i6.trans (zF hq)) (.tup zI (.cons (.str _) (.cons (BP (zF hq) Sf) .nil)))
         | none=>
          cases Mz Sf;rw[zO rfl];refine AZ ?_;refine{1,la,eM,0,LA.keep fun b us e=>i6 _ _ e,by lia,h24,fun hn ys H5 s5 h5 HU=>?_};have TB5:=Qf TB (s2.trans s5);have iy:=s5 _ _ (s2 _ _ (s1 _ _ hdp6));have gR:=i6.trans s5;refine{hn,0,{_,AD.of h5},Mb (K:=K) (a:=hn) (xs:=ys) (fun i σ H6=>O4 fun (v3 v6 v7 v8 v9:Option V)=>σ=[some (.ref wa),some (.ref la),some (.int n),v3,some (.ref dp),some (.ref fl),v6,v7,v8,v9,some (.ref D),some .non]/\AE H5 H6/\∀(j:Nat)(x:Nat×En),j<i->(Bp eM eM.length)[j]?=some x->JF ts eM x.1 x.2)
           {9,6,AE.refl _,fun j x z=>absurd z (Ce _)} (fun i σ H6 hi z=>?_) (fun i y σ H6 hy z=>?_) (fun σ H6 z=>?_)}
          . obtain⟨_,_,_,_,_,_,s6,_⟩:=z;exact AD.of (s6 _ _ h5)
          . obtain⟨v3',v6',v7',v8',v9',rfl,s6,all⟩:=z;obtain⟨c,i',e,rfl,hfe,hc⟩:=HU.2 i y hy;have hm:=zQ hfe;obtain⟨m1,m2⟩:=NB hm;obtain⟨u,dn,hu1,hd1,u0,u1,d0,d1⟩:=((kd.at m1).ent e m2).far (Nr hm);have iH:H6 c=some (.tup [.int (i':Int),.int e.h,.int e.l,.int u,.int dn]):=by rw[s6 _ _ hc];unfold eV;rw[hu1,hd1];rfl
            have s06:=gR.trans s6;refine{c,1,AB.of iH,0,6,6,6,6,2,?_};have ret:∀(H7:Hp)(q q2:Addr),AE H H7->H7 q=none->(upd H7 q (.tup [.int (i':Int),.int e.h])) q2=none->¬ JF ts eM i' e->Q (.ref q2) (upd (upd H7 q (.tup [.int (i':Int),.int e.h])) q2 (.tup [.str "down",.ref q])):=fun H7 q q2 s7 hq iM nu=>two _ i' e.h H7 q q2 s7 hq iM (.down _ OW UP ht {i,(i',e),hfe,nu,0,fun k' y hk hy=>all k' y hk hy});refine{5,Al,fun p hp=>?_};have s7:=s6.trans (zF (o:=.tup [.int e.h,.int dn]) hp);have s07:=gR.trans s7;refine{1,dp,1,BK.t (k:=[Sum.inl e.h,Sum.inl dn]) (s7 _ _ iy) zI,1,Bj (fun c1=>?_) (fun c1=>?_)}
            . refine Ak {5,Al,fun q hq=>{Al,fun q2 iM=>ret _ q q2 s07 hq iM ?_}};rintro ⟨u',t',f',h1,h2,_⟩;rw[hd1] at h1;cases h1;have:=(pd.some e.h dn).mpr ⟨t',h2⟩;rw[this] at c1;cases c1
            . have c1':(Ah eO [Sum.inl e.h,Sum.inl dn]).isSome=true:=by
               cases z:(Ah eO [Sum.inl e.h,Sum.inl dn]).isSome with
               | true=>rfl
               | false=>rw[z] at c1;exact absurd rfl c1
              obtain⟨t,ad⟩:=(pd.some e.h dn).mp c1';have gI:=((pd e.h dn).1 t).mpr ad;have di:=Lg kd G m1 hd1 ad;obtain⟨xs1,r1,ys1,g1,g2,g3,g4⟩:=UL (Qf TB5 s7) (u:=dn.toNat) (v:=i') (by lia) m1;rw[show ((dn.toNat:Nat):Int)=dn by lia] at g2;refine{5,D,4,.ref r1,3,g1,g2,1,r1,8,g3,g4,?_};refine{5,5,Al,fun p2 gk=>?_};have s8:=s7.trans (zF (o:=.tup [.int e.h,.int dn]) gk);refine{dp,1,gI ▸ BK.t (k:=[Sum.inl e.h,Sum.inl dn]) (s8 _ _ iy) zI,2,UC _ (some (e.l-t)),1,?_};show (if (!decide (oV (tv (eM.getD dn.toNat []) (eM.getD i' []))=oV (some (e.l-t))))=true then _ else _)
              rw[Tn];by_cases cu:tv (eM.getD dn.toNat []) (eM.getD i' [])=some (e.l-t)
              . rw[zO cu];refine AZ {9,6,s8,fun j x hj hx=>?_};by_cases q:j=i
                . subst q;rw[hfe] at hx;cases hx;exact di.mpr cu
                . exact all j x (by lia) hx
              . rw[zS cu];exact Ak {5,Al,fun q hq=>{Al,fun q2 iM=>ret _ q q2 (gR.trans s8) hq iM fun z=>cu (di.mp z)}}
          . obtain⟨v3',v6',v7',v8',v9',rfl,s6,all⟩:=z;have DN:NK ts eM none:=fun x hx=>by obtain⟨j,hj,ej⟩:=zr hx;exact all j x (by rw[HU.1];exact hj) (by rw[zD hj,ej])
            refine{E4,fun q hq=>?_};exact k none q _ (id (.none OW UP ht DN)) ((gR.trans s6).trans (zF hq)) (.tup zI .nil)
structure VC (K:AK)(mg:By)(cW cP:Addr)(cs1 cs2:List Addr):Prop where
 mW:mg "WayError"=some (.ref cW)
 qW:PySem.W.excIn K cW MY "ValueError.__new__"=true
 mP:mg "NoLabels"=some (.ref cP)
 sb:L2.subIn K cP cW=true
 ex:DC K cP
 m1:[mg "NoLeast",mg "NoOrder",mg "NoPart",mg "NoPlan",mg "NoPosts",mg "NoRing"]=cs1.map fun c=>some (.ref c)
 m2:[mg "NoRow",mg "NoText",mg "NoTie",mg "NoTree",mg "TooMany"]=cs2.map fun c=>some (.ref c)
 k1:PySem.W.kitAny K (.ref cP) (cs1.map Value.ref)=some false
 k2:PySem.W.kitAny K (.ref cP) (cs2.map Value.ref)=some false
 kP:PySem.W.kitOne K (.ref cP) (.ref cP)=some true
 kV:PySem.W.kitOne K (.ref cP) (.type "ValueError")=some true
 n1:PySem.W.findIn K (.ref cP) "word"=some none
 n2:PySem.W.findIn K (.ref cP) "at"=some none
def D4 (T:Hp->Addr->V->(Option (Str×PyData)->Prop)->Prop):Sp:=fun vs H Q _=>∃wa v F,vs=[.ref wa,v]/\T H wa v F/\(F none->∀H',AE H H'->Q (.bl true) H') /\
 ∀x e q H',F (some (x,e))->AE H H'->Ag H' (.ref q) (.tuple [.str x,e])->Q (.ref q) H'
theorem IT:zw Ym B4 (defScope HQ):=AV
theorem Lz (F:Fu K "_law_found" HQ f eQ) (Er:VC K mg cW cP [c1,c2,c3,c4,c5,c6] [c7,c8,c9,jd,jc])(EI:CK K cP fI)
 (FL:AF K mg "lets_labels" QW fL fdL DW) (GL:AG P w K mg base (BZ P w) m fL fdL DW (Mn cP TL)) (eT:mg "isinstance"=none) (jG:mg "ValueError"=none):AG P w K mg base AJ (m+1) f eQ B4 (D4 TL):=by
 obtain⟨h1,h2,h3,h4,h5,h6⟩:mg "NoLeast"=some (.ref c1)/\mg "NoOrder"=some (.ref c2)/\mg "NoPart"=some (.ref c3)/\mg "NoPlan"=some (.ref c4)/\mg "NoPosts"=some (.ref c5)/\mg "NoRing"=some (.ref c6):=by have:=Er.m1;simpa using this
 obtain⟨h7,h8,h9,h10,h11⟩:mg "NoRow"=some (.ref c7)/\mg "NoText"=some (.ref c8)/\mg "NoTie"=some (.ref c9)/\mg "NoTree"=some (.ref jd)/\mg "TooMany"=some (.ref jc):=by have:=Er.m2;simpa using this
 have qC:KJ K cP=true:=by unfold KJ;rw[EI.cl];rfl
 refine F.okD IT fun _ A _ _ H vs Q E hr h=>?_;obtain⟨wa,v,F0,rfl,T0,kY,kN⟩:=h;refine{_,zR (Ab (i:=2) IT.nd Cw)
  (zR (Yh (i:=3) IT.nd rfl rfl rfl rfl rfl Er.mW Er.qW (Wm (i:=2) IT.nd rfl (Or.inl rfl) GL hr rfl FL.m FL.F.kp FL.b (zC (pv 0) (zC (pv 1) zM)))
   (fun ea oe c hc=>zR (Ab (i:=4) IT.nd (zy (Qw (Hn hc)) eT (zC (pv 3) (zC (Af (zC (BU (v:=.ref c1) rfl h1 rfl) (zC (BU (v:=.ref c2) rfl h2 rfl) (zC (BU (v:=.ref c3) rfl h3 rfl) (zC (BU (v:=.ref c4) rfl h4 rfl) (zC (BU (v:=.ref c5) rfl h5 rfl) (zC (BU (v:=.ref c6) rfl h6 rfl) zM))))))) zM))))
    (zR (Ab (i:=4) IT.nd (Tq (pv 4) (Bl (zy (Qw (Hn hc)) eT (zC (pv 3) (zC (Af (zC (BU (v:=.ref c7) rfl h7 rfl) (zC (BU (v:=.ref c8) rfl h8 rfl) (zC (BU (v:=.ref c9) rfl h9 rfl) (zC (BU (v:=.ref jd) rfl h10 rfl) (zC (BU (v:=.ref jc) rfl h11 rfl) zM)))))) zM))))))
    (zR (Ab (i:=2) IT.nd (Af (zC Cw zM)))
    (zY (Ad (PW.pt (EL (A0 (zy (VU (Hn hc)) eT (zC (pv 3) (zC (BU (v:=.ref cP) rfl Er.mP rfl) zM)))) (EL (A0 (zy (WY (Hn hc)) eT (zC (pv 3) (zC (CS (T := "ValueError") jG) zM)))) (F8 (BC (A0 (pv 4)))))))
     (zY (Ab (i:=2) IT.nd (Af (zC (Qc (pv 3)) (zC (Qc (pv 3)) zM))))) Ac))))))
  (zY (AM (pv 2)))),?_}
 refine{5,wa,v,F0,0,T0,fun fo H' s'=>{1,kY fo H' s'},fun x e at' dx H' fo s' Sa gw=>?_};refine{cP,0,qC,Er.sb,fun ea oe ws hc hd hf hea=>?_};refine{1,Yl,fun p hp=>?_};refine{p,[c1,c2,c3,c4,c5,c6],false,Er.ex,0,zI,Er.k1,?_};have s1:=zF (o:=.tup ([c1,c2,c3,c4,c5,c6].map V.ref)) hp;refine{1,false,0,AZ ?_};refine{1,Yq,fun p2 gk=>?_};have s2:=s1.trans (zF (o:=.tup ([c7,c8,c9,jd,jc].map V.ref)) gk);refine{p2,[c7,c8,c9,jd,jc],false,Er.ex,0,zI,Er.k2,?_};refine{MR,fun p3 hp3=>?_};have s3:=s2.trans (zF (o:=.tup [.str "class"]) hp3);refine{1,cP,true,Er.ex,0,Er.kP,true,0,Ak ?_};refine{1, "ValueError",true,Er.ex,0,Er.kV,true,0,Ak ?_};refine{1,false,0,Ak ?_};refine{1,ea,cP,dx,_,.str x,0,RK hc hd hf,EI.cl,Er.ex,Er.n1,s3 _ _ gw,7,ea,cP,dx,_,at',0,RK hc hd hf,EI.cl,Er.ex,Er.n2,s3 _ _ gw,0,Al,fun p4 iO=>?_};have s4:=s3.trans (zF (o:=.tup [.str x,at']) iO);exact{1,kN x e p4 _ fo (s'.trans s4) (.tup zI (.cons (.str _) (.cons (BP s4 Sa) .nil)))}
structure TQ (F:Option (Str×PyData)->Prop):Prop where
 un:∀a b,F a->F b->a=b
 fn:∀x e,F (some (x,e))->Fn 300000 50 (.tuple [.str x,e])
theorem Ys (ha:Fn n p a)(hb:Fn n p b):Fn (2*(n+1)) (p+1) (.tuple [a,b]):=Xj (fun d hd=>by
 simp only[zb,List.not_mem_nil,or_false] at hd;rcases hd with rfl | rfl
 . exact ha
 . exact hb) (zK 2)
theorem Nq (h1:y.length<=12)(h2:PyData.strOk y=true)(h3:Fn 500 1 e):Fn 300000 50 (.tuple [.str y,e]):=(Ys ((L7 (BX h1 (by decide)) h2).mono (by decide) (zh _)) h3).mono (by decide) (by decide)
theorem WB (a:i.natAbs<=100)(b:h.natAbs<=100):Fn 500 1 (.tuple [.int i,.int h]):=(Ys (n:=140) (p:=0) (Q4 (i:=i) (by lia)) (Q4 (i:=h) (by lia))).mono (by decide) (by decide)
theorem TL.good (t:TL H wa v F):TQ F:=by
 obtain⟨la,n,ts,eM,rfl,⟨⟨_,_,_,_,_,G⟩,_,kd⟩,rfl⟩:=t;refine{fun a b x y=>x.uniq y,fun x e l=>?_};have hn:=G.n24;have jq:=kd.ln;have far:∀(j:Nat)(y:Nat×En),(Bp eM eM.length)[j]?=some y->Fn 500 1 (E6 y):=fun j y hy=>by obtain⟨m1,m2⟩:=NB (zQ hy);have:=((kd.at m1).ent _ m2).rng;exact WB (by lia) (by lia)
 cases l with
 | own d h=>obtain⟨m,i,hi,_,rfl,_⟩:=h;have:=Eo.mp (zQ hi);exact Nq (by decide) (by decide +kernel) ((Q4 (by lia)).mono (by decide) (by decide))
 | up d o h=>obtain⟨m,y,hy,_,rfl,_⟩:=h;exact Nq (by decide) (by decide +kernel) (far m y hy)
 | down d o u t h=>obtain⟨m,y,hy,_,rfl,_⟩:=h;exact Nq (by decide) (by decide +kernel) (far m y hy)
 | tie d o u h=>obtain⟨a,b,c,ha,hb,hc,_,rfl,_⟩:=h;refine Nq (by decide) (by decide +kernel) ((Xj (n:=140) (p:=0) (L:=3) (ds:=[.int (a:Int),.int (b:Int),.int (c:Int)]) (fun d hd=>?_) (zK 3)).mono (by decide) (by decide));simp only[zb,List.not_mem_nil,or_false] at hd;rcases hd with rfl | rfl | rfl <;> exact Q4 (by lia)
theorem Ae.neT (h:Ae H t N)(hb:H b=some (.tup ys)):b≠t:=by obtain⟨p,ns,fV,rest,a,_⟩:=h;exact Bu hb a (by intro z;cases z)
theorem LU :∀{xs:List V}{os:List Int},Bh H xs (os.map PyData.int)->xs=os.map V.int:=by
 intro xs os h
 induction os generalizing xs with
 | nil=>cases h;rfl
 | cons o os ih=>
  cases h with
  | cons a b=>cases a;rw[ih b];rfl
inductive Aj where
 | mk (ps:List Int)(ks:List Aj)
mutual
noncomputable def AX:Aj->List Int
 | .mk ps ks=>ps++An ks
noncomputable def An:List Aj->List Int
 | []=>[]
 | k::ks=>AX k++An ks
end
mutual
noncomputable def A7 (x:Int):Aj->Option (List Int)
 | .mk ps ks=>if x∈ps then some ps else (A9 x ks).map (ps ++ ·)
noncomputable def A9 (x:Int):List Aj->Option (List Int)
 | []=>none
 | k::ks=>match A7 x k with
  | some r=>some r
  | none=>A9 x ks
end
mutual
noncomputable def LB:Aj->Nat
 | .mk ps ks=>ps.length+QO ks
noncomputable def QO:List Aj->Nat
 | []=>0
 | k::ks=>max (LB k) (QO ks)
end
mutual
noncomputable def BA:Aj->Nat
 | .mk _ ks=>Jf ks+1
noncomputable def Jf:List Aj->Nat
 | []=>0
 | k::ks=>max (BA k) (Jf ks)
end
mutual
noncomputable def BS:Aj->PyData
 | .mk ps ks=>.tuple [.tuple (ps.map PyData.int),.tuple (CD ks)]
noncomputable def CD:List Aj->List PyData
 | []=>[]
 | k::ks=>BS k::CD ks
end
theorem II:∀ks:List Aj,(CD ks).length=ks.length
 | []=>rfl
 | _::ks=>by rw[CD,zk,zk,II ks]
theorem ID :∀{ks:List Aj},k∈ks->BA k<=Jf ks
 | [],h=>by cases h
 | j::ks,h=>by
  rw[Jf];rcases zb.mp h with rfl | h
  . lia
  . have:=ID h
    lia
theorem Si :∀{ks:List Aj}{i:Nat},ks[i]?=some k->An (ks.take (i+1))=An (ks.take i)++AX k
 | [],_,h=>by cases h
 | j::ks,0,h=>by cases h;show AX k++An (ks.take 0)=An []++AX k;simp[An]
 | j::ks,i+1,h=>by show AX j++An (ks.take (i+1))=(AX j++An (ks.take i))++AX k;rw[Si (ks:=ks) (by simpa using h),Dk]
theorem JW :∀{ks:List Aj},k∈ks->(AX k).length<=(An ks).length
 | [],h=>by cases h
 | j::ks,h=>by
  rw[An,zH];rcases zb.mp h with rfl | h
  . lia
  . have:=JW h
    lia
theorem UQ:∀ks i,(An (ks.take i)).length<=(An ks).length
 | ks,0=>by simp[An]
 | [],_+1=>zK _
 | k::ks,i+1=>by
  show (AX k++An (ks.take i)).length<=(AX k++An ks).length;rw[zH,zH];have:=UQ ks i
  lia
theorem J5 :∀{zs:List V}{ks:List Aj}{i:Nat}{z:V},Bh H zs (CD ks)->zs[i]?=some z->∃k,ks[i]?=some k/\Ag H z (BS k)
 | [],_,_,_,_,h=>by cases h
 | z::zs,[],_,_,s,_=>by cases s
 | z::zs,k::ks,i,y,s,h=>by
  rw[CD] at s;cases s with
  | cons a b=>
   cases i with
   | zero=>cases h;exact{k,0,a}
   | succ i=>obtain⟨k',h1,h2⟩:=J5 (ks:=ks) (i:=i) b (by simpa using h);exact{k',by simpa using h1,h2}
theorem Jg (S:Ag H v (BS (.mk ps ks))):∃a b c zs,v=.ref a/\H a=some (.tup [.ref b,.ref c])/\H b=some (.tup (ps.map V.int))/\H c=some (.tup zs)/\Bh H zs (CD ks):=by
 rw[BS] at S;cases S with
 | tup e al=>cases al with
  | cons s1 al=>cases al with
   | cons s2 al=>
    cases al;cases s1 with
    | tup e1 a1=>cases s2 with
     | tup e2 a2=>rw[LU a1] at e1;exact{4,6,e,e1,e2,a2}
def FV (h:Nat):Sp:=fun vs H Q _=>∃v p,vs=[v]/\Ag H v (BS p)/\BA p<=h/\(AX p).length<=20000/\∀l H',AE H H'->H' l=some (.tup ((AX p).map V.int))->Q (.ref l) H'
def Fe (h:Nat):Sp:=fun vs H Q _=>∃v p,vs=[v]/\Ag H v (BS p)/\BA p<=h/\(AX p).length<=20000/\∀l H',AE H H'->H l=none->H' l=some (.lst ((AX p).map V.int))->Q (.ref l) H'
theorem HY:zw ["plan","found","part"] ["plan"] (defScope N9):=AV
theorem JS (F:Fu K "plan_order" N9 f eQ) (bF:BR K eQ ["plan"] []) (mF:mg "plan_order"=some (.ref f)) (eY:mg "list"=none) (eP:mg "tuple"=none):∀h:Nat,AG P w K mg base AJ (h+1) f eQ ["plan"] (FV h)
 | 0=>F.ok HY (fun vs H Q E h=>by obtain⟨v,p,rfl,_⟩:=h;rfl) (fun fg A outer s H vs Q E hr h=>by
  obtain⟨v,⟨ps,ks⟩,rfl,_,h0,_⟩:=h;rw[BA] at h0
  lia)
 | h+1=>by
  have GP:AG P w K mg base AJ (h+1) f eQ ["plan"] (FV h):=JS F bF mF eY eP h;refine F.ok HY (fun vs H Q E h=>?_) (fun fg A outer s H vs Q E hr h=>?_)
  . obtain⟨v,p,rfl,_⟩:=h;rfl
  . obtain⟨v,⟨ps,ks⟩,rfl,S,hh,hl,k⟩:=h;rw[BA] at hh;rw[AX] at hl k;obtain⟨a,b,c,zs,rfl,ha,hb,hc,al⟩:=Jg S;have gV:=Jj al;rw[II] at gV;refine{_,zR (Ab (i:=1) HY.nd (Cq Q2 eY (zC (zt AU (pv 0) zf) zM)))
     (zR (Au (Ay (zt AU (pv 0) zf)) (AW (i:=2) HY.nd)
      (zY (B0 (Cz PySem.F.plainAttrs_list PySem.F.slot_list_extend PySem.F.type_list_extend cO (pv 1) (zC (CP GP hr rfl mF F.kp bF .nil Eu (zC (pv 2) zM)) zM)))))
     (zY (AM (Cq F7 eP (zC (pv 1) zM))))),?_}
    refine{1,_,8,AB.of ha,0,b,1,.inr (AB.of hb),fun D hD=>?_};have s1:=zF (o:=.lst (ps.map V.int)) hD;refine{1,_,8,AB.of (s1 _ _ ha),0,c,0,{_,AB.of (s1 _ _ hc)},Ed (K:=K) (a:=c) (xs:=zs) (fun i σ H2=>∃vt:Option V,σ=[some (.ref a),some (.ref D),vt]/\i<=ks.length/\H2 D=some (.lst ((ps++An (ks.take i)).map V.int))/\AE H H2)
     {none,0,zh _,by rw[zI];simp[An],s1} (fun i σ H2 _ z=>?_) (fun i x σ H2 hx z=>?_) (fun σ H2 z=>?_)}
    . obtain⟨_,_,_,_,s2⟩:=z;exact AB.of (s2 _ _ hc)
    . obtain⟨vt,rfl,hi,h2,s2⟩:=z;obtain⟨kd,hk,Sk⟩:=J5 al hx;have jX:=zQ hk;have iT:=(zG.mp hk).1;have hf:=Si hk;have hkl:=JW jX;have hkh:=ID jX;have hlen:(An (ks.take (i+1))).length<=(An ks).length:=UQ ks (i+1);rw[hf,zH] at hlen;rw[zH] at hl;refine{1,.inl {0,_,AD.of h2},1,x,kd,0,BP s2 Sk,by lia,by lia,fun l H3 s3 h3=>?_};refine{D,l,2,s3 _ _ h2,h3,?_,?_}
      . rw[zB,zB,zH];exact CT (Aq (by lia))
      . exact{1,iT,by rw[hf,zI,<-zT,Dk],Av (s2.trans s3) hD}
    . obtain⟨vt,rfl,hi,h2,s2⟩:=z;rw[gV,zW (zK _)] at h2;refine{1,D,1,.inl {AD.of h2,fun l gO=>?_}};exact k l _ (s2.trans (zF gO)) zI
theorem E2:zw ["_law_plan","_law_found_here","_law_one"] Kb (defScope OG):=AV
theorem UU (F:Fu K "_law_flat" OG f eQ) (bF:BR K eQ Kb []) (mF:mg "_law_flat"=some (.ref f)) (eY:mg "list"=none):∀h:Nat,AG P w K mg base AJ (h+1) f eQ Kb (Fe h)
 | 0=>F.ok E2 (fun vs H Q E h=>by obtain⟨v,p,rfl,_⟩:=h;rfl) (fun fg A outer s H vs Q E hr h=>by
  obtain⟨v,⟨ps,ks⟩,rfl,_,h0,_⟩:=h;rw[BA] at h0
  lia)
 | h+1=>by
  have GP:AG P w K mg base AJ (h+1) f eQ Kb (Fe h):=UU F bF mF eY h;refine F.ok E2 (fun vs H Q E h=>?_) (fun fg A outer s H vs Q E hr h=>?_)
  . obtain⟨v,p,rfl,_⟩:=h;rfl
  . obtain⟨v,⟨ps,ks⟩,rfl,S,hh,hl,k⟩:=h;rw[BA] at hh;rw[AX] at hl k;obtain⟨a,b,c,zs,rfl,ha,hb,hc,al⟩:=Jg S;have gV:=Jj al;rw[II] at gV;refine{_,zR (Ab (i:=1) E2.nd (Cq Q2 eY (zC (zt AU (pv 0) zf) zM)))
     (zR (Au (Ay (zt AU (pv 0) zf)) (AW (i:=2) E2.nd)
      (zY (Ab (i:=1) E2.nd (Aa Nl (pv 1) (CP GP hr rfl mF F.kp bF .nil Eu (zC (pv 2) zM))))))
     (zY (AM (pv 1)))),?_}
    refine{1,_,8,AB.of ha,0,b,1,.inr (AB.of hb),fun D hD=>?_};have s1:=zF (o:=.lst (ps.map V.int)) hD;refine{1,_,8,AB.of (s1 _ _ ha),0,c,0,{_,AB.of (s1 _ _ hc)},Ed (K:=K) (a:=c) (xs:=zs) (fun i σ H2=>EU fun (D:Addr)(vt:Option V)=>σ=[some (.ref a),some (.ref D),vt]/\i<=ks.length/\H D=none/\H2 D=some (.lst ((ps++An (ks.take i)).map V.int))/\AE H H2)
     {D,none,0,zh _,hD,by rw[zI];simp[An],s1} (fun i σ H2 _ z=>?_) (fun i x σ H2 hx z=>?_) (fun σ H2 z=>?_)}
    . obtain⟨_,_,_,_,_,_,s2⟩:=z;exact AB.of (s2 _ _ hc)
    . obtain⟨D,vt,rfl,hi,hD,h2,s2⟩:=z;obtain⟨kd,hk,Sk⟩:=J5 al hx;have jX:=zQ hk;have iT:=(zG.mp hk).1;have hf:=Si hk;have hkl:=JW jX;have hkh:=ID jX;have hlen:(An (ks.take (i+1))).length<=(An ks).length:=UQ ks (i+1);rw[hf,zH] at hlen;rw[zH] at hl;refine{5,x,kd,0,BP s2 Sk,by lia,by lia,fun l H3 s3 _ h3=>?_};refine{D,l,2,s3 _ _ h2,h3,?_,fun p hp=>?_}
      . rw[zB,zB,zH];exact CT (Aq (by lia))
      . have s4:=s2.trans s3;refine{p,1,iT,?_,by rw[hf,zI,<-zT,Dk],s4.trans (zF hp)};cases e:H p with
        | none=>rfl
        | some o=>rw[s4 _ _ e] at hp;cases hp
    . obtain⟨D,vt,rfl,hi,hD,h2,s2⟩:=z;rw[gV,zW (zK _)] at h2;exact{1,k D _ s2 hD h2}
mutual
theorem RL :∀(p:Aj){r:List Int},A7 x p=some r->r.length<=(AX p).length
 | .mk ps ks,r,h=>by
  rw[A7] at h;rw[AX,zH];split at h
  . cases h
    lia
  . rw[M8] at h;obtain⟨r',h1,rfl⟩:=h;have:=Vo ks h1;rw[zH]
    lia
theorem Vo :∀(ks:List Aj){r:List Int},A9 x ks=some r->r.length<=(An ks).length
 | [],r,h=>by rw[A9] at h;cases h
 | k::ks,r,h=>by
  rw[A9] at h;rw[An,zH];split at h
  . next r' e=>
    cases h;have:=RL k e
    lia
  . have:=Vo ks h
    lia
end
theorem dF {ks:List Aj}(h:ks[i]?=some k):A9 x (ks.drop i)=match A7 x k with | some r=>some r | none=>A9 x (ks.drop (i+1)):=by
 obtain⟨hi,e⟩:=zG.mp h;rw[M6 hi,e,A9]
 try (cases A7 x k <;> rfl)
mutual
def IQ:Aj->Prop
 | .mk _ ks=>ks.length<=1000/\NM ks
def NM:List Aj->Prop
 | []=>True
 | k::ks=>IQ k/\NM ks
end
theorem YZ :∀{ks:List Aj},NM ks->k∈ks->IQ k
 | [],_,h=>by cases h
 | j::ks,h,hm=>by
  rw[NM] at h;rcases zb.mp hm with rfl | hm
  . exact h.1
  . exact YZ h.2 hm
def K4 (h:Nat):Sp:=fun vs H Q _=>∃v p x,vs=[v,.int x]/\Ag H v (BS p)/\BA p<=h/\(AX p).length<=20000/\(A7 x p=none->∀H',AE H H'->Q .non H')/\(∀r l H',A7 x p=some r->AE H H'->H' l=some (.tup (r.map V.int))->Q (.ref l) H')
def Ld (h:Nat):Sp:=fun vs H Q _=>∃v p,∃(x:Int)(r:List Int),vs=[v,.int x]/\Ag H v (BS p)/\BA p<=h/\(AX p).length<64/\A7 x p=some r/\(∀(ms:List Int)l H',ms.Pairwise (· < ·)->(∀z,z∈ms↔z∈r)->AE H H'->H' l=some (.tup (ms.map V.int))->Q (.ref l) H')
theorem HC:zw ["plan","place","part","rest"] Ez (defScope Rc):=AV
theorem JG (F:Fu K "chain_or_none" Rc f eQ) (bF:BR K eQ Ez []) (mF:mg "chain_or_none"=some (.ref f)):∀h:Nat,AG P w K mg base AJ (h+1) f eQ Ez (K4 h)
 | 0=>F.ok HC (fun vs H Q E h=>by obtain⟨v,p,x,rfl,_⟩:=h;rfl) (fun fg A outer s H vs Q E hr h=>by
  obtain⟨v,⟨ps,ks⟩,x,rfl,_,h0,_⟩:=h;rw[BA] at h0
  lia)
 | h+1=>by
  have GP:AG P w K mg base AJ (h+1) f eQ Ez (K4 h):=JG F bF mF h;refine F.ok HC (fun vs H Q E h=>?_) (fun fg A outer s H vs Q E hr h=>?_)
  . obtain⟨v,p,x,rfl,_⟩:=h;rfl
  . obtain⟨v,⟨ps,ks⟩,x,rfl,S,hh,hl,kn,ks'⟩:=h;rw[BA] at hh;rw[AX,zH] at hl;rw[A7] at kn ks';obtain⟨a,b,c,zs,rfl,ha,hb,hc,al⟩:=Jg S;have gV:=Jj al;rw[II] at gV;refine{_,zR (Ad (AR UO (pv 1) (zt AU (pv 0) zf) (by with_unfolding_all rfl)) (zY (AM (zt AU (pv 0) zf))) Ac)
     (zR (Au (Ay (zt AU (pv 0) zf)) (AW (i:=2) HC.nd)
      (zR (Ab (i:=3) HC.nd (CP GP hr rfl mF F.kp bF .nil Eu (zC (pv 2) (zC (pv 1) zM))))
      (zY (Ad (AR Ff (pv 3) Ar (AN _)) (zY (AM (Aa Vc (zt AU (pv 0) zf) (pv 3)))) Ac))))
     (zY (AM Ar))),?_}
    refine{5,_,8,AB.of ha,0,b,1,.inr (AB.of hb),0,DD _,1,?_};show (if Bw (.int x) (ps.map V.int)=true then _ else _)
    rw[DA];by_cases cx:x∈ps
    . refine Am (zO cx) ?_;rw[if_pos cx] at ks';exact{1,_,8,AB.of ha,0,ks' ps b H rfl (AE.refl _) hb}
    . refine As (zS cx) ?_;rw[if_neg cx] at kn ks';refine{1,_,8,AB.of ha,0,c,0,{_,AB.of hc},Ed (K:=K) (a:=c) (xs:=zs) (fun i σ H2=>EU fun (v2 v3:Option V)=>σ=[some (.ref a),some (.int x),v2,v3]/\A9 x ks=A9 x (ks.drop i)/\AE H H2) {none,none,3,AE.refl _} (fun i σ H2 _ z=>?_) (fun i y σ H2 hy z=>?_) (fun σ H2 z=>?_)}
      . obtain⟨_,_,_,_,s2⟩:=z;exact AB.of (s2 _ _ hc)
      . obtain⟨v2,v3,rfl,hd,s2⟩:=z;obtain⟨kd,hk,Sk⟩:=J5 al hy;have jX:=zQ hk;have hkl:=JW jX;have hkh:=ID jX;rw[dF hk] at hd;refine{5,y,kd,x,0,BP s2 Sk,by lia,by lia,fun e H3 s3=>?_,fun r l H3 e s3 h3=>?_}
        . rw[e] at hd;refine{1,7,As rfl ?_};exact{6,hd,s2.trans s3}
        . rw[e] at hd;have hrl:=RL kd e;have s23:=s2.trans s3;refine{1,7,Am rfl ?_};have ke:∀(l:Addr)(H':Hp),AE H H'->H' l=some (.tup ((ps++r).map V.int))->Q (.ref l) H':=fun l H' s' h'=>ks' (ps++r) l H' (by rw[hd];rfl) s' h';refine{1,_,8,AB.of (s23 _ _ ha),7,b,l,ps.map V.int,r.map V.int,3,AB.of (s23 _ _ hb),AB.of h3,?_,fun e0=>?_,fun _ e0=>?_,fun _ _ p hp=>?_}
          . rw[zB,zB];exact CT (Aq (by lia))
          . have:ps=[]:=List.map_eq_nil_iff.mp e0;subst this;exact ke l H3 s23 h3
          . have:r=[]:=List.map_eq_nil_iff.mp e0;subst this;exact ke b H3 s23 (by rw[zv];exact s23 _ _ hb)
          . exact ke p _ (s23.trans (zF hp)) (by rw[zT];exact zI)
      . obtain⟨v2,v3,rfl,hd,s2⟩:=z;rw[gV,List.drop_of_length_le (zK _),A9] at hd;exact kn (by rw[hd];rfl) _ s2
theorem Uw:zw Ez Ez (defScope Rg):=AV
theorem O7 (F:Fu K "chain" Rg f eQ) (FC:AF K mg "chain_or_none" Rc fC fdC Ez) (eP:mg "tuple"=none) (eR:mg "sorted"=none) (iA:mg "set"=none):AG P w K mg base AJ (h+2) f eQ Ez (Ld h):=by have GC:AH P w base (h+1) FC (K4 h):=JG FC.F FC.b FC.m h;refine F.okD Uw fun _ A _ _ H vs Q E hr h=>?_;obtain⟨v,p,x,r,rfl,S,hh,hl,hx,k⟩:=h;refine{_,zY (AM (Cq F7 eP (zC (SD rfl rfl eR rfl iA (zC (AI GC hr FC (zC (pv 0) (zC (pv 1) zM))) zM)) zM))),?_};refine{5,v,p,x,0,S,hh,by lia,(fun e=>by rw[hx] at e;cases e),fun r' l H1 e s1 h1=>?_};rw[hx] at e;cases e;have hrl:=RL p hx;refine{l,r,0,.inr (AB.of h1),by lia,fun l2 ms gJ hr2 hm2=>?_};refine{l2,1,.inl {AD.of zI,fun l3 hl3=>?_}};exact k ms l3 _ hr2 hm2 (s1.trans ((zF gJ).trans (zF hl3))) zI
mutual
theorem TY :∀p:Aj,(A7 x p).isSome=decide (x∈AX p)
 | .mk ps ks=>by
  rw[A7,AX];by_cases c:x∈ps
  . rw[if_pos c,zO (zg.mpr (.inl c))];rfl
  . rw[if_neg c,Option.isSome_map,WZ ks];by_cases c2:x∈An ks
    . rw[zO c2,zO (zg.mpr (.inr c2))]
    . rw[zS c2,zS (fun z=>(zg.mp z).elim c c2)]
theorem WZ :∀ks:List Aj,(A9 x ks).isSome=decide (x∈An ks)
 | []=>by rw[A9,An];simp
 | k::ks=>by
  have h1:=TY (x:=x) k;have h2:=WZ (x:=x) ks;rw[A9,An];cases e:A7 x k with
  | some r=>rw[e] at h1;have:x∈AX k:=of_decide_eq_true h1.symm;rw[zO (zg.mpr (.inl this))];rfl
  | none=>
   rw[e] at h1;have c:¬ x∈AX k:=of_decide_eq_false h1.symm;show (A9 x ks).isSome=_;rw[h2];by_cases c2:x∈An ks
   . rw[zO c2,zO (zg.mpr (.inr c2))]
   . rw[zS c2,zS (fun z=>(zg.mp z).elim c c2)]
end
theorem Q5 (h:x∈AX p):∃r,A7 x p=some r:=by have:=TY (x:=x) p;rw[zO h] at this;exact Jv.mp this
theorem cH (h:¬ x∈AX p):A7 x p=none:=by
 have:=TY (x:=x) p;rw[zS h] at this;cases e:A7 x p with
 | none=>rfl
 | some r=>rw[e] at this;cases this
theorem WD :∀{ks:List Aj}{i:Nat},ks[i]?=some k->A9 x (ks.take (i+1))=match A9 x (ks.take i) with | some r=>some r | none=>A7 x k
 | [],_,h=>by cases h
 | j::ks,0,h=>by
  cases h;show A9 x [k]=match A9 x [] with | some r=>some r | none=>A7 x k
  rw[A9,A9];cases A7 x k <;> rfl
 | j::ks,i+1,h=>by
  have ih:=WD (x:=x) (ks:=ks) (i:=i) (by simpa using h);show A9 x (j::ks.take (i+1))=match A9 x (j::ks.take i) with | some r=>some r | none=>A7 x k
  rw[A9,A9,ih];cases A7 x j <;> rfl
def MZ (h:Nat):Sp:=fun vs H Q _=>∃v p,∃(x:Int)(r:List Int),vs=[v,.int x]/\Ag H v (BS p)/\BA p<=h/\(AX p).length<64/\IQ p/\A7 x p=some r/\(∀(ms:List Int)l H',ms.Perm r->ms.Pairwise (· <= ·)->AE H H'->H' l=some (.tup (ms.map V.int))->Q (.ref l) H')
def Yw (H H2:Hp)(x:Int)(r:List Int)(h m:Nat)(v:V)(σ:St):Prop:=∃v4 D L fo,σ=[some v,some (.int x),some (.ref D),some (.ref L),v4]/\AE H H2/\H2 D=some (.lst (fo.map V.int)) /\
 ((∃y q rest r',H2 L=some (.lst (y::rest))/\Ag H2 y (BS q)/\BA q<=h/\(AX q).length<64/\IQ q/\A7 x q=some r'/\fo++r'=r/\m=BA q)\/(H2 L=some (.lst [])/\fo=r/\m=0))
theorem WU:A1 (BM X pl N' sc fp s3 H3) (compareOp .In) (Rv X.K false):=UO
theorem Dw:zw ["_law_plan","_law_place","_law_found_here","_law_some","_law_here"] Rj (defScope RX):=AV
theorem Pn (F:Fu K "_law_chain" RX f eQ) (FF:AF K mg "_law_flat" OG fF fdF Kb) (eY:mg "list"=none) (eP:mg "tuple"=none) (eR:mg "sorted"=none):AG P w K mg base AJ (h+2) f eQ Rj (MZ h):=by
 have GF:AH P w base (h+1) FF (Fe h):=UU FF.F FF.b FF.m eY h;refine F.okD Dw fun _ A _ _ H vs Q E hr h=>?_;obtain⟨v,p,x,r,rfl,S,hh,hl,hk1,hx,k⟩:=h;have iL:=hr.units0;have hrl:=RL p hx;refine{_,zR (Ab (i:=2) Dw.nd (BO zM))
  (zR (Ab (i:=3) Dw.nd (BO (zC (pv 0) zM)))
  (zR (Sb PassesOwn.never (AR (Qj iL) (pv 3) (BO zM) (AN _))
   (zR (Dc (i:=4) Dw.nd rfl (Or.inr rfl) (zt AY (pv 3) zf))
   (zR (Ab (i:=2) Dw.nd (Aa Nl (pv 2) (Cq Q2 eY (zC (zt AU (pv 4) zf) zM))))
   (zY (Ea (i:=3) (own:=Hc) (cn:=["_law_place","_law_here"]) (ci:=[1,4]) Dw.nd rfl (Or.inl rfl) rfl (Az rfl rfl) {3,3,3,trivial} rfl (Ay (zt AU (pv 4) zf)) (fun _ _ _ _=>Aw)
    (fun _ _ _ _=>C0 (PW.pt (EL (AR QS (pv 1) (zt CQ (pv 2) zf) (by with_unfolding_all rfl)) (F8 (AR WU (pv 1) (AI GF hr FF (zC (pv 0) zM)) (by with_unfolding_all rfl)))))) (fun _ _ _ _=>pv 0))))))
  (zY (AM (Cq F7 eP (zC (zy RO eR (zC (pv 2) zM)) zM)))))),?_}
 refine{zh _,fun D0 hD0=>?_};have s0:=zF (o:=.lst []) hD0;refine{1,MR,fun L0 hL0=>?_};have s1:=zF (o:=.lst [v]) hL0;refine{fun m σ H2=>Yw H H2 x r h m v σ,{BA p,none,D0,L0,[],0,s0.trans s1,s1 _ _ zI,.inl {v,p,[],r,zI,BP (s0.trans s1) S,hh,hl,hk1,hx,3}},fun m σ H2 z=>?_};obtain⟨v4,D,L,fo,rfl,s2,hD,z⟩:=z;refine{1,zh _,fun b hb=>?_};have sb:=zF (o:=.lst []) hb;rcases z with ⟨y,q,rest,r',hL,Sy,hq,hql,hq1,hxq,hfo,rfl⟩ | ⟨hL,rfl,rfl⟩
 . refine{L,b,_,3,AD.of (sb _ _ hL),AD.of zI,1,Am rfl ?_};have s2b:=s2.trans sb;have hDb:=sb _ _ hD;have hLb:=sb _ _ hL;have Syb:=BP sb Sy;generalize upd H2 b (.lst [])=H3 at s2b hDb hLb Syb ⊢;obtain⟨ps,ks⟩:=q;rw[BA] at hq ⊢;rw[AX,zH] at hql;rw[A7] at hxq;rw[IQ] at hq1;obtain⟨a,b',c,zs,rfl,ha,gY,hc,al⟩:=Jg Syb;have gV:=Jj al;rw[II] at gV;refine{fun σ' H'=>∃m',m'<Jf ks+1/\Yw H H' x r h m' v σ',fun σ' H' z=>z,?_};refine{1,L,4,.ref a,3,AD.of hLb,CB (by decide) rfl,?_};refine{5,_,8,AB.of ha,0,b',1,.inr (AB.of gY),fun e he=>?_};have se:=zF (o:=.lst (ps.map V.int)) he;refine{D,e,2,se _ _ hDb,zI,?_,fun D' hD'=>?_}
   . have:(fo++r').length=r.length:=by rw[hfo]
     rw[zH] at this;rw[zB,zB];exact CT (Aq (by lia))
   have s3:=s2b.trans (se.trans (zF (o:=.lst (fo.map V.int++ps.map V.int)) hD'));have s33:=se.trans (zF (o:=.lst (fo.map V.int++ps.map V.int)) hD');have gE:(upd (upd H3 e (.lst (ps.map V.int))) D' (.lst (fo.map V.int++ps.map V.int))) D'=some (.lst ((fo++ps).map V.int)):=by rw[zI,zT]
   generalize upd (upd H3 e (.lst (ps.map V.int))) D' (.lst (fo.map V.int++ps.map V.int))=H4 at s3 s33 gE ⊢;have ha4:=s33 _ _ ha;have hb4:=s33 _ _ gY;have jZ:=s33 _ _ hc;refine{1,_,8,AB.of ha4,0,c,0,{_,AB.of jZ},[.int x,.ref a],0,fun E' hE'=>?_};by_cases cx:x∈ps
   . rw[if_pos cx] at hxq;have er:ps=r':=zV hxq;subst er;refine BJ (a:=c) (xs:=zs) (fun i ys H5=>ys=[]/\H5=upd H4 E' (.lst [])) {3} (fun i ys H5 z=>?_) (fun i ys H5 z=>?_) (fun i y ys H5 hy z=>?_) (fun ys H5 z=>?_)
     . obtain⟨_,rfl⟩:=z;exact AB.of (zF hE' _ _ jZ)
     . obtain⟨rfl,_⟩:=z;exact Aq (zh _)
     . obtain⟨rfl,rfl⟩:=z;refine{{3},?_};refine{5,_,8,AB.of (zF hE' _ _ ha4),0,b',1,.inr (AB.of (zF hE' _ _ hb4)),0,DD _,1,?_};show (if (!Bw (.int x) (ps.map V.int))=true then _ else _)
       rw[DA,zO cx];exact AZ (AZ {3})
     . obtain⟨rfl,rfl⟩:=z;exact⟨0,by lia,_,D',E',_,rfl,s3.trans (zF hE'),zF hE' _ _ gE,.inr {zI,hfo,0}⟩
   . rw[if_neg cx,M8] at hxq;obtain⟨r2,hr2,hrr⟩:=hxq;refine BJ (a:=c) (xs:=zs) (fun i ys H5=>AE H4 H5/\H5 E'=some (.lst ys)/\ys.length<=i/\i<=zs.length/\((ys=[]/\A9 x (ks.take i)=none)\/∃(y:V)(q:Aj)(rest:List V)(r':List Int),ys=y::rest/\Ag H4 y (BS q)/\q∈ks/\A7 x q=some r'/\A9 x (ks.take i)=some r')) {zF hE',zI,zK _,zh _,.inl {0,by rw[Gf,A9]}} (fun i ys H5 z=>?_) (fun i ys H5 z=>?_) (fun i y ys H5 hy z=>?_) (fun ys H5 z=>?_)
     . exact AB.of (z.1 _ _ jZ)
     . obtain⟨_,_,iC,gJ,_⟩:=z;exact Aq (by lia)
     . obtain⟨s5,h5,iC,_,zc⟩:=z;obtain⟨kd,hk,Sk⟩:=J5 al hy;have jX:=zQ hk;have hkl:=JW jX;have hkh:=ID jX;have ie:=(zG.mp hy).1;have ht:=WD (x:=x) hk;refine{{3},?_};refine{5,_,8,AB.of (s5 _ _ ha4),0,b',1,.inr (AB.of (s5 _ _ hb4)),0,DD _,1,?_};show (if (!Bw (.int x) (ps.map V.int))=true then _ else _)
       rw[DA,zS cx];refine Ak ?_;refine{5,y,kd,0,BP (s33.trans s5) Sk,by lia,by lia,fun lf H6 s6 _ h6=>?_};refine{lf,1,.inl (AD.of h6),0,DD _,1,?_};show (if Bw (.int x) ((AX kd).map V.int)=true then _ else _)
       rw[DA];by_cases ck:x∈AX kd
       . refine Am (zO ck) ?_;obtain⟨rk,hrk⟩:=Q5 ck;refine{1,s6 _ _ h5,Av (s5.trans s6) hE',zI,by rw[zH];show _+1<=_;lia,ie,.inr ?_};rcases zc with ⟨rfl,hn⟩ | ⟨y0,q0,iI,r0,rfl,g1,g2,g3,g4⟩
         . rw[hn,hrk] at ht;exact{y,kd,[],rk,0,BP s33 Sk,jX,hrk,ht}
         . rw[g4] at ht;exact{y0,q0,iI++[y],r0,0,g1,g2,g3,ht}
       . refine As (zS ck) ?_;rw[cH ck] at ht;refine{s5.trans s6,s6 _ _ h5,by lia,ie,?_};rcases zc with ⟨rfl,hn⟩ | ⟨y0,q0,iI,r0,rfl,g1,g2,g3,g4⟩
         . rw[hn] at ht;exact .inl {0,ht}
         . rw[g4] at ht;exact .inr {y0,q0,iI,r0,0,g1,g2,g3,ht}
     . obtain⟨s5,h5,_,_,zc⟩:=z;rw[gV,zW (zK _),hr2] at zc;rcases zc with ⟨_,hn⟩ | ⟨y0,q0,iI,r0,rfl,g1,g2,g3,g4⟩
       . cases hn
       . cases g4;have hkh:=ID g2;have hkl:=JW g2;exact{BA q0,by lia,_,D',E',1,s3.trans s5,s5 _ _ gE,.inl {y0,q0,iI,r2,h5,BP s5 g1,by lia,by lia,YZ hq1.2 g2,g3,by rw[Dk,hrr,hfo],0}}
 . refine{L,b,[],3,AD.of (sb _ _ hL),AD.of zI,1,As rfl ?_};refine{1,D,fo,0,AD.of (sb _ _ hD),by lia,fun l1 ms iC pm so=>?_};refine{l1,1,.inl {AD.of zI,fun l2 gJ=>?_}};exact k ms l2 _ pm so (s2.trans (sb.trans ((zF iC).trans (zF gJ)))) zI
mutual
def good:Aj->Prop
 | .mk ps ks=>ps≠[]/\KA ks
def KA:List Aj->Prop
 | []=>True
 | k::ks=>good k/\KA ks
end
theorem Xy :∀{ks:List Aj},KA ks->k∈ks->good k
 | [],_,h=>by cases h
 | j::ks,h,hm=>by
  rw[KA] at h;rcases zb.mp hm with rfl | hm
  . exact h.1
  . exact Xy h.2 hm
mutual
theorem aX :∀(p:Aj){r:List Int},A7 x p=some r->r.Sublist (AX p)/\x∈r/\r.length<=LB p
 | .mk ps ks,r,h=>by
  rw[A7] at h;rw[AX,LB];split at h
  . next c=>
    cases h;exact{List.sublist_append_left _ _,c,by lia}
  . rw[M8] at h;obtain⟨r',h1,rfl⟩:=h;obtain⟨a,b,c⟩:=Vj ks h1;exact{a.append_left ps,zg.mpr (.inr b),by rw[zH];lia}
theorem Vj :∀(ks:List Aj){r:List Int},A9 x ks=some r->r.Sublist (An ks)/\x∈r/\r.length<=QO ks
 | [],r,h=>by rw[A9] at h;cases h
 | k::ks,r,h=>by
  rw[A9] at h;rw[An,QO];split at h
  . next r' e=>
    cases h;obtain⟨a,b,c⟩:=aX k e;exact{a.trans (List.sublist_append_left _ _),b,by lia}
  . obtain⟨a,b,c⟩:=Vj ks h;exact{a.trans (List.sublist_append_right _ _),b,by lia}
end
theorem YR (hx:x∈AX k):∀{ks:List Aj},k∈ks->x∈An ks
 | [],h=>by cases h
 | j::ks,h=>by
  rw[An];rcases zb.mp h with rfl | h
  . exact zg.mpr (.inl hx)
  . exact zg.mpr (.inr (YR hx h))
theorem S8 :∀l:List Int,Bh H (l.map V.int) (l.map PyData.int)
 | []=>.nil
 | _::r=>.cons (.int _) (S8 r)
mutual
theorem Sl (k:∀b ys,H b=some (.tup ys)->H' b=some (.tup ys)):∀(q:Aj){v:V},Ag H v (BS q)->Ag H' v (BS q)
 | .mk ps ks,v,S=>by obtain⟨a,b,c,zs,rfl,ha,hb,hc,al⟩:=Jg S;rw[BS];exact .tup (k _ _ ha) (.cons (.tup (k _ _ hb) (S8 _)) (.cons (.tup (k _ _ hc) (NY k ks al)) .nil))
theorem NY (k:∀b ys,H b=some (.tup ys)->H' b=some (.tup ys)):∀(ks:List Aj){zs:List V},Bh H zs (CD ks)->Bh H' zs (CD ks)
 | [],zs,S=>by rw[CD] at S ⊢;cases S;exact .nil
 | q::ks,zs,S=>by
  rw[CD] at S ⊢;cases S with
  | cons a b=>exact .cons (Sl k q a) (NY k ks b)
end
theorem WV:∀ks js:List Aj,CD (ks++js)=CD ks++CD js
 | [],_=>rfl
 | k::ks,js=>by rw[List.cons_append,CD,CD,WV ks js];rfl
theorem QP (xs)(m:Nat):B3 xs none (some (m:Int))=xs.take m:=by
 unfold B3;rw[HT.sIx_none,HT.sIx_nat,List.drop_zero,Nat.sub_zero];by_cases h:m<=xs.length
 . rw[Nat.min_eq_left h]
 . rw[Nat.min_eq_right (by lia),zW (zK _),zW (by lia)]
theorem R9 (xs)(m:Nat):B3 xs (some (m:Int)) none=xs.drop m:=by
 unfold B3;rw[HT.sIx_none,HT.sIx_nat];by_cases h:m<=xs.length
 . rw[Nat.min_eq_left h,zW (by rw[List.length_drop];exact zK _)]
 . rw[Nat.min_eq_right (by lia),Fz,Gf,List.drop_of_length_le (by lia)]
theorem CG.ne2 (h:CG H t p N)(hb:H b=none):b≠t/\b≠p:=by obtain⟨ns,fV,rest,h1,h2,_⟩:=h;exact{(zq h1 hb).symm,(zq h2 hb).symm}
theorem bG (s:Sm t H H')(n:b≠t)(h:H' b=none):H b=none:=by
 cases e:H b with
 | none=>rfl
 | some o=>rw[s _ _ n e] at h;cases h
theorem V0:CH (BM X pl N' sc fp s3 H3) (.builtin "isinstance") (MB X.K):=DE
theorem cm (bs:List Bool):(bs.map V.bl).all Fj=true:=J8.mpr fun x hx=>by obtain⟨b,_,rfl⟩:=DS.mp hx;rfl
mutual
def Ji:Aj->Prop
 | .mk ps ks=>ps.Pairwise (· < ·)/\Nj ks
def Nj:List Aj->Prop
 | []=>True
 | k::ks=>Ji k/\Nj ks
end
theorem VX :∀{ks:List Aj},Nj ks->k∈ks->Ji k
 | [],_,h=>by cases h
 | j::ks,h,hm=>by
  rw[Nj] at h;rcases zb.mp hm with rfl | hm
  . exact h.1
  . exact VX h.2 hm
def Jn (p:Aj)(a b:Int):Prop:=(∃r,A7 b p=some r/\a∈r)\/∃r,A7 a p=some r/\b∈r
mutual
theorem Sn:∀p,good p->(AX p).length<=1000->IQ p/\1<=(AX p).length
 | .mk ps ks,g,hl=>by rw[good] at g;rw[AX,zH] at hl;have h1:=XT ks g.2 (by lia);have h2:0<ps.length:=List.length_pos_iff.mpr g.1;exact{{by lia,h1.1},by rw[AX,zH];lia}
theorem XT:∀ks,KA ks->(An ks).length<=1000->NM ks/\ks.length<=(An ks).length
 | [],_,_=>{trivial,zK _}
 | k::ks,g,hl=>by
  rw[KA] at g;rw[An,zH] at hl;have a:=Sn k g.1 (by lia);have b:=XT ks g.2 (by lia);refine{⟨a.1,b.1⟩,?_};rw[An,zH,zk]
  lia
end
theorem AE.none {H H':Hp}{r:Addr}(s:AE H H')(h:H' r=none):H r=none:=by
 cases z:H r with
 | none=>rfl
 | some u=>have y:=(s _ _ z).symm.trans h;cases y
theorem PQ:zw C4 C4 (defScope Ha):=AV
theorem Kl (F:BY K "__init__" "NoPlan.__init__" Ha f eQ) (EI:CK K C f)(mo:PySem.W.mroIn K C (.type "object")=some true) (n1:PySem.W.findIn K (.ref C) "word"=some none) (n2:PySem.W.findIn K (.ref C) "at"=some none):AG P w K mg base AJ 1 f eQ C4 (Ho C "word" "at"):=by
 refine F.okD PQ fun _ A _ _ H vs Q E hr h=>?_;obtain⟨e,t,v1,v2,rfl,he,k⟩:=h;refine{_,zR (Qm EI mo n1 (pv 0) (pv 1)) (zY (Qm EI mo n2 (pv 0) (pv 2))),?_};refine{5,e,t,0,.inl {he,fun dx gw=>?_}};have ne:dx≠e:=fun z=>by rw[z,he] at gw;cases gw
 refine{5,e,t,0,.inr {dx,_,zI,by rw[zj ne,zI],by show 1<900;decide,?_}};show Q _ _;rw[Ip ne];exact k dx gw ne
theorem Wl {fl:List Int}(nd:fl.Nodup)(h:fl[i]?=some x):x∉fl.take i:=fun z=>by obtain⟨j,hj,e⟩:=zr z;rw[zp] at hj;rw[List.getElem_take] at e;obtain⟨hi,ei⟩:=zG.mp h;exact Ef.mp (List.nodup_iff_pairwise_ne.mp nd) j i (by lia) hi (by lia) (by rw[e,ei])
theorem ZT:zw C2 C2 (defScope NN):=AV
theorem aZ (F:Fu K "refuse_at" NN f eQ) (mC:mg "NoPlan"=some (.ref C)) (EI:CK K C fI)(bI:BR K fdI C4 []) (GI:AG P w K mg base AJ 1 fI fdI C4 (Ho C "word" "at")):AG P w K mg base (BZ P w) 3 f eQ C2 (Mf C):=by
 refine F.okI ZT (fun vs H Q E h=>?_) (fun fg A outer s H vs Q E hr h=>?_)
 . obtain⟨x,v,rfl,_⟩:=h;rfl
 . obtain⟨x,v,rfl,kY,kN⟩:=h;refine{_,zY (Ad (AR Ff (pv 1) Ar (AN _)) (zY (YG (E:=E) rfl mC EI rfl GI hr bI (zC (pv 0) (zC (pv 1) zM)) (fun pins σ H s ea tt dx I he hn h0 hE=>Vw I he rfl rfl rfl rfl hn h0 hE))) Ac),?_};refine{1,7,?_};by_cases c:v=.non
   . exact As (by rw[zO c];rfl) (kY c)
   . refine Am (by rw[zS c];rfl) ?_;exact{5,6,kN c}
structure Hg (p:Aj):Prop where
 gd:good p
 rs:Ji p
 nn:∀x∈AX p,0<=x
 ln:(AX p).length<64
structure C5 (n:Int)(p:Aj):Prop where
 gd:good p
 rs:Ji p
 ht:BA p<=24
 pm:(AX p).Perm (lowTo n.toNat)
theorem C5.all (g:C5 n p)(x)(x0:0<=x)(x1:x<n):x∈AX p:=g.pm.mem_iff.mpr (M7.mpr (by lia))
theorem C5.rng (g:C5 n p)(h:x∈AX p):0<=x/\x<n:=by
 have:=M7.mp (g.pm.mem_iff.mp h)
 lia
theorem C5.ln (g:C5 n p):(AX p).length=n.toNat:=by rw[g.pm.length_eq,D9]
theorem C5.nd (g:C5 n p):(AX p).Nodup:=g.pm.nodup_iff.mpr ((QY _).imp fun h=>by lia)
theorem C5.q (g:C5 n p)(h:n<=24):Hg p:={g.gd,g.rs,fun x hx=>(g.rng hx).1,by rw[g.ln];lia}
theorem Hg.kid (g:Hg (.mk ps ks))(h:k∈ks):Hg k:=by obtain⟨a,b,c,d⟩:=g;rw[good] at a;rw[Ji] at b;rw[AX] at c d;rw[zH] at d;exact{Xy a.2 h,VX b.2 h,fun x hx=>c x (zg.mpr (.inr (YR hx h))),by have:=JW h;lia}
theorem Hg.top (g:Hg (.mk ps ks)):ps≠[]/\ps.Pairwise (· < ·)/\(∀x∈ps,0<=x)/\ps.length<64/\ks.length<=1000:=by have k1:=(Sn _ g.gd (by have:=g.ln;lia)).1;obtain⟨a,b,c,d⟩:=g;rw[good] at a;rw[Ji] at b;rw[AX] at c d;rw[zH] at d;rw[IQ] at k1;exact{a.1,b.1,fun x hx=>c x (zg.mpr (.inl hx)),by lia,k1.1}
def Xo:Sp:=fun vs H Q _=>∃p,∃(xs:List Int),vs=[.ref p]/\H p=some (.tup (xs.map V.int))/\xs.Pairwise (· < ·)/\xs.length<=1000/\∀H',AE H H'->Q (.bl true) H'
def Jr:Sp:=fun vs H Q _=>∃p ps,vs=[.ref p]/\H p=some (.tup (ps.map V.int))/\ps≠[]/\ps.Pairwise (· < ·)/\(∀x∈ps,0<=x)/\ps.length<64/\∀H',AE H H'->Q (.bl true) H'
def HG (m:Nat):Sp:=fun vs H Q _=>∃v p,vs=[v,.int m]/\Ag H v (BS p)/\Hg p/\BA p<=m/\∀H',AE H H'->Q (.bl true) H'
def MI:Sp:=fun vs H Q _=>∃v p,vs=[v]/\Ag H v (BS p)/\Hg p/\BA p<=24/\∀H',AE H H'->Q (.bl true) H'
def He (m:Nat):Sp:=fun vs H Q _=>∃v p,vs=[v,.int (25-(m:Int))]/\Ag H v (BS p)/\Hg p/\BA p<=m/\m<=24/\∀H',AE H H'->Q (.bl true) H'
theorem SM {l:List Int}{i:Nat}(h:(l.map V.int)[i]?=some v):∃x,l[i]?=some x/\V.int x=v:=by
 rw[zN] at h;cases e:l[i]? with
 | none=>rw[e] at h;cases h
 | some x=>rw[e] at h;exact{x,0,zV h}
theorem aH (F:Fu K "is_rising" Dx f eQ) (eS:mg "len"=none) (eN:mg "range"=none) (gA:mg "all"=none):AG P w K mg base AJ 1 f eQ G6 Xo:=by
 refine F.okD JM fun _ A _ _ H vs Q E hr h=>?_;obtain⟨p,xs,rfl,hp,jj,hl,k⟩:=h;refine{_,zY (AM (zy (NA rfl) gA (zC (BQ (own:=["k"]) (cn:=G6) (ci:=[0]) rfl (Az rfl rfl) {0,3,trivial} rfl
  (Sh rfl eN (zC zf (zC (zy Bz eS (zC (pv 0) zM)) zM))) (fun _ _ _ _=>Aw) (fun _ _ _ _=>Bc)
  (fun _ _ _ _=>BN Mr (zt CQ (pv 1) (Aa EN (pv 0) zf)) (zt CQ (pv 1) (pv 0)) (AN _))) zM))),?_}
 refine⟨_,rfl,p,_,rfl,.inr (AB.of hp),1,_,rfl,{by decide,by decide,by rw[zB];lia,by rw[zB];lia},[.ref p],rfl,fun D hD=>?_⟩;refine IP (lo:=1) (n:=(((xs.map V.int).length:Int)-1).toNat) (fun q ys H4=>q<=(((xs.map V.int).length:Int)-1).toNat/\ys=(List.replicate q true).map V.bl/\H4=upd H D (.lst ys)) {zh _,3} (fun q ys H4 z=>?_) (fun q ys H4 hq z=>?_) (fun ys H4 z=>?_)
 . obtain⟨hq,rfl,_⟩:=z;rw[zB] at hq;rw[zB,Cj];exact BV (by lia)
 . obtain⟨_,rfl,rfl⟩:=z;rw[zB] at hq;have iO:=zF (o:=.lst ((List.replicate q true).map V.bl)) hD _ _ hp;have h1:q<xs.length:=by lia
   have h2:q+1<xs.length:=by lia
   refine{{3},?_};refine Bf ?_;refine{5,2,p,4,.int xs[q],3,AB.of iO,CB (by lia) (by rw[show ((1:Int)+q-1).toNat=q by lia,zN,zD h1];rfl),5,p,4,.int xs[q+1],3,AB.of iO,CB (by lia) (by rw[show ((1:Int)+q).toNat=q+1 by lia,zN,zD h2];rfl),2,zI,by rw[zB];lia,?_,EE};have eU:=Ef.mp jj q (q+1) h1 h2 (by lia)
   try dsimp only
   rw[zO eU,Js,zT];rfl
 . obtain⟨_,rfl,rfl⟩:=z;refine{D,1,AD.of zI,?_};have gF:∀m,(List.replicate m true).all id=true:=fun m=>J8.mpr fun b hb=>(List.mem_replicate.mp hb).2;rw[gF];exact k _ (zF hD)
theorem U9:zw Cb Cb (defScope Rk):=AV
theorem O2 (F:Fu K "are_plan_places" Rk f eQ) (FN:AF K mg "is_number" J4 fN fdN Cb)
 (FR:AF K mg "is_rising" Dx fR fdR G6) (eT:mg "isinstance"=none) (fq:mg "int"=none) (eZ:mg "bool"=none) (eP:mg "tuple"=none) (eS:mg "len"=none) (eN:mg "range"=none) (gA:mg "all"=none):AG P w K mg base AJ 2 f eQ Cb Jr:=by
 have GN:AH P w base 1 FN Qq:=R6 FN.F eT fq eZ;have GR:AH P w base 1 FR Xo:=aH FR.F eS eN gA;refine F.okD U9 fun _ A _ _ H vs Q E hr h=>?_;obtain⟨p,ps,rfl,hp,ft,rs,nn,hl,k⟩:=h;refine{_,zR (Ad (PW.pt (Bb (BC (A0 (zy DE eT (zC (pv 0) (zC (CS (T := "tuple") eP) zM))))) (Bs (AR BG (zy Bz eS (zC (pv 0) zM)) zf (AN _))))) C1 Ac)
  (zY (AM (Ba (zy (NA rfl) gA (zC (BQ (own:=["place"]) (cn:=[]) (ci:=[]) rfl (Az rfl rfl) trivial rfl (Ay (pv 0)) (fun _ _ _ _=>Aw)
   (fun _ _ _ _=>Bc) (fun _ _ _ _=>Ba (AI GN hr FN (zC (pv 0) zM)) (Bl (BN Qb (pv 0) zf (AN _))))) zM))
   (Bl (AI GR hr FR (zC (pv 0) zM)))))),?_}
 refine{1,9,true,0,.tup hp,0,true,0,AZ ?_};refine{1,p,1,.inr (AB.of hp),7,As (zS fun z=>?_) ?_}
 . have z:=V.int.inj z;rw[zB] at z;exact ft (Hk.mp (by lia))
 refine{1,p,0,{_,AB.of hp},[],0,fun D hD=>?_};refine BJ (a:=p) (xs:=ps.map V.int) (fun i ys H4=>i<=ps.length/\ys=(List.replicate i true).map V.bl/\H4=upd H D (.lst ys)) {zh _,3} (fun i ys H4 h=>?_) (fun i ys H4 h=>?_) (fun i v ys H4 hv h=>?_) (fun ys H4 h=>?_)
 . obtain⟨_,_,rfl⟩:=h;exact AB.of (by rw[zj (zq hp hD)];exact hp)
 . obtain⟨hi,rfl,_⟩:=h;rw[zB,Cj];exact Aq (by lia)
 . obtain⟨_,rfl,rfl⟩:=h;obtain⟨x,hx,rfl⟩:=SM hv;refine{{3},Bf {1,x,0,true,0,Ak {1,2,?_}}};rw[zO (nn x (zQ hx))];refine{zI,(zG.mp hx).1,?_,EE};rw[Js,zT];rfl
 . obtain⟨_,rfl,rfl⟩:=h;refine{D,1,AD.of zI,?_};rw[Qd];have s1:=zF (o:=.lst ((List.replicate (ps.map V.int).length true).map V.bl)) hD;exact{true,0,Ak {1,p,ps,0,s1 _ _ hp,rs,by lia,fun H' s'=>k H' (s1.trans s')}}
theorem OR:zw KP KP (defScope Rp):=AV
theorem JB {fT:Addr}(F:Fu K "is_plan_within" Rp f eQ) (bF:BR K eQ KP []) (mF:mg "is_plan_within"=some (.ref f)) (FT:AF K mg "is_tuple_of" D6 fT jD MC)
 (FA:AF K mg "are_plan_places" Rk fA fdA Cb) (GT:∀m,AH P w base (m+2) FT Nx) (GA:∀m,AH P w base (m+2) FA Jr)
 (eT:mg "isinstance"=none) (eP:mg "tuple"=none) (gA:mg "all"=none):∀m:Nat,AG P w K mg base AJ (m+3) f eQ KP (HG m)
 | 0=>by
  refine F.ok OR (fun vs H Q E h=>?_) (fun fg A outer s H vs Q E hr h=>?_)
  . obtain⟨v,p,rfl,_⟩:=h;rfl
  . obtain⟨v,⟨ps,ks⟩,rfl,S,g,hh,k⟩:=h;rw[BA] at hh
    lia
 | m+1=>by
  have GW:AG P w K mg base AJ (m+3) f eQ KP (HG m):=JB F bF mF FT FA GT GA eT eP gA m;refine F.ok OR (fun vs H Q E h=>?_) (fun fg A outer s H vs Q E hr h=>?_)
  . obtain⟨v,p,rfl,_⟩:=h;rfl
  . obtain⟨v,⟨ps,ks⟩,rfl,S,g,hh,k⟩:=h;obtain⟨a,b,c,zs,rfl,ha,hb,hc,al⟩:=Jg S;have gV:=Jj al;rw[II] at gV;obtain⟨g1,g2,g3,g4,g5⟩:=g.top;rw[BA] at hh;refine{_,zR (Ad (PW.pt (Bb (AR BG (pv 1) zf (AN _)) (Bb (BC (A0 (CP (GT (m+1)) hr rfl FT.m FT.F.kp FT.b .nil Eu (zC (pv 0) (zC zf zM))))) (Bs (BC (A0 (zy DE eT (zC (zt AU (pv 0) zf) (zC (CS (T := "tuple") eP) zM))))))))) C1 Ac)
     (zY (AM (Ba (CP (GA (m+1)) hr rfl FA.m FA.F.kp FA.b .nil Eu (zC (zt AU (pv 0) zf) zM))
      (Bl (zy (NA rfl) gA (zC (BQ (own:=["plan"]) (cn:=["most"]) (ci:=[1]) rfl (Az rfl rfl) {0,3,trivial} rfl (Ay (zt AU (pv 0) zf)) (fun _ _ _ _=>Aw)
       (fun _ _ _ _=>Bc) (fun _ _ _ _=>CP GW hr rfl mF F.kp bF .nil Eu (zC (pv 0) (zC (Aa EN (pv 1) zf) zM)))) zM)))))),?_}
    refine{1,7,As (zS fun z=>?_) ?_}
    . have z:=V.int.inj z
      lia
    refine{1,a,[.ref b,.ref c],0,ha,true,0,AZ ?_};refine{1,a,4,.ref c,3,AB.of ha,0,9,true,0,.tup hc,0,true,0,AZ ?_};refine{1,a,4,.ref b,3,AB.of ha,0,b,ps,0,hb,g1,g2,g3,g4,fun H1 s1=>{1,Ak ?_}};have hc1:=s1 _ _ hc;refine{1,a,4,.ref c,3,AB.of (s1 _ _ ha),0,c,0,{_,AB.of hc1},[.int ((m+1:Nat):Int)],0,fun D hD=>?_};refine BJ (a:=c) (xs:=zs) (fun i ys H4=>i<=ks.length/\ys=(List.replicate i true).map V.bl/\AE H1 H4/\H4 D=some (.lst ys)) {zh _,0,zF hD,zI} (fun i ys H4 h=>?_) (fun i ys H4 h=>?_) (fun i v ys H4 hv h=>?_) (fun ys H4 h=>?_)
    . exact AB.of (h.2.2.1 _ _ hc1)
    . obtain⟨hi,rfl,_⟩:=h;rw[zB,Cj];exact Aq (by lia)
    . obtain⟨_,rfl,s4,h4⟩:=h;obtain⟨kd,hk,Sk⟩:=J5 al hv;have hm:=zQ hk;have:=ID hm;refine{{3},Bf {5,2,v,kd,?_,BP (s1.trans s4) Sk,g.kid hm,by lia,fun H5 s5=>{s5 _ _ h4,(zG.mp hk).1,?_,Av (s4.trans s5) hD,zI}}}
      . show [v,V.int (((m+1:Nat):Int)-1)]=_;rw[show ((m+1:Nat):Int)-1=(m:Int) by lia]
      . rw[Js,zT];rfl
    . obtain⟨_,rfl,s4,h4⟩:=h;refine{D,1,AD.of h4,?_};rw[Qd];exact k H4 (s1.trans s4)
theorem U3:zw Cb Cb (defScope RV):=AV
theorem PZ (F:Fu K "is_plan" RV f eQ) (FW:AF K mg "is_plan_within" Rp fW fdW KP) (GW:AH P w base 27 FW (HG 24)) (mMW:mg "MOST_WITHIN"=some (.int 24 tk)):AG P w K mg base AJ 28 f eQ Cb MI:=by refine F.okD U3 fun _ A _ _ H vs Q E hr h=>?_;obtain⟨v,p,rfl,S,g,hh,k⟩:=h;refine{_,zY (AM (AI GW hr FW (zC (pv 0) (zC (BU (v:=.int 24) rfl mMW {tk,0}) zM)))),?_};exact{1,v,p,0,S,g,hh,k}
theorem Ux:zw NJ NJ (defScope R1):=AV
theorem OH (F:Fu K "_law_is_places" R1 f eQ) (eT:mg "isinstance"=none) (fq:mg "int"=none) (eZ:mg "bool"=none) (eP:mg "tuple"=none) (eS:mg "len"=none) (eR:mg "sorted"=none) (iA:mg "set"=none):
 AG P w K mg base AJ 1 f eQ NJ Jr:=by
 refine F.okD Ux fun _ A _ _ H vs Q E hr h=>?_;obtain⟨a,os,rfl,ha,ft,rs,nn,hl,k⟩:=h;have iL:=hr.units0;refine{_,zR (Ad (PW.pt (Bb (BC (A0 (zy DE eT (zC (pv 0) (zC (CS (T := "tuple") eP) zM))))) (Bs (AR BG (zy Bz eS (zC (pv 0) zM)) zf (AN _))))) C1 Ac)
  (zR (Ad (AR (Qj iL) (BQ (own:=Hc) (cn:=[]) (ci:=[]) rfl (Az rfl rfl) trivial rfl (Ay (pv 0)) (fun _ _ _ _=>Aw)
   (fun _ _ _ _=>C0 (PW.pt (Bb (BC (A0 (zy V0 eT (zC (pv 0) (zC (CS (T := "int") fq) zM))))) (Bs (A0 (zy V0 eT (zC (pv 0) (zC (CS (T := "bool") eZ) zM)))))))) (fun _ _ _ _=>pv 0)) (BO zM) (AN _)) C1 Ac)
  (zY (AM (Ba (BN Qb (zt AU (pv 0) zf) zf (AN _)) (Bl (BN (MJ iL) (pv 0) (Cq F7 eP (zC (SD rfl rfl eR rfl iA (zC (pv 0) zM)) zM)) (AN _))))))),?_}
 refine{1,9,true,0,.tup ha,0,true,0,AZ ?_};refine{1,a,1,.inr (AB.of ha),7,As (zS fun z=>?_) ?_}
 . have z:=V.int.inj z;rw[zB] at z;exact ft (Hk.mp (by lia))
 refine{1,a,0,{_,AB.of ha},[],0,fun D hD=>?_};refine BJ (a:=a) (xs:=os.map V.int) (fun i ys H4=>ys=[]/\H4=upd H D (.lst [])) {3} (fun i ys H4 z=>?_) (fun i ys H4 z=>?_) (fun i x ys H4 hx z=>?_) (fun ys H4 z=>?_)
 . rw[z.2];exact AB.of (zF hD _ _ ha)
 . rw[z.1];exact Aq (by decide)
 . obtain⟨rfl,rfl⟩:=z;obtain⟨x,_,rfl⟩:=SM hx;exact{{3},1,9,true,0,.int x,0,true,0,AZ {1,9,false,0,.int x,0,false,0,AZ {3}}}
 . obtain⟨rfl,rfl⟩:=z;refine{zh _,fun b hb=>?_};have sb:=(zF (o:=.lst []) hD).trans (zF (o:=.lst []) hb);refine{D,b,[],3,AD.of (zF hb _ _ zI),AD.of zI,1,AZ ?_};generalize upd (upd H D (.lst [])) b (.lst [])=H5 at sb ⊢;have hat:BI (os.map V.int) 0=some (.int (os.head ft)):=by cases os with
    | nil=>exact absurd rfl ft
    | cons o os=>exact CB (by decide) rfl
   refine{1,a,8,AB.of (sb _ _ ha),hat,2,1,Am (zO (nn _ (List.head_mem ft))) ?_};refine{5,a,os,0,.inr (AB.of (sb _ _ ha)),hl,fun l ms gJ hrm hmm=>?_};refine{l,1,.inl {AD.of zI,fun l2 hl3=>?_}};have s2:=(zF (o:=.lst (ms.map V.int)) gJ).trans (zF (o:=.tup (ms.map V.int)) hl3);refine{a,l2,os,ms,3,AB.of (s2 _ _ (sb _ _ ha)),AB.of zI,?_};show Q (.bl (decide (os=ms))) _;rw[zO (SV rs hrm fun z=>(hmm z).symm)];exact k _ (sb.trans s2)
theorem Pu:zw Lc Lc (defScope Ru):=AV
theorem Ie (F:Fu K "_law_is_plan" Ru f eQ) (bF:BR K eQ Lc []) (mF:mg "_law_is_plan"=some (.ref f))
 (FA:AF K mg "_law_is_places" R1 fA fdA NJ) (GA0:AH P w base 1 FA Jr)
 (eT:mg "isinstance"=none) (eP:mg "tuple"=none) (eS:mg "len"=none):∀m:Nat,AG P w K mg base AJ (m+2) f eQ Lc (He m)
 | 0=>by
  refine F.ok Pu (fun vs H Q E h=>?_) (fun fg A outer s H vs Q E hr h=>?_)
  . obtain⟨v,p,rfl,_⟩:=h;rfl
  . obtain⟨v,⟨ps,ks⟩,rfl,S,g,hh,_⟩:=h;rw[BA] at hh
    lia
 | m+1=>by
  have GP:AG P w K mg base AJ (m+2) f eQ Lc (He m):=Ie F bF mF FA GA0 eT eP eS m;have GA:AH P w base (m+2) FA Jr:=GA0.mono (by lia);refine F.ok Pu (fun vs H Q E h=>?_) (fun fg A outer s H vs Q E hr h=>?_)
  . obtain⟨v,p,rfl,_⟩:=h;rfl
  . obtain⟨v,⟨ps,ks⟩,rfl,S,g,hh,hm,k⟩:=h;obtain⟨a,b,c,zs,rfl,ha,hb,hc,al⟩:=Jg S;have gV:=Jj al;rw[II] at gV;obtain⟨g1,g2,g3,g4,g5⟩:=g.top;rw[BA] at hh;refine{_,zR (Ad (PW.pt (Bb (AR Hl (pv 1) zf (AN _)) (Bb (BC (A0 (zy DE eT (zC (pv 0) (zC (CS (T := "tuple") eP) zM))))) (Bb (Gx (Xh (zy Bz eS (zC (pv 0) zM)) zf)) (Bs (BC (A0 (AI GA hr FA (zC (zt AU (pv 0) zf) zM)))))))) ) C1 Ac)
     (zY (AM (Ba (zy DE eT (zC (zt AU (pv 0) zf) (zC (CS (T := "tuple") eP) zM)))
      (Bl (BN Ju Eh (BQ (own:=Hc) (cn:=["_law_deep"]) (ci:=[1]) rfl (Az rfl rfl) {0,3,trivial} rfl (Ay (zt AU (pv 0) zf)) (fun _ _ _ _=>Aw) (fun _ _ _ _=>Bc)
       (fun _ _ _ _=>CP GP hr rfl mF F.kp bF .nil Eu (zC (pv 0) (zC (Aa CA (pv 1) zf) zM)))) (by with_unfolding_all rfl)))))),?_}
    refine{1,2,1,As (zS (by lia)) ?_};refine{1,9,true,0,.tup ha,7,AZ ?_};refine{1,a,1,.inr (AB.of ha),2,1,AZ ?_};refine{1,a,4,.ref b,3,AB.of ha,0,b,ps,0,hb,g1,g2,g3,g4,fun H1 s1=>{1,AZ ?_}};have hc1:=s1 _ _ hc;refine{1,a,4,.ref c,3,AB.of (s1 _ _ ha),0,9,true,0,.tup hc1,0,true,0,Ak ?_};refine{1,a,4,.ref c,3,AB.of (s1 _ _ ha),0,c,0,{_,AB.of hc1},[.int (25-((m+1:Nat):Int))],0,fun D hD=>?_};refine BJ (a:=c) (xs:=zs) (fun i ys H4=>i<=ks.length/\ys=(List.replicate i true).map V.bl/\AE H1 H4/\H4 D=some (.lst ys)) {zh _,0,zF hD,zI} (fun i ys H4 h=>?_) (fun i ys H4 h=>?_) (fun i v ys H4 hv h=>?_) (fun ys H4 h=>?_)
    . exact AB.of (h.2.2.1 _ _ hc1)
    . obtain⟨hi,rfl,_⟩:=h;rw[zB,Cj];exact Aq (by lia)
    . obtain⟨_,rfl,s4,h4⟩:=h;obtain⟨kd,hk,Sk⟩:=J5 al hv;have hm':=zQ hk;have:=ID hm';refine{{3},Bf {5,2,v,kd,?_,BP (s1.trans s4) Sk,g.kid hm',by lia,by lia,fun H5 s5=>{s5 _ _ h4,(zG.mp hk).1,?_,Av (s4.trans s5) hD,zI}}}
      . show [v,V.int (25-((m+1:Nat):Int)+1)]=_;rw[show (25-((m+1:Nat):Int)+1)=25-(m:Int) by lia]
      . rw[Js,zT];rfl
    . obtain⟨_,rfl,s4,h4⟩:=h;refine{D,1,.inl (AD.of h4),0,cm _,?_};have ni:∀q,Bw (.bl false) ((List.replicate q true).map V.bl)=false:=fun q=>by
       induction q with
       | zero=>rfl
       | succ q ih=>exact ih
      rw[show (if true=true then !Bw (.bl false) ((List.replicate zs.length true).map V.bl) else Bw (.bl false) ((List.replicate zs.length true).map V.bl))=true by rw[if_pos rfl,ni];rfl]
      exact k _ (s1.trans s4)
def Ua (ts:List T3)(p:Aj):Option PyData->Prop:=A4 ts (fun t=>Jn p t.1 t.2.1) fun t=>.tuple [.int t.1,.int t.2.1]
inductive SG (ts:List T3)(p:Aj):Option (Str×PyData)->Prop
 | tie (d:PyData)(h:Ua ts p (some d)):SG ts p (some ("tie",d))
 | none (h:Ua ts p .none):SG ts p .none
def TP (H:Hp)(wa:Addr)(v:V)(F:Option (Str×PyData)->Prop):Prop:=∃n ts p,BF H wa n ts/\Ag H v (BS p)/\C5 n p/\F=SG ts p
theorem TP.good (t:TP H wa v F):TQ F:=by
 obtain⟨n,ts,p,⟨_,_,_,_,_,G⟩,_,g,rfl⟩:=t;have hn:=G.n24;refine{fun a b x y=>?_,fun x e l=>?_}
 . cases x with
   | tie d h=>cases y with
    | tie d' h'=>cases A4.uniq h h';rfl
    | none h'=>cases A4.uniq h h'
   | none h=>cases y with
    | tie d' h'=>cases A4.uniq h h'
    | none h'=>rfl
 . cases l with
   | tie d h=>obtain⟨m,t,ht,_,rfl,_⟩:=h;have:=G.rng t (zQ ht);exact Nq (by decide) (by decide +kernel) (WB (by lia) (by lia))
def Mk:Sp:=fun vs H Q _=>∃wa v n ts p,vs=[.ref wa,v]/\BF H wa n ts/\Ag H v (BS p)/\C5 n p/\∀H',AE H H'->Q .non H'
def Ti:Sp:=fun vs H Q _=>∃wa v n ts p,vs=[.ref wa,v]/\BF H wa n ts/\Ag H v (BS p)/\C5 n p/\∀(o:Option PyData) u H',Ua ts p o->Ag H' u (o.getD .none)->AE H H'->Q u H'
theorem Wk {ma mb:List Int}(ea:A7 a p=some ra)(eb:A7 b p=some rb)(mma:∀z,z∈ma↔z∈ra)(mmb:∀z,z∈mb↔z∈rb):Jn p a b↔a∈mb\/b∈ma:=by
 rw[mmb,mma];constructor
 . rintro (⟨r,e,z⟩ | ⟨r,e,z⟩)
   . rw[eb] at e;cases e;exact .inl z
   . rw[ea] at e;cases e;exact .inr z
 . rintro (z | z)
   . exact .inl ⟨rb,eb,z⟩
   . exact .inr ⟨ra,ea,z⟩
theorem YI {i:Nat}(TA:Ao H tys (ts.map tl))(G:GW n ts)(hi:tys[i]?=some y):∃ya a b c,y=.ref ya/\ts[i]?=some (a,b,c)/\H ya=some (.tup [.int a,.int b,.int c])/\(0<=a/\a<n)/\0<=b/\b<n:=by
 obtain⟨ya,ky,rfl,f9,iK,_⟩:=TA.get hi;rw[zN] at f9;obtain⟨⟨a,b,c⟩,gg,rfl⟩:∃t:T3,ts[i]?=some t/\tl t=ky:=by
  cases e:ts[i]? with
  | none=>rw[e] at f9;cases f9
  | some t=>rw[e] at f9;exact{t,0,zV f9}
 have rg:=G.adj (.inl (zQ gg):Ai ts a b c);exact{ya,a,b,c,0,gg,iK,⟨rg.1,rg.2.1⟩,rg.2.2.1,rg.2.2.2.1}
theorem Qy {ts:List T3}(h:∀k y,k<i->ts[k]?=some y->Jn p y.1 y.2.1)(ht:ts[i]?=some t)(c:Jn p t.1 t.2.1)(k)(y)(hk:k<i+1)(hy:ts[k]?=some y):Jn p y.1 y.2.1:=by
 by_cases e:k=i
 . subst e;rw[ht] at hy;cases hy;exact c
 . exact h k y (by lia) hy
theorem Ko:zw ["web","plan","ahead","place"] DO (defScope Rb):=AV
theorem Pq (F:Fu K "place_fault" Rb f eQ) (FO:AF K mg "plan_order" N9 fO fdO ["plan"]) (GO:AH P w base 27 FO (FV 24))
 (FP:AF K mg "is_place" OM fP fdP B5) (GP:AH P w base 27 FP Hf):AG P w K mg base AJ 28 f eQ DO Mk:=by
 refine F.okD Ko fun _ A _ _ H vs Q E hr h=>?_;obtain⟨wa,v,n,ts,p,rfl,⟨ta,_,gB,_,_,G⟩,S,g,kY⟩:=h;have hu:=Ey hr;have gL:=G.n24;have hl:=g.ln;refine{_,zR (Ab (i:=2) Ko.nd bO)
  (zR (Au (Ay (AI GO hr FO (zC (pv 1) zM))) (AW (i:=3) Ko.nd)
   (zR (Ad (PW.pt (Bb (Gx (Na hu (pv 3) (pv 2)) (by with_unfolding_all rfl)) (Bs (BC (A0 (AI GP hr FP (zC (zt AU (pv 0) zf) (zC (pv 3) zM)))))))) C1 Ac)
   (zY (Nu hu (pv 2) (pv 3) Eh rfl))))
  (zY (AM Ar))),?_}
 intro d hd;have sd:=zF (o:=.dK []) hd;refine{1,v,p,0,BP sd S,g.ht,by lia,fun l H1 s1 iC=>?_};have hd1:=s1 _ _ (zI (H:=H) (a:=d) (o:=.dK []));refine{l,0,{_,AB.of iC},Ed (K:=K) (a:=l) (xs:=(AX p).map V.int) (fun i σ H2=>EU fun (v3:Option V)(eO:List (AQ×V))=>σ=[some (.ref wa),some v,some (.ref d),v3]/\AE H H2/\H2 l=some (.tup ((AX p).map V.int))/\H2 d=some (.dK eO)/\eO.length<=i/\∀x:Int,(Ah eO (Sum.inl x)).isSome=true->x∈(AX p).take i)
  {_,[],0,sd.trans s1,iC,hd1,zK _,fun x z=>by cases z} (fun i σ H2 _ z=>?_) (fun i x σ H2 hx z=>?_) (fun σ H2 z=>?_)}
 . obtain⟨_,_,_,_,h2,_⟩:=z;exact AB.of h2
 . obtain⟨v3,eO,rfl,s2,gJ,hd2,hkl,jA⟩:=z;obtain⟨y,hy,rfl⟩:=SM hx;have hi:=(zG.mp hy).1;have yr:=g.rng (zQ hy);have e0:Ah eO (Sum.inl y)=none:=by
    cases z:Ah eO (Sum.inl y) with
    | none=>rfl
    | some u=>exact absurd (jA y (by rw[z];rfl)) (Wl g.nd hy)
   refine{5,d,1,BK.k (k:=Sum.inl y) hd2,1,As (by rw[e0];rfl) ?_};refine{1,wa,8,AB.of (s2 _ _ gB),7,n,y,0,yr.1,by lia,1,AZ ?_};refine{5,d,1,.inl {eO,Sum.inl y,hd2,0,Aq (by lia),0},?_};refine{6,Av s2 hd,by rw[zj (Bu gJ hd2 (by intro z;cases z))];exact gJ,zI,by rw[SS _ e0,zH];show eO.length+1<=i+1;lia,fun x z=>?_};rw[TC] at z;rw[zu,hy];by_cases c3:x=y
   . subst c3;exact zg.mpr (.inr (zl.mpr rfl))
   . rw[if_neg (fun z=>c3 (Sum.inl.inj z))] at z;exact zg.mpr (.inl (jA x z))
 . obtain⟨v3,eO,rfl,s2,_⟩:=z;exact kY H2 s2
theorem O8:zw ["web","plan","order"] DO (defScope Rq):=AV
theorem PH (F:Fu K "lacks_fault" Rq f eQ) (FO:AF K mg "plan_order" N9 fO fdO ["plan"]) (GO:AH P w base 27 FO (FV 24)) (eN:mg "range"=none) (fu:mg "min"=none):AG P w K mg base AJ 28 f eQ DO Mk:=by
 refine F.okD O8 fun _ A _ _ H vs Q E hr h=>?_;obtain⟨wa,v,n,ts,p,rfl,⟨ta,_,gB,_,_,G⟩,S,g,kY⟩:=h;have hu:=Ey hr;have iw:=G.n1;have gL:=G.n24;have hl:=g.ln;refine{_,zR (Dc (i:=2) O8.nd rfl (Or.inr rfl) (AI GO hr FO (zC (pv 1) zM)))
  (zY (AM (X4 rfl hu (by rfl) fu (zC (BQ (own:=["place"]) (cn:=["order"]) (ci:=[2]) rfl (Az rfl rfl) {0,3,trivial} rfl (Be rfl eN (zC (zt AU (pv 0) zf) zM)) (fun _ _ _ _=>Aw)
   (fun _ _ _ _=>C0 (AR QS (pv 0) (pv 1) (by with_unfolding_all rfl))) (fun _ _ _ _=>pv 0)) zM) Ar))),?_}
 refine{1,v,p,0,S,g.ht,by lia,fun l H1 s1 iC=>?_};refine{1,wa,8,AB.of (s1 _ _ gB),0,n,0,by lia,by lia,[.ref l],0,fun D hD=>?_};refine IP (lo:=0) (n:=n.toNat) (fun q ys H4=>ys=[]/\H4=upd H1 D (.lst [])) {3} (fun q ys H4 z=>?_) (fun q ys H4 hq z=>?_) (fun ys H4 z=>?_)
 . rw[z.1];exact Aq (by decide)
 . obtain⟨rfl,rfl⟩:=z;rw[Bt];refine{{3},5,l,1,.inr (AB.of (by rw[zj (zq iC hD)];exact iC)),0,DD _,1,?_};show (if (!Bw (.int q) ((AX p).map V.int))=true then _ else _)
   rw[DA,zO (g.all q (by lia) (by lia))];exact AZ {3}
 . obtain⟨rfl,rfl⟩:=z;exact{1,D,[],0,.inl (AD.of zI),fun e=>kY _ (s1.trans (zF hD)),.inr {[],0,fun x hx=>by cases hx}}
theorem Nw:zw ["web","plan","chains","a","b","long"] DO (defScope E5):=AV
theorem K5 (F:Fu K "tie_fault" E5 f eQ) (FC:AF K mg "chain" Rg fC fdC Ez) (GC:AH P w base 27 FC (Ld 24)) (eN:mg "range"=none):AG P w K mg base AJ 28 f eQ DO Ti:=by
 refine F.okD Nw fun _ A _ _ H vs Q E hr h=>?_;obtain⟨wa,v,n,ts,p,rfl,⟨ta,tys,gB,gG,TA,G⟩,S,g,k⟩:=h;have iw:=G.n1;have gL:=G.n24;have hl:=g.ln;refine{_,zR (Ea (i:=2) (own:=["place"]) (cn:=["plan"]) (ci:=[1]) Nw.nd rfl (Or.inl rfl) rfl (Az rfl rfl) {0,3,trivial} rfl (Be rfl eN (zC (zt AU (pv 0) zf) zM)) (fun _ _ _ _=>Aw)
  (fun _ _ _ _=>Bc) (fun _ _ _ _=>AI GC hr FC (zC (pv 1) (zC (pv 0) zM))))
  (zR (Au (Ay (zt AU (pv 0) zf)) (CC rfl (zx (AW (i:=3) Nw.nd) (zx (AW (i:=4) Nw.nd) (zx (AW (i:=5) Nw.nd) Br))))
   (zY (Ad (PW.pt (EL (AR Ju (pv 3) (zt AY (pv 2) (pv 4)) (by with_unfolding_all rfl)) (F8 (AR Ju (pv 4) (zt AY (pv 2) (pv 3)) (by with_unfolding_all rfl))))) (zY (AM (Af (zC (pv 3) (zC (pv 4) zM))))) Ac)))
  (zY (AM Ar))),?_}
 refine{1,wa,8,AB.of gB,0,n,0,by lia,by lia,[v],0,fun D hD=>?_};refine IP (lo:=0) (n:=n.toNat) (fun q ys H4=>q<=n.toNat/\AE H H4/\H4 D=some (.lst ys)/\∃as:List Addr,ys=as.map V.ref/\as.length=q/\∀(i:Nat)(a:Addr),as[i]?=some a->∃(r ms:List Int),A7 i p=some r/\H4 a=some (.tup (ms.map V.int))/\∀z,z∈ms↔z∈r)
  {zh _,zF hD,zI,[],3,fun i a e=>by simp at e} (fun q ys H4 z=>?_) (fun q ys H4 hq z=>?_) (fun ys H4 z=>?_)
 . obtain⟨hq,_,_,as,rfl,g6,_⟩:=z;rw[zB,g6];exact Aq (by lia)
 . obtain⟨_,s4,fv,as,rfl,g6,jC⟩:=z;rw[Bt];obtain⟨r,gD⟩:=Q5 (g.all (q:Int) (by lia) (by lia));refine{{3},Bf {5,v,p,(q:Int),r,0,BP s4 S,g.ht,by lia,gD,fun ms l H5 _ hm s5 h5=>?_}};refine{s5 _ _ fv,hq,Av (s4.trans s5) hD,zI,as++[l],by rw[zT];rfl,by rw[zH,g6];rfl,fun i a ha=>?_};have hkeep:∀b zs,H5 b=some (.tup zs)->upd H5 D (.lst (as.map V.ref++[.ref l])) b=some (.tup zs):=fun b zs e=>by rw[zj (Bu e (s5 _ _ fv) (by intro z;cases z))];exact e
   by_cases c:i<q
   . rw[ze (by lia)] at ha;obtain⟨r',iJ,e1,e2,e3⟩:=jC i a ha;exact{r',iJ,e1,hkeep _ _ (s5 _ _ e2),e3}
   . have hi:i=q:=by
      have:=(zG.mp ha).1;rw[zH,g6] at this;have:i<q+1:=this
      lia
     subst hi;rw[za (by lia),g6,Fz] at ha;cases ha;exact{r,ms,gD,hkeep _ _ h5,hm}
 . obtain⟨_,s4,fv,as,rfl,g6,jC⟩:=z;refine{1,wa,8,AB.of (s4 _ _ gB),0,ta,0,{_,AB.of (s4 _ _ gG)},Ed (K:=K) (a:=ta) (xs:=tys) (fun i σ H5=>GB fun (va vb vl:Option V)=>σ=[some (.ref wa),some v,some (.ref D),va,vb,vl]/\AE H4 H5/\∀(j:Nat)(y:T3),j<i->ts[j]?=some y->Jn p y.1 y.2.1)
    {_,6,AE.refl _,fun j y hj=>absurd hj (Ce _)} (fun i σ H5 _ ⟨_,_,_,_,s5,_⟩=>AB.of (s5 _ _ (s4 _ _ gG))) ?turn ?after}
   case after=>
    rintro σ H5 ⟨va,vb,vl,rfl,s5,nb⟩;refine k none .non H5 (fun t hm=>?_) .non (s4.trans s5);obtain⟨j,hj,e⟩:=zr hm;exact nb j t (by rw[TA.length,zB];exact hj) (by rw[zD hj,e])
   case turn=>
    rintro i y σ H5 hi ⟨va,vb,vl,rfl,s5,nb⟩;obtain⟨ya,a,b,c,rfl,gg,iK,ra0,rb0⟩:=YI TA G hi;have s45:=s4.trans s5;have look:∀x:Int,0<=x->x<n->∃(q:Addr)(r ms:List Int),BI (as.map V.ref) x=some (.ref q)/\A7 x p=some r/\H5 q=some (.tup (ms.map V.int))/\∀z,z∈ms↔z∈r:=fun x x0 x1=>by
     obtain⟨j,rfl⟩:=M9 x0;have hj:j<as.length:=by lia
     obtain⟨r,ms,e1,e2,e3⟩:=jC j as[j] (zD hj);exact{as[j],r,ms,CV (by rw[zN,zD hj];rfl),e1,s5 _ _ e2,e3}
    obtain⟨qb,rb,mb,ab,eb,hqb,mmb⟩:=look b rb0.1 rb0.2;obtain⟨qa,ra,ma,aa,ea,hqa,mma⟩:=look a ra0.1 ra0.2;have td:=Wk ea eb mma mmb;refine{ya,1,AB.of (s45 _ _ iK),0,6,6,2,?_};have hZ:=s5 _ _ fv;refine{1,5,D,4,.ref qb,3,AD.of hZ,ab,qb,1,.inr (AB.of hqb),0,DD _,1,?_};show (if (!Bw (.int a) (mb.map V.int))=true then _ else _)
    rw[DA];by_cases c1:a∈mb
    . rw[zO c1];exact AZ (AZ {_,6,s5,Qy nb gg (td.mpr (.inl c1))})
    . rw[zS c1];refine Ak ?_;refine{1,5,D,4,.ref qa,3,AD.of hZ,aa,qa,1,.inr (AB.of hqa),0,DD _,1,?_};show (if (!Bw (.int b) (ma.map V.int))=true then _ else _)
      rw[DA];by_cases c2:b∈ma
      . rw[zO c2];exact AZ {_,6,s5,Qy nb gg (td.mpr (.inr c2))}
      . rw[zS c2];refine Ak {5,Al,fun q hq=>?_};exact k (some _) (.ref q) _ {i,_,gg,fun z=>(td.mp z).elim c1 c2,0,nb} (.tup zI (.cons (.int _) (.cons (.int _) .nil))) (s45.trans (zF hq))
theorem ao:zw DW DW (defScope QM):=AV
theorem Z2 {fT:Addr}(F:Fu K "lets_plan" QM f eQ)
 (FP:AF K mg "is_plan" RV fP fdP Cb) (GP:AH P w base (m+1) FP MI)
 (FR:BY K "refuse_at" "refuse_at" NN fR fdR) (bR:BR K fdR C2 []) (mR:mg "refuse_at_plans"=some (.ref fR)) (GR:AG P w K mg base (BZ P w) (m+1) fR fdR C2 (Mf C))
 (FF:AF K mg "place_fault" Rb fF fdF DO) (GF:AH P w base (m+1) FF Mk)
 (FL:AF K mg "lacks_fault" Rq fL fdL DO) (GL:AH P w base (m+1) FL Mk)
 (FT:BY K "tie_fault" "tie_fault" E5 fT jD) (bT:BR K jD DO []) (mT:mg "tie_fault_plans"=some (.ref fT)) (GT:AG P w K mg base AJ (m+1) fT jD DO Ti):AG P w K mg base (BZ P w) (m+2) f eQ DW (Mn C TP):=by
 refine F.okI ao (fun vs H Q E h=>?_) (fun fg A outer s H vs Q E hr h=>?_)
 . obtain⟨wa,v,_,rfl,_⟩:=h;rfl
 . obtain⟨wa,v,_,rfl,⟨n,ts,p,W,S,g,rfl⟩,kY,kN⟩:=h;have n24:n<=24:=by obtain⟨_,_,_,_,_,G⟩:=W;exact G.n24
   refine{_,zR (Ad (BC (A0 (AI GP hr FP (zC (pv 1) zM)))) C1 Ac)
    (zR (B0 (CP GR hr rfl mR FR.kp bR .nil Je (zC Cw (zC (AI GF hr FF (zC (pv 0) (zC (pv 1) zM))) zM))))
    (zR (B0 (CP GR hr rfl mR FR.kp bR .nil Je (zC Cw (zC (AI GL hr FL (zC (pv 0) (zC (pv 1) zM))) zM))))
    (zR (B0 (CP GR hr rfl mR FR.kp bR .nil Je (zC Cw (zC (CP GT hr rfl mT FT.kp bT .nil Eu (zC (pv 0) (zC (pv 1) zM))) zM))))
    (zY (AM Eh))))),?_}
   refine{1,v,p,0,S,g.q n24,g.ht,fun H1 s1=>{1,AZ ?_}};refine{5,wa,v,n,ts,p,0,W.keep s1,BP s1 S,g,fun H2 s2=>{6,fun _=>?_,fun z=>absurd rfl z}};have i6:=s1.trans s2;refine{5,wa,v,n,ts,p,0,W.keep i6,BP i6 S,g,fun H3 s3=>{6,fun _=>?_,fun z=>absurd rfl z}};have ic:=i6.trans s3;refine{5,wa,v,n,ts,p,0,W.keep ic,BP ic S,g,fun o u H4 ho S4 s4=>?_};have g9:=ic.trans s4;cases o with
   | some d=>exact{6,(fun z=>absurd z (Mx S4 (A4.nn ho fun x z=>by cases z))),fun _=>NO kN (.tie d ho) g9 S4}
   | none=>cases Mz S4;exact{6,fun _=>kY (.none ho) H4 g9,fun z=>absurd rfl z}
theorem Jy:zw ["_law_web_here","_law_thing","_law_order_here","_law_at","_law_place","_law_a","_law_b","_law_long"] B4 (defScope HS):=AV
theorem L9 (F:Fu K "_law_plan_fault" HS f eQ) (FP:AF K mg "_law_is_plan" Ru fP fdP Lc) (GP:AH P w base 28 FP (He 24))
 (FF:AF K mg "_law_flat" OG fF fdF Kb) (GF:AH P w base 28 FF (Fe 24))
 (FC:AF K mg "_law_chain" RX fC fdC Rj) (GC:AH P w base 28 FC (MZ 24)) (eN:mg "range"=none) (eS:mg "len"=none):AG P w K mg base AJ 29 f eQ B4 (Mm TP):=by
 refine F.okD Jy fun _ A _ _ H vs Q E hr h=>?_;obtain⟨wa,v,_,rfl,⟨n,ts,p,W,S,g,rfl⟩,k⟩:=h;obtain⟨ta,tys,gB,gG,TA,G⟩:=id W;have iw:=G.n1;have gL:=G.n24;have hl:=g.ln;have k1:=(Sn p g.gd (by lia)).1;refine{_,zR (Ad (BC (A0 (AI GP hr FP (zC (pv 1) (zC zf zM))))) C1 Ac)
  (zR (Ab (i:=2) Jy.nd (AI GF hr FF (zC (pv 1) zM)))
  (zR (Au (Be rfl eN (zC (zy Bz eS (zC (pv 2) zM)) zM)) (AW (i:=3) Jy.nd)
   (zY (Ad (PW.pt (Bb (AR Qb (zt AY (pv 2) (pv 3)) (zt AU (pv 0) zf) (AN _)) (Bs (AR UO (zt AY (pv 2) (pv 3)) (Gj RD (pv 2) Gm (Gv (pv 3))) (by with_unfolding_all rfl))))) C1 Ac)))
  (zR (Au (Be rfl eN (zC (zt AU (pv 0) zf) zM)) (AW (i:=4) Jy.nd)
   (zY (Ad (AR Ju (pv 4) (pv 2) (by with_unfolding_all rfl)) C1 Ac)))
  (zR (Au (Ay (zt AU (pv 0) zf)) (CC rfl (zx (AW (i:=5) Jy.nd) (zx (AW (i:=6) Jy.nd) (zx (AW (i:=7) Jy.nd) Br))))
   (zY (Ad (PW.pt (EL (AR Ju (pv 5) (AI GC hr FC (zC (pv 1) (zC (pv 6) zM))) (by with_unfolding_all rfl)) (F8 (AR Ju (pv 6) (AI GC hr FC (zC (pv 1) (zC (pv 5) zM))) (by with_unfolding_all rfl)))))
    (zY (AM (Af (zC Cw (zC (Af (zC (pv 5) (zC (pv 6) zM))) zM))))) Ac)))
  (zY (AM (Af zM))))))),?_}
 refine{1,v,p,0,S,g.q gL,g.ht,by decide,fun H1 s1=>{1,AZ ?_}};refine{1,v,p,0,BP s1 S,g.ht,by lia,fun l H2 s2 _ h2=>?_};have i6:=s1.trans s2;refine{1,l,1,.inl (AD.of h2),?_};rw[zB];refine{((AX p).length:Int),0,by lia,by lia,CL (lo:=0) (n:=(((AX p).length:Int)).toNat) (fun i σ H3=>O4 fun (v3 v4 v5 v6 v7:Option V)=>σ=[some (.ref wa),some v,some (.ref l),v3,v4,v5,v6,v7]/\AE H2 H3)
  {9,6,AE.refl _} (fun i σ H3 hi z=>?_) (fun σ H3 z=>?_)}
 . obtain⟨v3,v4,v5,v6,v7,rfl,s3⟩:=z;rw[Bt];have gq:i<(AX p).length:=by lia
   have ex:(AX p)[i]?=some (AX p)[i]:=zD gq;have xr:=g.rng (El gq);generalize (AX p)[i]=x at ex xr;have h3:=s3 _ _ h2;have hat:BI ((AX p).map V.int) (i:Int)=some (.int x):=CV (by rw[zN,ex];rfl);refine{5,l,4,.int x,3,AD.of h3,hat,1,wa,8,AB.of (i6.trans s3 _ _ gB),0,2,1,As (zS (by lia)) ?_};refine{5,l,4,.int x,3,AD.of h3,hat,1,5,l,1,AD.of h3,fun q hq=>?_};rw[QP,<-List.map_take];have s4:=zF (o:=.lst (((AX p).take i).map V.int)) hq;refine{q,1,.inl (AD.of zI),0,DD _,1,?_};show (if Bw (.int x) (((AX p).take i).map V.int)=true then _ else _)
   rw[DA,zS (Wl g.nd ex)];exact AZ {9,6,s3.trans s4}
 . obtain⟨v3,v4,v5,v6,v7,rfl,s3⟩:=z;have ic:=i6.trans s3;have h3:=s3 _ _ h2;refine{1,wa,8,AB.of (ic _ _ gB),0,n,0,by lia,by lia,CL (lo:=0) (n:=n.toNat) (fun i σ H4=>NG fun (v4 v5 v6 v7:Option V)=>σ=[some (.ref wa),some v,some (.ref l),v3,v4,v5,v6,v7]/\AE H3 H4)
    {4,6,AE.refl _} (fun i σ H4 hi z=>?_) (fun σ H4 z=>?_)}
   . obtain⟨v4,v5,v6,v7,rfl,s4⟩:=z;rw[Bt];refine{5,l,1,.inl (AD.of (s4 _ _ h3)),0,DD _,1,?_};show (if (!Bw (.int i) ((AX p).map V.int))=true then _ else _)
     rw[DA,zO (g.all i (by lia) (by lia))];exact AZ {4,6,s4}
   . obtain⟨v4,v5,v6,v7,rfl,s4⟩:=z;have g9:=ic.trans s4;refine{1,wa,8,AB.of (g9 _ _ gB),0,ta,0,{_,AB.of (g9 _ _ gG)},Ed (K:=K) (a:=ta) (xs:=tys) (fun i σ H5=>GB fun (v5 v6 v7:Option V)=>σ=[some (.ref wa),some v,some (.ref l),v3,v4,v5,v6,v7]/\AE H4 H5/\∀(j:Nat)(y:T3),j<i->ts[j]?=some y->Jn p y.1 y.2.1)
      {_,6,AE.refl _,fun j y hj=>absurd hj (Ce _)} (fun i σ H5 _ ⟨_,_,_,_,s5,_⟩=>AB.of (s5 _ _ (g9 _ _ gG))) ?turn ?after}
     case after=>
      rintro σ H5 ⟨v5,v6,v7,rfl,s5,tc⟩;refine{E4,fun q hq=>?_};refine k none q _ (.none fun t hm=>?_) ((g9.trans s5).trans (zF hq)) (.tup zI .nil);obtain⟨j,hj,e⟩:=zr hm;exact tc j t (by rw[TA.length,zB];exact hj) (by rw[zD hj,e])
     case turn=>
      rintro i y σ H5 hi ⟨v5,v6,v7,rfl,s5,tc⟩;obtain⟨ya,a,b,c,rfl,gg,iK,ra0,rb0⟩:=YI TA G hi;obtain⟨rb,eb⟩:=Q5 (g.all b rb0.1 rb0.2);obtain⟨ra,ea⟩:=Q5 (g.all a ra0.1 ra0.2);have gR:=g9.trans s5;refine{ya,1,AB.of (gR _ _ iK),0,6,6,2,?_};refine{1,5,v,p,b,rb,0,BP gR S,g.ht,by lia,k1,eb,fun mb lb H6 pmb _ s6 h6=>?_};refine{lb,1,.inr (AB.of h6),0,DD _,1,?_};show (if (!Bw (.int a) (mb.map V.int))=true then _ else _)
      rw[DA];by_cases c1:a∈mb
      . rw[zO c1];exact AZ (AZ {_,6,s5.trans s6,Qy tc gg (.inl {rb,eb,pmb.mem_iff.mp c1})})
      . rw[zS c1];refine Ak ?_;refine{1,5,v,p,a,ra,0,BP (gR.trans s6) S,g.ht,by lia,k1,ea,fun ma la H7 pma _ s7 h7=>?_};refine{la,1,.inr (AB.of h7),0,DD _,1,?_};show (if (!Bw (.int b) (ma.map V.int))=true then _ else _)
        rw[DA];have td:=Wk ea eb (fun z=>pma.mem_iff) fun z=>pmb.mem_iff;by_cases c2:b∈ma
        . rw[zO c2];exact AZ {_,6,(s5.trans s6).trans s7,Qy tc gg (td.mpr (.inr c2))}
        . rw[zS c2];refine Ak {5,Al,fun q hq=>{Al,fun q2 iM=>?_}};have s8:=(zF (o:=.tup [.int a,.int b]) hq).trans (zF (o:=.tup [.str "tie",.ref q]) iM);exact k (some (_,_)) q2 _ (.tie _ {i,_,gg,fun z=>(td.mp z).elim c1 c2,0,tc}) (((gR.trans s6).trans s7).trans s8) (.tup zI (.cons (.str _) (.cons (.tup (zF iM _ _ zI) (.cons (.int _) (.cons (.int _) .nil))) .nil)))
structure Ul (K:AK)(mg:By)(cW cP:Addr)(cs1 cs2:List Addr):Prop where
 mW:mg "WayError"=some (.ref cW)
 qW:PySem.W.excIn K cW MY "ValueError.__new__"=true
 mP:mg "NoPlan"=some (.ref cP)
 sb:L2.subIn K cP cW=true
 ex:DC K cP
 m1:[mg "NoLabels",mg "NoLeast",mg "NoOrder",mg "NoPart",mg "NoPosts",mg "NoRing"]=cs1.map fun c=>some (.ref c)
 m2:[mg "NoRow",mg "NoText",mg "NoTie",mg "NoTree",mg "TooMany"]=cs2.map fun c=>some (.ref c)
 k1:PySem.W.kitAny K (.ref cP) (cs1.map Value.ref)=some false
 k2:PySem.W.kitAny K (.ref cP) (cs2.map Value.ref)=some false
 kP:PySem.W.kitOne K (.ref cP) (.ref cP)=some true
 kV:PySem.W.kitOne K (.ref cP) (.type "ValueError")=some true
 n1:PySem.W.findIn K (.ref cP) "word"=some none
 n2:PySem.W.findIn K (.ref cP) "at"=some none
theorem IH:zw Ym B4 (defScope Qu):=AV
theorem aT (F:Fu K "_law_plan_found" Qu f eQ) (Er:Ul K mg cW cP [c1,c2,c3,c4,c5,c6] [c7,c8,c9,jd,jc])(EI:CK K cP fI)
 (FL:AF K mg "lets_plan" QM fL fdL DW) (GL:AG P w K mg base (BZ P w) m fL fdL DW (Mn cP TP)) (eT:mg "isinstance"=none) (jG:mg "ValueError"=none):AG P w K mg base AJ (m+1) f eQ B4 (D4 TP):=by
 obtain⟨h1,h2,h3,h4,h5,h6⟩:mg "NoLabels"=some (.ref c1)/\mg "NoLeast"=some (.ref c2)/\mg "NoOrder"=some (.ref c3)/\mg "NoPart"=some (.ref c4)/\mg "NoPosts"=some (.ref c5)/\mg "NoRing"=some (.ref c6):=by have:=Er.m1;simpa using this
 obtain⟨h7,h8,h9,h10,h11⟩:mg "NoRow"=some (.ref c7)/\mg "NoText"=some (.ref c8)/\mg "NoTie"=some (.ref c9)/\mg "NoTree"=some (.ref jd)/\mg "TooMany"=some (.ref jc):=by have:=Er.m2;simpa using this
 have qC:KJ K cP=true:=by unfold KJ;rw[EI.cl];rfl
 refine F.okD IH fun _ A _ _ H vs Q E hr h=>?_;obtain⟨wa,v,F0,rfl,T0,kY,kN⟩:=h;refine{_,zR (Ab (i:=2) IH.nd Cw)
  (zR (Yh (i:=3) IH.nd rfl rfl rfl rfl rfl Er.mW Er.qW (Wm (i:=2) IH.nd rfl (Or.inl rfl) GL hr rfl FL.m FL.F.kp FL.b (zC (pv 0) (zC (pv 1) zM)))
   (fun ea oe c hc=>zR (Ab (i:=4) IH.nd (zy (Qw (Hn hc)) eT (zC (pv 3) (zC (Af (zC (BU (v:=.ref c1) rfl h1 rfl) (zC (BU (v:=.ref c2) rfl h2 rfl) (zC (BU (v:=.ref c3) rfl h3 rfl) (zC (BU (v:=.ref c4) rfl h4 rfl) (zC (BU (v:=.ref c5) rfl h5 rfl) (zC (BU (v:=.ref c6) rfl h6 rfl) zM))))))) zM))))
    (zR (Ab (i:=4) IH.nd (Tq (pv 4) (Bl (zy (Qw (Hn hc)) eT (zC (pv 3) (zC (Af (zC (BU (v:=.ref c7) rfl h7 rfl) (zC (BU (v:=.ref c8) rfl h8 rfl) (zC (BU (v:=.ref c9) rfl h9 rfl) (zC (BU (v:=.ref jd) rfl h10 rfl) (zC (BU (v:=.ref jc) rfl h11 rfl) zM)))))) zM))))))
    (zR (Ab (i:=2) IH.nd (Af (zC Cw zM)))
    (zY (Ad (PW.pt (EL (A0 (zy (VU (Hn hc)) eT (zC (pv 3) (zC (BU (v:=.ref cP) rfl Er.mP rfl) zM)))) (EL (A0 (zy (WY (Hn hc)) eT (zC (pv 3) (zC (CS (T := "ValueError") jG) zM)))) (F8 (BC (A0 (pv 4)))))))
     (zY (Ab (i:=2) IH.nd (Af (zC (Qc (pv 3)) (zC (Qc (pv 3)) zM))))) Ac))))))
  (zY (AM (pv 2)))),?_}
 refine{5,wa,v,F0,0,T0,fun fo H' s'=>{1,kY fo H' s'},fun x e at' dx H' fo s' Sa gw=>?_};refine{cP,0,qC,Er.sb,fun ea oe ws hc hd hf hea=>?_};refine{1,Yl,fun p hp=>?_};refine{p,[c1,c2,c3,c4,c5,c6],false,Er.ex,0,zI,Er.k1,?_};have s1:=zF (o:=.tup ([c1,c2,c3,c4,c5,c6].map V.ref)) hp;refine{1,false,0,AZ ?_};refine{1,Yq,fun p2 gk=>?_};have s2:=s1.trans (zF (o:=.tup ([c7,c8,c9,jd,jc].map V.ref)) gk);refine{p2,[c7,c8,c9,jd,jc],false,Er.ex,0,zI,Er.k2,?_};refine{MR,fun p3 hp3=>?_};have s3:=s2.trans (zF (o:=.tup [.str "class"]) hp3);refine{1,cP,true,Er.ex,0,Er.kP,true,0,Ak ?_};refine{1, "ValueError",true,Er.ex,0,Er.kV,true,0,Ak ?_};refine{1,false,0,Ak ?_};refine{1,ea,cP,dx,_,.str x,0,RK hc hd hf,EI.cl,Er.ex,Er.n1,s3 _ _ gw,7,ea,cP,dx,_,at',0,RK hc hd hf,EI.cl,Er.ex,Er.n2,s3 _ _ gw,0,Al,fun p4 iO=>?_};have s4:=s3.trans (zF (o:=.tup [.str x,at']) iO);exact{1,kN x e p4 _ fo (s'.trans s4) (.tup zI (.cons (.str _) (.cons (BP s4 Sa) .nil)))}
noncomputable def Bn (ts:List T3)(x:Int):List Int:=(fd x ts).map hd
theorem SY (G:GW n ts)(i)(x):(Bn (ts.take i) x).length<=ts.length:=by
 unfold Bn;rw[zB];refine BX (Q1 (n:=n) x fun t ht=>(G.rng t (List.mem_of_mem_take ht)).2.1) ?_;rw[zp]
 lia
theorem bu {ts:List T3}(h:ts[i]?=some (a,b,c))(x):Bn (ts.take (i+1)) x=Bn (ts.take i) x++((if a=x then [b] else [])++(if b=x then [a] else [])):=by
 unfold Bn;rw[zu,h,So,zT];show _++((if a=x then [[b,c]] else [])++(if b=x then [[a,c]] else [])++[]).map hd=_
 rw[zv,zT];congr 2
 . split <;> rfl
 . split <;> rfl
def Bi (H:Hp)(rs:List Addr)(R:List (List Int)):Prop:=rs.length=R.length/\∀(i:Nat)r(row:List Int),rs[i]?=some r->R[i]?=some row->H r=some (.lst (row.map V.int))
theorem Bi.same (h:Bi H rs R)(k:AE H H'):Bi H' rs R:={h.1,fun i r row a b=>k _ _ (h.2 i r row a b)}
theorem Bi.snoc (h:Bi H rs R)(hr:H r=some (.lst (row.map V.int))):Bi H (rs++[r]) (R++[row]):=by
 refine{by rw[zH,zH,h.1];rfl,fun i b w e1 e2=>?_};by_cases c:i<rs.length
 . rw[ze c] at e1;rw[ze (by rw[<-h.1];exact c)] at e2;exact h.2 i b w e1 e2
 . rw[za (by lia)] at e1;rw[za (by rw[<-h.1];lia),<-h.1] at e2;have hi:i-rs.length=0:=by
    have:=(zG.mp e1).1;rw[Me] at this
    lia
   rw[hi] at e1 e2;cases e1;cases e2;exact hr
theorem Bi.off (h:Bi H rs R)(nl:l∉rs):Bi (upd H l o) rs R:={h.1,fun i r row a b=>by rw[zj (show r≠l from fun z=>nl (z ▸ zQ a))];exact h.2 i r row a b}
def F3 (H:Hp)(sl:Addr)(R:List (List Int)):Prop:=∃rs:List Addr,H sl=some (.lst (rs.map V.ref))/\Bi H rs R
theorem F3.same (h:F3 H sl R)(k:AE H H'):F3 H' sl R:=by obtain⟨rs,a,b⟩:=h;exact{rs,k _ _ a,b.same k}
noncomputable abbrev Jt (ts:List T3)(n:Int):List (List Int):=(lowTo n.toNat).map (Bn ts)
theorem Ml {i:Nat}(h:i<n.toNat):(Jt ts n)[i]?=some (Bn ts i):=by unfold Jt lowTo;rw[zN,zN,NC h];rfl
def TZ:Sp:=fun vs H Q _=>∃wa n ts,vs=[.ref wa]/\BF H wa n ts/\∀bl H',AE H H'->F3 H' bl (Jt ts n)->Q (.ref bl) H'
structure Et (ts:List T3)(xs:List Int)(fs:List (List Int)):Prop where
 ne:∀f∈fs,f≠[]
def JJ:Sp:=fun vs H Q _=>∃bl la n ts xs,vs=[.ref bl,.ref la]/\F3 H bl (Jt ts n)/\GW n ts/\H la=some (.lst (xs.map V.int))/\xs.Nodup/\(∀x∈xs,0<=x/\x<n)/\xs.length<64 /\
 ∀fl fs H',H fl=none->AE H H'->F3 H' fl fs->fs.flatten.Perm xs->Et ts xs fs->Q (.ref fl) H'
theorem Uu (xs):B3 xs none (some 1)=xs.take 1:=QP xs 1
theorem NP:zw Yt DU (defScope HA):=AV
theorem Kk (F:Fu K "_law_beside" HA f eQ) (eN:mg "range"=none):AG P w K mg base AJ 1 f eQ DU TZ:=by
 refine F.okD NP fun _ A _ _ H vs Q E hr h=>?_;obtain⟨wa,n,ts,rfl,⟨ta,tys,gB,gG,TA,G⟩,k⟩:=h;have iw:=G.n1;have gL:=G.n24;refine{_,zR (Ea (i:=1) (own:=["_law_place"]) (cn:=[]) (ci:=[]) NP.nd rfl (Or.inl rfl) rfl (Az rfl rfl) trivial rfl (Be rfl eN (zC (zt AU (pv 0) zf) zM)) (fun _ _ _ _=>Aw)
  (fun _ _ _ _=>Bc) (fun _ _ _ _=>BO zM))
  (zR (Au (Ay (zt AU (pv 0) zf)) (CC rfl (zx (AW (i:=2) NP.nd) (zx (AW (i:=3) NP.nd) (zx (AW (i:=4) NP.nd) Br))))
   (zR (B0 (Cz PySem.F.plainAttrs_list PySem.F.slot_list_append PySem.F.type_list_append Eg (zt AY (pv 1) (pv 2)) (zC (pv 3) zM)))
   (zY (B0 (Cz PySem.F.plainAttrs_list PySem.F.slot_list_append PySem.F.type_list_append Eg (zt AY (pv 1) (pv 3)) (zC (pv 2) zM))))))
  (zY (AM (pv 1)))),?_}
 refine{1,wa,8,AB.of gB,0,n,0,by lia,by lia,[],0,fun D hD=>?_};refine IP (lo:=0) (n:=n.toNat) (fun q ys H4=>q<=n.toNat/\AE H H4/\H4 D=some (.lst ys)/\∃rs:List Addr,ys=rs.map V.ref/\rs.length=q/\rs.Nodup/\(∀r∈rs,H r=none/\r≠D)/\∀r∈rs,H4 r=some (.lst []))
  {zh _,zF hD,zI,[],3,List.nodup_nil,(fun r hr=>by cases hr),fun r hr=>by cases hr} (fun q ys H4 z=>?_) (fun q ys H4 hq z=>?_) (fun ys H4 z=>?_)
 . obtain⟨hq,_,_,rs,rfl,hl,_⟩:=z;rw[zB,hl];exact Aq (by lia)
 . obtain⟨_,s4,fv,rs,rfl,hl,nd,fr,em⟩:=z;refine{{3},?_};refine Bf ?_;refine{zh _,fun r gD=>?_};have sr:=zF (o:=.lst []) gD;have nrD:r≠D:=fun z=>by have:H4 r=none:=gD;rw[z,fv] at this;cases this
   have nr:r∉rs:=fun z=>by have:H4 r=none:=gD;rw[em r z] at this;cases this
   have hr0:H r=none:=AE.none s4 gD;refine{sr _ _ fv,hq,Av (s4.trans sr) hD,zI,rs++[r],by rw[zT];rfl,by rw[zH,hl];rfl,?_,fun x hx=>?_,fun x hx=>?_}
   . rw[Fs];exact{nd,by simp,fun x hx y hy=>by rw[zl.mp hy];exact fun z=>nr (z ▸ hx)}
   . rcases zg.mp hx with hx | hx
     . exact fr x hx
     . rw[zl.mp hx];exact⟨hr0,nrD⟩
   . rcases zg.mp hx with hx | hx
     . rw[zj (fr x hx).2];exact sr _ _ (em x hx)
     . rw[zl.mp hx,zj nrD];exact zI
 . obtain⟨_,s4,fv,rs,rfl,hl,nd,fr,em⟩:=z;have R0:Bi H4 rs (Jt (ts.take 0) n):={by rw[hl,zB,D9],fun i r row e1 e2=>by
    have hi:i<n.toNat:=by rw[<-hl];exact (zG.mp e1).1
    rw[Ml hi] at e2;cases e2;exact em r (zQ e1)}
   refine{1,wa,8,AB.of (s4 _ _ gB),0,ta,0,{_,AB.of (s4 _ _ gG)},Ed (K:=K) (a:=ta) (xs:=tys) (fun i σ H5=>GB fun (va vb vl:Option V)=>σ=[some (.ref wa),some (.ref D),va,vb,vl]/\AE H H5/\H5 D=some (.lst (rs.map V.ref))/\Bi H5 rs (Jt (ts.take i) n))
    {_,6,s4,fv,R0} (fun i σ H5 _ ⟨_,_,_,_,s5,_⟩=>AB.of (s5 _ _ gG)) ?turn ?after}
   case after=>
    rintro σ H5 ⟨va,vb,vl,rfl,s5,h5,R5⟩;rw[TA.length,zB,zW (zK _)] at R5;exact{1,k D H5 s5 ⟨rs,h5,R5⟩}
   case turn=>
    rintro i y σ H5 hi ⟨va,vb,vl,rfl,s5,h5,R5⟩;obtain⟨ya,ky,rfl,f9,iK,_⟩:=TA.get hi;rw[zN] at f9;obtain⟨⟨a,b,c⟩,gg,rfl⟩:∃t:T3,ts[i]?=some t/\tl t=ky:=by
     cases e:ts[i]? with
     | none=>rw[e] at f9;cases f9
     | some t=>rw[e] at f9;exact{t,0,zV f9}
    obtain⟨a0,a1,b0,b1,nab,_⟩:=G.adj (.inl (zQ gg):Ai ts a b c);obtain⟨a,rfl⟩:=M9 a0;obtain⟨b,rfl⟩:=M9 b0;have ha:a<rs.length:=by lia
    have hb:b<rs.length:=by lia
    have ea:rs[a]?=some rs[a]:=zD ha;have eb:rs[b]?=some rs[b]:=zD hb;have nrr:rs[a]≠rs[b]:=fun z=>by
     have hp:=Ef.mp (List.nodup_iff_pairwise_ne.mp nd);by_cases cc:a<b
     . exact hp a b ha hb cc z
     . exact hp b a hb ha (by lia) z.symm
    have hra:=R5.2 a _ _ ea (Ml (by lia));have hrb:=R5.2 b _ _ eb (Ml (by lia));have la:=SY G i (a:Int);have lb:=SY G i (b:Int);have lt:=G.len;have fa:=fr _ (zQ ea);have fb:=fr _ (zQ eb);refine{ya,1,AB.of (s5 _ _ iK),0,6,6,2,?_};refine{5,D,4,.ref rs[a],3,AD.of h5,CV (by rw[zN,ea];rfl),.inl {0,_,AD.of hra},1,rs[a],_,.int b,3,hra,by rw[zB];exact Aq (by lia),?_};have h6:(upd H5 rs[a] (.lst ((Bn (ts.take i) a).map V.int++[.int b]))) D=some (.lst (rs.map V.ref)):=by rw[zj fa.2.symm];exact h5
    have hrb6:(upd H5 rs[a] (.lst ((Bn (ts.take i) a).map V.int++[.int b]))) rs[b]=some (.lst ((Bn (ts.take i) b).map V.int)):=by rw[zj nrr.symm];exact hrb
    refine{5,D,4,.ref rs[b],3,AD.of h6,CV (by rw[zN,eb];rfl),.inl {0,_,AD.of hrb6},1,rs[b],_,.int a,3,hrb6,by rw[zB];exact Aq (by lia),?_};refine{_,6,Av (Av s5 fa.1) fb.1,by rw[zj fb.2.symm];exact h6,?_};refine{by rw[zB,D9,hl],fun j r row e1 e2=>?_};have hj:j<n.toNat:=by rw[<-hl];exact (zG.mp e1).1
    rw[Ml hj] at e2;cases e2;have e0:=R5.2 j r _ e1 (Ml hj);rw[bu gg];by_cases c1:j=b
    . subst c1;rw[eb] at e1;cases e1;rw[zI,if_neg (fun z=>nab z),if_pos rfl,zT];rfl
    . have n1:r≠rs[b]:=fun z=>by
       have hp:=Ef.mp (List.nodup_iff_pairwise_ne.mp nd);obtain⟨hj',e⟩:=zG.mp e1;by_cases cc:j<b
       . exact hp j b hj' hb cc (by rw[e,z])
       . exact hp b j hb hj' (by lia) (by rw[e,z])
      rw[zj n1];by_cases c2:j=a
      . subst c2;rw[ea] at e1;cases e1;rw[zI,if_pos rfl,if_neg (fun z=>nab z.symm),zT];rfl
      . have n2:r≠rs[a]:=fun z=>by
         have hp:=Ef.mp (List.nodup_iff_pairwise_ne.mp nd);obtain⟨hj',e⟩:=zG.mp e1;by_cases cc:j<a
         . exact hp j a hj' ha cc (by rw[e,z])
         . exact hp a j ha hj' (by lia) (by rw[e,z])
        rw[zj n2,if_neg (fun z=>c2 (by lia)),if_neg (fun z=>c1 (by lia))];simpa using e0
theorem Vd (fs:List (List Int))(f:List Int):(fs++[f]).flatten=fs.flatten++f:=by simp
structure Lh (ts:List T3)(le pt:List Int)(at':Nat):Prop where
 nd:pt.Nodup
 sub:∀x∈pt,x∈le
 ne:pt≠[]
 at_le:at'<=pt.length
theorem Lh.step (G:GW n ts)(h:Lh ts le pt at')(hx:pt[at']?=some x):Lh ts le (pt++(Bn ts x).filter fun y=>decide (y∈le) && !decide (y∈pt)) (at'+1):=by
 have ha:=(zG.mp hx).1;have fm:∀y,y∈(Bn ts x).filter (fun y=>decide (y∈le) && !decide (y∈pt))↔y∈Bn ts x/\y∈le/\y∉pt:=fun y=>by rw[ES,G0,decide_eq_true_iff,Bool.not_eq_true',decide_eq_false_iff_not]
 refine{?_,fun y hy=>?_,fun z=>h.ne (List.append_eq_nil_iff.mp z).1,by rw[zH];lia}
 . rw[Fs];exact{h.nd,(br G x).filter _,fun y hy z hz e=>((fm z).mp hz).2.2 (e ▸ hy)}
 . rcases zg.mp hy with hy | hy
   . exact h.sub y hy
   . exact ((fm y).mp hy).2.1
structure PY (ts:List T3)(xs le:List Int)(fs:List (List Int)):Prop where
 pm:(fs.flatten++le).Perm xs
 ok:Et ts xs fs
theorem PY.step (h:PY ts xs le fs)(nd:xs.Nodup)(p:Lh ts le pt pt.length)(pm:pt'.Perm pt):PY ts xs (le.filter fun x=>!decide (x∈pt)) (fs++[pt']):=by
 have ndl:=h.pm.nodup_iff.mpr nd;obtain⟨n1,n2,n3⟩:=Fs.mp ndl;refine{?_,{fun f hf=>?_}}
 . rw[Vd,Dk];refine List.Perm.trans ?_ h.pm;refine List.Perm.append_left _ ?_;refine (pm.append_right _).trans ?_;refine (List.perm_ext_iff_of_nodup ?_ n2).mpr fun x=>?_
   . rw[Fs];refine{p.nd,n2.filter _,fun x hx y hy e=>?_};rw[ES,Bool.not_eq_true',decide_eq_false_iff_not] at hy;exact hy.2 (e ▸ hx)
   . rw[zg,ES,Bool.not_eq_true',decide_eq_false_iff_not];constructor
     . rintro (z | z)
       . exact p.sub x z
       . exact z.1
     . intro z;by_cases c:x∈pt
       . exact .inl c
       . exact .inr ⟨z,c⟩
 . rcases zg.mp hf with hf | hf
   . exact h.ok.ne f hf
   . rw[zl.mp hf];intro z;exact p.ne (List.perm_nil.mp (z ▸ pm.symm))
theorem Ht:zw ["_law_beside_each","_law_places","_law_found_here","_law_left","_law_part","_law_at"] Rh (defScope G5):=AV
theorem LW (F:Fu K "_law_parts" G5 f eQ) (eR:mg "sorted"=none) (eS:mg "len"=none):AG P w K mg base AJ 1 f eQ Rh JJ:=by
 refine F.okD Ht fun _ A _ _ H vs Q E hr h=>?_;obtain⟨bl,la,n,ts,xs,rfl,⟨rs,hbl,RB⟩,G,iS,nd,rng,ik,k⟩:=h;have iL:=hr.units0;have hrs:rs.length=n.toNat:=by rw[RB.1,zB,D9]
 refine{_,zR (Ab (i:=2) Ht.nd (BO zM))
  (zR (Dc (i:=3) Ht.nd rfl (Or.inr rfl) (zy RO eR (zC (pv 1) zM)))
  (zR (Sb PassesOwn.never (AR (Qj iL) (pv 3) (BO zM) (AN _))
   (zR (Dc (i:=4) Ht.nd rfl (Or.inr rfl) (Gj RD (pv 3) Gm (Gv zf)))
   (zR (Ab (i:=5) Ht.nd zf)
   (zR (Sb PassesOwn.never (AR Mr (pv 5) (zy Bz eS (zC (pv 4) zM)) (AN _))
    (zR (Dc (i:=4) Ht.nd rfl (Or.inr rfl) (Aa Nl (pv 4) (BQ (own:=Hc) (cn:=["_law_left","_law_part"]) (ci:=[3,4]) rfl (Az rfl rfl) {3,3,3,trivial} rfl (Ep (zt AY (pv 0) (zt AY (pv 4) (pv 5)))) (fun _ _ _ _=>Aw)
     (fun _ _ _ _=>C0 (PW.pt (EL (AR WU (pv 0) (pv 1) (by with_unfolding_all rfl)) (F8 (AR QS (pv 0) (pv 2) (by with_unfolding_all rfl)))))) (fun _ _ _ _=>pv 0))))
    (zY (Ab (i:=5) Ht.nd (Aa CA (pv 5) zf)))))
   (zR (B0 (Cz PySem.F.plainAttrs_list PySem.F.slot_list_append PySem.F.type_list_append Eg (pv 2) (zC (zy RO eR (zC (pv 4) zM)) zM)))
   (zY (Dc (i:=3) Ht.nd rfl (Or.inr rfl) (BQ (own:=Hc) (cn:=["_law_part"]) (ci:=[4]) rfl (Az rfl rfl) {0,3,trivial} rfl (Ep (pv 3)) (fun _ _ _ _=>Aw)
    (fun _ _ _ _=>C0 (AR QS (pv 0) (pv 1) (by with_unfolding_all rfl))) (fun _ _ _ _=>pv 0)))))))))
  (zY (AM (pv 2))))),?_}
 refine{zh _,fun fo hfo=>?_};have s0:=zF (o:=.lst []) hfo;refine{1,la,xs,0,AD.of (s0 _ _ iS),ik,fun l0 ms hl0 pm0 so0=>?_};have s1:=s0.trans (zF (o:=.lst (ms.map V.int)) hl0);have nl0:l0≠fo:=fun z=>by rw[z,zI] at hl0;cases hl0
 have hfo1:(upd (upd H fo (.lst [])) l0 (.lst (ms.map V.int))) fo=some (.lst (([]:List Addr).map V.ref)):=by rw[zj nl0.symm,zI];rfl
 have iC:(upd (upd H fo (.lst [])) l0 (.lst (ms.map V.int))) l0=some (.lst (ms.map V.int)):=zI;generalize upd (upd H fo (.lst [])) l0 (.lst (ms.map V.int))=H1 at s1 hfo1 iC ⊢;refine{fun m σ H2=>∃(v4 v5:Option V)(ll:Addr)(le:List Int)(as:List Addr)(fs:List (List Int)),σ=[some (.ref bl),some (.ref la),some (.ref fo),some (.ref ll),v4,v5]/\m=le.length/\AE H H2/\H2 ll=some (.lst (le.map V.int))/\H2 fo=some (.lst (as.map V.ref))/\fo∉as/\Bi H2 as fs/\as.length<=64/\fs.length+le.length<=xs.length/\PY ts xs le fs,
  {ms.length,none,none,l0,ms,[],[],3,s1,iC,hfo1,by simp,{0,fun i r row e=>by simp at e},by simp,by rw[List.length_nil,Nat.zero_add,pm0.length_eq];exact zK _,{pm0,{fun f hf=>by cases hf}}},fun m σ H2 z=>?_}
 obtain⟨v4,v5,ll,le,as,fs,rfl,rfl,s2,hll,hfo2,nfo,RF,has,hcnt,PS⟩:=z;have ndl:le.Nodup:=(Fs.mp (PS.pm.nodup_iff.mpr nd)).2.1;have lex:∀x∈le,x∈xs:=fun x hx=>PS.pm.mem_iff.mp (zg.mpr (.inr hx));have lel:le.length<=xs.length:=by lia
 refine{1,zh _,fun b hb=>?_};have sb:=zF (o:=.lst []) hb;refine{ll,b,le.map V.int,3,AD.of (sb _ _ hll),AD.of zI,1,?_};have s3:=s2.trans sb;have hll3:=sb _ _ hll;have hfo3:=sb _ _ hfo2;have RF3:=RF.same sb;generalize upd H2 b (.lst [])=H3 at s3 hll3 hfo3 RF3 ⊢;clear hb sb hll hfo2 RF s2 b H2;cases le with
 | nil=>refine AZ ?_;refine{1,k fo fs H3 hfo s3 ⟨as,hfo3,RF3⟩ ?_ PS.ok};have:=PS.pm;rw[zv] at this;exact this
 | cons x0 le'=>
 refine Ak {fun σ' H'=>∃(v4 v5:Option V)(ll:Addr)(le1:List Int)(as:List Addr)(fs:List (List Int)),σ'=[some (.ref bl),some (.ref la),some (.ref fo),some (.ref ll),v4,v5]/\le1.length<(x0::le').length/\AE H H'/\H' ll=some (.lst (le1.map V.int))/\H' fo=some (.lst (as.map V.ref))/\fo∉as/\Bi H' as fs/\as.length<=64/\fs.length+le1.length<=xs.length/\PY ts xs le1 fs,?_,?_}
 . rintro σ' H' ⟨v4,v5,ll,le1,as,fs,rfl,eU,r⟩;exact{le1.length,eU,v4,v5,ll,le1,as,fs,3,r}
 . refine{5,ll,1,AD.of hll3,fun p0 jV=>?_};rw[Uu];have sp:=zF (o:=.lst (((x0::le').map V.int).take 1)) jV;have s4:=s3.trans sp;have iO:(upd H3 p0 (.lst (((x0::le').map V.int).take 1))) p0=some (.lst ([x0].map V.int)):=zI;have hll4:=sp _ _ hll3;have hfo4:=sp _ _ hfo3;have RF4:=RF3.same sp;generalize upd H3 p0 (.lst (((x0::le').map V.int).take 1))=H4 at s4 iO hll4 hfo4 RF4 ⊢;clear sp hll3 hfo3 RF3 s3 jV;obtain⟨le,ele⟩:∃le,le=x0::le':={1};rw[<-ele] at hll4 ndl lex lel PS hcnt ⊢;have P0:Lh ts le [x0] 0:={by simp,fun x hx=>by rw[zl.mp hx,ele];exact zX,by simp,zh _};refine{fun m σ H5=>∃(pp:Addr)(pt:List Int)(a':Nat),σ=[some (.ref bl),some (.ref la),some (.ref fo),some (.ref ll),some (.ref pp),some (.int a')]/\m=le.length-a'/\AE H4 H5/\H5 pp=some (.lst (pt.map V.int))/\Lh ts le pt a',⟨_,p0,[x0],0,rfl,rfl,AE.refl _,iO,P0⟩,fun m σ H5 z=>?_};obtain⟨pp,pt,a',rfl,rfl,s5,jJ,PI⟩:=z;have ptl:pt.length<=le.length:=QV PI.nd PI.sub;refine{5,pp,1,.inl (AD.of jJ),2,1,?_};rw[zB];by_cases c:a'<pt.length
   . refine Am (zO (by lia)) {fun σ' H'=>∃(pp:Addr)(pt:List Int),σ'=[some (.ref bl),some (.ref la),some (.ref fo),some (.ref ll),some (.ref pp),some (.int ((a'+1:Nat):Int))]/\AE H4 H'/\H' pp=some (.lst (pt.map V.int))/\Lh ts le pt (a'+1),?_,?_}
     . rintro σ' H' ⟨pp,pt',rfl,s',ij,P'⟩;exact{_,by lia,pp,pt',a'+1,3,s',ij,P'}
     . have ex:pt[a']?=some pt[a']:=zD c;have hxm:=PI.sub _ (El c);generalize pt[a']=x at ex hxm;have rx:=rng x (lex x hxm);obtain⟨xn,rfl⟩:=M9 rx.1;have hxr:xn<rs.length:=by lia
       have iB:=RB.2 xn rs[xn] _ (zD hxr) (Ml (by lia));have gR:=s4.trans s5;have ji:=gR _ _ iB;have hrl:(Bn ts xn).length<=100:=by
        have:=SY G ts.length (xn:Int);rw[zW (zK _)] at this;have:=G.len
        lia
       refine{5,5,pp,4,.int xn,3,AD.of jJ,CV (by rw[zN,ex];rfl),bl,4,.ref rs[xn],3,AD.of (gR _ _ hbl),CV (by rw[zN,zD hxr];rfl),rs[xn],0,{_,AD.of ji},[.ref ll,.ref pp],0,fun D hD=>?_};have iQ:=s5 _ _ hll4;refine Nf (a:=rs[xn]) (xs:=(Bn ts xn).map V.int) (fun i ys H6=>ys=(((Bn ts xn).take i).filter fun y=>decide (y∈le) && !decide (y∈pt)).map V.int/\H6=upd H5 D (.lst ys)) {3} (fun i ys H6 z=>?_) (fun i ys H6 z=>?_) (fun i v ys H6 hv z=>?_) (fun ys H6 z=>?_)
       . obtain⟨_,rfl⟩:=z;exact AD.of (by rw[zj (zq ji hD)];exact ji)
       . obtain⟨rfl,_⟩:=z;rw[zB];refine Cv (C8 _ _) ?_;rw[zp];exact Aq (by lia)
       . obtain⟨rfl,rfl⟩:=z;obtain⟨y,hy,rfl⟩:∃y,(Bn ts xn)[i]?=some y/\V.int y=v:=by
          rw[zN] at hv;cases e:(Bn ts xn)[i]? with
          | none=>rw[e] at hv;cases hv
          | some y=>rw[e] at hv;exact{y,0,zV hv}
         have st:((Bn ts xn).take (i+1)).filter (fun y=>decide (y∈le) && !decide (y∈pt))=((Bn ts xn).take i).filter (fun y=>decide (y∈le) && !decide (y∈pt))++[y].filter (fun y=>decide (y∈le) && !decide (y∈pt)):=by rw[zu,hy,Hr];rfl
         refine{{3},?_};refine{5,ll,1,.inl (AD.of (by rw[zj (zq iQ hD)];exact iQ)),0,DD _,1,?_};show (if Bw (.int y) (le.map V.int)=true then _ else _)
         rw[DA];by_cases c1:y∈le
         . rw[zO c1];refine Ak ?_;refine{5,pp,1,.inl (AD.of (by rw[zj (zq jJ hD)];exact jJ)),0,DD _,1,?_};show (if (!Bw (.int y) (pt.map V.int))=true then _ else _)
           rw[DA];by_cases c2:y∈pt
           . rw[zO c2];refine AZ {?_,0};rw[st,IK (by rw[zO c2,Bool.not_true,Bool.and_false];decide),Ei,zv]
           . rw[zS c2];refine Ak {1,zI,?_,EE};rw[st,J0 (by rw[zO c1,zS c2];rfl),Ei,zT];rfl
         . rw[zS c1];refine AZ (AZ {?_,0});rw[st,IK (by rw[zS c1,Bool.false_and];decide),Ei,zv]
       . obtain⟨rfl,rfl⟩:=z;rw[zB,zW (zK _)];have sD:=zF (o:=.lst (((Bn ts xn).filter fun y=>decide (y∈le) && !decide (y∈pt)).map V.int)) hD;have PI':=PI.step G ex;have l1:(pt++(Bn ts xn).filter fun y=>decide (y∈le) && !decide (y∈pt)).length<=le.length:=QV PI'.nd PI'.sub;rw[zH] at l1;refine{pp,D,2,sD _ _ jJ,zI,by rw[zB,zB];exact CT (Aq (by lia)),fun pq hpq=>?_};refine{1,2,?_};refine{pq,_,?_,(s5.trans sD).trans (zF hpq),by rw[zI,<-zT],PI'};rfl
   . refine As (zS (by lia)) ?_;have ea:a'=pt.length:=by have:=PI.at_le;lia
     subst ea;have gR:=s4.trans s5;have ju:=s5 _ _ hfo4;have RF5:=RF4.same s5;have iQ:=s5 _ _ hll4;refine{1,.inl {0,_,AD.of ju},1,pp,pt,0,AD.of jJ,by lia,fun sp iJ gW pm' so'=>?_};have s6:=zF (o:=.lst (iJ.map V.int)) gW;have nsp:sp≠fo:=fun z=>by have:H5 sp=none:=gW;rw[z,ju] at this;cases this
     refine{fo,_,.ref sp,3,s6 _ _ ju,by rw[zB];exact Aq (by lia),?_};have RF7:Bi (upd (upd H5 sp (.lst (iJ.map V.int))) fo (.lst (as.map V.ref++[.ref sp]))) (as++[sp]) (fs++[iJ]):=by
      refine Bi.off (Bi.snoc (RF5.same s6) zI) fun z=>?_;rcases zg.mp z with z | z
      . exact nfo z
      . exact nsp (zl.mp z).symm
     have s7:AE H (upd (upd H5 sp (.lst (iJ.map V.int))) fo (.lst (as.map V.ref++[.ref sp]))):=Av (gR.trans s6) hfo;have hfo7:(upd (upd H5 sp (.lst (iJ.map V.int))) fo (.lst (as.map V.ref++[.ref sp]))) fo=some (.lst ((as++[sp]).map V.ref)):=by rw[zI,zT];rfl
     have hk:∀q zs,q≠fo->H5 q=some (.lst zs)->(upd (upd H5 sp (.lst (iJ.map V.int))) fo (.lst (as.map V.ref++[.ref sp]))) q=some (.lst zs):=fun q zs nq e=>by rw[zj nq];exact s6 _ _ e
     have nllf:ll≠fo:=fun z=>by
      rw[z,ju] at iQ;rw[ele] at iQ;cases as with
      | nil=>cases iQ
      | cons u v=>cases iQ
     have nppf:pp≠fo:=fun z=>by
      rw[z,ju] at jJ;cases pt with
      | nil=>exact PI.ne rfl
      | cons x l=>cases as with
       | nil=>cases jJ
       | cons u v=>cases jJ
     have hll7:=hk ll _ nllf iQ;have hpp7:=hk pp _ nppf jJ;generalize upd (upd H5 sp (.lst (iJ.map V.int))) fo (.lst (as.map V.ref++[.ref sp]))=H7 at RF7 s7 hfo7 hll7 hpp7 ⊢;refine{1,ll,0,{_,AD.of hll7},[.ref pp],0,fun D hD=>?_};refine Nf (a:=ll) (xs:=le.map V.int) (fun i ys H8=>ys=((le.take i).filter fun y=>!decide (y∈pt)).map V.int/\H8=upd H7 D (.lst ys)) {3} (fun i ys H8 z=>?_) (fun i ys H8 z=>?_) (fun i v ys H8 hv z=>?_) (fun ys H8 z=>?_)
     . obtain⟨_,rfl⟩:=z;exact AD.of (by rw[zj (zq hll7 hD)];exact hll7)
     . obtain⟨rfl,_⟩:=z;rw[zB];refine Cv (C8 _ _) ?_;rw[zp];exact Aq (by lia)
     . obtain⟨rfl,rfl⟩:=z;obtain⟨y,hy,rfl⟩:∃y,le[i]?=some y/\V.int y=v:=by
        rw[zN] at hv;cases e:le[i]? with
        | none=>rw[e] at hv;cases hv
        | some y=>rw[e] at hv;exact{y,0,zV hv}
       have st:(le.take (i+1)).filter (fun y=>!decide (y∈pt))=(le.take i).filter (fun y=>!decide (y∈pt))++[y].filter (fun y=>!decide (y∈pt)):=by rw[zu,hy,Hr];rfl
       refine{{3},?_};refine{5,pp,1,.inl (AD.of (by rw[zj (zq hpp7 hD)];exact hpp7)),0,DD _,1,?_};show (if (!Bw (.int y) (pt.map V.int))=true then _ else _)
       rw[DA];by_cases c2:y∈pt
       . rw[zO c2];refine AZ {?_,0};rw[st,IK (by rw[zO c2];decide),Ei,zv]
       . rw[zS c2];refine Ak {1,zI,?_,EE};rw[st,J0 (by rw[zS c2];rfl),Ei,zT];rfl
     . obtain⟨rfl,rfl⟩:=z;rw[zB,zW (zK _)];have sD:=zF (o:=.lst ((le.filter fun y=>!decide (y∈pt)).map V.int)) hD;have PS':=PS.step nd PI pm';have flen:(le.filter fun y=>!decide (y∈pt)).length<le.length:=by refine Nat.lt_of_le_of_ne (C8 _ _) fun z=>?_;have:=List.length_filter_eq_length_iff.mp z;obtain⟨x,hx⟩:=List.exists_mem_of_ne_nil pt PI.ne;have:=this x (PI.sub x hx);rw[zO hx] at this;cases this
       refine{4,D,_,as++[sp],fs++[iJ],0,flen,s7.trans sD,zI,sD _ _ hfo7,fun z=>?_,RF7.same sD,?_,?_,PS'}
       . rcases zg.mp z with z | z
         . exact nfo z
         . exact nsp (zl.mp z).symm
       . have:=RF7.1;rw[zH,zH] at this;rw[zH,Me];have:=RF5.1
         lia
       . rw[zH,Me]
         lia
structure NH (ts:List T3)(xs:List Int)(p:Aj):Prop where
 pm:(AX p).Perm xs
 gd:good p
 rs:Ji p
 ht:BA p<=xs.length
 k1:IQ p
inductive Fp (ts:List T3):List (List Int)->List Aj->Prop
 | nil:Fp ts [] []
 | cons {f:List Int}{k:Aj}{fs:List (List Int)}{ks:List Aj}(h:NH ts f k)(t:Fp ts fs ks):Fp ts (f::fs) (k::ks)
theorem Fp.snoc (h:Fp ts fs ks)(x:NH ts f k):Fp ts (fs++[f]) (ks++[k]):=by
 induction h with
 | nil=>exact .cons x .nil
 | cons a _ ih=>exact .cons a ih
theorem Fp.all (h:Fp ts fs ks):(An ks).Perm fs.flatten/\KA ks/\Nj ks/\Jf ks<=fs.flatten.length/\NM ks/\ks.length=fs.length:=by
 induction h with
 | nil=>exact{.nil,trivial,trivial,zK _,trivial,0}
 | cons x _ ih=>
  obtain⟨a,b,c,d,e,g⟩:=ih;refine{?_,⟨x.gd,b⟩,⟨x.rs,c⟩,?_,⟨x.k1,e⟩,by rw[zk,zk,g]}
  . rw[An,IM];exact x.pm.append a
  . rw[Jf,IM,zH];have:=x.ht
    lia
theorem Tt {fs:List (List Int)}(h:∀f∈fs,f≠[]):fs.length<=fs.flatten.length:=by
 induction fs with
 | nil=>exact zK _
 | cons f fs ih=>
  have:=ih fun g hg=>h g (zd _ hg);have:0<f.length:=List.length_pos_iff.mpr (h f zX);rw[zk,IM,zH]
  lia
theorem NH.build (pm:(ow++le).Perm xs)(nd:xs.Nodup)(ps:so.Perm ow)(st:so.Pairwise (· <= ·))(ne:ow≠[])(pf:fs.flatten.Perm le)(ok:Et ts le fs)(R:Fp ts fs ks)(ik:xs.length<64):NH ts xs (.mk so ks):=by
 obtain⟨a,b,c,d,e,g⟩:=R.all;have pl:(An ks).Perm le:=a.trans pf;have pmA:(so++An ks).Perm xs:=(ps.append pl).trans pm;have ndA:(AX (.mk so ks)).Nodup:=by rw[AX];exact pmA.nodup_iff.mpr nd
 have ndA':=ndA;rw[AX] at ndA';have ll:ow.length+le.length=xs.length:=by rw[<-zH];exact pm.length_eq
 have ol:0<ow.length:=List.length_pos_iff.mpr ne;have fl:=Tt ok.ne;have fl':=pf.length_eq;refine{by rw[AX];exact pmA,{fun z=>ne (List.perm_nil.mp (z ▸ ps.symm)),b},{?_,c},by rw[BA];lia,{by lia,e}}
 . exact (st.and (Fs.mp ndA').1).imp fun h=>by
    have:=h.1;have:=h.2
    lia
theorem Et.join (h:Et ts xs (f::g::fs)):Et ts xs ((f++g)::fs):=by
 refine{fun a ha=>?_}
 . rcases zb.mp ha with rfl | ha
   . exact fun z=>h.ne f zX (List.append_eq_nil_iff.mp z).1
   . exact h.ne a (zd _ (zd _ ha))
theorem Et.rev (h:Et ts xs fs):Et ts xs fs.reverse:={fun f hf=>h.ne f (List.mem_reverse.mp hf)}
theorem aP (fs:List (List Int)):fs.reverse.flatten.Perm fs.flatten:=(List.reverse_perm fs).flatten
theorem WC {ns:List Int}(T:Ae H t N)(h:H a=some (.lst (ns.map V.int))):a≠t:=fun z=>by
 obtain⟨p,ms,sp,re,e,_⟩:=T;rw[z,e] at h;cases ns with
 | nil=>cases h
 | cons x l=>cases h
theorem dW {rs:List Addr}(T:Ae H t N)(h:H a=some (.lst (rs.map V.ref))):a≠t:=fun z=>by
 obtain⟨p,ms,sp,re,e,_⟩:=T;rw[z,e] at h;cases rs with
 | nil=>cases h
 | cons x l=>cases l with
  | nil=>cases h
  | cons y l=>cases h
theorem Te (T:Ae H t N)(h:H b=some (.tup ys)):b≠t:=by obtain⟨p,ns,sp,re,e1,_⟩:=T;exact Bu h e1 (by intro z;cases z)
theorem Bi.sm (h:Bi H rs R)(T:Ae H t N)(k:Sm t H H'):Bi H' rs R:={h.1,fun i r row a b=>k _ _ (WC T (h.2 i r row a b)) (h.2 i r row a b)}
theorem F3.sm (h:F3 H sl R)(T:Ae H t N)(k:Sm t H H'):F3 H' sl R:=by obtain⟨rs,a,b⟩:=h;exact{rs,k _ _ (dW T a) a,b.sm T k}
theorem Tu (T:Ae H t N)(k:Sm t H H')(S:Ag H v (BS p)):Ag H' v (BS p):=Sl (fun b ys e=>k _ _ (Te T e) e) p S
theorem KQ (T:Ae H t N)(k:Sm t H H')(S:Bh H zs (CD ks)):Bh H' zs (CD ks):=NY (fun b ys e=>k _ _ (Te T e) e) ks S
theorem dR :∀{zs:List V}{ds:List PyData}{z:V}{d:PyData},Bh H zs ds->Ag H z d->Bh H (zs++[z]) (ds++[d]):=by
 intro zs
 induction zs with
 | nil=>intro ds z d h s;cases h;exact .cons s .nil
 | cons y ys ih=>
  intro ds z d h s;cases h with
  | cons a b=>exact .cons a (ih b s)
def QF (m:Nat):Sp:=fun vs H Q _=>∃t tp bl la n ts N xs,vs=[.ref t,.ref bl,.ref la]/\CG H t tp N/\N+4*xs.length<900000/\F3 H bl (Jt ts n)/\GW n ts/\H la=some (.lst (xs.map V.int))/\xs.Nodup/\(∀x∈xs,0<=x/\x<n)/\1<=xs.length/\xs.length<=m/\xs.length<64 /\
 ∀v p H',Sm t H H'->CG H' t tp (N+4*xs.length)->Ag H' v (BS p)->NH ts xs p->Q v H'
structure Rf (H0 H:Hp)(t tp pl:Addr)(N:Nat)(fs:List (List Int)):Prop where
 sm:Sm t H0 H
 tape:CG H t tp N
 fr:H0 pl=none
 nt:pl≠t
 np:pl≠tp
 at':∃as:List Addr,H pl=some (.lst (as.map V.ref))/\pl∉as/\Bi H as fs
def Yo:TS:=fun D σ H=>∃H0 ts xs t tp bl la lf ow N v5 pl fs,σ=[some (.ref t),some (.ref bl),some (.ref la),some (.ref lf),some (.ref ow),v5,some (.ref pl)]/\Rf H0 H t tp pl N fs/\N<950000/\xs.length<64/\fs.flatten.Perm xs/\Et ts xs fs /\
 ∀pl fs H',Rf H0 H' t tp pl (N+1) fs->fs.flatten.Perm xs->Et ts xs fs->D.nx [some (.ref t),some (.ref bl),some (.ref la),some (.ref lf),some (.ref ow),v5,some (.ref pl)] H'
theorem dw (h:Bi H as fs):Bi H as.reverse fs.reverse:=by
 refine{by rw[List.length_reverse,List.length_reverse,h.1],fun i r row e1 e2=>?_};have hi:i<as.length:=by have:=(zG.mp e1).1;rwa [List.length_reverse] at this
 rw[List.getElem?_reverse hi] at e1;rw[List.getElem?_reverse (by rw[<-h.1];exact hi),<-h.1] at e2;exact h.2 _ r row e1 e2
theorem J6:zw ["_law_tape_here","_law_beside_each","_law_places","_law_left","_law_own","_law_turn","_law_parts_here"] Lq (defScope HR):=AV
theorem VY {fD:Addr}(F:Fu K "_law_right_plan" HR f eQ) (bF:BR K eQ Lq []) (mF:mg "_law_right_plan"=some (.ref f)) (FD:AF K mg "_law_draw" IA fD fdD HP)
 (FP:AF K mg "_law_parts" G5 fP fdP Rh) (eS:mg "len"=none) (eN:mg "range"=none) (eP:mg "tuple"=none) (eY:mg "list"=none) (eR:mg "sorted"=none) (fu:mg "min"=none):∀m:Nat,AG P w K mg base AJ (m+2) f eQ Lq (QF m)
 | 0=>F.ok J6 (fun vs H Q E h=>by obtain⟨t,tp,bl,la,n,ts,N,xs,rfl,_⟩:=h;rfl) (fun fg A outer s H vs Q E hr h=>by
  obtain⟨t,tp,bl,la,n,ts,N,xs,rfl,_,_,_,_,_,_,_,h1,h0,_⟩:=h
  lia)
 | m+1=>by
  have GR:AG P w K mg base AJ (m+2) f eQ Lq (QF m):=VY F bF mF FD FP eS eN eP eY eR fu m;have GD:AH P w base (m+2) FD Sg:=(TN FD.F eS).mono (by lia);have GP:AH P w base (m+2) FP JJ:=(LW FP.F eR eS).mono (by lia);refine F.ok J6 (fun vs H Q E h=>?_) (fun fg A outer s H vs Q E hr h=>?_)
  . obtain⟨t,tp,bl,la,n,ts,N,xs,rfl,_⟩:=h;rfl
  . obtain⟨t,tp,bl,la,n,ts,N,xs,rfl,TP,hN,SB,G,iS,nd,rng,h1,hm,ik,k⟩:=h;refine{_,zR (Ab (i:=3) J6.nd (Cq Q2 eY (zC (pv 2) zM)))
     (zR (Ab (i:=4) J6.nd (BO zM))
     (zR (Au (Be rfl eN (zC (Aa CA zf (AI GD hr FD (zC (pv 0) (zC (zy (Xe rfl) fu (zC zf (zC (zy Bz eS (zC (pv 2) zM)) zM))) zM)))) zM)) (AW (i:=5) J6.nd)
      (zY (B0 (Cz PySem.F.plainAttrs_list PySem.F.slot_list_append PySem.F.type_list_append Eg (pv 4)
       (zC (Cz PySem.F.plainAttrs_list PySem.F.slot_list_pop PySem.F.type_list_pop XJ (pv 3)
        (zC (AI GD hr FD (zC (pv 0) (zC (zy Bz eS (zC (pv 3) zM)) zM))) zM)) zM)))))
     (zR (Ab (i:=6) J6.nd (AI GP hr FP (zC (pv 1) (zC (pv 3) zM))))
     (zR (JI (u':=Yo) (Ad (PW.pt (EL (AR Hl (zy Bz eS (zC (pv 6) zM)) zf (AN _)) (F8 (AR BG (AI GD hr FD (zC (pv 0) (CU zM))) zf (AN _)))))
      (zY (Ab (i:=6) J6.nd (Aa Nl (BO (zC (Aa Nl (zt AY (pv 6) zf) (zt AY (pv 6) zf)) zM)) (Gj RD (pv 6) (Gv zf) Gm)))) Ac) ?i1)
     (zR (JI (u':=Yo) (Ad (AR BG (AI GD hr FD (zC (pv 0) (CU zM))) zf (AN _))
      (zY (B0 (LC PySem.F.plainAttrs_list PySem.F.slot_list_reverse PySem.F.type_list_reverse af (pv 6)))) Ac) ?i2)
     (zY (AM (Af (zC (Cq F7 eP (zC (zy RO eR (zC (pv 4) zM)) zM))
      (zC (Cq F7 eP (zC (BQ (own:=["_law_part"]) (cn:=["_law_tape_here","_law_beside_each"]) (ci:=[0,1]) rfl (Az rfl rfl) {3,3,3,trivial} rfl (Ep (pv 6)) (fun _ _ _ _=>Aw) (fun _ _ _ _=>Bc)
       (fun _ _ _ _=>CP GR hr rfl mF F.kp bF .nil Eu (zC (pv 1) (zC (pv 2) (zC (pv 0) zM))))) zM)) zM)))))))))),?_}
    case i1=>
     rintro D σ H1 ⟨H0,ts,xs,t,tp,bl,la,lf,ow,N,v5,pl,fs,rfl,I,hN,hx,pf,ok,kk⟩;obtain⟨as,gN,npl,RF⟩:=I.at';have fl:=Tt ok.ne;have fl':=pf.length_eq;refine{1,pl,1,.inl (AD.of gN),2,1,?_};rw[zB];by_cases c:1<as.length
     . refine Am (zO (by lia)) ?_;refine⟨_,rfl,t,tp,N,4,rfl,I.tape,by lia,by decide,by decide,fun r H2 r0 r4 T2 e2=>?_⟩;have sm2:Sm t H1 H2:=fun b o nb e=>by rw[e2 b nb];exact e
       have RF2:=RF.sm ⟨tp,I.tape⟩ sm2;have iN:=sm2 _ _ I.nt gN;have I2:Rf H0 H2 t tp pl (N+1) fs:={I.sm.trans sm2,T2,I.fr,I.nt,I.np,as,iN,npl,RF2};refine{7,Bj (fun _=>?_) (fun _=>?_)}
       . cases as with
         | nil=>exact absurd c (by simp)
         | cons a0 as=>cases as with
          | nil=>exact absurd c (by simp)
          | cons a1 as=>cases fs with
           | nil=>exact absurd RF.1 (by simp)
           | cons f0 fs=>cases fs with
            | nil=>exact absurd RF.1 (by simp)
            | cons f1 fs=>
            have h0:=RF2.2 0 a0 f0 rfl rfl;have h1':=RF2.2 1 a1 f1 rfl rfl;have hxl:f0.length+(f1.length+fs.flatten.length)=xs.length:=by rw[IM,IM,zH,zH] at fl';exact fl'
            refine{1,pl,4,.ref a0,3,AD.of iN,(show BI _ ((0:Nat):Int)=_ from CV rfl),1,pl,4,.ref a1,3,AD.of iN,(show BI _ ((1:Nat):Int)=_ from CV rfl),a0,a1,2,h0,h1',by rw[zB,zB];exact CT (Aq (by lia)),fun a2 ha2=>?_};refine{MR,fun a3 ha3=>?_};have s3:=(zF (o:=.lst (f0.map V.int++f1.map V.int)) ha2).trans (zF (o:=.lst [.ref a2]) ha3);refine{5,pl,1,AD.of (s3 _ _ iN),fun a4 ha4=>?_};rw[show B3 ((a0::a1::as).map V.ref) (some 2) none=((a0::a1::as).map V.ref).drop 2 from R9 _ 2];have s4:=s3.trans (zF (o:=.lst (((a0::a1::as).map V.ref).drop 2)) ha4);have l1:=RF.1;rw[zk,zk,zk,zk] at l1;rw[zk,zk] at fl;refine{a3,a4,2,zF ha4 _ _ zI,zI,by show [V.ref a2].length+(as.map V.ref).length<=_;rw[zB,Me];exact CT (Aq (by lia)),fun a5 ha5=>?_};have s5:=s4.trans (zF (o:=.lst ([.ref a2]++as.map V.ref)) ha5);have n2:H2 a2=none:=ha2;have n5:H2 a5=none:=AE.none s4 ha5;have h2':(upd (upd (upd (upd H2 a2 (.lst (f0.map V.int++f1.map V.int))) a3 (.lst [.ref a2])) a4 (.lst (((a0::a1::as).map V.ref).drop 2))) a5 (.lst ([.ref a2]++as.map V.ref))) a2=some (.lst ((f0++f1).map V.int)):=by rw[zT];exact zF ha5 _ _ (zF ha4 _ _ (zF ha3 _ _ zI))
            have n52:a5≠a2:=fun z=>by have h2'':(upd (upd (upd H2 a2 (.lst (f0.map V.int++f1.map V.int))) a3 (.lst [.ref a2])) a4 (.lst (((a0::a1::as).map V.ref).drop 2))) a2=some (.lst (f0.map V.int++f1.map V.int)):=zF ha4 _ _ (zF ha3 _ _ zI);rw[z,h2''] at ha5;cases ha5
            have hr5:=RF2.same s5;refine kk a5 ((f0++f1)::fs) _ {I2.sm.trans (Sm.of s5),T2.keepF (fun o e=>s5 _ _ e) (fun o e=>s5 _ _ e) (zK _),bG I2.sm (Ae.ne ⟨tp,T2⟩ n5) n5,Ae.ne ⟨tp,T2⟩ n5,(CG.ne2 T2 n5).2,a2::as,zI,fun z=>?_,{?_,fun i r row e1 e2=>?_}} ?_ ok.join
            . rcases zb.mp z with z | z
              . exact n52 z
              . obtain⟨i,hi,e⟩:=zr z;have hif:i<fs.length:=by lia
                have:=RF2.2 (i+2) a5 fs[i] (by rw[List.getElem?_cons_succ,List.getElem?_cons_succ,zD hi,e]) (by rw[List.getElem?_cons_succ,List.getElem?_cons_succ,zD hif]);rw[n5] at this;cases this
            . rw[zk,zk];lia
            . cases i with
              | zero=>cases e1;cases e2;exact h2'
              | succ i=>exact hr5.2 (i+2) r row (by simpa using e1) (by simpa using e2)
            . rw[IM,Dk];rw[IM,IM] at pf;exact pf
       . exact kk pl fs H2 I2 pf ok
     . refine As (zS (by lia)) (AZ ?_);exact kk pl fs H1 {I.sm,I.tape.keepF (fun o e=>e) (fun o e=>e) (by lia),I.fr,I.nt,I.np,I.at'} pf ok
    case i2=>
     rintro D σ H1 ⟨H0,ts,xs,t,tp,bl,la,lf,ow,N,v5,pl,fs,rfl,I,hN,hx,pf,ok,kk⟩;obtain⟨as,gN,npl,RF⟩:=I.at';refine⟨_,rfl,t,tp,N,2,rfl,I.tape,by lia,by decide,by decide,fun r H2 r0 r4 T2 e2=>?_⟩;have sm2:Sm t H1 H2:=fun b o nb e=>by rw[e2 b nb];exact e
     have RF2:=RF.sm ⟨tp,I.tape⟩ sm2;have iN:=sm2 _ _ I.nt gN;refine{7,Bj (fun _=>?_) (fun _=>?_)}
     . refine{1,.inl {0,_,AD.of iN},pl,_,3,iN,?_};rw[<-List.map_reverse];exact kk pl fs.reverse _ {(I.sm.trans sm2).chg I.fr,T2.keepF (fun o e=>by rw[zj I.nt.symm];exact e) (fun o e=>by rw[zj I.np.symm];exact e) (zK _),I.fr,I.nt,I.np,as.reverse,zI,fun z=>npl (List.mem_reverse.mp z),(dw RF2).off fun z=>npl (List.mem_reverse.mp z)} ((aP fs).trans pf) ok.rev
     . exact kk pl fs H2 {I.sm.trans sm2,T2,I.fr,I.nt,I.np,as,iN,npl,RF2} pf ok
    obtain⟨ns0,sp0,re0,ht0,jV,_⟩:=id TP;have TA:Ae H t N:=⟨tp,TP⟩;refine{1,la,1,.inl (AD.of iS),fun lf hlf=>?_};have nlt:lf≠t:=(zq ht0 hlf).symm;have nlp:lf≠tp:=(zq jV hlf).symm;refine{zh _,fun D hD=>?_};have nDl:D≠lf:=fun z=>by rw[z,zI] at hD;cases hD
    have hD0:H D=none:=by rw[zj nDl] at hD;exact hD
    have nDt:D≠t:=(zq ht0 hD0).symm;have nDp:D≠tp:=(zq jV hD0).symm;have s1:AE H (upd (upd H lf (.lst (xs.map V.int))) D (.lst [])):=(zF hlf).trans (zF hD);have hlf1:(upd (upd H lf (.lst (xs.map V.int))) D (.lst [])) lf=some (.lst (xs.map V.int)):=by rw[zj nDl.symm,zI]
    have gU:(upd (upd H lf (.lst (xs.map V.int))) D (.lst [])) D=some (.lst (([]:List Int).map V.int)):=zI;have T1:CG (upd (upd H lf (.lst (xs.map V.int))) D (.lst [])) t tp N:=TP.keepF (fun o e=>s1 _ _ e) (fun o e=>s1 _ _ e) (zK _);generalize upd (upd H lf (.lst (xs.map V.int))) D (.lst [])=H1 at s1 hlf1 gU T1 ⊢;refine⟨_,rfl,_,rfl,la,_,rfl,.inl (AD.of (s1 _ _ iS)),3,_,rfl,?_⟩;rw[zB];obtain⟨mn,emn⟩:∃mn:Int,(if (xs.length:Int)<3 then (xs.length:Int) else 3)=mn:={1}
    rw[emn];have hmn:1<=mn/\mn<=3/\mn<=xs.length:=by rw[<-emn];split <;> lia
    refine{t,tp,N,mn,0,T1,by lia,by lia,by lia,fun r H2 r0 r1 T2 e2=>?_};have sm2:Sm t H H2:=fun b o nb e=>by rw[e2 b nb];exact s1 _ _ e
    have jL:H2 lf=some (.lst (xs.map V.int)):=by rw[e2 lf nlt];exact hlf1
    have fM:H2 D=some (.lst (([]:List Int).map V.int)):=by rw[e2 D nDt];exact gU
    clear hlf1 gU T1 s1;refine⟨_,_,rfl,rfl,1+r,rfl,by lia,by lia,CL (lo:=0) (n:=(1+r).toNat) (fun q σ H3=>GB fun (v5:Option V)(ow left:List Int)=>σ=[some (.ref t),some (.ref bl),some (.ref la),some (.ref lf),some (.ref D),v5,none]/\ow.length=q/\(ow++left).Perm xs/\H3 lf=some (.lst (left.map V.int))/\H3 D=some (.lst (ow.map V.int))/\CG H3 t tp (N+1+q)/\Sm t H H3)
     {none,[],xs,3,List.Perm.refl _,jL,fM,T2,sm2} ?turn ?after⟩
    case turn=>
     rintro q σ H3 hq ⟨v5,ow,left,rfl,hl,hp,jr,gE,TP3,s3⟩;have hll:ow.length+left.length=xs.length:=by have:=hp.length_eq;rw[zH] at this;exact this
     refine{1,.inl {0,_,AD.of gE},1,.inl {0,_,AD.of jr},?_};refine{5,lf,1,.inl (AD.of jr),t,tp,N+1+q,1,TP3,by lia,by rw[zB];lia,by rw[zB];lia,fun rr H4 h0 h1 TP4 e4=>?_};rw[zB] at h1;have eU:rr.toNat<left.length:=by lia
     refine{lf,left.map V.int,rr,rr.toNat,.int left[rr.toNat],3,by rw[e4 lf nlt];exact jr,by lia,by lia,PySem.StrLaws.seqIndex_nonneg h0 (by rw[zB];lia),by rw[zN,zD eU];rfl,?_};rw[Ta left rr.toNat];have s4:Sm t H H4:=fun b o nb e=>by rw[e4 b nb];exact s3 b o nb e
     refine{D,2,by rw[zj nDl,e4 D nDt];exact gE,by rw[zB];exact Aq (by lia),?_};refine{_,ow++[left[rr.toNat]],left.eraseIdx rr.toNat,0,by rw[zH,hl];rfl,?_,by rw[zj nDl.symm,zI],by rw[zT];exact zI,TP4.keepF (fun o e=>by rw[zj nDt.symm,zj nlt.symm];exact e) (fun o e=>by rw[zj nDp.symm,zj nlp.symm];exact e) (by lia),(s4.chg hlf).chg hD0};refine List.Perm.trans ?_ hp;rw[Dk];exact (UE eU).append_left ow
    case after=>
     rintro σ H3 ⟨v5,ow,left,rfl,hl,hp,jr,gE,TP3,s3⟩;have hll:ow.length+left.length=xs.length:=by have:=hp.length_eq;rw[zH] at this;exact this
     have ndp:=hp.nodup_iff.mpr nd;obtain⟨ndo,ndl,_⟩:=Fs.mp ndp;have ol:1<=ow.length:=by lia
     have TA3:Ae H3 t _:=⟨tp,TP3⟩;have SB3:=SB.sm TA s3;refine{5,bl,lf,n,ts,left,0,SB3,G,jr,ndl,fun x hx=>rng x (hp.mem_iff.mp (zg.mpr (.inr hx))),by lia,fun pl fs H4 gN s4 ⟨as,hpl4,RF⟩ pf ok=>?_};have nplt:pl≠t:=Ae.ne TA3 gN;have nplas:pl∉as:=fun z=>by
      obtain⟨i,hi,e⟩:=zr z;have hif:i<fs.length:=by rw[<-RF.1];exact hi
      have h:=RF.2 i pl fs[i] (by rw[zD hi,e]) (zD hif);rw[hpl4] at h;have ft:=ok.ne _ (El hif);cases as with
      | nil=>cases z
      | cons u v=>generalize fs[i]=g at h ft;cases g with
       | nil=>exact ft rfl
       | cons x l=>cases h
     have I4:Rf H3 H4 t tp pl (N+1+(1+r).toNat) fs:={Sm.of s4,TP3.keepF (fun o e=>s4 _ _ e) (fun o e=>s4 _ _ e) (zK _),gN,nplt,(CG.ne2 TP3 gN).2,as,hpl4,nplas,RF};refine{H3,ts,left,t,tp,bl,la,lf,D,_,v5,pl,fs,0,I4,by lia,by lia,pf,ok,fun pl fs H5 I5 pf ok=>?_};refine{H3,ts,left,t,tp,bl,la,lf,D,_,v5,pl,fs,0,I5,by lia,by lia,pf,ok,fun pl fs H6 I6 pf ok=>?_};clear I4 I5 hpl4 nplas RF s4 gN nplt;obtain⟨as,hpl6,npl,RF⟩:=I6.at';have hV:=I6.sm _ _ nDt gE;have SB6:=SB3.sm TA3 I6.sm;refine{1,D,ow,0,AD.of hV,by lia,fun so ms hso pms sos=>?_};have s7:=zF (o:=.lst (ms.map V.int)) hso;refine{so,1,.inl {AD.of zI,fun b hb=>?_}};have s8:=s7.trans (zF (o:=.tup (ms.map V.int)) hb);have hb8:(upd (upd H6 so (.lst (ms.map V.int))) b (.tup (ms.map V.int))) b=some (.tup (ms.map V.int)):=zI;generalize upd (upd H6 so (.lst (ms.map V.int))) b (.tup (ms.map V.int))=H8 at s8 hb8 ⊢;have T8:CG H8 t tp (N+1+(1+r).toNat+1+1):=I6.tape.keepF (fun o e=>s8 _ _ e) (fun o e=>s8 _ _ e) (zK _);have SB8:=SB6.same s8;have RF8:=RF.same s8;have hpl8:=s8 _ _ hpl6;have fl:=Tt ok.ne;have fl':=pf.length_eq;have sm08:Sm t H H8:=(s3.trans I6.sm).trans (Sm.of s8);refine{1,pl,0,{_,AD.of hpl8},[.ref t,.ref bl],0,fun D2 fM=>?_};have nD2t:D2≠t:=Ae.ne ⟨tp,T8⟩ fM;have nD2p:D2≠tp:=(CG.ne2 T8 fM).2;have sD:=zF (o:=.lst []) fM;refine Nf (a:=pl) (xs:=as.map V.ref) (fun i ys H9=>∃ks:List Aj,Fp ts (fs.take i) ks/\Bh H9 ys (CD ks)/\Sm t H8 H9/\CG H9 t tp (N+1+(1+r).toNat+1+1+4*(fs.take i).flatten.length)/\H9 D2=some (.lst ys)/\i<=fs.length)
      {[],by rw[Gf];exact .nil,.nil,Sm.of sD,T8.keepF (fun o e=>sD _ _ e) (fun o e=>sD _ _ e) (by lia),zI,zh _} (fun i ys H9 z=>?_) (fun i ys H9 z=>?_) (fun i x ys H9 hx z=>?_) (fun ys H9 z=>?_)
     . obtain⟨_,_,_,sm9,_⟩:=z;exact AD.of (sm9 _ _ I6.nt hpl8)
     . obtain⟨ks,R,S9,_,_,_,hi⟩:=z;have:=(R.all).2.2.2.2.2;rw[Jj S9,II,this,zp];exact Aq (by lia)
     . obtain⟨ks,R,S9,sm9,T9,hD9,hi⟩:=z;obtain⟨a,ha,rfl⟩:∃a,as[i]?=some a/\V.ref a=x:=by
        rw[zN] at hx;cases e:as[i]? with
        | none=>rw[e] at hx;cases hx
        | some a=>rw[e] at hx;exact{a,0,zV hx}
       have hif:i<fs.length:=by rw[<-RF.1];exact (zG.mp ha).1
       have ef:fs[i]?=some fs[i]:=zD hif;have hfm:fs[i]∈fs:=El hif;have iB:=RF8.2 i a _ ha ef;generalize fs[i]=g at ef hfm iB;have etk:fs.take (i+1)=fs.take i++[g]:=by rw[zu,ef];rfl
       have efl:(fs.take (i+1)).flatten.length=(fs.take i).flatten.length+g.length:=by rw[etk,Vd,zH]
       have ele:(fs.take (i+1)).flatten.length<=fs.flatten.length:=by
        have e:=Jw (i+1) fs
        conv=>rhs;rw[<-e]
        rw[List.flatten_append,zH]
        lia
       have gsub:g.Sublist fs.flatten:=List.sublist_flatten_of_mem hfm;have gnd:g.Nodup:=(pf.nodup_iff.mpr ndl).sublist gsub;have TA8:Ae H8 t _:=⟨tp,T8⟩;have TA9:Ae H9 t _:=⟨tp,T9⟩;refine{{3},?_};refine Bf ?_;refine{1,5,t,tp,bl,a,n,ts,_,g,0,T9,by lia,SB8.sm TA8 sm9,G,sm9 _ _ (WC TA8 iB) iB,gnd,fun x hx=>rng x (hp.mem_iff.mp (zg.mpr (.inr (pf.mem_iff.mp (gsub.subset hx))))),List.length_pos_iff.mpr (ok.ne g hfm),by lia,by lia,fun v p H10 sm10 T10 S10 R10=>?_};have jQ:=sm10 _ _ nD2t hD9;have kT:∀b zs,H10 b=some (.tup zs)->upd H10 D2 (.lst (ys++[v])) b=some (.tup zs):=fun b zs e=>by rw[zj (Bu e jQ (by intro z;cases z))];exact e
       refine{jQ,ks++[p],by rw[etk];exact R.snoc R10,?_,(sm9.trans sm10).chg fM,T10.keepF (fun o e=>by rw[zj nD2t.symm];exact e) (fun o e=>by rw[zj nD2p.symm];exact e) (by lia),zI,hif};rw[WV];exact dR (NY kT ks (KQ TA9 sm10 S9)) (Sl kT p S10)
     . obtain⟨ks,R,S9,sm9,T9,hD9,hi⟩:=z;rw[zB,RF.1,zW (zK _)] at R T9;refine{D2,1,.inl {AD.of hD9,fun c hc=>{Al,fun e he=>?_}}};have iE:=(zF (o:=.tup ys) hc).trans (zF (o:=.tup [.ref b,.ref c]) he);have hb10:=iE _ _ (sm9 _ _ (Te ⟨tp,T8⟩ hb8) hb8);refine k (.ref e) (.mk ms ks) _ ((sm08.trans sm9).trans (Sm.of iE)) (T9.keepF (fun o e=>iE _ _ e) (fun o e=>iE _ _ e) (by lia)) ?_ (NH.build hp nd pms sos (fun z=>by rw[z] at ol;exact absurd ol (by simp)) pf ok R ik);rw[BS];exact .tup zI (.cons (.tup hb10 (S8 _)) (.cons (.tup (zF he _ _ zI) (NY (fun b zs e=>iE _ _ e) ks S9)) .nil))
noncomputable abbrev Tw:Stmt:=top 90
noncomputable abbrev Lp:Stmt:=top 91
noncomputable abbrev VP:Stmt:=top 92
theorem TU :∀{xs:List V}{ks:List (List Int)}(m:Nat),Ao H xs ks->Ao H (xs.take m) (ks.take m)
 | _,_,0,_=>by rw[Gf,Gf];trivial
 | [],[],_+1,_=>trivial
 | [],_::_,_+1,h=>h.elim
 | _::_,[],_+1,h=>h.elim
 | _::_,_::_,m+1,h=>{h.1,TU m h.2}
theorem Tv :∀{xs:List V}{ks:List (List Int)}(m:Nat),Ao H xs ks->Ao H (xs.drop m) (ks.drop m)
 | _,_,0,h=>h
 | [],[],_+1,_=>trivial
 | [],_::_,_+1,h=>h.elim
 | _::_,[],_+1,h=>h.elim
 | _::_,_::_,m+1,h=>Tv m h.2
theorem RQ :∀{xs ys:List V}{ks js:List (List Int)},Ao H xs ks->Ao H ys js->Ao H (xs++ys) (ks++js)
 | [],_,[],_,_,g=>g
 | [],_,_::_,_,h,_=>h.elim
 | _::_,_,[],_,h,_=>h.elim
 | _::_,_,_::_,_,h,g=>{h.1,RQ h.2 g}
theorem Kc (G:GW n ts)(s:us.Sublist ts):GW n us:={G.n1,G.n24,Cv s.length_le G.len,fun t ht=>G.rng t (s.subset ht),G.dis.sublist s}
theorem cR (G:GW n (us++[(a,b,l)]++vs))(k1:1<=k)(k2:k<=99):GW n (us++[(a,b,k)]++vs):=by
 have r:=G.rng (a,b,l) (by simp);have e:∀z:Int,(us++[(a,b,z)]++vs).map (fun t:T3=>(t.1,t.2.1))=us.map (fun t:T3=>(t.1,t.2.1))++[(a,b)]++vs.map (fun t:T3=>(t.1,t.2.1)):=fun z=>by simp
 have d:=G.dis;refine{G.n1,G.n24,by have:=G.len;simp at this ⊢;lia,fun t ht=>?_,?_}
 . simp only[zg,zl] at ht;rcases ht with (ht | rfl) | ht
   . exact G.rng t (by simp[ht])
   . exact⟨r.1,r.2.1,r.2.2.1,k1,k2⟩
   . exact G.rng t (by simp[ht])
 . have key:∀l:List T3,(l.Pairwise fun s t=>¬ (s.1=t.1/\s.2.1=t.2.1))↔(l.map fun t:T3=>(t.1,t.2.1)).Pairwise fun x y=>¬ (x.1=y.1/\x.2=y.2):=fun l=>by rw[Fq]
   rw[key,e];rw[key,e] at d;exact d
def YB:Sp:=fun vs H Q _=>∃t wa N n ts,vs=[.ref t,.ref wa]/\Ae H t N/\N<800000/\BF H wa n ts /\
 ∀wb us H',BF H' wb n us->Ae H' t (N+203)->Sm t H H'->Q (.ref wb) H'
theorem KI:zw ["_law_tape_here","_law_web_here","_law_n","_law_ties","_law_at","_law_a","_law_b","_law_long"] NI (defScope Tw):=AV
theorem Zr {fD:Addr}(F:Fu K "_law_near" Tw f eQ) (FD:AF K mg "_law_draw" IA fD fdD HP) (GD:AG P w K mg base AJ m fD fdD HP N1)
 (FW:AF K mg "_law_web" Du fW fdW GQ) (GW':AG P w K mg base AJ m fW fdW GQ RP) (eS:mg "len"=none):AG P w K mg base AJ (m+1) f eQ NI YB:=by
 refine F.okD KI fun _ A _ _ H vs Q E hr h=>?_;obtain⟨t,wa,N,n,ts,rfl,T,hN,W,k⟩:=h;have hu:=Ey hr;obtain⟨ta,tys,gB,gG,TA,G⟩:=id W;have n1:=G.n1;have n24:=G.n24;have eU:=TA.length;rw[zB] at eU;have hl:=G.len;refine{_,zR (Gn (pv 1) (CC rfl (zx (AW (i:=2) KI.nd) (zx (AW (i:=3) KI.nd) Br))))
  (zR (Ad (PW.pt (Bb (AR (Va (Nat.lt_of_succ_lt hu)) (pv 3) (Af zM) (AN _)) (Bs (AR BG (AI GD hr FD (zC (pv 0) (CU zM))) zf (AN _))))) (zY (AM (AI GW' hr FW (zC (pv 0) (zC (pv 2) zM))))) Ac)
  (zR (Ab (i:=4) KI.nd (AI GD hr FD (zC (pv 0) (zC (zy Bz eS (zC (pv 3) zM)) zM))))
  (zR (Gn (zt AU (pv 3) (pv 4)) (CC rfl (zx (AW (i:=5) KI.nd) (zx (AW (i:=6) KI.nd) (zx (AW (i:=7) KI.nd) Br)))))
  (zR (Ad (AR BG (AI GD hr FD (zC (pv 0) (CU zM))) zf (AN _)) (zY (AM (Af (zC (pv 2) (zC (Aa RA (Gj Qa (pv 3) Gm (Gv (pv 4))) (Gj Qa (pv 3) (Gv (Aa CA (pv 4) zf)) Gm)) zM))))) Ac)
  (zY (AM (Af (zC (pv 2) (zC (Aa RA (Aa RA (Gj Qa (pv 3) Gm (Gv (pv 4))) (Af (zC (Af (zC (pv 5) (zC (pv 6) (zC (Aa CA (Aa Hm (pv 7) zf) zf) zM)))) zM))) (Gj Qa (pv 3) (Gv (Aa CA (pv 4) zf)) Gm)) zM))))))))),?_}
 refine{1,wa,1,AB.of gB,0,6,2,?_};refine{1,E4,fun p0 jV=>?_};have s0:=zF (o:=.tup []) jV;have hta0:=s0 _ _ gG;refine{ta,p0,tys,3,AB.of hta0,AB.of zI,1,?_};have T0:=T.keep s0;generalize upd H p0 (.tup [])=H0 at s0 hta0 T0 ⊢;refine Bj (fun _=>Ak ?_) (fun ce=>?_)
 . exact{5,t,N,n,0,T0,by lia,n1,n24,fun wb us H' _ W' T' s'=>k wb us H' W' (T'.mono (by lia)) ((Sm.of s0).trans s')}
 refine⟨_,rfl,t,N,3,rfl,T0,by lia,by decide,by decide,fun r1 H1 _ _ T1 e1=>?_⟩;have s1:Sm t H H1:=(Sm.of s0).trans fun b o nb z=>by rw[e1 b nb];exact z
 refine{7,Bj (fun _=>?_) (fun _=>?_)}
 . exact{5,t,N+1,n,0,T1,by lia,n1,n24,fun wb us H' _ W' T' s'=>k wb us H' W' (T'.mono (by lia)) (s1.trans s')}
 have kt:∀b ys,H b=some (.tup ys)->b≠t:=fun b ys z=>Ae.neT T z;have hta1:=s1 _ _ (kt _ _ gG) gG;have pos:0<tys.length:=by
  cases tys with
  | nil=>exact absurd rfl ce
  | cons _ _=>exact Nat.succ_pos _
 refine{5,ta,1,.inr (AB.of hta1),t,N+1,1,T1,by lia,by lia,by lia,fun a0 H2 a00 a01 T2 e2=>?_};obtain⟨at',rfl⟩:∃m:Nat,a0=m:={a0.toNat,by lia};have hat:at'<ts.length:=by lia
 have s2:Sm t H H2:=s1.trans fun b o nb z=>by rw[e2 b nb];exact z
 have hta2:=s2 _ _ (kt _ _ gG) gG;have TA2:=TA.keep fun b ys z=>s2 _ _ (kt _ _ z) z;obtain⟨x,hx⟩:∃x,tys[at']?=some x:={_,zD (by lia)};obtain⟨c,kk,rfl,hkk,hc,_⟩:=TA2.get hx;rw[zN] at hkk;obtain⟨⟨a,b,l⟩,htt,rfl⟩:∃tt:T3,ts[at']?=some tt/\tl tt=kk:=by
  cases z:ts[at']? with
  | none=>rw[z] at hkk;cases hkk
  | some y=>rw[z] at hkk;exact{y,0,zV hkk}
 refine{5,ta,4,.ref c,3,AB.of hta2,CV hx,c,1,AB.of hc,0,6,6,2,?_};refine⟨_,rfl,t,N+1+1,2,rfl,T2,by lia,by decide,by decide,fun r3 H3 _ _ T3 e3=>?_⟩;have s3:Sm t H H3:=s2.trans fun b o nb z=>by rw[e3 b nb];exact z
 have hta3:=s3 _ _ (kt _ _ gG) gG;have TA3:=TA.keep fun b ys z=>s3 _ _ (kt _ _ z) z;have spl:ts.take at'++[(a,b,l)]++ts.drop (at'+1)=ts:=by
  have e:ts.drop at'=(a,b,l)::ts.drop (at'+1):=by rw[M6 hat];rw[zD hat] at htt;rw[zV htt]
  rw[Dk,List.singleton_append,<-e,Jw]
 refine{7,Bj (fun _=>?_) (fun _=>?_)}
 . refine{1,5,(at':Int),0,ta,1,hta3,fun p1 H4 s4 h4=>?_};rw[QP] at h4;refine{5,2,1,ta,1,s4 _ _ hta3,fun p2 H5 s5 h5=>?_};rw[show ((at':Int)+1)=((at'+1:Nat):Int) by lia,R9] at h5;refine{p1,p2,2,s5 _ _ h4,h5,by rw[zp,List.length_drop];exact CT (BV (by lia)),fun p3 H6 s6 h6=>?_};refine{Al,fun wb hwb=>?_};have s36:=(s4.trans s5).trans s6;have s7:=s36.trans (zF (o:=.tup [.int n,.ref p3]) hwb);refine k wb (ts.take at'++ts.drop (at'+1)) _ {p3,_,zI,zF hwb _ _ h6,?_,Kc G ?_} ((T3.keep s7).mono (by lia)) (s3.trans (Sm.of s7))
   . rw[zT,List.map_take,List.map_drop];exact (RQ (TU _ TA3) (Tv _ TA3)).keep fun b ys z=>s7 _ _ z
   . conv=>rhs;rw[<-Jw at' ts]
     exact List.Sublist.append (List.Sublist.refl _) (by rw[<-List.drop_drop];exact List.drop_sublist _ _)
 . refine{1,5,(at':Int),0,ta,1,hta3,fun p1 H4 s4 h4=>?_};rw[QP] at h4;refine{1,5,2,(show (0:Int)<99 by decide),2,GV,fun c1 hc1=>?_};refine{MR,fun c2 i0=>?_};have sc1:=zF (o:=.tup [.int a,.int b,.int (l%99+1)]) hc1;have q1:=zF (o:=.tup [.ref c1]) i0 _ _ (zI (H:=H4) (a:=c1) (o:=.tup [.int a,.int b,.int (l%99+1)]));have s5:=s4.trans (sc1.trans (zF (o:=.tup [.ref c1]) i0));refine{p1,c2,2,(sc1.trans (zF (o:=.tup [.ref c1]) i0)) _ _ h4,zI,by rw[zp];exact CT (BV (by simp;lia)),fun p3 H6 s6 h6=>?_};have s36:=s5.trans s6;refine{5,2,1,ta,1,s36 _ _ hta3,fun p4 H7 s7 h7=>?_};rw[show ((at':Int)+1)=((at'+1:Nat):Int) by lia,R9] at h7;refine{p3,p4,2,s7 _ _ h6,h7,by rw[zH,zp,List.length_drop];exact CT (BV (by simp;lia)),fun p5 H8 s8 h8=>?_};refine{Al,fun wb hwb=>?_};have s38:=(s36.trans s7).trans s8;have s9:=s38.trans (zF (o:=.tup [.int n,.ref p5]) hwb);have q9:=((s6.trans s7).trans s8).trans (zF (o:=.tup [.int n,.ref p5]) hwb) _ _ q1;refine k wb (ts.take at'++[(a,b,l%99+1)]++ts.drop (at'+1)) _ {p5,_,zI,zF hwb _ _ h8,?_,cR (l:=l) (by rw[spl];exact G) (by lia) (by lia)} ((T3.keep s9).mono (by lia)) (s3.trans (Sm.of s9));rw[zT,zT,List.map_take,List.map_drop];refine RQ (RQ ((TU _ TA3).keep fun b ys z=>s9 _ _ z) {{c1,0,q9,by intro z;cases z},trivial}) ((Tv _ TA3).keep fun b ys z=>s9 _ _ z)
theorem Y5 (G:GW n ts)(L:WH ts n rk eM)(hb:∀es∈eM,∀e∈es,0<=e.l/\e.l<=2376):FK n eM:=by refine{L.1,fun es he=>?_,fun es he e h=>(hb es he e h).2};obtain⟨i,hi,e⟩:=zr he;have:=L.1;exact (L.2 i es (by rw[zD hi,e])).kind G (by lia) (by lia)
def Gd (H:Hp)(n:Int)(th:Addr):Prop:=∃la v eM p,H th=some (.lst [.ref la,v])/\EJ H la eM/\FK n eM/\Ag H v (BS p)/\C5 n p
theorem Gd.keep (h:Gd H n th)(s:AE H H'):Gd H' n th:=by obtain⟨la,v,eM,p,h1,h2,h3,h4,h5⟩:=h;exact{la,v,eM,p,s _ _ h1,h2.keep fun b ys e=>s _ _ e,h3,BP s h4,h5}
theorem Gd.sm (h:Gd H n th)(ne:th≠t)(T:Ae H t N)(s:Sm t H H'):Gd H' n th:=by obtain⟨la,v,eM,p,h1,h2,h3,h4,h5⟩:=h;exact{la,v,eM,p,s _ _ ne h1,h2.keep fun b ys e=>s _ _ (Ae.neT T e) e,h3,Tu T s h4,h5}
def ON:Sp:=fun vs H Q _=>∃t wa N n ts,vs=[.ref t,.ref wa]/\Ae H t N/\N<800000/\BF H wa n ts /\
 ∀th H',Gd H' n th->th≠t->Ae H' t (N+120)->Sm t H H'->Q (.ref th) H'
theorem OX:zw ["_law_tape_here","_law_web_here","_law_plan"] NI (defScope Lp):=AV
theorem Ox (F:Fu K "_law_asked" Lp f eQ) (FRp:AF K mg "_law_right_plan" HR fRp fdRp Lq) (GRp:AG P w K mg base AJ m fRp fdRp Lq (QF 24))
 (FBe:AF K mg "_law_beside" HA fBe fdBe DU) (GBe:AG P w K mg base AJ m fBe fdBe DU TZ)
 (FLa:AF K mg "_law_labels" QN fLa fdLa Pm) (GLa:AG P w K mg base AJ m fLa fdLa Pm Tg)
 (FOr:AF K mg "_law_order" RS fOr fdOr GQ) (GOr:AG P w K mg base AJ m fOr fdOr GQ TM) (eY:mg "list"=none) (eN:mg "range"=none):AG P w K mg base AJ (m+1) f eQ NI ON:=by
 refine F.okD OX fun _ A _ _ H vs Q E hr h=>?_;obtain⟨t,wa,N,n,ts,rfl,T,hN,W,k⟩:=h;obtain⟨ta,tys,gB,_,_,G⟩:=id W;have n1:=G.n1;have n24:=G.n24;refine{_,zR (Ab (i:=2) OX.nd (AI GRp hr FRp (zC (pv 0) (zC (AI GBe hr FBe (zC (pv 1) zM)) (zC (XD rfl rfl eY rfl eN (zC (zt AU (pv 1) zf) zM)) zM)))))
  (zY (AM (BO (zC (AI GLa hr FLa (zC (pv 1) (zC (AI GOr hr FOr (zC (pv 0) (zC (zt AU (pv 1) zf) zM))) zM))) (zC (pv 2) zM))))),?_}
 refine{5,wa,n,ts,0,W,fun bl H5 s5 SB=>?_};refine{1,wa,8,AB.of (s5 _ _ gB),0,n,0,by lia,by lia,fun la iS=>?_};have s6:=zF (o:=.lst ((lowTo n.toNat).map V.int)) iS;have s46:=s5.trans s6;obtain⟨tp,TP6⟩:=T.keep s46;have W6:=W.keep s46;refine{t,tp,bl,la,n,ts,_,lowTo n.toNat,0,TP6,by rw[D9];lia,SB.same s6,G,zI,(QY _).imp fun h=>by lia,fun x hx=>by have:=M7.mp hx;lia,by rw[D9];lia,by rw[D9];lia,by rw[D9];lia,fun v p H7 s7 T7 S7 R7=>?_};have sm7:Sm t H H7:=(Sm.of s46).trans s7;have W7:=W6.sm ⟨tp,TP6⟩ s7;obtain⟨ta7,_,hwa7,_⟩:=id W7;rw[D9] at T7;have g:C5 n p:={R7.gd,R7.rs,by have:=R7.ht;rw[D9] at this;lia,R7.pm};refine{1,5,wa,8,AB.of hwa7,0,t,_,n,0,⟨tp,T7⟩,by lia,n1,n24,fun lo os H8 hlo O T8 s8=>?_};refine{wa,lo,n,ts,os,0,W7.sm ⟨tp,T7⟩ s8,hlo,O,fun lb eM rk H9 s9 LA R LO hb=>?_};refine{1,Al,fun th hth=>?_};have iE:=zF (o:=.lst [.ref lb,v]) hth;have T9:=T8.keep s9;exact k th _ {lb,v,eM,p,zI,LA.keep fun b ys e=>iE _ _ e,Y5 G LO hb,BP (s9.trans iE) (Tu ⟨tp,T7⟩ s8 S7),g} (T9.ne hth) ((T9.keep iE).mono (by lia)) ((sm7.trans s8).trans (Sm.of (s9.trans iE)))
def OT:Sp:=fun vs H Q _=>∃wa wh v F,vs=[.ref wa,.int wh,v]/\(wh=0->TL H wa v F)/\(wh≠0->TP H wa v F)/\∀H',AE H H'->Q (.bl true) H'
theorem TL.same (h:TL H wa v F)(s:AE H H'):TL H' wa v F:=by obtain⟨la,n,ts,eM,e,K,f⟩:=h;exact{la,n,ts,eM,e,K.same s,f}
theorem TP.same (h:TP H wa v F)(s:AE H H'):TP H' wa v F:=by obtain⟨n,ts,p,W,S,g,f⟩:=h;exact{n,ts,p,W.keep s,BP s S,g,f}
theorem La:zw ["_law_web_here","_law_which","_law_thing","_law_due","_law_found_here"] Uv (defScope VP):=AV
theorem Pj (F:Fu K "_law_right" VP f eQ) (FX:AF K mg "_law_fault" HI fX fdX B4) (GX:AG P w K mg base AJ m fX fdX B4 (Mm TL))
 (FF:AF K mg "_law_found" HQ fF fdF B4) (GF:AG P w K mg base AJ m fF fdF B4 (D4 TL))
 (FY:AF K mg "_law_plan_fault" HS fY fdY B4) (GY:AG P w K mg base AJ m fY fdY B4 (Mm TP))
 (FG:AF K mg "_law_plan_found" Qu fG fdG B4) (GG:AG P w K mg base AJ m fG fdG B4 (D4 TP)) (i7:mg "repr"=none):AG P w K mg base AJ (m+1) f eQ Uv OT:=by
 refine F.okD La fun _ A _ _ H vs Q E hr h=>?_;obtain⟨wa,wh,v,F0,rfl,tl,tp,k⟩:=h;have hu:=Ey hr;have gf:TQ F0:=by
  by_cases c:wh=0
  . exact (tl c).good
  . exact (tp c).good
 refine{_,zR (Ab (i:=3) La.nd (Hy (AR BG (pv 1) zf (AN _)) (AI GX hr FX (zC (pv 0) (zC (pv 2) zM))) (AI GY hr FY (zC (pv 0) (zC (pv 2) zM)))))
  (zR (Ab (i:=4) La.nd (Hy (AR BG (pv 1) zf (AN _)) (AI GF hr FF (zC (pv 0) (zC (pv 2) zM))) (AI GG hr FG (zC (pv 0) (zC (pv 2) zM)))))
  (zY (AM (BN BG (zy (YO hr) i7 (zC (pv 4) zM)) (zy (YO hr) i7 (zC (Hy (AR (Va (Nat.lt_of_succ_lt hu)) (pv 3) (Af zM) (AN _)) Eh (pv 3)) zM)) (AN _))))),?_}
 refine{1,7,?_};rw[Ew];refine (fun (key:∀(fo:Option (Str×PyData))(q:Addr)(H2:Hp),F0 fo->AE H H2->Ag H2 (.ref q) (fD fo)->_)=>Bj (fun c=>{5,wa,v,F0,0,tl (of_decide_eq_true c),key}) (fun c=>{5,wa,v,F0,0,tp fun z=>c (zO z),key})) (fun fo q H2 hfo s2 S2=>?_);refine{1,7,?_};rw[Ew];refine (fun (kY:F0 none->∀H',AE H2 H'->_)(kN:∀(x:Str)(e:PyData)(q:Addr)(H':Hp),F0 (some (x,e))->AE H2 H'->Ag H' (.ref q) (.tuple [.str x,e])->_)=>Bj (fun c=>{5,wa,v,F0,0,(tl (of_decide_eq_true c)).same s2,kY,kN}) (fun c=>{5,wa,v,F0,0,(tp fun z=>c (zO z)).same s2,kY,kN})) (fun f0 H3 s3=>?_) (fun x e q3 H3 f1 s3 S3=>?_)
 . cases gf.un _ _ hfo f0;refine{1,6,.bl _,(Xs _).mono (by decide) (by decide),1,E4,fun p4 iO=>?_};have hq:H2 q=some (.tup []):=by
    cases S2 with
    | tup e al=>cases al;exact e
   refine{q,p4,[],3,AB.of (zF iO _ _ (s3 _ _ hq)),AB.of zI,1,Ak {6,.bl _,(Xs _).mono (by decide) (by decide),0,?_}};rw[zO rfl];exact k _ ((s2.trans s3).trans (zF iO))
 . cases gf.un _ _ hfo f1;have ff:=gf.fn _ _ f1;have S2:Ag H2 (.ref q) (.tuple [.str x,e]):=S2;refine{1,6,S3,ff,1,E4,fun p4 iO=>?_};obtain⟨xs,hq,hx⟩:∃xs,H2 q=some (.tup xs)/\xs.isEmpty=false:=by
    cases S2 with
    | tup e al=>cases al;exact{_,e,0}
   have s34:=s3.trans (zF (o:=.tup []) iO);refine{q,p4,xs,3,AB.of (s34 _ _ hq),AB.of zI,1,?_};rw[hx];refine AZ {1,6,BP s34 S2,ff,0,?_};rw[zO rfl];exact k _ (s2.trans s34)
def RE (K:AK):Sp:=fun vs H Q _=>∃a,∃(ns:List Int),vs=[.ref a]/\AD K H a (ns.map V.int)/\ns.length<=63/\∀H',Q (.bl true) H'
def G9 (H:Hp)(n wh:Int)(u:V):Prop:=(wh=0->∃la eM,u=.ref la/\EJ H la eM/\FK n eM)/\(wh≠0->∃p,Ag H u (BS p)/\C5 n p)
theorem G9.sm (h:G9 H n wh u)(T:Ae H t N)(s:Sm t H H'):G9 H' n wh u:=by
 refine{fun c=>?_,fun c=>?_}
 . obtain⟨la,eM,e,LA,kd⟩:=h.1 c;exact{la,eM,e,LA.keep fun b ys e=>s _ _ (Ae.neT T e) e,kd}
 . obtain⟨p,S,g⟩:=h.2 c;exact{p,Tu T s S,g}
theorem G9.f (h:G9 H n wh u)(W:BF H wx n us):∃F,(wh=0->TL H wx u F)/\(wh≠0->TP H wx u F):=by
 by_cases c:wh=0
 . obtain⟨la,eM,rfl,LA,kd⟩:=h.1 c;exact{_,fun _=>{la,n,us,eM,0,⟨W,LA,kd⟩,0},fun z=>absurd c z}
 . obtain⟨p,S,g⟩:=h.2 c;exact{_,fun z=>absurd z c,fun _=>{n,us,p,W,S,g,0}}
theorem G9.keep (h:G9 H n wh u)(s:AE H H'):G9 H' n wh u:=by
 refine{fun c=>?_,fun c=>?_}
 . obtain⟨la,eM,e,LA,kd⟩:=h.1 c;exact{la,eM,e,LA.keep fun b ys e=>s _ _ e,kd}
 . obtain⟨p,S,g⟩:=h.2 c;exact{p,BP s S,g}
theorem Sq (r0:0<=r)(r1:r<2)(x y:V):(r=0/\BI [x,y] r=some x)\/(r=1/\BI [x,y] r=some y):=by
 rcases (by lia:r=0\/r=1) with rfl | rfl
 . exact .inl {3}
 . exact .inr {3}
structure ET (H:Hp)(t w0 w1 wl tl t0 t1:Addr)(n:Int)(ts us:List T3)(N:Nat):Prop where
 a:BF H w0 n ts
 b:BF H w1 n us
 w:H wl=some (.lst [.ref w0,.ref w1])
 l:H tl=some (.lst [.ref t0,.ref t1])
 nw:wl≠t
 nl:tl≠t
 x:Gd H n t0
 y:Gd H n t1
 nx:t0≠t
 ny:t1≠t
 tp:Ae H t N
theorem ET.keep {tl:Addr}(h:ET H t w0 w1 wl tl t0 t1 n ts us N)(s:AE H H'):ET H' t w0 w1 wl tl t0 t1 n ts us N:=
 {h.a.keep s,h.b.keep s,s _ _ h.w,s _ _ h.l,h.nw,h.nl,h.x.keep s,h.y.keep s,h.nx,h.ny,h.tp.keep s}
theorem ET.sm {tl:Addr}(h:ET H t w0 w1 wl tl t0 t1 n ts us N)(s:Sm t H H')(T:Ae H' t M):ET H' t w0 w1 wl tl t0 t1 n ts us M:=
 {h.a.sm h.tp s,h.b.sm h.tp s,s _ _ h.nw h.w,s _ _ h.nl h.l,h.nw,h.nl,h.x.sm h.nx h.tp s,h.y.sm h.ny h.tp s,h.nx,h.ny,T}
theorem ET.thg {tl:Addr}(h:ET H t w0 w1 wl tl t0 t1 n ts us N)(r0:0<=r)(r1:r<2)(h0:0<=wh)(h1:wh<2):
 ∃th la v u,BI [V.ref t0,.ref t1] r=some (.ref th)/\H th=some (.lst [.ref la,v])/\BI [V.ref la,v] wh=some u/\G9 H n wh u:=by
 obtain⟨th,e,la,v,eM,p,k1,k2,k3,k4,k5⟩:∃th,BI [V.ref t0,.ref t1] r=some (.ref th)/\Gd H n th:=by
  rcases Sq r0 r1 (V.ref t0) (.ref t1) with ⟨_,e⟩ | ⟨_,e⟩
  . exact{_,e,h.x}
  . exact{_,e,h.y}
 rcases Sq h0 h1 (V.ref la) v with ⟨c,e'⟩ | ⟨c,e'⟩
 . exact{th,la,v,_,e,k1,e',fun _=>{la,eM,0,k2,k3},fun z=>absurd c z}
 . exact{th,la,v,_,e,k1,e',fun z=>by lia,fun _=>⟨p,k4,k5⟩}
theorem ET.web {tl:Addr}(h:ET H t w0 w1 wl tl t0 t1 n ts us N)(r0:0<=r)(r1:r<2):∃wx xs,BI [V.ref w0,.ref w1] r=some (.ref wx)/\BF H wx n xs:=by
 rcases Sq r0 r1 (V.ref w0) (.ref w1) with ⟨_,e⟩ | ⟨_,e⟩
 . exact{4,e,h.a}
 . exact{4,e,h.b}
theorem Fv:zw ["_law_script","_law_tape_here","_law_k","_law_first","_law_webs","_law_things","_law_turn","_law_which","_law_thing","_law_at"] Ik (defScope Dy):=AV
theorem KR {cW cP cQ c1 c2 c3 c4 c5 c6 c7 c8 c9 jd jc d1 d2 d3 d4 d5 d6 fI fI2 f fTa fD fW fNu fWi fTo fRs fPl fLl fEe fAl fFa fT fLo fOw fSu fTd fEt fLt fRa fOf fUf fUr fTf fGm fDf fDr fA fLs fFr fOn fJ fNs fOr fEn fLa fLn fLe fLk fLm fLw fHg fLf fLq fFo fIp fPw fPp fCh fCo fPo fLtx fRax fPf fLkx fTfx fLqx fLp fLfx fLc fBe fPa fRp fLx fFox fNr fAk fRi:Addr}{tk:Tok}{fdI fdI2 eQ fdTa fdD fdW fdNu fdWi fdTo fdRs fdPl fdLl fdEe fdAl fdFa jD fdLo fdOw fdSu fdTd fdEt fdLt fdRa fdOf fdUf fdUr fdTf fdGm fdDf fdDr fdA fdLs fdFr fdOn fdJ fdNs fdOr fdEn fdLa fdLn fdLe fdLk fdLm fdLw fdHg fdLf fdLq fdFo fdIp fdPw fdPp fdCh fdCo fdPo fdLtx j5 fdPf fdLkx j4 fdLqx fdLp fdLfx fdLc fdBe fdPa fdRp fdLx fdFox fdNr fdAk fdRi:FuncData}(F:Fu K "law" Dy f eQ) (Er:VC K mg cW cP [c1,c2,c3,c4,c5,c6] [c7,c8,c9,jd,jc])(EI:CK K cP fI)
 (FI:BY K "__init__" "NoLabels.__init__" Rl fI fdI) (bI:BR K fdI C4 []) (mo:PySem.W.mroIn K cP (.type "object")=some true) (Er2:Ul K mg cW cQ [d1,d2,d3,d4,d5,d6] [c7,c8,c9,jd,jc])(EI2:CK K cQ fI2)
 (FI2:BY K "__init__" "NoPlan.__init__" Ha fI2 fdI2) (bI2:BR K fdI2 C4 []) (mo2:PySem.W.mroIn K cQ (.type "object")=some true) (mMW:mg "MOST_WITHIN"=some (.int 24 tk))
 (FTa:AF K mg "_law_tape" UA fTa fdTa Ik)
 (FD:AF K mg "_law_draw" IA fD fdD HP)
 (FW:AF K mg "_law_web" Du fW fdW GQ)
 (FNu:AF K mg "is_number" J4 fNu fdNu Cb)
 (FWi:AF K mg "is_within" N5 fWi fdWi NL)
 (FTo:AF K mg "is_tuple_of" D6 fTo fdTo MC)
 (FRs:AF K mg "is_rising" Dx fRs fdRs G6)
 (FPl:AF K mg "is_place" OM fPl fdPl B5)
 (FLl:AF K mg "is_label" QE fLl fdLl B5)
 (FEe:AF K mg "is_entry" Qr fEe fdEe B5)
 (FAl:AF K mg "are_labels" Qo fAl fdAl B5)
 (FFa:AF K mg "far_entries" Nc fFa fdFa G8)
 (FT:AF K mg "ties_at" N3 fT jD QB)
 (FLo:AF K mg "long_of" NX fLo fdLo Px)
 (FOw:AF K mg "own_place" Hb fOw fdOw ["label"])
 (FSu:AF K mg "least_sum" HD fSu fdSu GZ)
 (FTd:AF K mg "told" Nh fTd fdTd GZ)
 (FEt:AF K mg "entry_of" HX fEt fdEt ["label","hub"])
 (FLt:AF K mg "lets_labels" QW fLt fdLt DW)
 (FRa:BY K "refuse_at" "refuse_at" Nv fRa fdRa) (bRa:BR K fdRa C2 []) (mRa:mg "refuse_at_checker"=some (.ref fRa))
 (FOf:AF K mg "own_fault" Ri fOf fdOf G8)
 (FUf:AF K mg "up_fault" Ro fUf fdUf DL)
 (FUr:AF K mg "is_up_right" RU fUr fdUr Ga)
 (FTf:BY K "tie_fault" "tie_fault" OJ fTf fdTf) (bTf:BR K fdTf DL []) (mTf:mg "tie_fault_checker"=some (.ref fTf))
 (FGm:AF K mg "grows_too_much" Rz fGm fdGm Pp)
 (FDf:AF K mg "down_fault" Rm fDf fdDf DL)
 (FDr:AF K mg "is_down_right" RW fDr fdDr Ga)
 (FA:AF K mg "_law_added" E7 fA fdA DJ)
 (FLs:AF K mg "_law_lesser" HZ fLs fdLs DJ)
 (FFr:AF K mg "_law_far" Hh fFr fdFr DU)
 (FOn:AF K mg "_law_on" RZ fOn fdOn RT)
 (FJ:AF K mg "_law_joined" E3 fJ fdJ DU)
 (FNs:AF K mg "_law_nexts" HM fNs fdNs Rx)
 (FOr:AF K mg "_law_order" RS fOr fdOr GQ)
 (FEn:AF K mg "_law_entry" Qx fEn fdEn QD)
 (FLa:AF K mg "_law_labels" QN fLa fdLa Pm)
 (FLn:AF K mg "_law_is_number" QK fLn fdLn P8)
 (FLe:AF K mg "_law_is_entry" Q7 fLe fdLe DV)
 (FLk:AF K mg "_law_is_label" Qs fLk fdLk DV)
 (FLm:AF K mg "_law_are_labels" RJ fLm fdLm DV)
 (FLw:AF K mg "_law_told" G7 fLw fdLw DJ)
 (FHg:AF K mg "_law_hung" RH fHg fdHg Rw)
 (FLf:AF K mg "_law_tie_fault" HF fLf fdLf Ra)
 (FLq:AF K mg "_law_fault" HI fLq fdLq B4)
 (FFo:AF K mg "_law_found" HQ fFo fdFo B4)
 (FIp:AF K mg "is_plan" RV fIp fdIp Cb)
 (FPw:AF K mg "is_plan_within" Rp fPw fdPw KP)
 (FPp:AF K mg "are_plan_places" Rk fPp fdPp Cb)
 (FCh:AF K mg "chain" Rg fCh fdCh Ez)
 (FCo:AF K mg "chain_or_none" Rc fCo fdCo Ez)
 (FPo:AF K mg "plan_order" N9 fPo fdPo ["plan"])
 (FLtx:AF K mg "lets_plan" QM fLtx fdLtx DW)
 (j7:BY K "refuse_at" "refuse_at" NN fRax j5) (bRax:BR K j5 C2 []) (mRax:mg "refuse_at_plans"=some (.ref fRax))
 (FPf:AF K mg "place_fault" Rb fPf fdPf DO)
 (FLkx:AF K mg "lacks_fault" Rq fLkx fdLkx DO)
 (j6:BY K "tie_fault" "tie_fault" E5 fTfx j4) (bTfx:BR K j4 DO []) (mTfx:mg "tie_fault_plans"=some (.ref fTfx))
 (FLqx:AF K mg "_law_is_places" R1 fLqx fdLqx NJ)
 (FLp:AF K mg "_law_is_plan" Ru fLp fdLp Lc)
 (jS:AF K mg "_law_flat" OG fLfx fdLfx Kb)
 (FLc:AF K mg "_law_chain" RX fLc fdLc Rj)
 (FBe:AF K mg "_law_beside" HA fBe fdBe DU)
 (FPa:AF K mg "_law_parts" G5 fPa fdPa Rh)
 (FRp:AF K mg "_law_right_plan" HR fRp fdRp Lq)
 (FLx:AF K mg "_law_plan_fault" HS fLx fdLx B4)
 (FFox:AF K mg "_law_plan_found" Qu fFox fdFox B4)
 (FNr:AF K mg "_law_near" Tw fNr fdNr NI)
 (FAk:AF K mg "_law_asked" Lp fAk fdAk NI)
 (FRi:AF K mg "_law_right" VP fRi fdRi Uv)
 (eS:mg "len"=none) (eN:mg "range"=none) (eP:mg "tuple"=none) (eR:mg "sorted"=none) (i7:mg "repr"=none) (eY:mg "list"=none) (eT:mg "isinstance"=none) (fq:mg "int"=none) (eZ:mg "bool"=none) (gA:mg "all"=none) (iA:mg "set"=none) (fu:mg "min"=none) (gC:mg "dict"=none) (gH:mg "enumerate"=none) (jG:mg "ValueError"=none):AG P w K mg base AJ 32 f eQ Ik (RE K):=by
 have GTa:AH P w base 31 FTa (Wo K):=(ZM FTa.F).mono;have GD:AH P w base 30 FD N1:=(Xq FD.F eS).mono;have GW':AH P w base 30 FW RP:=(Km FW.F FD eS eN eP eR).mono;have GTo:∀m,AH P w base (m+2) FTo Nx:=fun m=>(Yb FTo.F eT eP eS).mono (by lia);have GPl:AH P w base 3 FPl Hf:=Ia FPl.F FWi FNu eT fq eZ;have GEe:AH P w base 4 FEe Sz:=aW FEe.F FTo FWi FPl FNu eT fq eZ eP eS;have GLl:AH P w base 5 FLl TX:=aV FLl.F FEe GEe FRs ((Ll FRs.F eS eN gA).mono) eT eP eS gA;have GAl:AH P w base 6 FAl S1:=cD FAl.F FTo (GTo 3) FLl GLl gA;have GLo:AH P w base 3 FLo Qv:=(cw FLo.F FT eR).mono;have GTd:AH P w base 2 FTd QR:=aD FTd.F FSu gC fu;have GUr:AH P w base 4 FUr (D5 Hd):=PV FUr.F FLo GLo FEt ((KO FEt.F).mono);have GDr:AH P w base 4 FDr (D5 JF):=O5 FDr.F FLo GLo FTd (GTd.mono);have GFa:AH P w base 4 FFa QI:=(cK FFa.F gH).mono;have GUf:AH P w base 6 FUf (Gg Ic):=(P5 FUf.F FFa GFa FUr GUr).mono;have GDf:AH P w base 6 FDf (Gg NK):=(OL FDf.F FFa GFa FDr GDr).mono;have GOf:AH P w base 6 FOf K6:=(Pk FOf.F FOw ((LV FOw.F).mono) gH).mono;have GTf:AG P w K mg base AJ 6 fTf fdTf DL (Gg Cm):=(Ph FTf FTd (GTd.mono) FT ((VV FT.F eR).mono) FGm ((Om FGm.F).mono) gH eN).mono;have GI:AG P w K mg base AJ 1 fI fdI C4 (Ho cP "word" "at"):=O9 FI EI mo Er.n1 Er.n2;have GRa:AG P w K mg base (BZ P w) 3 fRa fdRa C2 (Mf cP):=cg FRa Er.mP EI bI GI;have GLt:AG P w K mg base (BZ P w) 7 fLt fdLt DW (Mn cP TL):=dS FLt.F FAl GAl FRa bRa mRa (GRa.mono) FOf GOf FUf GUf FTf bTf mTf GTf FDf GDf;have GFo:AH P w base 8 FFo (D4 TL):=Lz FFo.F Er EI FLt GLt eT jG;have GLe:AH P w base 2 FLe Sj:=dP FLe.F FLn eT fq eZ eP eS;have GLk:AH P w base 3 FLk Tr:=bK FLk.F FLe GLe eT eP eR iA;have GLm:AH P w base 4 FLm TJ:=bM FLm.F FLk GLk eT eP eS;have GJ:AH P w base 1 FJ Q8:=YD FJ.F;have GLq:AH P w base 30 FLq (Mm TL):=(L6 FLq.F FLm GLm FJ (GJ.mono) FHg ((ag FHg.F eN eS).mono) FLw ((Kz FLw.F gC fu).mono) FLf ((ML FLf.F eN).mono) eN gC).mono;have GPp:AH P w base 2 FPp Jr:=O2 FPp.F FNu FRs eT fq eZ eP eS eN gA;have GPw:AH P w base 27 FPw (HG 24):=JB FPw.F FPw.b FPw.m FTo FPp GTo (fun m=>GPp.mono (by lia)) eT eP gA 24;have GIp:AH P w base 28 FIp MI:=PZ FIp.F FPw GPw mMW;have GPo:AH P w base 27 FPo (FV 24):=(JS FPo.F FPo.b FPo.m eY eP 24).mono;have GCh:AH P w base 27 FCh (Ld 24):=(O7 FCh.F FCo eP eR iA).mono;have GPf:AH P w base 28 FPf Mk:=Pq FPf.F FPo GPo FPl (GPl.mono);have GLkx:AH P w base 28 FLkx Mk:=PH FLkx.F FPo GPo eN fu;have GTfx:AG P w K mg base AJ 28 fTfx j4 DO Ti:=K5 j6 FCh GCh eN;have GI2:AG P w K mg base AJ 1 fI2 fdI2 C4 (Ho cQ "word" "at"):=Kl FI2 EI2 mo2 Er2.n1 Er2.n2;have GRax:AG P w K mg base (BZ P w) 3 fRax j5 C2 (Mf cQ):=aZ j7 Er2.mP EI2 bI2 GI2;have GLtx:AG P w K mg base (BZ P w) 29 fLtx fdLtx DW (Mn cQ TP):=Z2 FLtx.F FIp GIp j7 bRax mRax (GRax.mono) FPf GPf FLkx GLkx j6 bTfx mTfx GTfx;have GFox:AH P w base 30 FFox (D4 TP):=aT FFox.F Er2 EI2 FLtx GLtx eT jG;have GLqx:AH P w base 1 FLqx Jr:=OH FLqx.F eT fq eZ eP eS eR iA;have GLp:AH P w base 28 FLp (He 24):=(Ie FLp.F FLp.b FLp.m FLqx GLqx eT eP eS 24).mono;have GLfx:AH P w base 28 jS (Fe 24):=(UU jS.F jS.b jS.m eY 24).mono;have GLc:AH P w base 28 FLc (MZ 24):=(Pn FLc.F jS eY eP eR).mono;have GLx:AH P w base 30 FLx (Mm TP):=(L9 FLx.F FLp GLp jS GLfx FLc GLc eN eS).mono;have GR:AH P w base 31 FRi OT:=Pj FRi.F FLq GLq FFo (GFo.mono) FLx GLx FFox GFox i7
 have GOr:AH P w base 30 FOr TM:=(dy FOr.F FD eS eN eP eY).mono;have GFr:AH P w base 3 FFr UD:=(Ks FFr.F FA FLs eN fu).mono;have GOn:AH P w base 3 FOn Kj:=(Ou FOn.F FA).mono;have GEn:AH P w base 3 FEn UG:=bN FEn.F FNs (Lr FNs.F FJ eN);have GLa:AH P w base 30 FLa Tg:=(ZC FLa.F FFr GFr FOn GOn FEn GEn eN eP).mono;have GBe:AH P w base 30 FBe TZ:=(Kk FBe.F eN).mono;have GRp:AH P w base 30 FRp (QF 24):=(VY FRp.F FRp.b FRp.m FD FPa eS eN eP eY eR fu 24).mono;have GAk:AH P w base 31 FAk ON:=Ox FAk.F FRp GRp FBe GBe FLa GLa FOr GOr eY eN;have GNr:AH P w base 31 FNr YB:=Zr FNr.F FD GD FW GW' eS;have GD:AH P w base 31 FD N1:=GD.mono;have GW':AH P w base 31 FW RP:=GW'.mono;refine F.okD Fv fun _ A _ _ H vs Q E hr h=>?_;obtain⟨a,ns,rfl,hS,hlen,k⟩:=h;refine{_,zR (Ab (i:=1) Fv.nd (AI GTa hr FTa (zC (pv 0) zM)))
  (zR (Au (Be rfl eN (CU zM)) (AW (i:=2) Fv.nd)
   (zR (Ab (i:=3) Fv.nd (AI GW' hr FW (zC (pv 1) (zC (Aa CA zf (AI GD hr FD (zC (pv 1) (CU zM)))) zM))))
   (zR (Ab (i:=4) Fv.nd (BO (zC (pv 3) (zC (AI GNr hr FNr (zC (pv 1) (zC (pv 3) zM))) zM))))
   (zR (Ab (i:=5) Fv.nd (BO (zC (AI GAk hr FAk (zC (pv 1) (zC (zt AY (pv 4) zf) zM))) (zC (AI GAk hr FAk (zC (pv 1) (zC (zt AY (pv 4) zf) zM))) zM))))
   (zY (Au (Be rfl eN (CU zM)) (AW (i:=6) Fv.nd)
    (zR (Ab (i:=7) Fv.nd (AI GD hr FD (zC (pv 1) (CU zM))))
    (zR (Ab (i:=8) Fv.nd (zt AY (zt AY (pv 5) (AI GD hr FD (zC (pv 1) (CU zM)))) (pv 7)))
    (zR (Ab (i:=9) Fv.nd (AI GD hr FD (zC (pv 1) (CU zM))))
    (zY (Ad (PW.pt (Bb (BC (A0 (AI GR hr FRi (zC (zt AY (pv 4) (pv 9)) (zC (pv 7) (zC (pv 8) zM)))))) (Bs (BC (A0 (AI GR hr FRi (zC (zt AY (pv 4) (Aa EN zf (pv 9))) (zC (pv 7) (zC (pv 8) zM))))))))) C1 Ac)))))))))))
  (zY (AM Eh))),?_}
 refine{1,a,ns,0,hS,hlen,fun t H1 ht T1 s1=>?_};refine⟨2,rfl,by decide,by decide,CL (lo:=0) (n:=2) (fun q σ H2=>Yr fun (v2 v3 v4 v5 v6 v7 v8 v9:Option V)=>σ=[some (.ref a),some (.ref t),v2,v3,v4,v5,v6,v7,v8,v9]/\Ae H2 t (2000*q)) {9,9,6,T1} (fun q σ H2 hq z=>?_) (fun σ H2 z=>?_)⟩
 . obtain⟨v2,v3,v4,v5,v6,v7,v8,v9,rfl,T2⟩:=z;rw[Bt];refine⟨_,rfl,_,rfl,t,2000*q,6,rfl,T2,by lia,by decide,by decide,fun r H3 r0 r1 T3 e3=>?_⟩;refine⟨_,_,rfl,rfl,t,_,1+r,rfl,T3,by lia,by lia,by lia,fun w0 ts H4 _ W4 T4 s4=>?_⟩;refine{1,5,t,w0,4,ts,0,T4,by lia,W4,fun w1 us H5 W5 T5 s5=>?_};have A5:=W4.sm T4 s5;refine{Al,fun wl hwl=>?_};have s6:=zF (o:=.lst [.ref w0,.ref w1]) hwl;have T6:=T5.keep s6;have nw:=T5.ne hwl;refine{5,wl,4,.ref w0,3,AD.of zI,0,t,w0,4,ts,0,T6,by lia,A5.keep s6,fun t0 H7 X7 n7 T7 s7=>?_};have w7:=s7 _ _ nw zI;have B7:=(W5.keep s6).sm T6 s7;refine{5,wl,4,.ref w1,3,AD.of w7,0,t,w1,4,us,0,T7,by lia,B7,fun t1 H8 X8 n8 T8 s8=>?_};refine{Al,fun tl htl=>?_};have s9:=zF (o:=.lst [.ref t0,.ref t1]) htl;have I:ET _ t w0 w1 wl tl t0 t1 (1+r) ts us (2000*q+1000):={(((A5.keep s6).sm T6 s7).sm T7 s8).keep s9,(B7.sm T7 s8).keep s9,s9 _ _ (s8 _ _ nw w7),zI,nw,T8.ne htl,(X7.sm n7 T7 s8).keep s9,X8.keep s9,n7,n8,(T8.keep s9).mono (by lia)};generalize upd H8 tl (.lst [.ref t0,.ref t1])=H9 at I;clear s9 htl X8 X7 B7 w7 A5 W5 W4 T2 T3 T4 T5 T6 T7 T8 s4 s5 s6 s7 s8;refine⟨12,rfl,by decide,by decide,CL (lo:=0) (n:=12) (fun j σ H5=>NG fun (v6 v7 v8 v9:Option V)=>σ=[some (.ref a),some (.ref t),some (.int q),some (.ref w0),some (.ref wl),some (.ref tl),v6,v7,v8,v9]/\ET H5 t w0 w1 wl tl t0 t1 (1+r) ts us (2000*q+1000+3*j)) {4,6,I} (fun j σ H5 hj z=>?_) (fun σ H5 z=>?_)⟩
   . obtain⟨v6,v7,v8,v9,rfl,I⟩:=z;rw[Bt];refine⟨_,rfl,t,_,2,rfl,I.tp,by lia,by decide,by decide,fun wh H6 h0 h1 T6 e6=>?_⟩;have I6:=I.sm (fun b o nb z=>by rw[e6 b nb];exact z) T6;refine⟨_,rfl,_,rfl,t,_,2,rfl,T6,by lia,by decide,by decide,fun x H7 x0 x1 T7 e7=>?_⟩;have I7:=I6.sm (fun b o nb z=>by rw[e7 b nb];exact z) T7;obtain⟨th,la,v,u,g1,g2,g3,g4⟩:=I7.thg x0 x1 h0 h1;refine{tl,4,.ref th,3,AD.of I7.l,g1,1,th,4,u,3,AD.of g2,g3,?_};refine⟨_,rfl,t,_,2,rfl,T7,by lia,by decide,by decide,fun y H8 y0 y1 T8 e8=>?_⟩;have s8:Sm t H7 H8:=fun b o nb z=>by rw[e8 b nb];exact z
     have I8:=I7.sm s8 T8;have g8:=g4.sm T7 s8;obtain⟨wx,xs,f1,W1⟩:=I8.web y0 y1;obtain⟨F1,l1,p1⟩:=g8.f W1;refine{5,wl,4,.ref wx,3,AD.of I8.w,f1,5,wx,wh,u,F1,0,l1,p1,fun H9 s9=>{1,AZ ?_}};have I9:=I8.keep s9;obtain⟨wy,ys,f2,W2⟩:=I9.web (r:=1-y) (by lia) (by lia);obtain⟨F2,l2,p2⟩:=(g8.keep s9).f W2;refine{5,2,wl,4,.ref wy,3,AD.of I9.w,f2,5,wy,wh,u,F2,0,l2,p2,fun H10 iE=>{1,AZ ?_}};have i5:=I9.keep iE;exact{4,6,{i5.a,i5.b,i5.w,i5.l,i5.nw,i5.nl,i5.x,i5.y,i5.nx,i5.ny,i5.tp.mono (by lia)}}
   . obtain⟨v6,v7,v8,v9,rfl,I⟩:=z;exact{9,9,6,I.tp.mono (by lia)}
 . obtain⟨v2,v3,v4,v5,v6,v7,v8,v9,rfl,_⟩:=z;exact k _
theorem Yx (x q)(st)(f)(pm cd)(l:K.lookup f=some {.type "function",.none,.func (PySem.W.fnOf x q (defArgs st) (defBody st) (defScope st) .none .none .none pm .none cd .none),#[]}:=by kernel_rfl) (c:PySem.W.codeIn K cd q=true:=by kernel_rfl)(k:PySem.W.keepIn K (.ref f)=true:=by kernel_rfl):BY K x q st f (PySem.W.fnOf x q (defArgs st) (defBody st) (defScope st) .none .none .none pm .none cd .none):=WG l c k
theorem VM:∀{us:List Value},us.length=1->∃u0,us=[u0]
 | [u0],_=>{u0,0}
theorem Fc:∀{us:List Value},us.length=2->∃u0 u1,us=[u0,u1]
 | [u0,u1],_=>{u0,u1,0}
theorem K8:∀{us:List Value},us.length=3->∃u0 u1 u2,us=[u0,u1,u2]
 | [u0,u1,u2],_=>{u0,u1,u2,0}
theorem Uo:∀{us:List Value},us.length=4->∃u0 u1 u2 u3,us=[u0,u1,u2,u3]
 | [u0,u1,u2,u3],_=>{u0,u1,u2,u3,0}
theorem walk {l:PySem.W.OpenLaw}{K:Params->AK}(hn:l.most=some 63)(hdf:d.params.defaults=[])
 (hY:∀w h,YP w h->(K w.params).In h)
 (F:∀w mg fa h,(K w.params).In h->h.Ns mainGlobals mg->mg d.name=some (.ref fa) ->
  ∃fd:FuncData,(∀s u,BindsTo s fd {[u],[]} [("_law_script",u)])/\∀base:Heap,(K w.params).In base->base.Ns mainGlobals mg->AG l.prog w (K w.params) mg base AJ 32 fa fd Ik (RE (K w.params))):
 PySem.W.WalkO q loose XP YP l.row.toRowW d [] (fun f vs=>PySem.call f vs):=
 L2.walk_of (n:=63) (k:=32) (x := "_law_script") (CX:=fun _=>AJ) (sp:=fun w=>RE (K w.params)) hn (by decide) hdf {0,by decide,by decide,0} hY F (fun _ _ a ns hl _ hS=>{a,ns,0,hS,hl,fun _=>rfl}) fun _ _ _ _ _ z=>z
theorem fk (w:World)(x:Str)(st:Stmt)(f:Addr)(pm cd:Value)(l:(Kf w.params).lookup f=some {.type "function",.none,.func (PySem.W.fnOf x x (defArgs st) (defBody st) (defScope st) .none .none .none pm .none cd .none),#[]}:=by kernel_rfl) (c:PySem.W.codeIn (Kf w.params) cd x=true:=by kernel_rfl)(k:PySem.W.keepIn (Kf w.params) (.ref f)=true:=by kernel_rfl):BY (Kf w.params) x x st f (PySem.W.fnOf x x (defArgs st) (defBody st) (defScope st) .none .none .none pm .none cd .none):=WG l c k
noncomputable def dL:DefRec:={ name := "law",params:=defArgs Dy,body:=defBody Dy,scope:=defScope Dy,pos:=⟨445,0,457,15⟩ }
theorem fB (KX:K.In h)(G:h.Ns mainGlobals mg)(f)(pm)(l:K.lookup f=some {.type "function",.none,.func (PySem.W.fnOf x x (defArgs st) (defBody st) (defScope st) .none .none .none pm .none (vR (f-1)) .none),#[]}:=by kernel_rfl)(d:PySem.W.codeIn K (vR (f-1)) x=true:=by kernel_rfl)(k:PySem.W.keepIn K (.ref f)=true:=by kernel_rfl)(m:PySem.W.nsIn K mainGlobals x=some (some (.ref f)):=by kernel_rfl)(b:∀us:List Value,us.length=ps.length->bindArgs (PySem.W.fnOf x x (defArgs st) (defBody st) (defScope st) .none .none .none pm .none (vR (f-1)) .none) {us,[]}=pure (ps.zip us):=by
 intro us hl
 first
 | (obtain⟨u0,rfl⟩:=VM hl;rfl)
 | (obtain⟨u0,u1,rfl⟩:=Fc hl;rfl)
 | (obtain⟨u0,u1,u2,rfl⟩:=K8 hl;rfl)
 | (obtain⟨u0,u1,u2,u3,rfl⟩:=Uo hl;rfl)):AF K mg x st f (PySem.W.fnOf x x (defArgs st) (defBody st) (defScope st) .none .none .none pm .none (vR (f-1)) .none) ps:={WG l d k,.all b,PySem.W.mg_of KX G m}
theorem facts (w:World)(mg:By)(fa:Addr)(h:Heap)(KX:(Kf w.params).In h)(G:h.Ns mainGlobals mg)(hmg:mg "law"=some (.ref fa)):∃fd:FuncData,(∀s u,BindsTo s fd {[u],[]} [("_law_script",u)])/\∀base:Heap,(Kf w.params).In base->base.Ns mainGlobals mg->AG (PySem.Challenge.rw_labelways_k42_two_webs_by_turns).prog w (Kf w.params) mg base AJ 32 fa fd Ik (RE (Kf w.params)):=by
 have mk:∀(x:Str)(f:Addr),PySem.W.nsIn (Kf w.params) mainGlobals x=some (some (.ref f))->mg x=some (.ref f):=fun x f e=>PySem.W.mg_of KX G e;have mn:∀x:Str,PySem.W.nsIn (Kf w.params) mainGlobals x=some none->mg x=none:=fun x e=>PySem.W.mg_none_of KX G e;have FRa:=fk w "refuse_at" Nv 375 CZ (vR 374);have bRa:=FRa.binds (ps:=C2) fun _ _ _ _ _ _ us hl=>by obtain⟨u0,u1,rfl⟩:=Fc hl;rfl
 have mRa:=mk "refuse_at_checker" 375 (by kernel_rfl);have FTf:=fk w "tie_fault" OJ 401 CZ (vR 400);have bTf:=FTf.binds (ps:=DL) fun _ _ _ _ _ _ us hl=>by obtain⟨u0,u1,rfl⟩:=Fc hl;rfl
 have mTf:=mk "tie_fault_checker" 401 (by kernel_rfl);have j7:=fk w "refuse_at" NN 284 Bq (vR 283);have bRax:=j7.binds (ps:=C2) fun _ _ _ _ _ _ us hl=>by obtain⟨u0,u1,rfl⟩:=Fc hl;rfl
 have mRax:=mk "refuse_at_plans" 284 (by kernel_rfl);have j6:=fk w "tie_fault" E5 301 Bq (vR 300);have bTfx:=j6.binds (ps:=DO) fun _ _ _ _ _ _ us hl=>by obtain⟨u0,u1,rfl⟩:=Fc hl;rfl
 have mTfx:=mk "tie_fault_plans" 301 (by kernel_rfl);have FZ:=fk w "law" Dy 630 qL (vR 629);have e:=hmg.symm.trans (mk "law" 630 (by kernel_rfl));cases e;have FI:=Yx (K:=Kf w.params) "__init__" "NoLabels.__init__" Rl 41 CN (vR 40);have bI:=FI.binds (ps:=C4) fun _ _ _ _ _ _ us hl=>by obtain⟨u0,u1,u2,rfl⟩:=K8 hl;rfl
 have FI2:=Yx (K:=Kf w.params) "__init__" "NoPlan.__init__" Ha 79 CN (vR 78);have bI2:=FI2.binds (ps:=C4) fun _ _ _ _ _ _ us hl=>by obtain⟨u0,u1,u2,rfl⟩:=K8 hl;rfl
 have Er:VC (Kf w.params) mg 24 44 [63,113,173,82,149,137] [185,101,161,125,197]:={mk "WayError" 24 (by kernel_rfl),by kernel_rfl,mk "NoLabels" 44 (by kernel_rfl),by kernel_rfl,{by kernel_rfl,by kernel_rfl,by kernel_rfl,by kernel_rfl,by kernel_rfl,by kernel_rfl},(by show [mg "NoLeast",mg "NoOrder",mg "NoPart",mg "NoPlan",mg "NoPosts",mg "NoRing"]=_;rw[mk "NoLeast" 63 (by kernel_rfl),mk "NoOrder" 113 (by kernel_rfl),mk "NoPart" 173 (by kernel_rfl),mk "NoPlan" 82 (by kernel_rfl),mk "NoPosts" 149 (by kernel_rfl),mk "NoRing" 137 (by kernel_rfl)];rfl),(by show [mg "NoRow",mg "NoText",mg "NoTie",mg "NoTree",mg "TooMany"]=_;rw[mk "NoRow" 185 (by kernel_rfl),mk "NoText" 101 (by kernel_rfl),mk "NoTie" 161 (by kernel_rfl),mk "NoTree" 125 (by kernel_rfl),mk "TooMany" 197 (by kernel_rfl)];rfl),by kernel_rfl,by kernel_rfl,by kernel_rfl,by kernel_rfl,by kernel_rfl,by kernel_rfl};have EI:CK (Kf w.params) 44 41:={by kernel_rfl,by kernel_rfl,by kernel_rfl,by kernel_rfl,by kernel_rfl};have mo:PySem.W.mroIn (Kf w.params) 44 (.type "object")=some true:=by kernel_rfl
 have Er2:Ul (Kf w.params) mg 24 82 [44,63,113,173,149,137] [185,101,161,125,197]:={mk "WayError" 24 (by kernel_rfl),by kernel_rfl,mk "NoPlan" 82 (by kernel_rfl),by kernel_rfl,{by kernel_rfl,by kernel_rfl,by kernel_rfl,by kernel_rfl,by kernel_rfl,by kernel_rfl},(by show [mg "NoLabels",mg "NoLeast",mg "NoOrder",mg "NoPart",mg "NoPosts",mg "NoRing"]=_;rw[mk "NoLabels" 44 (by kernel_rfl),mk "NoLeast" 63 (by kernel_rfl),mk "NoOrder" 113 (by kernel_rfl),mk "NoPart" 173 (by kernel_rfl),mk "NoPosts" 149 (by kernel_rfl),mk "NoRing" 137 (by kernel_rfl)];rfl),(by show [mg "NoRow",mg "NoText",mg "NoTie",mg "NoTree",mg "TooMany"]=_;rw[mk "NoRow" 185 (by kernel_rfl),mk "NoText" 101 (by kernel_rfl),mk "NoTie" 161 (by kernel_rfl),mk "NoTree" 125 (by kernel_rfl),mk "TooMany" 197 (by kernel_rfl)];rfl),by kernel_rfl,by kernel_rfl,by kernel_rfl,by kernel_rfl,by kernel_rfl,by kernel_rfl};have EI2:CK (Kf w.params) 82 79:={by kernel_rfl,by kernel_rfl,by kernel_rfl,by kernel_rfl,by kernel_rfl};have mo2:PySem.W.mroIn (Kf w.params) 82 (.type "object")=some true:=by kernel_rfl
 have mMW:mg "MOST_WITHIN"=some (.int 24 485):=PySem.W.mg_of KX G (by kernel_rfl);exact{_,fun s v=>.of_eq rfl,fun base _ _=>KR FZ Er EI FI bI mo Er2 EI2 FI2 bI2 mo2 mMW (fB KX G 429 qL) (fB KX G 436 qL) (fB KX G 441 qL) (fB KX G 206 F9) (fB KX G 213 F9) (fB KX G 220 F9) (fB KX G 225 F9) (fB KX G 232 F9) (fB KX G 306 C6) (fB KX G 313 C6) (fB KX G 318 C6) (fB KX G 347 C6) (fB KX G 354 Rr) (fB KX G 361 Rr) (fB KX G 323 C6) (fB KX G 335 C6) (fB KX G 330 C6) (fB KX G 342 C6) (fB KX G 368 CZ) FRa bRa mRa (fB KX G 382 CZ) (fB KX G 389 CZ) (fB KX G 396 CZ) FTf bTf mTf (fB KX G 408 CZ) (fB KX G 415 CZ) (fB KX G 422 CZ) (fB KX G 448 qL) (fB KX G 455 qL) (fB KX G 460 qL) (fB KX G 467 qL) (fB KX G 474 qL) (fB KX G 479 qL) (fB KX G 486 qL) (fB KX G 493 qL) (fB KX G 498 qL) (fB KX G 505 qL) (fB KX G 512 qL) (fB KX G 517 qL) (fB KX G 522 qL) (fB KX G 527 qL) (fB KX G 532 qL) (fB KX G 539 qL) (fB KX G 544 qL) (fB KX G 551 qL) (fB KX G 239 Bq) (fB KX G 244 Bq) (fB KX G 249 Bq) (fB KX G 256 Bq) (fB KX G 263 Bq) (fB KX G 270 Bq) (fB KX G 277 Bq) j7 bRax mRax (fB KX G 291 Bq) (fB KX G 296 Bq) j6 bTfx mTfx (fB KX G 556 qL) (fB KX G 561 qL) (fB KX G 568 qL) (fB KX G 573 qL) (fB KX G 578 qL) (fB KX G 583 qL) (fB KX G 588 qL) (fB KX G 595 qL) (fB KX G 602 qL) (fB KX G 609 qL) (fB KX G 616 qL) (fB KX G 623 qL) (mn _ (by kernel_rfl)) (mn _ (by kernel_rfl)) (mn _ (by kernel_rfl)) (mn _ (by kernel_rfl)) (mn _ (by kernel_rfl)) (mn _ (by kernel_rfl)) (mn _ (by kernel_rfl)) (mn _ (by kernel_rfl)) (mn _ (by kernel_rfl)) (mn _ (by kernel_rfl)) (mn _ (by kernel_rfl)) (mn _ (by kernel_rfl)) (mn _ (by kernel_rfl)) (mn _ (by kernel_rfl)) (mn _ (by kernel_rfl))}
end K42
open PySem PySem.W PyProof.Rows
set_option maxRecDepth 100000 in
set_option maxHeartbeats 0 in
theorem PySem.Challenge.cw_labelways_k42_two_webs_by_turns_holds : PySem.Challenge.rw_labelways_k42_two_webs_by_turns.Holds := by
 refine holds_law K42.wS fun said=>?_;refine holds_open (q:=K42.Vp) (loose:=K42.LZ) (Xt:=fun s=>xlAt K42.Vp [] s && recOk (RowW.records K42.RR) s) (XP:=XL K42.Vp []) (Yf:=Hook.obs K42.HK) (Ya:=Hook.val K42.HK) (YP:=Hook.says K42.HK) (d:=K42.dL) (kwd:=[]) (N:=10188) K42.left (Hook.of K42.HK) (Hook.keeps K42.HK) (fun s e=>xl_of s (Bool.and_eq_true_iff.mp e).1) XL.keeps (by kernel_rfl) (by kernel_rfl) (by kernel_rfl) (fun s e=>recFacts_of (Bool.and_eq_true_iff.mp e).2) (by kernel_rfl) said (by decide +kernel) {0,3,3,by decide +kernel} ?hw ?hc
 case hw=>w_witness2
 case hc=>
  exact K42.walk (l:=PySem.Challenge.rw_labelways_k42_two_webs_by_turns) (K:=K42.Kf) rfl rfl (fun w h Y=>PySem.W.kIn_of Y) K42.facts
