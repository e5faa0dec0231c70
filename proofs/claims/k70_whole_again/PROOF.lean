import PyProof.Rows.All
import Wide.All
import OpenK.AllK
import Wide.FinOn
import Lean
import PyProof.EqAt
import PyProof.EqKinds
import PyProof.TupleCall
import PySem.Syntax
import PySem.Builtin.Int.W1All
import PySem.Eval
import PyProof.StrBlockL
import PyProof.StrBlock2
import PyProof.P3Eq
import PyProof.NeData
import PyProof.Rows.IntBool
import KE.KxIndex
import PyProof.FString5
import KE.KIntText
import PyProof.ExcArgs
import PyProof.RulesAs
import PyProof.RulesDel
import KE.KTryMore
import PyProof.StrCalls2
import PyProof.StrLawsOcc
import PyProof.FitsReplace
import PyProof.DictKinds
import PyProof.MeetsDict
import PyProof.DictList
import PyProof.ZipIter
import PyProof.EnumStmt
import PyProof.ListRange
import PyProof.TupleOfSeq
import PyProof.ConsumeS
import PyProof.Rows.MinMaxGenD
import PyProof.Rows.RuleM_int
import KE.KRevSl
import PyProof.SetNew
import PyProof.Rows.SetFrom
import PyProof.TupleKey
import PyProof.FactsAll.NoneType
import KE.KSortTup
import PyProof.Rows.CallKwBuiltin
import KE.KUnpack
import PySem.Challenge.RW_switchkinds_k70_whole_again
open PySem renaming wpAny_bind->aa,wpAny_pure->ae
open PySem.Heap renaming get?_push_of_some->af,get?_push_size->ag,lt_size->ah,size_push->ai
open Nat renaming le_refl->aj,lt_of_lt_of_le->bd,ne_of_lt->bf,zero_le->bp
open List renaming replicate->ak,length_map->am,mem_map->ao,mem_cons->aq,size_toArray->au,getElem?_eq_some_iff->av,getElem?_set_ne->ay,getElem?_eq_getElem->az,getElem?_set_self->bg,getElem?_append_right->bh,length_append->bj,length_cons->bn,mem_append_right->bo,getElem?_append_left->bq,getD_eq_getElem?_getD->bt
open Bool renaming and_eq_true->ar,false_eq_true->aw,false_ne_true->ba
open False renaming elim->ax
theorem zBd {α β:Type} {o:Option α} {f:α->Option β} {b:β} (h:o.bind f=some b): ∃ a,o=some a/\f a=some b:=Option.bind_eq_some_iff.mp h
theorem zMd {α β:Type} {o:Option α} {f:α->β} {b:β} (h:o.map f=some b): ∃ a,o=some a/\f a=b:=Option.map_eq_some_iff.mp h
theorem zAd {α:Type} {l:List α} {p:α->Bool} (h:l.all p=true): ∀ x,x∈l->p x=true:=List.all_eq_true.mp h
theorem zPd {m n:Nat} (h:m<n):m∈List.range n:=List.mem_range.mpr h
theorem zRd {m n:Nat} (h:m∈List.range n):m<n:=List.mem_range.mp h
set_option Elab.async false
set_option maxRecDepth 100000 in
set_option maxHeartbeats 0 in
theorem zSd:PySem.Challenge.rw_switchkinds_k70_whole_again.wellSaid=true:=by kernel_rfl
set_option linter.all false
set_option maxRecDepth 100000
namespace SK
open PySem PySem.W PyProof.Rows PySem.Calls
noncomputable def aKl (tb:String->Option Builtin) (p:Program) (w:World) (m:Nat) (ann:Option Value) (n:Nat):SharedT->Thread->Option SharedT:=
 Nat.rec (fun _ _=>none) (fun _ ih s t=>match through t with
  | true=>some s
  | false=>match stepOk m ann t with
   | false=>none
   | true=>match stepT (denote tb) p w s t with
    | some r=>ih r.1 r.2
    | none=>none) n
theorem nZ {tb:String->Option Builtin} {p:Program} {w:World} {m:Nat} {ann:Option Value}: ∀ (n:Nat) (s s':SharedT) (t:Thread),aKl tb p w m ann n s t=some s'->topRun tb p w m ann n s.abs t=some s'.abs
 | 0,_,_,_,h=>nomatch h
 | n+1,s,s',t,h=>by
  have h:(match through t with
   | true=>some s
   | false=>match stepOk m ann t with
    | false=>none
    | true=>match stepT (denote tb) p w s t with
     | some r=>aKl tb p w m ann n r.1 r.2
     | none=>none)=some s':=h
  unfold topRun
  cases ht:through t with
  | true=>rw [ht] at h;cases h;rfl
  | false=>
   rw [ht] at h
   cases hk:stepOk m ann t with
   | false=>rw [hk] at h;cases h
   | true=>
    rw [hk] at h
    cases hs:stepT (denote tb) p w s t with
    | none=>rw [hs] at h;cases h
    | some r=>obtain⟨s₂,t₂⟩:=r;rw [hs] at h;rw [stepT_spec hs];exact nZ n _ _ _ h
noncomputable def BTl:Nat->List Obj->BT
 | 0,_=> .nil
 | n+1,l=>match l with
  | []=> .nil
  | v::r=> .node v (BTl n (ev true r)) (BTl n (ev false r))
where
 ev:Bool->List Obj->List Obj
 | _,[]=>[]
 | true,v::r=>v::ev false r
 | false,_::r=>ev true r
noncomputable def bt0 (P:Params):BT:=BTl 12 (boot_heap P).objs.toList
noncomputable def sT0 (P:Params) (os:OsState):SharedT:=⟨bt0 P,(boot_heap P).objs.size,(boot_heap P).life, #[],boot_drawn,boot_toks,os⟩
theorem aG5 (P:Params):absHeap (bt0 P) (boot_heap P).objs.size (boot_heap P).life=boot_heap P:=by kernel_rfl
theorem aDc (P:Params):(boot_heap P).isNs mainGlobals=true:=by kernel_rfl
noncomputable def aDd (p q:Program) (loose:List Str) (Xt:Shared->Bool) {α:Type} (Yf:Shared->α) (P:Params) (s:Shared):=
 (staticsOk (importedModules p.main.body) (boot_heap P) s.heap&&namesBound p s.heap&&gensDone s&&laidKept (boot_heap P) s.heap,openSeen q loose (importedModules p.main.body) Xt true s,Yf s)
noncomputable def aGx (p:Program) (N:Nat) (w:World) (os:OsState):Option SharedT:=aKl treeTable p w (boot_heap w.params).objs.size ((boot_heap w.params).nsMap mainGlobals "__annotations__") N (sT0 w.params os) (topStub p)
theorem left_tree {p q:Program} {loose:List Str} {Xt:Shared->Bool} {α:Type} {Yf:Shared->α} {Ya:World->α} {N:Nat}
  (e:opening p=plainProg p.main.scope.names) (hN:Nat.ble 600 N=true) (f: ∀ s,fenceModules? p s=some s)
  (hk: ∀ w os,(aGx p N w os).map (fun s=>aDd p q loose Xt Yf w.params s.abs)=some (true,openGood q loose,Ya w)):LeftO p q loose Xt Yf Ya N:=fun w=>by
 obtain⟨s0,b1,b2⟩:=zMd (boot_open e hN f w)
 obtain⟨h,gs,d,k,os⟩:=s0
 obtain⟨rfl,rfl,rfl,rfl⟩:h=boot_heap w.params/\gs=Array.mk []/\d=boot_drawn/\k=boot_toks:=by simpa using b2
 obtain⟨s,r,l⟩:=zMd (hk w os)
 obtain⟨l1,l2,l3⟩:_/\_/\_:=by simpa only [aDd,Prod.mk.injEq] using l
 have r':=nZ _ _ _ _ r
 have h0:(sT0 w.params os).abs=⟨boot_heap w.params,Array.mk [],boot_drawn,boot_toks,os⟩:=by
  show(⟨absHeap (bt0 w.params) (boot_heap w.params).objs.size (boot_heap w.params).life, #[],boot_drawn,boot_toks,os⟩:Shared)=_
  rw [aG5]
 rw [h0] at r'
 have t:topFrom treeTable p w N ⟨boot_heap w.params,Array.mk [],boot_drawn,boot_toks,os⟩=some s.abs:=by
  unfold topFrom
  dsimp only
  rw [aDc,r']
  show(match staticsOk (importedModules p.main.body) (boot_heap w.params) s.abs.heap&&namesBound p s.abs.heap&&gensDone s.abs&&laidKept (boot_heap w.params) s.abs.heap with | true=>_ | false=>_)=_
  rw [l1]
 unfold openEnds
 rw [b1]
 show(topFrom treeTable p w N _).map _=_
 rw [t]
 exact congrArg some (Prod.ext l2 l3)
universe u
noncomputable def kt {α:Sort u} (_:α):Bool:=true
noncomputable def q1 (p q:Program) (lo:List Str) (N:Nat) (c:WRecords) (a:List Addr) (w:World) (os:OsState):=(aGx p N w os).map fun s=>aDd p q lo (fun s=>xlAt q [] s&&recOk c s) (fun s=>a.map s.heap.get?) w.params s.abs
theorem tg:kt q1=true:=by k_qdec
noncomputable def q2 (p q:Program) (lo:List Str) (N:Nat) (c:WRecords) (w:World) (os:OsState):=(aGx p N w os).map fun s=>
 ((s.abs).heap.keysOk (looseW q lo) ((recsOf q).map (·.name)) ((litsOf q).map (·.1)) ((clssOf q (looseW q lo)).map (·.name)),(s.abs).heap.accountedOkI (importedModules p.main.body),((s.abs).heap.isNs mainGlobals&&(s.abs).heap.isNs builtinsNs&&tablesOk q (s.abs).heap),(xlAt q [] s.abs&&recOk c s.abs),((s.abs).gens.size==0))
theorem tg2:kt q2=true:=by k_qdec
theorem aKm {p q:Program} {lo:List Str} {N:Nat} {c:WRecords} {a:List Addr} {w:World} {os:OsState} (h1:(q2 p q lo N c w os).map (fun y=>y.1)=some true) (h2:(q2 p q lo N c w os).map (fun y=>y.2.1)=some true) (h3:(q2 p q lo N c w os).map (fun y=>y.2.2.1)=some true) (h4:(q2 p q lo N c w os).map (fun y=>y.2.2.2.1)=some true) (h5:(q2 p q lo N c w os).map (fun y=>y.2.2.2.2)=some true):
  (q1 p q lo N c a w os).map (fun x=>x.2.1.2.2.1)=some true:=by
 unfold q2 at h1 h2 h3 h4 h5
 unfold q1
 cases e:aGx p N w os with
 | none=>rw [e] at h1;cases h1
 | some s=>
  rw [e] at h1 h2 h3 h4 h5
  have g1:=Option.some.inj h1
  have g2:=Option.some.inj h2
  have g3:=Option.some.inj h3
  have g4:=Option.some.inj h4
  have g5:=Option.some.inj h5
  refine congrArg some ?_
  simp only [ar] at g3
  show(_&&_&&_&&_&&_&&_&&_)=true
  simp only [ar]
  exact⟨⟨⟨⟨⟨⟨g1,g2⟩,g3.1.1⟩,g3.1.2⟩,g3.2⟩,Bool.and_eq_true_iff.mp g4⟩,g5⟩
noncomputable def q3 (p q:Program) (lo:List Str) (N:Nat) (w:World) (os:OsState):=(aGx p N w os).map fun s=>
 (seen ((recsOf q).map (·.name)) (ownsOf q) [] { s.abs with gens:= #[] },(s.abs).heap.bltView,tabsOk q s.abs,pinSeenD q (drecsOf q) s.abs,plainSeenE q (looseW q lo) s.abs,plainSeenD q lo s.abs,wideSeen q s.abs,clsSeenW q lo s.abs)
theorem tg3:kt q3=true:=by k_qdec
theorem q1_of {p q:Program} {lo:List Str} {N:Nat} {c:WRecords} {a:List Addr} {w:World} {os:OsState} {k:List (Option Obj)} (hA:(q1 p q lo N c a w os).map (fun x=>x.1)=some true) (hC:(q1 p q lo N c a w os).map (fun x=>x.2.2)=some k)
  (h1:(q2 p q lo N c w os).map (fun y=>y.1)=some true) (h2:(q2 p q lo N c w os).map (fun y=>y.2.1)=some true) (h3:(q2 p q lo N c w os).map (fun y=>y.2.2.1)=some true) (h4:(q2 p q lo N c w os).map (fun y=>y.2.2.2.1)=some true) (h5:(q2 p q lo N c w os).map (fun y=>y.2.2.2.2)=some true)
  (g0:(q3 p q lo N w os).map (fun y=>y.1)=some (expectedOf q)) (g1:(q3 p q lo N w os).map (fun y=>y.2.1)=some bltViewBooted) (g2:(q3 p q lo N w os).map (fun y=>y.2.2.1)=some true) (g3:(q3 p q lo N w os).map (fun y=>y.2.2.2.1)=some (pinGoodD (drecsOf q)))
  (g4:(q3 p q lo N w os).map (fun y=>y.2.2.2.2.1)=some (plainGoodE q (looseW q lo))) (g5:(q3 p q lo N w os).map (fun y=>y.2.2.2.2.2.1)=some (plainGoodD q lo)) (g6:(q3 p q lo N w os).map (fun y=>y.2.2.2.2.2.2.1)=some (wideGood q)) (g7:(q3 p q lo N w os).map (fun y=>y.2.2.2.2.2.2.2)=some (clsGoodW q lo)):
  q1 p q lo N c a w os=some (true,openGood q lo,k):=by
 have hB:=aKm (a:=a) h1 h2 h3 h4 h5
 unfold q3 at g0 g1 g2 g3 g4 g5 g6 g7
 unfold q1 at hA hB hC ⊢
 cases e:aGx p N w os with
 | none=>rw [e] at hA;cases hA
 | some s=>
  rw [e] at hA hB hC g0 g1 g2 g3 g4 g5 g6 g7
  refine congrArg some (Prod.ext (Option.some.inj hA) (Prod.ext ?_ (Option.some.inj hC)))
  exact Prod.ext (Option.some.inj g0) (Prod.ext (Option.some.inj g1) (Prod.ext (Option.some.inj hB) (Prod.ext (Option.some.inj g2) (Prod.ext (Option.some.inj g3) (Prod.ext (Option.some.inj g4) (Prod.ext (Option.some.inj g5) (Prod.ext (Option.some.inj g6) (Option.some.inj g7))))))))
end SK
set_option maxHeartbeats 0
namespace L2
open PySem
noncomputable def defArgs (s:Stmt):Arguments:=match s with
 | .FunctionDef _ a _ _ _ _ _ _ _ _=>a
 | _=>{ posonlyargs:=[],args:=[],vararg:=none,kwonlyargs:=[],kw_defaults:=[],kwarg:=none,defaults:=[] }
noncomputable def defBody (s:Stmt):List Stmt:=match s with
 | .FunctionDef _ _ b _ _ _ _ _ _ _=>b
 | _=>[]
noncomputable def defScope (s:Stmt):Scope:=match s with
 | .FunctionDef _ _ _ _ _ _ sc _ _ _=>sc
 | _=>{ kind:= .function,names:=[],isGenerator:=false,isCoroutine:=false }
end L2
namespace SK.k70
open PySem
noncomputable def top (i:Nat):Stmt:=PySem.Challenge.pw_switchkinds_k70_whole_again.main.body.getD i (.Pass ⟨0,0,0,0⟩)
noncomputable abbrev en (P:Params) (k:Str) (t:Nat) (v:Value):DictEntry:=⟨PyData.keyHash P k, .str k t,v⟩
noncomputable abbrev fo (st:Stmt) (x m:Str) (t c:Nat):Obj:={ cls:= .type "function",data:= .func { name:=x,qualname:=x,params:=L2.defArgs st,body:= .stmts (L2.defBody st),scope:=L2.defScope st,globals:=3,closure:=[],defaults:= .none,kwdefaults:= .none,pyModule:= .str m t,code:= .ref c } }
noncomputable abbrev co (vs:Array Value):Obj:={ cls:= .type "code",data:= .fields vs }
noncomputable abbrev cC (x:Str) (a l n r e:Nat) (u v w:Value):Obj:=co #[.str x a, .str x (a+1), .str "/claim/cut.py" (a+2), .int l 0, .int n 0, .int 0 0, .int 0 0, .int 3 0, .ref r, .bool true, .int 181 0, .ref (r+1), .none,u,v,w, .int e 0, .int l 0, .str "/claim/cut.py" (e+1)]
noncomputable abbrev cA (x:Str) (a l n r e:Nat):Obj:=cC x a l n r e .none .none (.ref (r+2))
noncomputable abbrev cB (x:Str) (a l n r e:Nat):Obj:=cC x a l n r e (.ref (r+2)) (.ref (r+3)) (.ref (r+4))
noncomputable abbrev cK (x:Str) (f c ns s a b:Nat):Obj:={ cls:= .type "type",data:= .cls { name:=x,bases:=[.ref c],mro:=[.ref f, .ref c, .type "ValueError", .type "Exception", .type "BaseException", .type "object"],ns:=ns,qualname:=x },slots:= #[some (.ref s),none,some (.str x a),some (.str x b),some (.builtin "ValueError.__new__"),some (.bool true)] }
noncomputable abbrev dK (P:Params) (m:Str) (q a l r:Nat):Obj:={ cls:= .type "dict",data:= .dict #[en P "__module__" a (.str m q),en P "__firstlineno__" (a+4) (.int l (a+3)),en P "__static_attributes__" (a+5) (.ref r),en P "__doc__" (a+6) .none] 2 }
noncomputable def kK:Params->PySem.W.Frag:=fun P=>[
(3,{ cls:= .type "dict",data:= .dict #[en P "__name__" 165 (.str "law_switchkinds_k70_whole_again" 769),en P "__doc__" 166 .none,en P "__package__" 167 .none,en P "__loader__" 168 (.builtin "__main__.__loader__#opaque"),en P "__spec__" 169 .none,en P "__annotations__" 170 (.ref 6),en P "__builtins__" 171 (.ref 4),en P "__file__" 173 (.str "/claim/cut.py" 172),en P "__cached__" 174 .none,en P "SwitchError" 206 (.ref 24),en P "NoSwitch" 222 (.ref 37),en P "NoName" 238 (.ref 49),en P "NoMove" 254 (.ref 61),en P "Unlike" 270 (.ref 73),en P "NoSums" 286 (.ref 85),en P "NoText" 302 (.ref 97),en P "MOST_NAMES" 306 (.int 4 305),en P "MOST_NAMES_LISTED" 308 (.int 3 307),en P "is_whole" 315 (.ref 106),en P "is_whole_below" 323 (.ref 113),en P "are_whole_below" 329 (.ref 118),en P "is_many" 336 (.ref 125),en P "is_many_listed" 343 (.ref 132),en P "is_row" 352 (.ref 139),en P "all_rows" 363 (.ref 146),en P "how_many_settings" 370 (.ref 153),en P "setting_at" 376 (.ref 158),en P "number_of" 382 (.ref 163),en P "all_settings" 388 (.ref 168),en P "how_many_ones" 395 (.ref 175),en P "is_switch" 404 (.ref 182),en P "check_switch" 411 (.ref 189),en P "check_alike" 419 (.ref 196),en P "check_many" 426 (.ref 203),en P "check_name" 434 (.ref 210),en P "check_worth" 441 (.ref 217),en P "worth_at" 449 (.ref 224),en P "ones" 455 (.ref 229),en P "of_ones" 461 (.ref 234),en P "single" 467 (.ref 239),en P "all_switches" 473 (.ref 244),en P "summed" 481 (.ref 249),en P "sums" 487 (.ref 254),en P "by_weights" 497 (.ref 261),en P "sum_of_names" 503 (.ref 266),en P "nearest" 509 (.ref 271),en P "how_far" 516 (.ref 278),en P "is_sum" 523 (.ref 285),en P "WORDS" 531 (.ref 286),en P "MOST_NAMES_MADE" 533 (.int 2 532),en P "check_switches" 541 (.ref 293),en P "rising_above" 547 (.ref 298),en P "turns_with_names" 553 (.ref 303),en P "classes" 559 (.ref 308),en P "missing" 565 (.ref 313),en P "first_put_in" 571 (.ref 318),en P "put_in" 577 (.ref 323),en P "all_put_in" 583 (.ref 328),en P "grown_by" 594 (.ref 335),en P "made_of" 600 (.ref 340),en P "is_order" 610 (.ref 347),en P "is_move" 618 (.ref 354),en P "check_move" 626 (.ref 361),en P "led" 632 (.ref 366),en P "moved" 638 (.ref 371),en P "all_orders" 644 (.ref 376),en P "all_moves" 654 (.ref 383),en P "how_much" 662 (.ref 388),en P "needed" 668 (.ref 393),en P "with_set" 674 (.ref 398),en P "put_together" 687 (.ref 405),en P "exchanged" 698 (.ref 412),en P "alike_to" 704 (.ref 417),en P "alike_names" 710 (.ref 422),en P "check_listed" 719 (.ref 429),en P "check_one" 726 (.ref 436),en P "check_two" 734 (.ref 443),en P "all_led" 740 (.ref 448),en P "kin_of" 747 (.ref 455),en P "moves_to" 753 (.ref 460),en P "keepers" 760 (.ref 467),en P "are_kin" 768 (.ref 474),en P "_law_cell" 778 (.ref 481),en P "_law_pick" 788 (.ref 488),en P "_law_switch" 794 (.ref 493),en P "_law_setting" 800 (.ref 498),en P "_law_number" 806 (.ref 503),en P "_law_odd" 812 (.ref 508),en P "_law_names" 820 (.ref 515),en P "_law_orders" 826 (.ref 520),en P "_law_move" 832 (.ref 525),en P "_law_moved" 838 (.ref 530),en P "_law_moves" 844 (.ref 535),en P "_law_word" 852 (.ref 542),en P "_law_do" 865 (.ref 549),en P "_law_lists" 874 (.ref 556),en P "law" 880 (.ref 561)] 97 }),
(23,{ cls:= .type "dict",data:= .dict #[en P "__module__" 196 (.str "switchkinds.errors" 187),en P "__firstlineno__" 200 (.int 2 199),en P "__static_attributes__" 201 (.ref 22),en P "__weakref__" 203 (.ref 25),en P "__doc__" 204 .none] 3 }),
(24,{ cls:= .type "type",data:= .cls { name:="SwitchError",bases:=[.type "ValueError"],mro:=[.ref 24, .type "ValueError", .type "Exception", .type "BaseException", .type "object"],ns:=23,qualname:="SwitchError",subclasses:=[.ref 37, .ref 49, .ref 61, .ref 73, .ref 85, .ref 97] },slots:= #[some (.ref 15),none,some (.str "SwitchError" 189),some (.str "SwitchError" 197),some (.builtin "ValueError.__new__"),some (.bool true)] }),
(25,{ cls:= .type "getset_descriptor",data:= .fields #[.str "__weakref__" 202, .ref 24, .builtin "ExceptionGroup.__weakref__", .none] }),
(36,dK P "switchkinds.errors" 187 214 4 35),
(37,cK "NoSwitch" 37 24 36 28 207 215),
(48,dK P "switchkinds.errors" 187 230 6 47),
(49,cK "NoName" 49 24 48 40 223 231),
(60,dK P "switchkinds.errors" 187 246 8 59),
(61,cK "NoMove" 61 24 60 52 239 247),
(72,dK P "switchkinds.errors" 187 262 10 71),
(73,cK "Unlike" 73 24 72 64 255 263),
(84,dK P "switchkinds.errors" 187 278 12 83),
(85,cK "NoSums" 85 24 84 76 271 279),
(96,dK P "switchkinds.errors" 187 294 14 95),
(97,cK "NoText" 97 24 96 88 287 295),
(105,cB "is_whole" 309 19 1 100 313),
(106,fo (top 11) "is_whole" "switchkinds.wholes" 303 105),
(112,cB "is_whole_below" 316 21 2 107 321),
(113,fo (top 12) "is_whole_below" "switchkinds.wholes" 303 112),
(117,cA "are_whole_below" 324 23 2 114 327),
(118,fo (top 13) "are_whole_below" "switchkinds.wholes" 303 117),
(124,cB "is_many" 330 25 1 119 334),
(125,fo (top 14) "is_many" "switchkinds.wholes" 303 124),
(131,cB "is_many_listed" 337 27 1 126 341),
(132,fo (top 15) "is_many_listed" "switchkinds.wholes" 303 131),
(138,cB "is_row" 344 29 3 133 350),
(139,fo (top 16) "is_row" "switchkinds.wholes" 303 138),
(145,cB "all_rows" 353 31 1 140 361),
(146,fo (top 17) "all_rows" "switchkinds.wholes" 303 145),
(152,cB "how_many_settings" 364 40 1 147 368),
(153,fo (top 18) "how_many_settings" "switchkinds.wholes" 303 152),
(157,cA "setting_at" 371 42 2 154 374),
(158,fo (top 19) "setting_at" "switchkinds.wholes" 303 157),
(162,cA "number_of" 377 44 1 159 380),
(163,fo (top 20) "number_of" "switchkinds.wholes" 303 162),
(167,cA "all_settings" 383 46 1 164 386),
(168,fo (top 21) "all_settings" "switchkinds.wholes" 303 167),
(174,cB "how_many_ones" 389 48 1 169 393),
(175,fo (top 22) "how_many_ones" "switchkinds.wholes" 303 174),
(181,cB "is_switch" 398 51 1 176 402),
(182,fo (top 24) "is_switch" "switchkinds.switches" 396 181),
(188,cB "check_switch" 405 55 1 183 409),
(189,fo (top 25) "check_switch" "switchkinds.switches" 396 188),
(195,cB "check_alike" 412 58 2 190 417),
(196,fo (top 26) "check_alike" "switchkinds.switches" 396 195),
(202,cB "check_many" 420 63 1 197 424),
(203,fo (top 27) "check_many" "switchkinds.switches" 396 202),
(209,cB "check_name" 427 66 2 204 432),
(210,fo (top 28) "check_name" "switchkinds.switches" 396 209),
(216,cB "check_worth" 435 69 1 211 439),
(217,fo (top 29) "check_worth" "switchkinds.switches" 396 216),
(223,cB "worth_at" 442 72 2 218 447),
(224,fo (top 30) "worth_at" "switchkinds.switches" 396 223),
(228,cA "ones" 450 77 1 225 453),
(229,fo (top 31) "ones" "switchkinds.switches" 396 228),
(233,cA "of_ones" 456 80 2 230 459),
(234,fo (top 32) "of_ones" "switchkinds.switches" 396 233),
(238,cA "single" 462 86 2 235 465),
(239,fo (top 33) "single" "switchkinds.switches" 396 238),
(243,cA "all_switches" 468 90 1 240 471),
(244,fo (top 34) "all_switches" "switchkinds.switches" 396 243),
(248,cA "summed" 476 95 1 245 479),
(249,fo (top 36) "summed" "switchkinds.sums" 474 248),
(253,cA "sums" 482 102 1 250 485),
(254,fo (top 37) "sums" "switchkinds.sums" 474 253),
(260,cB "by_weights" 488 105 1 255 495),
(261,fo (top 38) "by_weights" "switchkinds.sums" 474 260),
(265,cA "sum_of_names" 498 111 3 262 501),
(266,fo (top 39) "sum_of_names" "switchkinds.sums" 474 265),
(270,cA "nearest" 504 114 1 267 507),
(271,fo (top 40) "nearest" "switchkinds.sums" 474 270),
(277,cB "how_far" 510 121 1 272 514),
(278,fo (top 41) "how_far" "switchkinds.sums" 474 277),
(284,cB "is_sum" 517 123 1 279 521),
(285,fo (top 42) "is_sum" "switchkinds.sums" 474 284),
(286,{ cls:= .type "tuple",data:= .seq #[.str "keeps 0" 526, .str "keeps 1" 527, .str "turned" 528, .str "rising" 529, .str "sum" 530] 0 }),
(292,cB "check_switches" 534 128 1 287 539),
(293,fo (top 46) "check_switches" "switchkinds.classes" 524 292),
(297,cA "rising_above" 542 133 1 294 545),
(298,fo (top 47) "rising_above" "switchkinds.classes" 524 297),
(302,cA "turns_with_names" 548 140 1 299 551),
(303,fo (top 48) "turns_with_names" "switchkinds.classes" 524 302),
(307,cA "classes" 554 143 1 304 557),
(308,fo (top 49) "classes" "switchkinds.classes" 524 307),
(312,cA "missing" 560 149 1 309 563),
(313,fo (top 50) "missing" "switchkinds.classes" 524 312),
(317,cA "first_put_in" 566 153 2 314 569),
(318,fo (top 51) "first_put_in" "switchkinds.classes" 524 317),
(322,cA "put_in" 572 155 2 319 575),
(323,fo (top 52) "put_in" "switchkinds.classes" 524 322),
(327,cA "all_put_in" 578 167 3 324 581),
(328,fo (top 53) "all_put_in" "switchkinds.classes" 524 327),
(334,cB "grown_by" 584 175 3 329 592),
(335,fo (top 54) "grown_by" "switchkinds.classes" 524 334),
(339,cA "made_of" 595 180 2 336 598),
(340,fo (top 55) "made_of" "switchkinds.classes" 524 339),
(346,cB "is_order" 603 191 2 341 608),
(347,fo (top 57) "is_order" "switchkinds.moves" 601 346),
(353,cB "is_move" 611 193 2 348 616),
(354,fo (top 58) "is_move" "switchkinds.moves" 601 353),
(360,cB "check_move" 619 197 2 355 624),
(361,fo (top 59) "check_move" "switchkinds.moves" 601 360),
(365,cA "led" 627 200 2 362 630),
(366,fo (top 60) "led" "switchkinds.moves" 601 365),
(370,cA "moved" 633 202 2 367 636),
(371,fo (top 61) "moved" "switchkinds.moves" 601 370),
(375,cA "all_orders" 639 208 1 372 642),
(376,fo (top 62) "all_orders" "switchkinds.moves" 601 375),
(382,cB "all_moves" 645 216 1 377 652),
(383,fo (top 63) "all_moves" "switchkinds.moves" 601 382),
(387,cA "how_much" 657 226 2 384 660),
(388,fo (top 65) "how_much" "switchkinds.hanging" 655 387),
(392,cA "needed" 663 231 1 389 666),
(393,fo (top 66) "needed" "switchkinds.hanging" 655 392),
(397,cA "with_set" 669 234 3 394 672),
(398,fo (top 67) "with_set" "switchkinds.hanging" 655 397),
(404,cB "put_together" 675 241 3 399 685),
(405,fo (top 68) "put_together" "switchkinds.hanging" 655 404),
(411,cB "exchanged" 688 252 3 406 696),
(412,fo (top 69) "exchanged" "switchkinds.hanging" 655 411),
(416,cA "alike_to" 699 261 2 413 702),
(417,fo (top 70) "alike_to" "switchkinds.hanging" 655 416),
(421,cA "alike_names" 705 263 1 418 708),
(422,fo (top 71) "alike_names" "switchkinds.hanging" 655 421),
(428,cB "check_listed" 713 268 1 423 717),
(429,fo (top 73) "check_listed" "switchkinds.kinds" 711 428),
(435,cB "check_one" 720 271 1 430 724),
(436,fo (top 74) "check_one" "switchkinds.kinds" 711 435),
(442,cB "check_two" 727 274 2 437 732),
(443,fo (top 75) "check_two" "switchkinds.kinds" 711 442),
(447,cA "all_led" 735 277 1 444 738),
(448,fo (top 76) "all_led" "switchkinds.kinds" 711 447),
(454,cB "kin_of" 741 279 1 449 745),
(455,fo (top 77) "kin_of" "switchkinds.kinds" 711 454),
(459,cA "moves_to" 748 282 2 456 751),
(460,fo (top 78) "moves_to" "switchkinds.kinds" 711 459),
(466,cB "keepers" 754 285 1 461 758),
(467,fo (top 79) "keepers" "switchkinds.kinds" 711 466),
(473,cB "are_kin" 761 287 2 468 766),
(474,fo (top 80) "are_kin" "switchkinds.kinds" 711 473),
(480,cB "_law_cell" 771 291 2 475 776),
(481,fo (top 82) "_law_cell" "law_switchkinds_k70_whole_again" 769 480),
(487,cB "_law_pick" 779 297 3 482 786),
(488,fo (top 83) "_law_pick" "law_switchkinds_k70_whole_again" 769 487),
(492,cA "_law_switch" 789 300 3 489 792),
(493,fo (top 84) "_law_switch" "law_switchkinds_k70_whole_again" 769 492),
(497,cA "_law_setting" 795 316 2 494 798),
(498,fo (top 85) "_law_setting" "law_switchkinds_k70_whole_again" 769 497),
(507,cA "_law_odd" 807 320 2 504 810),
(508,fo (top 87) "_law_odd" "law_switchkinds_k70_whole_again" 769 507),
(541,cB "_law_word" 845 349 1 536 850),
(542,fo (top 93) "_law_word" "law_switchkinds_k70_whole_again" 769 541),
(548,cB "_law_do" 853 355 4 543 863),
(549,fo (top 94) "_law_do" "law_switchkinds_k70_whole_again" 769 548),
(555,cB "_law_lists" 866 370 2 550 872),
(556,fo (top 95) "_law_lists" "law_switchkinds_k70_whole_again" 769 555),
(560,cA "law" 875 373 1 557 878),
(561,fo (top 96) "law" "law_switchkinds_k70_whole_again" 769 560)]
noncomputable def kas:List Addr:=[3,23,24,25,36,37,48,49,60,61,72,73,84,85,96,97,105,106,112,113,117,118,124,125,131,132,138,139,145,146,152,153,157,158,162,163,167,168,174,175,181,182,188,189,195,196,202,203,209,210,216,217,223,224,228,229,233,234,238,239,243,244,248,249,253,254,260,261,265,266,270,271,277,278,284,285,286,292,293,297,298,302,303,307,308,312,313,317,318,322,323,327,328,334,335,339,340,346,347,353,354,360,361,365,366,370,371,375,376,382,383,387,388,392,393,397,398,404,405,411,412,416,417,421,422,428,429,435,436,442,443,447,448,454,455,459,460,466,467,473,474,480,481,487,488,492,493,497,498,507,508,541,542,548,549,555,556,560,561]
noncomputable def kq:Program:={ PySem.Challenge.pw_switchkinds_k70_whole_again with main:={ PySem.Challenge.pw_switchkinds_k70_whole_again.main with body:=[top 1,top 2,top 3,top 4,top 5,top 6,top 7,top 9,top 10,top 11,top 12,top 13,top 14,top 15,top 16,top 17,top 18,top 19,top 20,top 21,top 22,top 24,top 25,top 26,top 27,top 28,top 29,top 30,top 31,top 32,top 33,top 34,top 36,top 37,top 38,top 39,top 40,top 41,top 42,top 44,top 45,top 46,top 47,top 48,top 49,top 50,top 51,top 52,top 53,top 54,top 55,top 57,top 58,top 59,top 60,top 61,top 62,top 63,top 65,top 66,top 67,top 68,top 69,top 70,top 71,top 73,top 74,top 75,top 76,top 77,top 78,top 79,top 80,top 82,top 83,top 84,top 85,top 86,top 87,top 88,top 89,top 90,top 91,top 92,top 93,top 94,top 95,top 96] } }
open PySem.W PyProof.Rows
theorem lkA (w:World) (os:OsState):(SK.q1 PySem.Challenge.rw_switchkinds_k70_whole_again.row.prog kq [] 7632 (PySem.W.RowW.records (PySem.W.OpenRow.toRowW PySem.Challenge.rw_switchkinds_k70_whole_again.row)) kas w os).map (fun y=>y.1)=some (true):=by
 have _:=SK.tg
 rw [PySem.W.Fast.te11324695928718235439]
 kernel_rfl
theorem lkC (w:World) (os:OsState):(SK.q1 PySem.Challenge.rw_switchkinds_k70_whole_again.row.prog kq [] 7632 (PySem.W.RowW.records (PySem.W.OpenRow.toRowW PySem.Challenge.rw_switchkinds_k70_whole_again.row)) kas w os).map (fun y=>y.2.2)=some ((kK w.params).map fun p=>some p.2):=by
 have _:=SK.tg
 rw [PySem.W.Fast.te11324695928718235439]
 kernel_rfl
theorem lkD (w:World) (os:OsState):(SK.q2 PySem.Challenge.rw_switchkinds_k70_whole_again.row.prog kq [] 7632 (PySem.W.RowW.records (PySem.W.OpenRow.toRowW PySem.Challenge.rw_switchkinds_k70_whole_again.row)) w os).map (fun y=>y.1)=some (true):=by
 have _:=SK.tg2
 rw [PySem.W.Fast.te16697093707657097016]
 kernel_rfl
theorem lkE (w:World) (os:OsState):(SK.q2 PySem.Challenge.rw_switchkinds_k70_whole_again.row.prog kq [] 7632 (PySem.W.RowW.records (PySem.W.OpenRow.toRowW PySem.Challenge.rw_switchkinds_k70_whole_again.row)) w os).map (fun y=>y.2)=some (true,true,true,true):=by
 have _:=SK.tg2
 rw [PySem.W.Fast.te16697093707657097016]
 kernel_rfl
theorem aM2 (w:World) (os:OsState):(SK.q3 PySem.Challenge.rw_switchkinds_k70_whole_again.row.prog kq [] 7632 w os).map (fun y=>y.1)=some (expectedOf kq):=by
 have _:=SK.tg3
 rw [PySem.W.Fast.te11787831440603559935]
 kernel_rfl
theorem aM3 (w:World) (os:OsState):(SK.q3 PySem.Challenge.rw_switchkinds_k70_whole_again.row.prog kq [] 7632 w os).map (fun y=>y.2.2.1)=some (true):=by
 have _:=SK.tg3
 rw [PySem.W.Fast.te11787831440603559935]
 kernel_rfl
theorem aM4 (w:World) (os:OsState):(SK.q3 PySem.Challenge.rw_switchkinds_k70_whole_again.row.prog kq [] 7632 w os).map (fun y=>y.2.2.2.1)=some (pinGoodD (drecsOf kq)):=by
 have _:=SK.tg3
 rw [PySem.W.Fast.te11787831440603559935]
 kernel_rfl
theorem aM5 (w:World) (os:OsState):(SK.q3 PySem.Challenge.rw_switchkinds_k70_whole_again.row.prog kq [] 7632 w os).map (fun y=>y.2.2.2.2.1)=some (plainGoodE kq (looseW kq [])):=by
 have _:=SK.tg3
 rw [PySem.W.Fast.te11787831440603559935]
 kernel_rfl
theorem aM6 (w:World) (os:OsState):(SK.q3 PySem.Challenge.rw_switchkinds_k70_whole_again.row.prog kq [] 7632 w os).map (fun y=>y.2.2.2.2.2.2.1)=some (wideGood kq):=by
 have _:=SK.tg3
 rw [PySem.W.Fast.te11787831440603559935]
 kernel_rfl
theorem lkH (w:World) (os:OsState):(SK.q3 PySem.Challenge.rw_switchkinds_k70_whole_again.row.prog kq [] 7632 w os).map (fun y=>(y.2.1,y.2.2.2.2.2.1,y.2.2.2.2.2.2.2))=some (bltViewBooted,plainGoodD kq [],clsGoodW kq []):=by
 have _:=SK.tg3
 rw [PySem.W.Fast.te11787831440603559935]
 kernel_rfl
theorem lk (w:World) (os:OsState):SK.q1 PySem.Challenge.rw_switchkinds_k70_whole_again.row.prog kq [] 7632 (PySem.W.RowW.records (PySem.W.OpenRow.toRowW PySem.Challenge.rw_switchkinds_k70_whole_again.row)) kas w os=some (true,PySem.W.openGood kq [],(kK w.params).map fun p=>some p.2):=
 SK.q1_of (lkA w os) (lkC w os) (lkD w os) (by have h:=congrArg (Option.map (·.1)) (lkE w os);rw [Option.map_map] at h;exact h) (by have h:=congrArg (Option.map (·.2.1)) (lkE w os);rw [Option.map_map] at h;exact h) (by have h:=congrArg (Option.map (·.2.2.1)) (lkE w os);rw [Option.map_map] at h;exact h) (by have h:=congrArg (Option.map (·.2.2.2)) (lkE w os);rw [Option.map_map] at h;exact h) (aM2 w os) (by have h:=congrArg (Option.map (·.1)) (lkH w os);rw [Option.map_map] at h;exact h) (aM3 w os) (aM4 w os) (aM5 w os) (by have h:=congrArg (Option.map (·.2.1)) (lkH w os);rw [Option.map_map] at h;exact h) (aM6 w os) (by have h:=congrArg (Option.map (·.2.2)) (lkH w os);rw [Option.map_map] at h;exact h)
theorem left:PySem.W.LeftO PySem.Challenge.rw_switchkinds_k70_whole_again.row.prog kq [] (fun s=>PySem.W.xlAt kq [] s&&PySem.W.recOk (PySem.W.RowW.records (PySem.W.OpenRow.toRowW PySem.Challenge.rw_switchkinds_k70_whole_again.row)) s) (PySem.W.Hook.obs (PySem.W.kHook kK kas (fun _=>by kernel_rfl))) (PySem.W.Hook.val (PySem.W.kHook kK kas (fun _=>by kernel_rfl))) 7632:=SK.left_tree (by kernel_rfl) (by kernel_rfl) (fun _=>by kernel_rfl) lk
end SK.k70
namespace L2
open PySem PySem.Spec PyProof.Rows
abbrev Key:=Sum Int Str
noncomputable def aG6:Key->Value->Bool
 | .inl k,v=>Value.isInt k v
 | .inr x,v=>Value.isStrOf x v
noncomputable def aM7 (w:World):Key->Int
 | .inl k=>hashInt k
 | .inr x=>hashStr w x
theorem bI: ∀ {k:Key} {v:Value},aG6 k v=true->(∃ i t,k=Sum.inl i/\v=Value.int i t)\/(∃ x t,k=Sum.inr x/\v=Value.str x t)
 | .inl i,v,h=>by
  obtain⟨t,e⟩:=Value.isInt_shape (k:=i) (v:=v) h
  exact .inl ⟨i,t,rfl,e⟩
 | .inr x,v,h=>by
  obtain⟨t,e⟩:=Value.isStrOf_shape (x:=x) (v:=v) h
  exact .inr ⟨x,t,rfl,e⟩
theorem aG7 (a b:Int):decide ((Sum.inl a:Key)=Sum.inl b)=(a==b):=by
 by_cases e:a=b
 ·subst e;simp
 ·have h: ¬ (Sum.inl a:Key)=Sum.inl b:=fun q=>e (Sum.inl.inj q)
  rw [decide_eq_false h]
  exact(beq_eq_false_iff_ne.mpr e).symm
theorem aG8 (a b:Str):decide ((Sum.inr a:Key)=Sum.inr b)=decide (a=b):=by
 by_cases e:a=b
 ·subst e;simp
 ·have h: ¬ (Sum.inr a:Key)=Sum.inr b:=fun q=>e (Sum.inr.inj q)
  rw [decide_eq_false h,decide_eq_false e]
theorem aG9 (a:Int) (b:Str):decide ((Sum.inl a:Key)=Sum.inr b)=false:=decide_eq_false (fun q=>nomatch q)
theorem aHa (a:Str) (b:Int):decide ((Sum.inr a:Key)=Sum.inl b)=false:=decide_eq_false (fun q=>nomatch q)
noncomputable def vT (prog:Program) (w:World):PySem.KeyKind prog w Key where
 is:=aG6
 hash:=aM7 w
 inj:=fun v a b ha hb=>by
  rcases bI ha with ⟨i,t,rfl,rfl⟩ | ⟨x,t,rfl,rfl⟩
  ·rcases bI hb with ⟨j,u,rfl,e⟩ | ⟨y,u,rfl,e⟩
   ·injection e with e1 _;rw [e1]
   ·exact nomatch e
  ·rcases bI hb with ⟨j,u,rfl,e⟩ | ⟨y,u,rfl,e⟩
   ·exact nomatch e
   ·injection e with e1 _;rw [e1]
 byValue:=fun k v h=>by
  rcases bI h with ⟨i,t,rfl,rfl⟩ | ⟨x,t,rfl,rfl⟩<;>rfl
 pyHash:=fun hv h=>by
  rcases bI hv with ⟨i,t,rfl,rfl⟩ | ⟨x,t,rfl,rfl⟩
  ·exact wpAny_pyHash_int h
  ·exact wpAny_pyHash_str h
 eqBool:=fun hu hv h=>by
  rcases bI hu with ⟨i,t,rfl,rfl⟩ | ⟨x,t,rfl,rfl⟩
  ·rcases bI hv with ⟨j,u,rfl,rfl⟩ | ⟨y,u,rfl,rfl⟩
   ·rw [aG7] at h;exact wpAny_eqBool_int h
   ·rw [aG9] at h;exact SeqAt.EqAt.int_str i t y u _ _ _ _ h
  ·rcases bI hv with ⟨j,u,rfl,rfl⟩ | ⟨y,u,rfl,rfl⟩
   ·rw [aHa] at h;exact SeqAt.EqAt.str_int x t j u _ _ _ _ h
   ·rw [aG8] at h;exact wpAny_eqBool_str h
 «strs»:=fun k x t v h=>by
  rcases bI h with ⟨i,u,rfl,e⟩ | ⟨y,u,rfl,e⟩
  ·exact nomatch e
  ·injection e with e1 _
   subst e1
   cases v<;>rfl
inductive V where
 | non | bl (b:Bool) | int (i:Int) | str (x:Str) | byt (b:Array UInt8) | flt (b:UInt64) | ref (a:Addr) | ty (n:String)
 deriving DecidableEq
noncomputable def bF:V->Value->Prop
 | .non,u=>u=Value.none
 | .bl b,u=>u=Value.bool b
 | .int i,u=> ∃ t,u=Value.int i t
 | .str x,u=> ∃ t,u=Value.str x t
 | .byt b,u=> ∃ t,u=Value.bytes b t
 | .flt b,u=> ∃ t,u=Value.float b t
 | .ref a,u=>u=Value.ref a
 | .ty n,u=>u=Value.type n
noncomputable abbrev aZ:List V->List Value->Prop:=Paired bF
theorem aZ.length {xs:List V} {us:List Value} (r:aZ xs us):xs.length=us.length:=Paired.length r
theorem aZ.get: ∀ {xs:List V} {us:List Value} {i:Nat} {x:V},aZ xs us->xs[i]? =some x-> ∃ u,us[i]? =some u/\bF x u
 | _,_,_,_, .nil,e=>by simp at e
 | _,_,0,_, .cons r _,e=>by simp at e;subst e;exact⟨_,rfl,r⟩
 | _,_,i+1,x, .cons _ t,e=>by
  obtain⟨u,h1,h2⟩:=aZ.get (i:=i) (x:=x) t (by simpa using e)
  exact⟨u,by simpa using h1,h2⟩
theorem aZ.set {x:V} {u:Value} (r:bF x u): ∀ {xs:List V} {us:List Value} (i:Nat),aZ xs us->aZ (xs.set i x) (us.set i u)
 | _,_,_, .nil=> .nil
 | _,_,0, .cons _ t=> .cons r t
 | _,_,i+1, .cons q t=> .cons q (aZ.set r i t)
theorem aZ.append: ∀ {xs ys:List V} {us ws:List Value},aZ xs us->aZ ys ws->aZ (xs++ys) (us++ws)
 | _,_,_,_, .nil,s=>s
 | _,_,_,_, .cons r t,s=> .cons r (aZ.append t s)
theorem aZ.take: ∀ {xs:List V} {us:List Value} (n:Nat),aZ xs us->aZ (xs.take n) (us.take n)
 | _,_,0,_=> .nil
 | _,_,_+1, .nil=> .nil
 | _,_,n+1, .cons r t=> .cons r (aZ.take n t)
theorem aZ.drop: ∀ {xs:List V} {us:List Value} (n:Nat),aZ xs us->aZ (xs.drop n) (us.drop n)
 | _,_,0,r=>r
 | _,_,_+1, .nil=> .nil
 | _,_,n+1, .cons _ t=>aZ.drop n t
noncomputable def aMc:Option V->Option Value->Prop
 | some v,some u=>bF v u
 | none,none=>True
 | _,_=>False
noncomputable def KV {κ:Type}:List (κ×V)->List (κ×Value)->Prop:=Paired fun(p:κ×V) (q:κ×Value)=>p.1=q.1/\bF p.2 q.2
noncomputable def kV:Key->V
 | .inl i=> .int i
 | .inr x=> .str x
inductive HO where
 /-- a list -/
 | lst (xs:List V)
 /-- a tuple (never changes) -/
 | tup (xs:List V)
 /-- a dict whose keys are ints and texts;one whose keys are tuples of ints and texts (the empty one is both) -/
 | dK (kvs:List (Key×V)) | dT (kvs:List (List Key×V))
 /-- a set of ints:its members,its size -/
 | set (S:Int->Bool) (n:Nat)
 /-- an instance of the class at C,its dict at dx,its attributes -/
 | ins (C dx:Addr) (fs:List (Str×V))
 /-- the dict of the instance at x -/
 | own (x:Addr)
 /-- the dict of an exception -/
 | xd (fs:List (Str×V))
 /-- a bound method,f of x -/
 | met (f x:Addr)
 /-- a range object lo,lo+1, .. below hi -/
 | rng (lo hi:Int)
 /-- a thing that is known to the object (the script;a dict while a loop walks it):read,never written while it is so -/
 | frz (o:Obj) (u:HO)
 /-- a code object's table -/
 | tbl (ps:Array Value)
 /-- any other thing,by what is true of its one object (a def of one's own:SetO a S n:=HO.ext fun h=> ..) -/
 | ext (φ:Heap->Prop)
abbrev Hp:=Addr->Option HO
noncomputable def upd (H:Hp) (a:Addr) (o:HO):Hp:=fun b=>if b=a then some o else H b
theorem aM {H:Hp} {a:Addr} {o:HO}:upd H a o a=some o:=by unfold upd;rw [if_pos rfl]
theorem aO {H:Hp} {a b:Addr} {o:HO} (h:b≠a):upd H a o b=H b:=by unfold upd;rw [if_neg h]
theorem bC {H:Hp} {a b:Addr} {o:HO} (h:H a=some o) (h':H b=none):a≠b:=by
 intro e;subst e;rw [h] at h';cases h'
def aHb (h:Heap) (a:Addr):Prop:= ∃ o,h.get? a=some o/\o.dict=none
section
variable (P:Program) (w:World)
noncomputable def ObjOk (H:Hp) (h:Heap) (a:Addr):HO->Prop
 | .lst xs=>xs.length<=sizeLine/\ ∃ (its:List Value) (n:Nat),aZ xs its/\h.get? a=some { cls:= .type "list",data:= .seq its.toArray n }
 | .tup xs=>xs.length<=sizeLine/\ ∃ its:List Value,aZ xs its/\IsTup h a its.toArray/\aHb h a
 | .dK kvs=>kvs.length<=sizeLine/\(a==sysModules)=false/\ ∃ vs,KV kvs vs/\h.DictOf (vT P w) a vs
 | .dT kvs=>kvs.length<=sizeLine/\(a==sysModules)=false/\ ∃ xs:List (List Key×Addr×Value),
   Paired (fun(p:List Key×V) (q:List Key×Addr×Value)=>p.1=q.1/\H q.2.1=some (.tup (p.1.map kV))/\bF p.2 q.2.2) kvs xs/\
   ∃ o es ep,h.get? a=some o/\o.ExactDict/\o.data= .dict es ep/\es.toList=xs.map (entryOfKey (tupleKind (vT P w)))/\(xs.map (·.1)).Nodup
 | .set S n=>h.SetOf (intKind P w) a S n
 | .ins C dx fs=>H dx=some (.own a)/\fs.length<=1000/\dx≠a/\h.get? a=some (PySem.W.instObj C dx)/\
   ∃ mA,h.Ns1 dx mA/\(∀ f,aMc (fs.lookup f) (mA f))/\PySem.Within mA (fs.map (·.1))
 | .own _=> ∃ o,h.get? a=some o
 | .xd fs=> ∃ mA,h.Ns1 a mA/\ ∀ f,aMc (fs.lookup f) (mA f)
 | .rng lo hi=> ∃ t u v,h.get? a=some { cls:= .type "range",data:= .fields #[.int lo t, .int hi u, .int 1 v] }
 | .frz o u=>h.get? a=some o/\ObjOk H h a u
 | .tbl ps=>h.get? a=some { cls:= .none,data:= .fields ps }
 | .met f x=>h.get? a=some (PySem.W.methodObj (.ref f) (.ref x))
 | .ext φ=>φ h/\(∃ o,h.get? a=some o)/\ ∀ h1 h2:Heap,φ h1->(∀ o,h1.get? a=some o->h2.get? a=some o)->φ h2
def HOk (H:Hp) (h:Heap):Prop:= ∀ a o,H a=some o->ObjOk P w H h a o
end
section
variable {P:Program} {w:World} {H H':Hp} {h h':Heap} {a:Addr} {o:HO}
theorem ObjOk.lt (x:ObjOk P w H h a o):a<h.objs.size:=by
 cases o with
 | lst xs=>obtain⟨_,_,_,_,e⟩:=x;exact ah e
 | tup xs=>obtain⟨_,_,_,p,_⟩:=x;exact p.lt
 | dK kvs=>obtain⟨_,_,_,_,o,_,_,e,_⟩:=x;exact ah e
 | dT kvs=>obtain⟨_,_,_,_,o,_,_,e,_⟩:=x;exact ah e
 | set S n=>obtain⟨o,_,_,_,e,_⟩:=x;exact ah e
 | ins C dx fs=>obtain⟨_,_,_,e,_⟩:=x;exact ah e
 | own y=>obtain⟨_,e⟩:=x;exact ah e
 | xd fs=>obtain⟨_,⟨_,_,_,e,_⟩,_⟩:=x;exact ah e
 | rng lo hi=>obtain⟨_,_,_,e⟩:=x;exact ah e
 | frz ob u=>obtain⟨e,_⟩:=x;exact ah e
 | tbl ps=>exact ah (show h.get? a=some _ from x)
 | met f y=>exact ah (show h.get? a=some _ from x)
 | ext φ=>obtain⟨_,⟨_,e⟩,_⟩:=x;exact ah e
theorem Paired.mapP {α β:Type} {F G:α->β->Prop}: ∀ {l₁:List α} {l₂:List β},Paired F l₁ l₂->(∀ a b,F a b->G a b)->Paired G l₁ l₂
 | _,_, .nil,_=> .nil
 | _,_, .cons r t,f=> .cons (f _ _ r) (Paired.mapP t f)
theorem ObjOk.stay (x:ObjOk P w H h a o) (k: ∀ b u,(b=a\/H b=some (.own a))->h.get? b=some u->h'.get? b=some u)
  (ho: ∀ b,H b=some (.own a)->H' b=some (.own a)) (ht: ∀ b xs,H b=some (.tup xs)->H' b=some (.tup xs)):ObjOk P w H' h' a o:=by
 induction o with
 | lst xs=>obtain⟨z,its,n,r,e⟩:=x;exact⟨z,its,n,r,k _ _ (.inl rfl) e⟩
 | tup xs=>obtain⟨z,its,r,⟨ob,e,c⟩,od,e',d⟩:=x;exact⟨z,its,r,⟨ob,k _ _ (.inl rfl) e,c⟩,od,k _ _ (.inl rfl) e',d⟩
 | dK kvs=>obtain⟨z,y,vs,r,ob,es,ep,e,c⟩:=x;exact⟨z,y,vs,r,ob,es,ep,k _ _ (.inl rfl) e,c⟩
 | dT kvs=>
  obtain⟨z,y,xs,r,ob,es,ep,e,c⟩:=x
  exact⟨z,y,xs,Paired.mapP r fun p q z=>⟨z.1,ht _ _ z.2.1,z.2.2⟩,ob,es,ep,k _ _ (.inl rfl) e,c⟩
 | set S n=>obtain⟨ob,es,ep,t,e,c⟩:=x;exact⟨ob,es,ep,t,k _ _ (.inl rfl) e,c⟩
 | ins C dx fs=>
  obtain⟨d,z,ne,e,mA,⟨od,es,ep,e2,c⟩,r⟩:=x
  exact⟨ho _ d,z,ne,k _ _ (.inl rfl) e,mA,⟨od,es,ep,k _ _ (.inr d) e2,c⟩,r⟩
 | own y=>obtain⟨ob,e⟩:=x;exact⟨ob,k _ _ (.inl rfl) e⟩
 | xd fs=>obtain⟨mA,⟨od,es,ep,e,c⟩,r⟩:=x;exact⟨mA,⟨od,es,ep,k _ _ (.inl rfl) e,c⟩,r⟩
 | rng lo hi=>obtain⟨t,u,v,e⟩:=x;exact⟨t,u,v,k _ _ (.inl rfl) e⟩
 | frz ob u ih=>obtain⟨e,q⟩:=x;exact⟨k _ _ (.inl rfl) e,ih q⟩
 | tbl ps=>
  have e:h.get? a=some { cls:= .none,data:= .fields ps }:=x
  show h'.get? a=some { cls:= .none,data:= .fields ps }
  exact k a _ (.inl rfl) e
 | met f y=>
  have e:h.get? a=some (PySem.W.methodObj (.ref f) (.ref y)):=x
  show h'.get? a=some (PySem.W.methodObj (.ref f) (.ref y))
  exact k a _ (.inl rfl) e
 | ext φ=>obtain⟨p,⟨o,e⟩,st⟩:=x;exact⟨st _ _ p fun o q=>k _ _ (.inl rfl) q,⟨o,k _ _ (.inl rfl) e⟩,st⟩
theorem HOk.lt (x:HOk P w H h) (e:H a=some o):a<h.objs.size:=(x a o e).lt
theorem HOk.fresh (x:HOk P w H h) (e:h.objs.size<=a):H a=none:=by
 cases q:H a with
 | none=>rfl
 | some u=>exact absurd (bd (x.lt q) e) (Nat.lt_irrefl _)
theorem HOk.kept (x:HOk P w H h) (k: ∀ b u,h.get? b=some u->h'.get? b=some u):HOk P w H h':=fun a o e=>
 (x a o e).stay (fun b u _ q=>k b u q) (fun _ q=>q) fun _ _ q=>q
theorem HOk.laid (x:HOk P w H h) (k: ∀ b u,h.get? b=some u->h'.get? b=some u) (hp:h.objs.size<=a) (new:ObjOk P w (upd H a o) h' a o):HOk P w (upd H a o) h':=fun b u e=>by
 have hn:=x.fresh hp
 by_cases hb:b=a
 ·subst hb;rw [aM] at e;cases e;exact new
 ·rw [aO hb] at e
  exact(x b u e).stay (fun c v _ q=>k c v q) (fun c q=>by rw [aO (bC q hn)];exact q) fun c xs q=>by rw [aO (bC q hn)];exact q
end
def Rd (H:Hp) (a:Addr) (u:HO):Prop:=H a=some u\/ ∃ o,H a=some (.frz o u)
theorem Rd.ok {P:Program} {w:World} {H:Hp} {h:Heap} {a:Addr} {u:HO} (r:Rd H a u) (x:HOk P w H h):ObjOk P w H h a u:=by
 rcases r with r | ⟨o,r⟩
 ·exact x a u r
 ·obtain⟨_,q⟩:=x a _ r
  exact q
noncomputable def Mut:Option HO->Prop
 | some (.lst _)=>True
 | some (.dK _)=>True
 | some (.dT _)=>True
 | some (.set _ _)=>True
 | some (.ins _ _ _)=>True
 | some (.ext _)=>True
 | _=>False
section
variable {P:Program} {w:World} {H:Hp} {h h':Heap} {x e:Addr} {o':HO}
theorem HOk.write (ok:HOk P w H h) (mu:Mut (H x)) (he:e=x\/H e=some (.own x)) (k: ∀ b u,b≠e->h.get? b=some u->h'.get? b=some u) (heo: ∃ u,h'.get? e=some u)
  (new:ObjOk P w (upd H x o') h' x o'):HOk P w (upd H x o') h':=fun b u q=>by
 have nown: ∀ c y,H c=some (.own y)->c≠x:=fun c y r z=>by subst z;rw [r] at mu;exact mu
 have ntup: ∀ c xs,H c=some (.tup xs)->c≠x:=fun c xs r z=>by subst z;rw [r] at mu;exact mu
 by_cases hb:b=x
 ·subst hb;rw [aM] at q;cases q;exact new
 ·rw [aO hb] at q
  by_cases hbe:b=e
  ·have q':H b=some (.own x):=by
    rcases he with z | z
    ·exact absurd (hbe.trans z) hb
    ·rw [hbe];exact z
   rw [q] at q';cases q'
   obtain⟨v,hv⟩:=heo
   exact⟨v,by rw [hbe];exact hv⟩
  ·refine(ok b u q).stay (fun c v hc r=>k c v ?_ r) (fun c r=>by rw [aO (nown c b r)];exact r) fun c xs r=>by rw [aO (ntup c xs r)];exact r
   rcases hc with rfl | hc
   ·exact hbe
   ·rintro rfl
    rcases he with z | z
    ·exact nown c b hc z
    ·rw [hc] at z;cases z;exact hb rfl
end
structure Un (fs ex:List Addr) (H H':Hp) (h h':Heap):Prop where
 keep: ∀ b o,h.get? b=some o->H b=none->b∉fs->b∉ex->h'.get? b=some o
 slot: ∀ b o,h.get? b=some o->H b=none->b∈fs->b∉ex-> ∃ sl,h'.get? b=some { o with slots:=sl }
 free: ∀ b o,h.get? b=some o->H b=none->b∉ex->H' b=none
 there: ∀ b o,h.get? b=some o->b∉ex-> ∃ o',h'.get? b=some o'
 tups: ∀ b xs,H b=some (.tup xs)->H' b=some (.tup xs)
 frzs: ∀ b o u,H b=some (.frz o u)->H' b=some (.frz o u)
 tbls: ∀ b ps,H b=some (.tbl ps)-> ∃ more,H' b=some (.tbl (ps++more))
section
variable {fs fs' ex ex':List Addr} {H H1 H2:Hp} {h h1 h2 h':Heap} {a x e:Addr} {o:HO}
theorem Un.any (u:Un fs ex H H1 h h1) {b:Addr} {ob:Obj} (q:h.get? b=some ob) (n:H b=none) (hx:b∉ex): ∃ sl,h1.get? b=some { ob with slots:=sl }:=by
 by_cases hb:b∈fs
 ·exact u.slot b ob q n hb hx
 ·exact⟨ob.slots,u.keep b ob q n hb hx⟩
theorem Un.kept (k: ∀ b u,h.get? b=some u->h'.get? b=some u):Un fs ex H H h h':=
 ⟨fun b ob q _ _ _=>k b ob q,fun b ob q _ _ _=>⟨ob.slots,k b ob q⟩,fun _ _ _ n _=>n,fun b ob q _=>⟨ob,k b ob q⟩,fun _ _ q=>q,fun _ _ _ q=>q,fun _ ps q=>⟨#[],by rw [q];simp⟩⟩
theorem Un.refl:Un fs ex H H h h:=Un.kept fun _ _ q=>q
theorem Un.laid (k: ∀ b u,h.get? b=some u->h'.get? b=some u) (hp:h.objs.size<=a) (hn:H a=none):Un fs ex H (upd H a o) h h' where
 keep:=fun b u q _ _ _=>k b u q
 slot:=fun b u q _ _ _=>⟨u.slots,k b u q⟩
 free:=fun b u q n _=>by rw [aO (bf (bd (ah q) hp))];exact n
 there:=fun b u q _=>⟨u,k b u q⟩
 tups:=fun b xs q=>by rw [aO (bC q hn)];exact q
 frzs:=fun b u xs q=>by rw [aO (bC q hn)];exact q
 tbls:=fun b ps q=>⟨#[],by rw [aO (bC q hn),q];simp⟩
theorem Un.write (mu:Mut (H x)) (he:e=x\/H e=some (.own x)) (k: ∀ b u,b≠e->h.get? b=some u->h'.get? b=some u) (heo: ∃ u,h'.get? e=some u):Un fs ex H (upd H x o) h h':=by
 have hx: ∀ b,H b=none->b≠x:=fun b n z=>by subst z;rw [n] at mu;exact mu
 have hb: ∀ b,H b=none->b≠e:=fun b n z=>by
  subst z
  rcases he with r | r
  ·exact hx b n r
  ·rw [n] at r;cases r
 have hm: ∀ b u,H b=some u-> ¬ Mut (some u)->b≠x:=fun b u q nm z=>by subst z;rw [q] at mu;exact nm mu
 refine⟨fun b u q n _ _=>k b u (hb b n) q,fun b u q n _ _=>⟨u.slots,k b u (hb b n) q⟩,fun b u q n _=>by rw [aO (hx b n)];exact n,fun b u q _=> ?_,
  fun b xs q=>by rw [aO (hm b _ q fun z=>z)];exact q,fun b u xs q=>by rw [aO (hm b _ q fun z=>z)];exact q,fun b ps q=>⟨#[],by rw [aO (hm b _ q fun z=>z),q];simp⟩⟩
 by_cases hbe:b=e
 ·subst hbe;exact heo
 ·exact⟨u,k b u hbe q⟩
end
noncomputable def trk (h:Heap) (H:Hp):List Addr:=(List.range h.objs.size).filter fun a=>(H a).isSome
noncomputable def zV (h:Heap) (H:Hp):Heap:=PySem.W.hideAll h (trk h H)
theorem vU (h:Heap) (H:Hp):(zV h H).objs.size=h.objs.size:=PySem.W.hideAll_size _ _
theorem zW {h:Heap} {H:Hp} {b:Addr} {o:Obj} (e:h.get? b=some o) (n:H b=none):(zV h H).get? b=some o:=
 PySem.W.hideAll_get _ e fun hm=>by
  have q:(H b).isSome=true:=(List.mem_filter.mp hm).2
  rw [n] at q;simp at q
theorem aDe {h:Heap} {H:Hp} {b:Addr} {o:Obj} (e:(zV h H).get? b=some o):h.get? b=some o/\H b=none:=by
 have e':h.get? b=some o:=PySem.W.of_hideAll (trk h H) e
 refine⟨e', ?_⟩
 cases q:H b with
 | none=>rfl
 | some x=>
  have hm:b∈trk h H:=List.mem_filter.mpr ⟨zPd (ah e'),by simp [q]⟩
  have z:(zV h H).get? b=none:=PySem.W.hideAll_none (trk h H) hm
  rw [z] at e;cases e
noncomputable def aDf (g h:Heap) (L:Addr):List (Addr×Obj):=(List.range h.objs.size).filterMap fun a=>if a=L\/(g.get? a).isSome=true then none else(h.get? a).map fun o=>(a,o)
noncomputable def cR (g h:Heap) (L d:Addr):List (Addr×Obj):=(aDf g h L).filter fun p=>decide (p.1≠d)
structure Mod (K:PySem.W.Frag) (mg:Str->Option Value) (base:Heap):Prop where
 kin:K.In base
 glob:base.Ns mainGlobals mg
 blt: ∃ mb,base.Ns builtinsNs mb/\ ∀ x:Str,x≠"__name__"->mb x=bootBuiltins x
 nolimit:base.NoLimit
structure Cx where
 prog:Program
 w:World
 K:PySem.W.Frag
 mg:Str->Option Value
 base:Heap
 A:Around
 N:List Str
 s₀:Shared
 H₀:Hp
 env:Env
 outer:List Env
 stack:List Env
 ex:List Addr
 fn:Str->Bool
 calm:Bool
 pn:List (Addr×Obj)
 xe:Value->Shared->Prop
noncomputable def frs (l:List Env):List Addr:=l.filterMap (·.frame)
noncomputable abbrev Cx.fs (X:Cx):List Addr:=frs X.outer
def Vis (sc:Scope) (x:Str):Prop:=sc.names.lookup x=some .local\/sc.names.lookup x=some .cell\/sc.names.lookup x=some .free
def Loc (sc:Scope) (x:Str):Prop:=sc.names.lookup x=some .local\/sc.names.lookup x=some .cell
def aM8 (env:Env) (h:Heap) (m:Str->Option Value) (x:Str) (u:Value):Prop:=
 (env.kindOf x=some .local/\m x=some u)\/((env.kindOf x=some .cell\/env.kindOf x=some .free)/\ ∃ c,env.cells.lookup x=some c/\h.IsCell c (some u))
structure Cx.Ok (X:Cx):Prop where
 mod:Mod X.K X.mg X.base
 kind:X.env.scope.kind= .function
 glob:X.env.globals=mainGlobals
 blt:X.env.builtins=builtinsNs
 above:X.s₀.heap.objs.size<=X.env.locals
 inj: ∀ x y c,X.env.cells.lookup x=some c->X.env.cells.lookup y=some c->x=y
 has: ∀ x,(X.env.kindOf x=some .cell\/X.env.kindOf x=some .free)-> ∃ c,X.env.cells.lookup x=some c
 cab: ∀ x c,X.fn x=true->X.env.cells.lookup x=some c->X.s₀.heap.objs.size<=c
 hd:X.calm=true->X.A.handled=none
 frames:X.A.frames=some X.stack
 stk:X.stack=X.outer\/(X.stack=X.env::X.outer/\X.env.frame=some X.env.locals)
 exf: ∀ b∈X.ex,b≠X.env.locals/\ ∀ x c,X.env.cells.lookup x=some c->c≠b
 bs: ∀ b o,X.base.get? b=some o->X.s₀.heap.get? b=some o/\X.H₀ b=none
 bsz:X.base.objs.size<=X.s₀.heap.objs.size
 noex: ∀ b o,X.base.get? b=some o->b∉X.ex
 exfs: ∀ b∈X.ex,b∉X.fs
 funs:X.s₀.heap.FunFrames X.base X.outer
 frf: ∀ b∈X.fs,X.H₀ b=none
structure Inv (X:Cx) (pins:List (Addr×Obj)) (σ:List (Option V)) (H:Hp) (s:Shared):Prop where
 ok:X.Ok
 os:s.os=X.s₀.os
 bare:AllBare s.gens
 base:Un X.fs X.ex X.H₀ H X.s₀.heap s.heap
 loc: ∃ m,s.heap.Ns X.env.locals m/\ ∀ (i:Nat) (x:Str) (v:V),X.N[i]? =some x->σ[i]? =some (some v)->Vis X.env.scope x-> ∃ u,bF v u/\aM8 X.env s.heap m x u
 cell: ∀ x c,X.env.cells.lookup x=some c-> ∃ v,s.heap.IsCell c v
 free:H X.env.locals=none
 freeC: ∀ x c,X.env.cells.lookup x=some c->H c=none
 pin: ∀ p∈X.pn++pins,s.heap.get? p.1=some p.2/\H p.1=none/\p.1≠X.env.locals/\p.1∉X.fs/\ ∀ v,p.2.data≠ .cell v
 hok:HOk X.prog X.w H s.heap
 len:σ.length=X.N.length
section
variable {X:Cx} {pins:List (Addr×Obj)} {σ:List (Option V)} {H H':Hp} {s:Shared} {h':Heap}
theorem Cx.Ok.nofr (ok:X.Ok) {b:Addr} {o:Obj} (e:X.base.get? b=some o):b∉X.fs:=fun hb=>by
 have:=(ok.funs.mem hb).1
 rw [e] at this;cases this
theorem Inv.bs (I:Inv X pins σ H s): ∀ b o,X.base.get? b=some o->s.heap.get? b=some o/\H b=none:=fun b o e=>
 ⟨I.base.keep b o (I.ok.bs b o e).1 (I.ok.bs b o e).2 (I.ok.nofr e) (I.ok.noex b o e),I.base.free b o (I.ok.bs b o e).1 (I.ok.bs b o e).2 (I.ok.noex b o e)⟩
theorem Inv.bk (I:Inv X pins σ H s): ∀ b o,X.base.get? b=some o->s.heap.get? b=some o:=fun b o e=>(I.bs b o e).1
theorem Inv.mod (I:Inv X pins σ H s):Mod X.K X.mg X.base:=I.ok.mod
theorem Inv.kIn (I:Inv X pins σ H s):X.K.In s.heap:=I.ok.mod.kin.keeps I.bk
theorem Inv.lt (I:Inv X pins σ H s):X.env.locals<s.heap.objs.size:=let ⟨_,hn,_⟩:=I.loc;hn.lt
theorem Inv.sz (I:Inv X pins σ H s):X.s₀.heap.objs.size<=s.heap.objs.size:=Nat.le_trans I.ok.above (Nat.le_of_lt I.lt)
theorem Inv.nofs (I:Inv X pins σ H s) {a:Addr} (h:s.heap.objs.size<=a):a∉X.fs:=fun hb=>by
 obtain⟨_,o,ho,_⟩:=I.ok.funs.mem hb
 exact absurd (bd (ah ho) (Nat.le_trans I.sz h)) (Nat.lt_irrefl _)
theorem Inv.cne (I:Inv X pins σ H s): ∀ x c,X.env.cells.lookup x=some c->c≠X.env.locals:=fun x c e z=>by
 obtain⟨v,o,ho,hd⟩:=I.cell x c e
 obtain⟨m,⟨o',es,ep,ho',hd',_⟩,_⟩:=I.loc
 rw [z,ho'] at ho;cases ho;rw [hd'] at hd;cases hd
theorem Inv.funs (I:Inv X pins σ H s):s.heap.FunFrames X.base X.outer:=by
 have all: ∀ (l:List Env),(∀ b∈frs l,b∈X.fs)->X.s₀.heap.FunFrames X.base l->s.heap.FunFrames X.base l:=by
  intro l
  induction l with
  | nil=>intro _ _;trivial
  | cons env r ih=>
   intro hs hl
   obtain⟨hk,⟨L,o,hf,hn,ho,hd⟩,hr⟩:=hl
   have hL:L∈X.fs:=hs L (by unfold frs;rw [List.filterMap_cons,hf];exact List.mem_cons_self)
   obtain⟨sl,e⟩:=I.base.slot L o ho (I.ok.frf L hL) hL fun z=>I.ok.exfs L z hL
   exact⟨hk,⟨L,_,hf,hn,e,hd⟩,ih (fun b hb=>hs b (by unfold frs;rw [List.filterMap_cons,hf];exact List.mem_cons_of_mem _ hb)) hr⟩
 exact all X.outer (fun _ hb=>hb) I.ok.funs
theorem Inv.stack (I:Inv X pins σ H s):s.heap.FunFrames X.base X.stack:=by
 rcases I.ok.stk with e | ⟨e,hf⟩
 ·rw [e];exact I.funs
 ·rw [e]
  obtain⟨m,hn,_⟩:=I.loc
  refine .cons (by rw [I.ok.kind];decide) hf hn ?_ I.funs
  exact Heap.get?_none_of_le (Nat.le_trans I.ok.bsz I.ok.above)
theorem Inv.stkSub (I:Inv X pins σ H s): ∀ b∈frs X.stack,b∈X.env.locals::X.fs:=fun b hb=>by
 rcases I.ok.stk with e | ⟨e,hf⟩
 ·rw [e] at hb;exact List.mem_cons_of_mem _ hb
 ·rw [e] at hb
  unfold frs at hb
  rw [List.filterMap_cons,hf] at hb
  exact hb
theorem Inv.stkFree (I:Inv X pins σ H s): ∀ b∈frs X.stack,H b=none:=fun b hb=>by
 rcases aq.mp (I.stkSub b hb) with e | hb
 ·rw [e];exact I.free
 ·obtain⟨_,o,ho,_⟩:=I.ok.funs.mem hb
  exact I.base.free b o ho (I.ok.frf b hb) fun z=>I.ok.exfs b z hb
theorem Inv.step {g':Array GenState} {t':Nat} {d':Drawn} {ch:List Addr} (I:Inv X pins σ H s)
  (hch: ∀ b∈ch,(b∈X.ex\/X.s₀.heap.objs.size<=b)/\b≠X.env.locals/\(∀ x c,X.env.cells.lookup x=some c->c≠b)/\ ∀ p∈X.pn++pins,p.1≠b)
  (keep: ∀ b o,b≠X.env.locals->b∉X.fs->b∉ch->s.heap.get? b=some o->H b=none->h'.get? b=some o)
  (slot: ∀ b o,b≠X.env.locals->b∈X.fs->b∉ch->s.heap.get? b=some o->H b=none-> ∃ sl,h'.get? b=some { o with slots:=sl }) (free: ∀ b o,b∉ch->s.heap.get? b=some o->H b=none->H' b=none)
  (there: ∀ b o,b∉ch->s.heap.get? b=some o-> ∃ o',h'.get? b=some o')
  (tups: ∀ b xs,H b=some (.tup xs)->H' b=some (.tup xs)) (frzs: ∀ b o u,H b=some (.frz o u)->H' b=some (.frz o u)) (tbls: ∀ b ps,H b=some (.tbl ps)-> ∃ more,H' b=some (.tbl (ps++more)))
  (ns: ∀ m,s.heap.Ns X.env.locals m->h'.Ns X.env.locals m) (hok:HOk X.prog X.w H' h') (hg:AllBare g'):
  Inv X pins σ H' { s with heap:=h',gens:=g',drawn:=d',toks:=t' }:=by
 have neL: ∀ b o,X.s₀.heap.get? b=some o->b≠X.env.locals:=fun b o e=>bf (bd (ah e) I.ok.above)
 have neC: ∀ b o,X.s₀.heap.get? b=some o->b∉X.ex->b∉ch:=fun b o e hx hb=>by
  rcases(hch b hb).1 with z | z
  ·exact hx z
  ·exact absurd (bd (ah e) z) (Nat.lt_irrefl _)
 have cellK: ∀ x c,X.env.cells.lookup x=some c-> ∀ v,s.heap.IsCell c v->h'.IsCell c v:=fun x c e v ⟨o,ho,hd⟩=>by
  have nch:c∉ch:=fun z=>(hch c z).2.2.1 x c e rfl
  by_cases hc:c∈X.fs
  ·obtain⟨sl,q⟩:=slot c o (I.cne x c e) hc nch ho (I.freeC x c e)
   exact⟨_,q,hd⟩
  ·exact⟨o,keep c o (I.cne x c e) hc nch ho (I.freeC x c e),hd⟩
 refine⟨I.ok,I.os,hg,⟨fun b o e n hb hx=> ?_,fun b o e n hb hx=> ?_,fun b o e n hx=> ?_,fun b o e hx=> ?_,fun b xs e=>tups b xs (I.base.tups b xs e),fun b o xs e=>frzs b o xs (I.base.frzs b o xs e),fun b ps e=> ?_⟩, ?_,fun x c e=> ?_, ?_,fun x c e=> ?_,fun p hp=> ?_,hok,I.len⟩
 ·exact keep b o (neL b o e) hb (neC b o e hx) (I.base.keep b o e n hb hx) (I.base.free b o e n hx)
 ·obtain⟨sl,e1⟩:=I.base.slot b o e n hb hx
  obtain⟨sl',e2⟩:=slot b _ (neL b o e) hb (neC b o e hx) e1 (I.base.free b o e n hx)
  exact⟨sl',e2⟩
 ·obtain⟨o',e1⟩:=I.base.there b o e hx
  exact free b o' (neC b o e hx) e1 (I.base.free b o e n hx)
 ·obtain⟨o',e1⟩:=I.base.there b o e hx
  exact there b o' (neC b o e hx) e1
 ·obtain⟨m1,e1⟩:=I.base.tbls b ps e
  obtain⟨m2,e2⟩:=tbls b _ e1
  exact⟨m1++m2,by rw [e2,Array.append_assoc]⟩
 ·obtain⟨m,hn,hl⟩:=I.loc
  refine⟨m,ns m hn,fun i x v e1 e2 e3=> ?_⟩
  obtain⟨u,r,l⟩:=hl i x v e1 e2 e3
  refine⟨u,r, ?_⟩
  rcases l with l | ⟨k,c,e,z⟩
  ·exact .inl l
  ·exact .inr ⟨k,c,e,cellK x c e _ z⟩
 ·obtain⟨v,z⟩:=I.cell x c e
  exact⟨v,cellK x c e v z⟩
 ·obtain⟨m,⟨o,_,_,ho,_⟩,_⟩:=I.loc
  exact free _ o (fun z=>(hch _ z).2.1 rfl) ho I.free
 ·obtain⟨v,o,ho,hd⟩:=I.cell x c e
  exact free c o (fun z=>(hch c z).2.2.1 x c e rfl) ho (I.freeC x c e)
 ·obtain⟨e,n,ne,nf,d⟩:=I.pin p hp
  have nch:p.1∉ch:=fun z=>(hch p.1 z).2.2.2 p hp rfl
  exact⟨keep p.1 p.2 ne nf nch e n,free p.1 p.2 nch e n,ne,nf,d⟩
theorem Inv.un {t':Nat} (I:Inv X pins σ H s) (u:Un X.fs [] H H' s.heap h') (hok:HOk X.prog X.w H' h'):Inv X pins σ H' { s with heap:=h',toks:=t' }:=by
 obtain⟨m,⟨o,es,ep,ho,r⟩,_⟩:=id I.loc
 obtain⟨sl,hL⟩:=u.any ho I.free (by simp)
 exact I.step (g':=s.gens) (d':=s.drawn) (ch:=[]) (fun _ z=>nomatch z) (fun b o _ hb _ e n=>u.keep b o e n hb (by simp)) (fun b o _ hb _ e n=>u.slot b o e n hb (by simp)) (fun b o _ e n=>u.free b o e n (by simp)) (fun b o _ e=>u.there b o e (by simp)) u.tups u.frzs u.tbls (fun m' hm=>by
  obtain⟨o',es',ep',ho',r'⟩:=hm
  rw [ho] at ho';cases ho'
  exact⟨_,es',ep',hL,r'⟩) hok I.bare
theorem Inv.call {g':Array GenState} {t':Nat} {d':Drawn} {ch:List Addr} (I:Inv X pins σ H s) (u:Un (frs X.stack) ch H H' s.heap h') (hok:HOk X.prog X.w H' h') (hg:AllBare g')
  (hch: ∀ b∈ch,(b∈X.ex\/X.s₀.heap.objs.size<=b)/\b≠X.env.locals/\(∀ x c,X.env.cells.lookup x=some c->c≠b)/\ ∀ p∈X.pn++pins,p.1≠b):
  Inv X pins σ H' { s with heap:=h',gens:=g',drawn:=d',toks:=t' }:=by
 obtain⟨m,⟨o,es,ep,ho,r⟩,_⟩:=id I.loc
 obtain⟨sl,hL⟩:=u.any ho I.free fun z=>(hch _ z).2.1 rfl
 exact I.step (ch:=ch) hch (fun b o hL hb hc e n=>u.keep b o e n (fun z=>(aq.mp (I.stkSub b z)).elim hL hb) hc) (fun b o _ _ hc e n=>u.any e n hc) (fun b o hc e n=>u.free b o e n hc) (fun b o hc e=>u.there b o e hc) u.tups u.frzs u.tbls (fun m' hm=>by
  obtain⟨o',es',ep',ho',r'⟩:=hm
  rw [ho] at ho';cases ho'
  exact⟨_,es',ep',hL,r'⟩) hok hg
theorem Inv.turned {t':Nat} {it:Addr} (I:Inv X pins σ H s) (k: ∀ b o,b≠it->s.heap.get? b=some o->h'.get? b=some o) (hn:H it=none) (hL:it≠X.env.locals)
  (h1:it∈X.ex\/X.s₀.heap.objs.size<=it) (h2: ∀ x c,X.env.cells.lookup x=some c->c≠it) (h3: ∀ p∈X.pn++pins,p.1≠it):Inv X pins σ H { s with heap:=h',toks:=t' }:=by
 have nit: ∀ b u,H b=some u->b≠it:=fun b u e z=>by rw [z,hn] at e;cases e
 refine I.step (g':=s.gens) (d':=s.drawn) (ch:=[it]) (fun b hb=> ?_) (fun b o _ _ hc e _=>k b o (fun z=>hc (by simp [z])) e) (fun b o _ _ hc e _=>⟨o.slots,k b o (fun z=>hc (by simp [z])) e⟩) (fun _ _ _ _ n=>n)
  (fun b o hc e=>⟨o,k b o (fun z=>hc (by simp [z])) e⟩) (fun _ _ e=>e) (fun _ _ _ e=>e) (fun b ps e=>⟨#[],by rw [e];simp⟩) (fun m hm=> ?_) (fun b u e=> ?_) I.bare
 ·have e:b=it:=by simpa using hb
  subst e
  exact⟨h1,hL,h2,h3⟩
 ·obtain⟨o,es,ep,ho,r⟩:=hm
  exact⟨o,es,ep,k _ o (Ne.symm hL) ho,r⟩
 ·refine(I.hok b u e).stay (fun c v hc q=>k c v ?_ q) (fun _ q=>q) fun _ _ q=>q
  rcases hc with z | z
  ·rw [z];exact nit b u e
  ·exact nit c _ z
theorem Inv.tok (I:Inv X pins σ H s) (t:Nat):Inv X pins σ H { s with toks:=t }:=I.un (h':=s.heap) (t':=t) Un.refl I.hok
theorem Inv.kept {t':Nat} (I:Inv X pins σ H s) (k: ∀ b u,s.heap.get? b=some u->h'.get? b=some u):Inv X pins σ H { s with heap:=h',toks:=t' }:=I.un (Un.kept k) (I.hok.kept k)
theorem Inv.laid {a:Addr} {o:HO} {t':Nat} (I:Inv X pins σ H s) (k: ∀ b u,s.heap.get? b=some u->h'.get? b=some u) (hp:s.heap.objs.size<=a) (new:ObjOk X.prog X.w (upd H a o) h' a o):
  Inv X pins σ (upd H a o) { s with heap:=h',toks:=t' }:=I.un (Un.laid k hp (I.hok.fresh hp)) (I.hok.laid k hp new)
theorem Inv.write {x e:Addr} {o:HO} {t':Nat} (I:Inv X pins σ H s) (mu:Mut (H x)) (he:e=x\/H e=some (.own x)) (k: ∀ b u,b≠e->s.heap.get? b=some u->h'.get? b=some u) (heo: ∃ u,h'.get? e=some u)
  (new:ObjOk X.prog X.w (upd H x o) h' x o):Inv X pins σ (upd H x o) { s with heap:=h',toks:=t' }:=I.un (Un.write mu he k heo) (I.hok.write mu he k heo new)
theorem Inv.pins_of {pins':List (Addr×Obj)} (I:Inv X pins σ H s) (h: ∀ p∈pins',s.heap.get? p.1=some p.2/\H p.1=none/\p.1≠X.env.locals/\p.1∉X.fs/\ ∀ v,p.2.data≠ .cell v):Inv X pins' σ H s:=
 ⟨I.ok,I.os,I.bare,I.base,I.loc,I.cell,I.free,I.freeC,fun p hp=>(List.mem_append.mp hp).elim (fun z=>I.pin p (List.mem_append_left _ z)) (h p),I.hok,I.len⟩
theorem mI {N:List Str} (hN:N.Nodup) {i j:Nat} {x:Str} (a:N[i]? =some x) (b:N[j]? =some x):i=j:=by
 obtain⟨h1,e1⟩:=av.mp a
 obtain⟨h2,e2⟩:=av.mp b
 exact(List.getElem_inj hN).mp (e1.trans e2.symm)
theorem n6 {M:Model} {A:Around} {E:Value->Shared->Prop} {i:Nat} {x:Str} {v:V} {u:Value} {Q:Unit->Shared->Prop} (I:Inv X pins σ H s) (hN:X.N.Nodup) (hi:X.N[i]? =some x) (hx:Loc X.env.scope x) (r:bF v u)
  (h: ∀ s',Inv X pins (σ.set i (some v)) H s'->(∃ a,Heap.SameBut a s.heap s'.heap/\(a=X.env.locals\/X.env.cells.lookup x=some a))->Q () s') (hf:X.fn x=true\/X.env.scope.names.lookup x=some .local:=by first | exact .inl rfl | exact .inr rfl | assumption):wpAny M A (storeName X.env x u) Q E s:=by
 obtain⟨m,hn,hl⟩:=id I.loc
 have hcls:(X.env.scope.kind== .class||(X.env.scope.kind== .module&&X.env.locals != X.env.globals))=false:=by rw [I.ok.kind];rfl
 have hiσ:i<σ.length:=by rw [I.len];exact(av.mp hi).1
 have cne:=I.cne
 have tracked: ∀ {a:Addr} {h':Heap},(∃ o,s.heap.get? a=some o/\H a=none)->Heap.SameBut a s.heap h'->HOk X.prog X.w H h':=fun {a h'} ha hs b ob e=>by
  obtain⟨_,_,hfree⟩:=ha
  refine(I.hok b ob e).stay (fun c w' hc q=>(hs.2 c ?_).trans q) (fun _ q=>q) fun _ _ q=>q
  rintro rfl
  rcases hc with rfl | hc
  ·rw [hfree] at e;cases e
  ·rw [hfree] at hc;cases hc
 rcases hx with hk | hk
 ·refine wpAny_storeName_local hk hn (fun h' hn' hs=> ?_) hcls
  obtain⟨oL,_,_,hoL,_⟩:=id hn
  refine h _ ⟨I.ok,I.os,I.bare,⟨fun b o e n hb hx=> ?_,fun b o e n hb hx=> ?_,I.base.free,fun b o e hx=> ?_,I.base.tups,I.base.frzs,I.base.tbls⟩,⟨_,hn',fun j y v' e1 e2 e3=> ?_⟩,fun y c e=> ?_,I.free,I.freeC,fun p hp=> ?_,tracked ⟨oL,hoL,I.free⟩ hs,by simpa using I.len⟩ ⟨_,hs, .inl rfl⟩
  ·exact(hs.2 b (bf (bd (ah e) I.ok.above))).trans (I.base.keep b o e n hb hx)
  ·obtain⟨sl,e1⟩:=I.base.slot b o e n hb hx
   exact⟨sl,(hs.2 b (bf (bd (ah e) I.ok.above))).trans e1⟩
  ·obtain⟨o',e1⟩:=I.base.there b o e hx
   exact⟨o',(hs.2 b (bf (bd (ah e) I.ok.above))).trans e1⟩
  ·by_cases hj:j=i
   ·subst hj
    rw [hi] at e1;cases e1
    rw [bg hiσ] at e2
    cases e2
    exact⟨u,r, .inl ⟨hk,by simp⟩⟩
   ·rw [ay (Ne.symm hj)] at e2
    obtain⟨u',r',q⟩:=hl j y v' e1 e2 e3
    refine⟨u',r', ?_⟩
    rcases q with ⟨k,e⟩ | ⟨k,c,e,z⟩
    ·refine .inl ⟨k, ?_⟩
     have:y≠x:=fun e=>hj (mI hN e1 (e▸hi))
     simp [this,e]
    ·exact .inr ⟨k,c,e,z.sameBut hs (cne y c e)⟩
  ·obtain⟨w',z⟩:=I.cell y c e
   exact⟨w',z.sameBut hs (cne y c e)⟩
  ·obtain⟨e,n,ne,nf,d⟩:=I.pin p hp
   exact⟨(hs.2 p.1 ne).trans e,n,ne,nf,d⟩
 ·have hfn:X.fn x=true:=by
   rcases hf with z | z
   ·exact z
   ·rw [z] at hk;cases hk
  obtain⟨c,hc⟩:=I.ok.has x (.inl hk)
  obtain⟨w',z⟩:=I.cell x c hc
  refine wpAny_storeName_cell I.ok.kind hk hc z (fun h' hc' hs=> ?_)
  obtain⟨oc,hoc,hocd⟩:=id z
  refine h { s with heap:=h' } ⟨I.ok,I.os,I.bare,⟨fun b o e n hb hx=> ?_,fun b o e n hb hx=> ?_,I.base.free,fun b o e hx=> ?_,I.base.tups,I.base.frzs,I.base.tbls⟩,⟨m,hn.sameBut hs (Ne.symm (cne x c hc)),fun j y v' e1 e2 e3=> ?_⟩,fun y c' e=> ?_,I.free,I.freeC,fun p hp=> ?_,tracked ⟨oc,hoc,I.freeC x c hc⟩ hs,by simpa using I.len⟩ ⟨c,hs, .inr hc⟩
  ·exact(hs.2 b (bf (bd (ah e) (I.ok.cab x c hfn hc)))).trans (I.base.keep b o e n hb hx)
  ·obtain⟨sl,e1⟩:=I.base.slot b o e n hb hx
   exact⟨sl,(hs.2 b (bf (bd (ah e) (I.ok.cab x c hfn hc)))).trans e1⟩
  ·obtain⟨o',e1⟩:=I.base.there b o e hx
   exact⟨o',(hs.2 b (bf (bd (ah e) (I.ok.cab x c hfn hc)))).trans e1⟩
  ·by_cases hj:j=i
   ·subst hj
    rw [hi] at e1;cases e1
    rw [bg hiσ] at e2
    cases e2
    exact⟨u,r, .inr ⟨.inl hk,c,hc,hc'⟩⟩
   ·rw [ay (Ne.symm hj)] at e2
    obtain⟨u',r',q⟩:=hl j y v' e1 e2 e3
    refine⟨u',r', ?_⟩
    rcases q with q | ⟨k,c',e,z'⟩
    ·exact .inl q
    ·refine .inr ⟨k,c',e,z'.sameBut hs ?_⟩
     rintro rfl
     exact hj (mI hN e1 (I.ok.inj _ _ _ e hc▸hi))
  ·by_cases hcc:c'=c
   ·subst hcc;exact⟨_,hc'⟩
   ·obtain⟨w2,z2⟩:=I.cell y c' e
    exact⟨w2,z2.sameBut hs hcc⟩
  ·obtain⟨e,n,ne,nf,d⟩:=I.pin p hp
   refine⟨(hs.2 p.1 ?_).trans e,n,ne,nf,d⟩
   intro q
   rw [q,hoc] at e
   have q':oc=p.2:=Option.some.inj e
   exact d w' (by rw [<-q'];exact hocd)
theorem dM {M:Model} {A:Around} {E:Value->Shared->Prop} {i:Nat} {x:Str} {v:V} {u:Value} {Q:Unit->Shared->Prop} (I:Inv X pins σ H s) (hN:X.N.Nodup) (hi:X.N[i]? =some x) (hx:Loc X.env.scope x) (r:bF v u)
  (h: ∀ s',Inv X pins (σ.set i (some v)) H s'->Q () s') (hf:X.fn x=true\/X.env.scope.names.lookup x=some .local:=by first | exact .inl rfl | exact .inr rfl | assumption):wpAny M A (storeName X.env x u) Q E s:=
 n6 I hN hi hx r (fun s' I' _=>h s' I') hf
theorem Inv.call' {s':Shared} {ch:List Addr} (I:Inv X pins σ H s) (ho:s'.os=s.os) (u:Un (frs X.stack) ch H H' s.heap s'.heap) (hok:HOk X.prog X.w H' s'.heap) (hg:AllBare s'.gens)
  (hch: ∀ b∈ch,(b∈X.ex\/X.s₀.heap.objs.size<=b)/\b≠X.env.locals/\(∀ x c,X.env.cells.lookup x=some c->c≠b)/\ ∀ p∈X.pn++pins,p.1≠b):Inv X pins σ H' s':=by
 obtain⟨h',g',d',t',o'⟩:=s'
 have e:o'=s.os:=ho
 subst e
 exact I.call (g':=g') (t':=t') (d':=d') u hok hg hch
end
abbrev XK:=Value->Option Addr->Hp->Prop
abbrev St:=List (Option V)
abbrev VK:=V->Hp->Prop
abbrev TE:=St->Hp->VK->Prop
abbrev TT:=St->Hp->(Bool->Hp->Prop)->Prop
abbrev TA:=St->Hp->(List V->Hp->Prop)->Prop
structure Ends where
 nx:St->Hp->Prop
 rt:VK
 bk:St->Hp->Prop:=fun _ _=>False
 ct:St->Hp->Prop:=fun _ _=>False
abbrev TS:=Ends->St->Hp->Prop
def EP (X:Cx) (pins:List (Addr×Obj)) (σ:St) (Q:VK) (u:Value) (s':Shared):Prop:= ∃ v H',Inv X pins σ H' s'/\bF v u/\Q v H'
def TP (X:Cx) (pins:List (Addr×Obj)) (σ:St) (Q:Bool->Hp->Prop) (b:Bool) (s':Shared):Prop:= ∃ H',Inv X pins σ H' s'/\Q b H'
def AP (X:Cx) (pins:List (Addr×Obj)) (σ:St) (Q:List V->Hp->Prop) (us:List Value) (s':Shared):Prop:= ∃ vs H',Inv X pins σ H' s'/\aZ vs us/\Q vs H'
def SP (X:Cx) (pins:List (Addr×Obj)) (D:Ends) (f:Flow) (s':Shared):Prop:=
 match f with
 | .next=> ∃ σ' H',Inv X pins σ' H' s'/\D.nx σ' H'
 | .brk=> ∃ σ' H',Inv X pins σ' H' s'/\D.bk σ' H'
 | .cont=> ∃ σ' H',Inv X pins σ' H' s'/\D.ct σ' H'
 | .ret u=> ∃ v σ' H',Inv X pins σ' H' s'/\bF v u/\D.rt v H'
def PE (X:Cx) (e:Expr) (t:TE):Prop:=
 ∀ (pins:List (Addr×Obj)) (s:Shared) (σ:St) (H:Hp) (Q:VK),Inv X pins σ H s->t σ H Q->wpAny (model X.prog X.w) X.A (eval e X.env) (EP X pins σ Q) X.xe s
def PT (X:Cx) (e:Expr) (t:TT):Prop:=
 ∀ (pins:List (Addr×Obj)) (s:Shared) (σ:St) (H:Hp) (Q:Bool->Hp->Prop),Inv X pins σ H s->t σ H Q->wpAny (model X.prog X.w) X.A (isTrue e X.env (eval e X.env)) (TP X pins σ Q) X.xe s
def PW (X:Cx) (e:Expr) (t:TT):Prop:=
 ∀ (whole:Sem Value) (pins:List (Addr×Obj)) (s:Shared) (σ:St) (H:Hp) (Q:Bool->Hp->Prop),Inv X pins σ H s->t σ H Q->wpAny (model X.prog X.w) X.A (isTrue e X.env whole) (TP X pins σ Q) X.xe s
def PA (X:Cx) (es:List Expr) (t:TA):Prop:=
 ∀ (pos:Pos) (pins:List (Addr×Obj)) (s:Shared) (σ:St) (H:Hp) (Q:List V->Hp->Prop),Inv X pins σ H s->t σ H Q->wpAny (model X.prog X.w) X.A (spliced (backTo pos (starEach es X.env))) (AP X pins σ Q) X.xe s
def PS (X:Cx) (st:Stmt) (t:TS):Prop:=
 ∀ (pins:List (Addr×Obj)) (s:Shared) (σ:St) (H:Hp) (D:Ends),Inv X pins σ H s->t D σ H->wpAny (model X.prog X.w) X.A (exec st X.env) (SP X pins D) X.xe s
def PSs (X:Cx) (st:List Stmt) (t:TS):Prop:=
 ∀ (pins:List (Addr×Obj)) (s:Shared) (σ:St) (H:Hp) (D:Ends),Inv X pins σ H s->t D σ H->wpAny (model X.prog X.w) X.A (execs st X.env) (SP X pins D) X.xe s
theorem thn {α:Type} {t:Sem α} {Q Q':α->Shared->Prop} {M:Model} {A:Around} {E:Value->Shared->Prop} {s:Shared} (h:wpAny M A t Q E s) (hQ: ∀ a s,Q a s->Q' a s):wpAny M A t Q' E s:=wpAny_mono h hQ fun _ _ x=>x
section
variable {X:Cx}
noncomputable def aM9 (i:Nat):TE:=fun σ H Q=> ∃ v,σ[i]? =some (some v)/\Q v H
noncomputable def tC (v:V):TE:=fun _ H Q=>Q v H
theorem d6 {i:Nat} {x:Str} {pos:Pos} (hN:X.N[i]? =some x) (hv:Vis X.env.scope x) (hd:(x==("__debug__":Str))=false:=by decide) (hcd:(x==("__classdict__":Str))=false:=by decide):PE X (.Name x pos) (aM9 i):=by
 intro pins s σ H Q I h
 obtain⟨v,e,h⟩:=h
 obtain⟨m,hn,hl⟩:=I.loc
 obtain⟨u,r,l⟩:=hl i x v hN e hv
 have fin:EP X pins σ Q u s:=⟨v,H,I,r,h⟩
 rcases l with ⟨hk,hm⟩ | ⟨hk,c,hc,hcell⟩
 ·exact wpAny_Name (wpAny_loadName_local I.ok.kind hk hn hm fin) hd
 ·rcases hk with hk | hk
  ·exact wpAny_Name (wpAny_loadName_cell I.ok.kind hk hc hcell fin) hd
  ·exact wpAny_Name (wpAny_loadName_free I.ok.kind hk hc hcell fin hcd) hd
theorem aHc {i j pos}:PE X (.Constant (.int i) j pos) (tC (.int i)):=fun _ _ _ H _ I h=>wpAny_Constant_int ⟨.int i,H,I.tok _,⟨_,rfl⟩,h⟩
theorem aKn {b j pos}:PE X (.Constant (.bool b) j pos) (tC (.bl b)):=fun _ _ _ H _ I h=>Constant_bool ⟨.bl b,H,I,rfl,h⟩
theorem aB5 {j pos}:PE X (.Constant .none j pos) (tC .non):=fun _ _ _ H _ I h=>Constant_none ⟨.non,H,I,rfl,h⟩
theorem aHd {x j pos}:PE X (.Constant (.str x) j pos) (tC (.str x)):=fun _ _ _ H _ I h=>Calls.Constant_str ⟨.str x,H,I.tok _,⟨_,rfl⟩,h⟩
def Gl (X:Cx) (x:Str):Prop:=X.env.kindOf x=some .globalImplicit
theorem jQ {E:Value->Shared->Prop} {pins:List (Addr×Obj)} {s:Shared} {σ:St} {H:Hp} {x:Str} {u:Value} {pos:Pos} {Q:Value->Shared->Prop} (I:Inv X pins σ H s) (hg:Gl X x) (hm:X.mg x=some u) (h:Q u s)
  (hd:(x==("__debug__":Str))=false:=by decide):wpAny (model X.prog X.w) X.A (eval (.Name x pos) X.env) Q E s:=
 Calls.Name_function_global I.ok.kind hg (Calls.loadGlobal_global (by rw [I.ok.glob];exact I.mod.glob.keeps I.bk) hm h) hd
theorem eW {E:Value->Shared->Prop} {pins:List (Addr×Obj)} {s:Shared} {σ:St} {H:Hp} {x:Str} {u:Value} {pos:Pos} {Q:Value->Shared->Prop} (I:Inv X pins σ H s) (hg:Gl X x) (hm:X.mg x=none) (hv:bootBuiltins x=some u) (h:Q u s)
  (hn:x≠"__name__":=by decide) (hd:(x==("__debug__":Str))=false:=by decide):wpAny (model X.prog X.w) X.A (eval (.Name x pos) X.env) Q E s:=by
 obtain⟨mb,h1,h2⟩:=I.mod.blt
 exact Calls.Name_function_global I.ok.kind hg (Calls.loadGlobal_builtin (by rw [I.ok.glob];exact I.mod.glob.keeps I.bk) hm (by rw [I.ok.blt];exact h1.keeps I.bk) ((h2 x hn).trans hv) h) hd
theorem aDg {x:Str} {v:V} {u:Value} {pos:Pos} (hg:Gl X x) (hm:X.mg x=some u) (r:bF v u) (hd:(x==("__debug__":Str))=false:=by decide):PE X (.Name x pos) (tC v):=
 fun _ _ _ H _ I h=>jQ I hg hm ⟨v,H,I,r,h⟩ hd
variable {a b:Expr} {ta tb:TE} {pos:Pos}
def PC (X:Cx) (op:CmpOp) (a b:Expr) (t:TE):Prop:=
 ∀ (pins:List (Addr×Obj)) (s:Shared) (σ:St) (H:Hp) (Q:VK),Inv X pins σ H s->t σ H Q->
  wpAny (model X.prog X.w) X.A (eval a X.env) (fun v s₁=>wpAny (model X.prog X.w) X.A (eval b X.env) (fun u s₂=>wpAny (model X.prog X.w) X.A (compareOp op v u) (EP X pins σ Q) X.xe s₂) X.xe s₁) X.xe s
noncomputable def tB (t:TE):TT:=fun σ H Q=>t σ H fun x H1=> ∃ c,x= .bl c/\Q c H1
theorem aHe {e:Expr} {t:TE} (h:PE X e t) (he: ∀ whole,isTrue e X.env whole=(do let v<-whole;standAt e.pos;holding [v] (truthy v)):=by intro _;rfl):PT X e (tB t):=by
 intro pins s σ H Q I hw
 refine isTrue_plain (thn (h pins s σ H _ I hw) fun v s1 ⟨x,H1,I1,r1,q1⟩=> ?_) (he _)
 obtain⟨d,rfl,q⟩:=q1
 cases r1
 exact wpAny_truthy_bool ⟨H1,I1,q⟩
variable {tA tB':TT} {cR:List Expr}
noncomputable def aMd (t u:TT):TT:=fun σ H Q=>t σ H fun c H1=>if c=true then u σ H1 Q else Q false H1
noncomputable def tOr (t u:TT):TT:=fun σ H Q=>t σ H fun c H1=>if c=true then Q true H1 else u σ H1 Q
noncomputable def aMe (t:TT):TT:=fun σ H Q=>t σ H fun c H1=>Q (!c) H1
theorem pw_and1 (ha:PT X a tA):PW X (.BoolOp .And [a] pos) tA:=by
 intro wh pins s σ H Q I h
 refine isTrue_and (thn (ha pins s σ H Q I h) fun c s1 e=> ?_)
 cases c with
 | true=>exact isTrue_and_nil e
 | false=>exact e
theorem pw_or1 (ha:PT X a tA):PW X (.BoolOp .Or [a] pos) tA:=by
 intro wh pins s σ H Q I h
 refine isTrue_or (thn (ha pins s σ H Q I h) fun c s1 e=> ?_)
 cases c with
 | false=>exact isTrue_or_nil e
 | true=>exact e
theorem pw_and (ha:PT X a tA) (hb:PW X (.BoolOp .And (b::cR) pos) tB'):PW X (.BoolOp .And (a::b::cR) pos) (aMd tA tB'):=by
 intro wh pins s σ H Q I h
 refine isTrue_and (thn (ha pins s σ H _ I h) fun c s1 hz_=> ?_)
 obtain⟨H1,I1,q1⟩:=hz_
 cases c with
 | true=>exact hb wh pins s1 σ H1 Q I1 q1
 | false=>exact⟨H1,I1,q1⟩
theorem pw_or (ha:PT X a tA) (hb:PW X (.BoolOp .Or (b::cR) pos) tB'):PW X (.BoolOp .Or (a::b::cR) pos) (tOr tA tB'):=by
 intro wh pins s σ H Q I h
 refine isTrue_or (thn (ha pins s σ H _ I h) fun c s1 hz_=> ?_)
 obtain⟨H1,I1,q1⟩:=hz_
 cases c with
 | true=>exact⟨H1,I1,q1⟩
 | false=>exact hb wh pins s1 σ H1 Q I1 q1
theorem aHf (ha:PT X a tA):PT X (.UnaryOp .Not a pos) (aMe tA):=by
 intro pins s σ H Q I h
 exact isTrue_not (ha pins s σ H (fun c H1=>Q (!c) H1) I h)
noncomputable def aHg (ta tb:TE):TE:=fun σ H Q=>ta σ H fun x H1=> ∃ c,x= .bl c/\if c=true then tb σ H1 Q else Q (.bl false) H1
noncomputable def aMf (ta tb:TE):TE:=fun σ H Q=>ta σ H fun x H1=> ∃ c,x= .bl c/\if c=true then Q (.bl true) H1 else tb σ H1 Q
noncomputable def aKo (ta:TE):TE:=fun σ H Q=>ta σ H fun x H1=> ∃ c,x= .bl c/\Q (.bl (!c)) H1
theorem aHh {op} {t:TE} (h:PE X a t):PE X (.BoolOp op [a] pos) t:=fun pins s σ H Q I hw=>BoolOp_one (h pins s σ H Q I hw)
theorem aHi (ha:PE X a ta) (hb:PE X (.BoolOp .And (b::cR) pos) tb):PE X (.BoolOp .And (a::b::cR) pos) (aHg ta tb):=by
 intro pins s σ H Q I h
 refine BoolOp_and (thn (ha pins s σ H _ I h) fun v s1 hz_=> ?_)
 obtain⟨x,H1,I1,r1,q1⟩:=hz_
 obtain⟨c,rfl,q1⟩:=q1
 cases r1
 refine wpAny_truthy_bool ?_
 cases c with
 | true=>exact hb pins s1 σ H1 Q I1 q1
 | false=>exact⟨.bl false,H1,I1,rfl,q1⟩
theorem aKp (ha:PE X a ta) (hb:PE X (.BoolOp .Or (b::cR) pos) tb):PE X (.BoolOp .Or (a::b::cR) pos) (aMf ta tb):=by
 intro pins s σ H Q I h
 refine BoolOp_or (thn (ha pins s σ H _ I h) fun v s1 hz_=> ?_)
 obtain⟨x,H1,I1,r1,q1⟩:=hz_
 obtain⟨c,rfl,q1⟩:=q1
 cases r1
 refine wpAny_truthy_bool ?_
 cases c with
 | false=>exact hb pins s1 σ H1 Q I1 q1
 | true=>exact⟨.bl true,H1,I1,rfl,q1⟩
theorem aHj (ha:PE X a ta):PE X (.UnaryOp .Not a pos) (aKo ta):=by
 intro pins s σ H Q I h
 refine UnaryOp_ (thn (ha pins s σ H _ I h) fun v s1 hz_=> ?_)
 obtain⟨x,H1,I1,r1,q1⟩:=hz_
 obtain⟨c,rfl,q1⟩:=q1
 cases r1
 exact not_of (wpAny_truthy_bool ⟨.bl (!c),H1,I1,rfl,q1⟩)
noncomputable def tIf (t:TT) (ta tb:TE):TE:=fun σ H Q=>t σ H fun c H1=>if c=true then ta σ H1 Q else tb σ H1 Q
theorem zX {c:Expr} (hc:PT X c tA) (ha:PE X a ta) (hb:PE X b tb):PE X (.IfExp c a b pos) (tIf tA ta tb):=by
 intro pins s σ H Q I h
 refine wpAny_IfExp (thn (hc pins s σ H _ I h) fun d s1 hz_=> ?_)
 obtain⟨H1,I1,q1⟩:=hz_
 cases d with
 | true=>exact ha pins s1 σ H1 Q I1 q1
 | false=>exact hb pins s1 σ H1 Q I1 q1
end
def SqL (K:PySem.W.Frag) (H:Hp) (a:Addr) (xs:List V):Prop:=
 Rd H a (.lst xs)\/
  ∃ (o:Obj) (its:Array Value) (n:Nat),K.lookup a=some o/\o.cls= .type "list"/\o.dict=none/\o.data= .seq its n/\its.size<=sizeLine/\aZ xs its.toList
def SqT (K:PySem.W.Frag) (H:Hp) (a:Addr) (xs:List V):Prop:=
 Rd H a (.tup xs)\/
  ∃ (o:Obj) (its:Array Value) (n:Nat),K.lookup a=some o/\o.cls= .type "tuple"/\o.dict=none/\o.data= .seq its n/\its.size<=sizeLine/\aZ xs its.toList
noncomputable def aNa:Value->Option V
 | .none=>some .non
 | .bool b=>some (.bl b)
 | .int i _=>some (.int i)
 | .str x _=>some (.str x)
 | .bytes b _=>some (.byt b)
 | .float b _=>some (.flt b)
 | .ref a=>some (.ref a)
 | .type n=>some (.ty n)
 | _=>none
theorem bF.abs {x:V} {u:Value} (r:bF x u):aNa u=some x:=by
 cases x with
 | non=>cases r;rfl
 | bl _=>cases r;rfl
 | int _=>obtain⟨t,rfl⟩:=r;rfl
 | str _=>obtain⟨t,rfl⟩:=r;rfl
 | byt _=>obtain⟨t,rfl⟩:=r;rfl
 | flt _=>obtain⟨t,rfl⟩:=r;rfl
 | ref _=>cases r;rfl
 | ty _=>cases r;rfl
theorem bF.inj {x y:V} {u:Value} (r:bF x u) (q:bF y u):x=y:=Option.some.inj (r.abs.symm.trans q.abs)
theorem aZ.inj: ∀ {xs ys:List V} {us:List Value},aZ xs us->aZ ys us->xs=ys
 | _,_,_, .nil, .nil=>rfl
 | _,_,_, .cons r t, .cons r' t'=>by rw [r.inj r',aZ.inj t t']
section
variable {X:Cx} {pins:List (Addr×Obj)} {σ:St} {H:Hp} {s:Shared} {a:Addr} {xs ys:List V}
theorem SqL.of {K:PySem.W.Frag} (h:H a=some (.lst xs)):SqL K H a xs:= .inl (.inl h)
theorem SqT.of {K:PySem.W.Frag} (h:H a=some (.tup xs)):SqT K H a xs:= .inl (.inl h)
theorem Inv.list (I:Inv X pins σ H s) (h:SqL X.K H a xs): ∃ its:List Value,aZ xs its/\PlainL s.heap a its.toArray/\xs.length<=sizeLine:=by
 rcases h with h | ⟨o,its,n,hk,hc,hd,hs,hz,r⟩
 ·obtain⟨z,its,n,r,e⟩:=h.ok I.hok
  exact⟨its,r,⟨_,n,e,rfl,rfl,rfl⟩,z⟩
 ·refine⟨its.toList,r,⟨o,n,I.kIn a o hk,hc,hd,by simpa using hs⟩, ?_⟩
  have e:=r.length
  simp only [Array.length_toList] at e
  omega
theorem Inv.tuple (I:Inv X pins σ H s) (h:SqT X.K H a xs): ∃ its:List Value,aZ xs its/\IsTup s.heap a its.toArray/\xs.length<=sizeLine:=by
 rcases h with h | ⟨o,its,n,hk,hc,_,hs,hz,r⟩
 ·obtain⟨z,its,r,p,_⟩:=h.ok I.hok
  exact⟨its,r,p,z⟩
 ·refine⟨its.toList,r,⟨o,I.kIn a o hk,hc,n,by simpa using hs⟩, ?_⟩
  have e:=r.length
  simp only [Array.length_toList] at e
  omega
theorem Inv.list_inj (I:Inv X pins σ H s) (h:SqL X.K H a xs) (h':SqL X.K H a ys):xs=ys:=by
 obtain⟨its,r,⟨o,n,e,_,_,d⟩,_⟩:=I.list h
 obtain⟨its',r',⟨o',n',e',_,_,d'⟩,_⟩:=I.list h'
 rw [e] at e';cases e'
 rw [d] at d'
 injection d' with d1 _
 have:its=its':=by simpa using congrArg Array.toList d1
 subst this
 exact r.inj r'
theorem Inv.tuple_inj (I:Inv X pins σ H s) (h:SqT X.K H a xs) (h':SqT X.K H a ys):xs=ys:=by
 obtain⟨its,r,⟨o,e,_,n,d⟩,_⟩:=I.tuple h
 obtain⟨its',r',⟨o',e',_,n',d'⟩,_⟩:=I.tuple h'
 rw [e] at e';cases e'
 rw [d] at d'
 injection d' with d1 _
 have:its=its':=by simpa using congrArg Array.toList d1
 subst this
 exact r.inj r'
end
noncomputable abbrev Cx.wish (X:Cx) (E:Value->Shared->Prop):Cx:={ X with xe:=E }
section
variable {X:Cx} {pins:List (Addr×Obj)} {σ:St} {H:Hp} {s:Shared} {E:Value->Shared->Prop}
end
section
variable {X:Cx} {st:Stmt} {cR:List Stmt} {t u:TS} {e:Expr} {te:TE} {pos:Pos}
noncomputable def aHk:TS:=fun D σ H=>D.nx σ H
noncomputable def aNb (t u:TS):TS:=fun D σ H=>t { D with nx:=u D } σ H
theorem aDh:PSs X [] aHk:=fun _ _ σ H _ I h=>wpAny_execs_nil ⟨σ,H,I,h⟩
theorem fN (h1:PS X st t) (h2:PSs X cR u):PSs X (st::cR) (aNb t u):=by
 intro pins s σ H D I h
 refine wpAny_execs_cons (thn (h1 pins s σ H { D with nx:=u D } I h) fun f s1 q=> ?_)
 cases f with
 | next=>
  obtain⟨σ',H',I',q⟩:=q
  exact h2 pins s1 σ' H' D I' q
 | ret v=>exact q
 | brk=>exact q
 | cont=>exact q
theorem qL (h1:PS X st t):PSs X [st] t:=by
 intro pins s σ H D I h
 refine wpAny_execs_cons (thn (h1 pins s σ H D I h) fun f s1 q=> ?_)
 cases f with
 | next=>exact wpAny_execs_nil q
 | ret v=>exact q
 | brk=>exact q
 | cont=>exact q
noncomputable def aHl:TS:=fun D σ H=>D.bk σ H
noncomputable def aKq:TS:=fun D σ H=>D.ct σ H
theorem aDi:PS X (.Pass pos) aHk:=fun _ _ σ H _ I h=>wpAny_Pass ⟨σ,H,I,h⟩
theorem zY:PS X (.Break pos) aHl:=fun _ _ σ H _ I h=>wpAny_Break ⟨σ,H,I,h⟩
theorem qM:PS X (.Continue pos) aKq:=fun _ _ σ H _ I h=>wpAny_Continue ⟨σ,H,I,h⟩
theorem Inv.quiet {pins:List (Addr×Obj)} {σ:St} {H:Hp} {s:Shared} (I:Inv X pins σ H s):interactive X.env=false:=by simp [interactive,I.ok.kind]
noncomputable def aKr (te:TE):TS:=fun D σ H=>te σ H fun _ H1=>D.nx σ H1
theorem jR (he:PE X e te) (hs:swapsWith e none pos.line X.env=pure false:=by rfl):PS X (.Expr e pos) (aKr te):=by
 intro pins s σ H D I h
 exact wpAny_Expr_any (thn (he pins s σ H _ I h) fun v s1 ⟨x,H1,I1,r1,q1⟩=>⟨σ,H1,I1,q1⟩) I.quiet hs
noncomputable def aNc (te:TE):TS:=fun D σ H=>te σ H D.rt
theorem vV (he:PE X e te):PS X (.Return (some e) pos) (aNc te):=by
 intro pins s σ H D I h
 exact wpAny_Return_some (thn (he pins s σ H _ I h) fun v s1 ⟨x,H1,I1,r1,q1⟩=>⟨x,σ,H1,I1,r1,q1⟩)
noncomputable def aKs:TS:=fun D _ H=>D.rt .non H
theorem aDj:PS X (.Return none pos) aKs:=fun _ _ σ H _ I h=>wpAny_Return_none ⟨.non,σ,H,I,rfl,h⟩
noncomputable def aNd (c:TT) (t u:TS):TS:=fun D σ H=>c σ H fun b H1=>if b=true then t D σ H1 else u D σ H1
theorem aKt {c:Expr} {a b:List Stmt} {tc:TT} (hc:PT X c tc) (ha:PSs X a t) (hb:PSs X b u):PS X (.If c a b pos) (aNd tc t u):=by
 intro pins s σ H D I h
 refine wpAny_If (thn (hc pins s σ H _ I h) fun d s1 hz_=> ?_)
 obtain⟨H1,I1,q1⟩:=hz_
 cases d with
 | true=>exact ha pins s1 σ H1 D I1 q1
 | false=>exact hb pins s1 σ H1 D I1 q1
end
abbrev TG:=V->St->Hp->(St->Hp->Prop)->Prop
abbrev TGs:=List V->St->Hp->(St->Hp->Prop)->Prop
def PG (X:Cx) (target:Expr) (t:TG):Prop:=
 ∀ (pins:List (Addr×Obj)) (s:Shared) (σ:St) (H:Hp) (v:V) (u:Value) (Q:St->Hp->Prop),Inv X pins σ H s->bF v u->t v σ H Q->
  wpAny (model X.prog X.w) X.A (assign target X.env u) (fun _ s'=> ∃ σ' H',Inv X pins σ' H' s'/\Q σ' H') X.xe s
def PGs (X:Cx) (ts:List Expr) (t:TGs):Prop:=
 ∀ (pins:List (Addr×Obj)) (s:Shared) (σ:St) (H:Hp) (vs:List V) (us:List Value) (Q:St->Hp->Prop),Inv X pins σ H s->aZ vs us->t vs σ H Q->
  wpAny (model X.prog X.w) X.A (assignInOrder ((assignEach ts X.env).map (·.2)) us) (fun _ s'=> ∃ σ' H',Inv X pins σ' H' s'/\Q σ' H') X.xe s
abbrev aHm:=V->V->V->Hp->(Hp->Prop)->Prop
def aKu (X:Cx) (t:aHm):Prop:=
 ∀ (pins:List (Addr×Obj)) (s:Shared) (σ:St) (H:Hp) (o i v:V) (ov iv u:Value) (Q:Hp->Prop),Inv X pins σ H s->bF o ov->bF i iv->bF v u->t o i v H Q->
  wpAny (model X.prog X.w) X.A (setItem ov iv u) (fun _ s'=> ∃ H',Inv X pins σ H' s'/\Q H') X.xe s
abbrev TIp:=V->V->Hp->VK->Prop
def PIp (X:Cx) (op:Operator) (t:TIp):Prop:=
 ∀ (pins:List (Addr×Obj)) (s:Shared) (σ:St) (H:Hp) (x y:V) (v u:Value) (Q:VK),Inv X pins σ H s->bF x v->bF y u->t x y H Q->
  wpAny (model X.prog X.w) X.A (inplaceOp op v u) (EP X pins σ Q) X.xe s
section
variable {X:Cx} {pos:Pos}
noncomputable def gO (i:Nat):TG:=fun v σ H Q=>Q (σ.set i (some v)) H
theorem iJ {i:Nat} {x:Str} (hN:X.N.Nodup) (hi:X.N[i]? =some x) (hx:Loc X.env.scope x) (hf:X.fn x=true\/X.env.scope.names.lookup x=some .local:=by first | exact .inl rfl | exact .inr rfl | assumption):PG X (.Name x pos) (gO i):=by
 intro pins s σ H v u Q I r h
 exact wpAny_assign_Name (dM I hN hi hx r (fun s' I'=>⟨_,H,I',h⟩) hf)
noncomputable def aKv:TGs:=fun vs σ H Q=>vs=[]/\Q σ H
noncomputable def aDk (t:TG) (u:TGs):TGs:=fun vs σ H Q=> ∃ v r,vs=v::r/\t v σ H fun σ' H'=>u r σ' H' Q
theorem vW:PGs X [] aKv:=by
 intro pins s σ H vs us Q I r h
 obtain⟨e,h⟩:=h
 subst e
 cases r
 exact assignInOrder_nil ⟨σ,H,I,h⟩
theorem sB {e:Expr} {es:List Expr} {t:TG} {u:TGs} (h1:PG X e t) (h2:PGs X es u)
  (hs:(assignEach (e::es) X.env).map (·.2)=assign e X.env::(assignEach es X.env).map (·.2):=by rfl):PGs X (e::es) (aDk t u):=by
 intro pins s σ H vs us Q I r h
 obtain⟨v,vr,e1,h⟩:=h
 subst e1
 cases r with
 | cons r rr=>
  rw [hs]
  refine assignInOrder_cons (thn (h1 pins s σ H _ _ _ I r h) fun _ s1 hz_=> ?_)
  obtain⟨σ1,H1,I1,q1⟩:=hz_
  exact h2 pins s1 σ1 H1 _ _ Q I1 rr q1
noncomputable def aHn (K:PySem.W.Frag) (n:Nat) (t:TGs):TG:=fun v σ H Q=> ∃ a xs,v= .ref a/\SqT K H a xs/\xs.length=n/\t xs σ H Q
theorem aB6 {es:List Expr} {k:Nat} {t:TGs} {n:Nat} (hc:X.calm=true) (h:PGs X es t)
  (hn:(assignEach es X.env).length=n:=by rfl) (hst:(assignEach es X.env).findIdx? (·.1)=none:=by rfl):PG X (.Tuple es k pos) (aHn X.K n t):=by
 intro pins s σ H v u Q I r hw
 obtain⟨a,xs,e1,hq,hl,hw⟩:=hw
 subst e1
 cases r
 obtain⟨its,rv,ht,hz⟩:=I.tuple hq
 refine assign_Tuple_tuple (I.ok.hd hc) ht (by simp [hn, <-hl,rv.length]) hst fun h' hx=> ?_
 have I1:Inv X pins σ H { s with heap:=h' }:=I.kept (t':=s.toks) fun b o e=>hx b o (bf (ah e)) e
 exact h pins _ σ H xs _ Q I1 (by simpa using rv) hw
noncomputable def aNe (to ti:TE) (t:aHm):TG:=fun v σ H Q=>to σ H fun o H1=>ti σ H1 fun i H2=>t o i v H2 fun H3=>Q σ H3
theorem aHo {o i:Expr} {to ti:TE} {t:aHm} (ho:PE X o to) (hi:PE X i ti) (hs:aKu X t)
  (ha: ∀ v,assign (.Subscript o i pos) X.env v=(do
   let ov<-holding [v] (eval o X.env)
   let iv<-holding [v,ov] (eval i X.env)
   standAt pos
   holding [v,ov,iv] (setItem ov iv v)
   release [v,ov,iv] []):=by intro _;rfl):PG X (.Subscript o i pos) (aNe to ti t):=by
 intro pins s σ H v u Q I r h
 rw [ha]
 refine aa (wpAny_holding (thn (ho pins s σ H _ I h) fun ov s1 hz_=> ?_))
 obtain⟨x,H1,I1,r1,q1⟩:=hz_
 refine aa (wpAny_holding (thn (hi pins s1 σ H1 _ I1 q1) fun iv s2 hz_=> ?_))
 obtain⟨y,H2,I2,r2,q2⟩:=hz_
 refine aa (wpAny_standAt (aa (wpAny_holding (thn (hs pins s2 σ H2 x y v ov iv u _ I2 r1 r2 r q2) fun _ s3 hz_=> ?_))))
 obtain⟨H3,I3,q3⟩:=hz_
 exact wpAny_release ⟨σ,H3,I3,q3⟩
noncomputable def zZ (te:TE) (g:TG):TS:=fun D σ H=>te σ H fun x H1=>g x σ H1 D.nx
theorem aB7 {tg e:Expr} {te:TE} {g:TG} (he:PE X e te) (hg:PG X tg g) (hs:swapsWithSole [tg] e pos.line X.env=pure false:=by rfl) (hw:swappedStores [tg] e X.env=pure none:=by rfl)
  (h1:(assignEach [tg] X.env).map (·.2)=[assign tg X.env]:=by rfl):PS X (.Assign [tg] e pos) (zZ te g):=by
 intro pins s σ H D I h
 refine wpAny_Assign_stores (thn (he pins s σ H _ I h) fun v s1 ⟨x,H1,I1,r1,q1⟩=> ?_) hs hw
 rw [h1]
 exact thn (hg pins s1 σ H1 x v _ I1 r1 q1) fun _ s2 q=>q
theorem lJ {i:Nat} {x:Str} {e:Expr} {te:TE} {pos':Pos} (hN:X.N.Nodup) (hi:X.N[i]? =some x) (hx:Loc X.env.scope x) (he:PE X e te) (hs:swapsWith e (some (.Name x pos')) pos.line X.env=pure false:=by rfl) (hf:X.fn x=true\/X.env.scope.names.lookup x=some .local:=by first | exact .inl rfl | exact .inr rfl | assumption):
  PS X (.Assign [.Name x pos'] e pos) (zZ te (gO i)):=by
 intro pins s σ H D I h
 refine wpAny_Assign_Name (thn (he pins s σ H _ I h) fun v s1 ⟨y,H1,I1,r1,q1⟩=> ?_) hs
 exact dM I1 hN hi hx r1 (fun s2 I2=>⟨_,H1,I2,q1⟩) hf
noncomputable def aNf (i j:Nat) (ta:TA):TS:=fun D σ H=>ta σ H fun vs H1=> ∃ v w,vs=[v,w]/\D.nx ((σ.set i (some v)).set j (some w)) H1
theorem aHp {i j:Nat} {x y:Str} {a b:Expr} {ta:TA} {px py pt:Pos} {kt k2 pt2} (hc:X.calm=true) (hN:X.N.Nodup) (hi:X.N[i]? =some x) (hj:X.N[j]? =some y) (hij:i≠j)
  (hx:X.env.scope.names.lookup x=some .local) (hy:X.env.scope.names.lookup y=some .local) (ha:PA X [a,b] ta)
  (hw:swappedStores [.Tuple [.Name x px, .Name y py] kt pt] (.Tuple [a,b] k2 pt2) X.env=pure (some [x,y]))
  (hs:swapsWithSole [.Tuple [.Name x px, .Name y py] kt pt] (.Tuple [a,b] k2 pt2) pos.line X.env=pure false:=by rfl):
  PS X (.Assign [.Tuple [.Name x px, .Name y py] kt pt] (.Tuple [a,b] k2 pt2) pos) (aNf i j ta):=by
 intro pins s σ H D I h
 rw [exec_Assign_arm]
 refine aa (wpAny_standAt ?_)
 rw [hs]
 refine aa (ae ?_)
 rw [if_neg (by decide)]
 refine aa (Tuple_ (thn (ha _ pins s σ H _ I h) fun us s1 hz_=> ?_))
 obtain⟨vs,H1,I1,r1,q1⟩:=hz_
 obtain⟨v,w,e1,q1⟩:=q1
 subst e1
 obtain⟨u1,u2,rfl,rv,rw'⟩: ∃ u1 u2,us=[u1,u2]/\bF v u1/\bF w u2:=by
  cases r1 with
  | cons p q=>
   cases q with
   | cons p' q'=>
    cases q'
    exact⟨_,_,rfl,p,p'⟩
 refine wpAny_newObj_type ?_ (by show 2<=sizeLine;decide)
 have I2:Inv X pins σ H1 { s1 with heap:=s1.heap.push { cls:= .type "tuple",data:= .seq [u1,u2].toArray } }:=I1.kept (t':=s1.toks) fun b o e=>af _ e
 rw [hw]
 refine aa (ae ?_)
 show wpAny (model X.prog X.w) X.A (do rule "assign.swapped-stores";let items<-unpackItems (.ref s1.heap.objs.size) 2 none;assignInOrder [fun v=>bindName X.env y v,fun v=>bindName X.env x v] items.reverse;pure Flow.next) _ _ _
 refine aa (wpAny_rule (aa (unpackItems_tuple (items:= #[u1,u2]) (I.ok.hd hc) (IsTup.new s1.heap _) fun h' hx'=> ?_)))
 have I3:=I2.kept (h':=h') (t':=s1.toks) fun b o e=>hx' b o (bf (ah e)) e
 show wpAny _ _ (assignInOrder [fun v=>bindName X.env y v,fun v=>bindName X.env x v] [u2,u1] >>= fun _=>pure Flow.next) _ _ _
 refine aa (assignInOrder_cons (wpAny_bindName (dM I3 hN hj (.inl hy) rw' (fun s2 I4=> ?_) (.inr hy))))
 refine assignInOrder_cons (wpAny_bindName (dM I4 hN hi (.inl hx) rv (fun s3 I5=>assignInOrder_nil (ae ?_)) (.inr hx)))
 rw [List.set_comm _ _ (Ne.symm hij)] at I5
 exact⟨_,H1,I5,q1⟩
noncomputable def aNg (i:Nat) (te:TE) (ti:TIp):TS:=fun D σ H=> ∃ x,σ[i]? =some (some x)/\te σ H fun y H1=>ti x y H1 fun z H2=>D.nx (σ.set i (some z)) H2
theorem aB8 {i:Nat} {x:Str} {e:Expr} {te:TE} {op:Operator} {ti:TIp} {pos':Pos} (hN:X.N.Nodup) (hi:X.N[i]? =some x) (hx:Loc X.env.scope x) (he:PE X e te) (ho:PIp X op ti) (hf:X.fn x=true\/X.env.scope.names.lookup x=some .local:=by first | exact .inl rfl | exact .inr rfl | assumption):
  PS X (.AugAssign (.Name x pos') op e pos) (aNg i te ti):=by
 intro pins s σ H D I h
 obtain⟨v,e1,h⟩:=h
 obtain⟨m,hn,hl⟩:=I.loc
 have vis:Vis X.env.scope x:=by rcases hx with k | k;exact .inl k;exact .inr (.inl k)
 obtain⟨u,r,l⟩:=hl i x v hi e1 vis
 refine wpAny_AugAssign_Name ?_
 have go:wpAny (model X.prog X.w) X.A (eval e X.env) (fun w s₂=>wpAny (model X.prog X.w) X.A (inplaceOp op u w) (fun r s₃=>wpAny (model X.prog X.w) X.A (storeName X.env x r) (fun _=>SP X pins D .next) X.xe s₃) X.xe s₂) X.xe s:=by
  refine thn (he pins s σ H _ I h) fun w s1 hz_=> ?_
  obtain⟨y,H1,I1,r1,q1⟩:=hz_
  refine thn (ho pins s1 σ H1 v y u w _ I1 r r1 q1) fun z s2 hz_=> ?_
  obtain⟨zv,H2,I2,r2,q2⟩:=hz_
  exact dM I2 hN hi hx r2 (fun s3 I3=>⟨_,H2,I3,q2⟩) hf
 rcases l with ⟨hk,hm⟩ | ⟨hk,c,hc,hcell⟩
 ·exact wpAny_loadName_local I.ok.kind hk hn hm go
 ·rcases hk with hk | hk
  ·exact wpAny_loadName_cell I.ok.kind hk hc hcell go
  ·rcases hx with k | k
   ·have:X.env.scope.names.lookup x=some .free:=hk
    rw [k] at this;cases this
   ·have:X.env.scope.names.lookup x=some .free:=hk
    rw [k] at this;cases this
noncomputable def aKw (to ti te:TE) (tget:V->V->Hp->VK->Prop) (tip:TIp) (tset:aHm):TS:=fun D σ H=>to σ H fun o H1=>ti σ H1 fun i H2=>tget o i H2 fun x H3=>te σ H3 fun y H4=>tip x y H4 fun z H5=>tset o i z H5 fun H6=>D.nx σ H6
def aMg (X:Cx) (t:V->V->Hp->VK->Prop):Prop:=
 ∀ (pins:List (Addr×Obj)) (s:Shared) (σ:St) (H:Hp) (o i:V) (ov iv:Value) (Q:VK),Inv X pins σ H s->bF o ov->bF i iv->t o i H Q->
  wpAny (model X.prog X.w) X.A (getItem ov iv) (EP X pins σ Q) X.xe s
theorem aDl {o i e:Expr} {to ti te:TE} {tget:V->V->Hp->VK->Prop} {tip:TIp} {tset:aHm} {op:Operator} {tpos:Pos} (ho:PE X o to) (hi:PE X i ti) (hg:aMg X tget) (he:PE X e te) (hp:PIp X op tip) (hs:aKu X tset)
  (ha: ∀ ov iv new,augStore i ov iv new=(do holding [new,ov,iv] (setItem ov iv new);release [new,ov,iv] [];pure .next):=by intros;rfl):PS X (.AugAssign (.Subscript o i tpos) op e pos) (aKw to ti te tget tip tset):=by
 intro pins s σ H D I h
 refine wpAny_AugAssign_SubscriptAny (thn (ho pins s σ H _ I h) fun ov s1 ⟨x1,H1,I1,r1,q1⟩=> ?_) ha
 refine thn (hi pins s1 σ H1 _ I1 q1) fun iv s2 hz_=> ?_
 obtain⟨x2,H2,I2,r2,q2⟩:=hz_
 refine thn (hg pins s2 σ H2 x1 x2 ov iv _ I2 r1 r2 q2) fun old s3 hz_=> ?_
 obtain⟨x3,H3,I3,r3,q3⟩:=hz_
 refine thn (he pins s3 σ H3 _ I3 q3) fun v s4 hz_=> ?_
 obtain⟨x4,H4,I4,r4,q4⟩:=hz_
 refine thn (hp pins s4 σ H4 x3 x4 old v _ I4 r3 r4 q4) fun new s5 hz_=> ?_
 obtain⟨x5,H5,I5,r5,q5⟩:=hz_
 exact thn (hs pins s5 σ H5 x1 x2 x5 ov iv new _ I5 r1 r2 r5 q5) fun _ s6 ⟨H6,I6,q6⟩=>⟨σ,H6,I6,q6⟩
noncomputable def ipI (f:Int->Int->Int):TIp:=fun x y H Q=> ∃ i j,x= .int i/\y= .int j/\Q (.int (f i j)) H
theorem aB9:PIp X .Add (ipI fun i j=>i+j):=by
 intro pins s σ H x y v u Q I r1 r2 h
 obtain⟨i,j,e1,e2,q⟩:=h
 subst e1;subst e2
 obtain⟨t,rfl⟩:=r1
 obtain⟨t',rfl⟩:=r2
 exact iadd_int ⟨.int _,H,I.tok _,⟨_,rfl⟩,q⟩
theorem aHq:PIp X .Sub (ipI fun i j=>i - j):=by
 intro pins s σ H x y v u Q I r1 r2 h
 obtain⟨i,j,e1,e2,q⟩:=h
 subst e1;subst e2
 obtain⟨t,rfl⟩:=r1
 obtain⟨t',rfl⟩:=r2
 exact isub_int ⟨.int _,H,I.tok _,⟨_,rfl⟩,q⟩
end
section
variable {X:Cx} {pos:Pos}
noncomputable def aHr (c:TT) (tb:TS):TS:=fun D σ H=> ∃ W:Nat->St->Hp->Prop,(∃ m,W m σ H)/\ ∀ m σ H,W m σ H->
 c σ H fun b H1=>if b=true then ∃ N:St->Hp->Prop,(∀ σ' H',N σ' H'-> ∃ m',m'<m/\W m' σ' H')/\tb { D with nx:=N,ct:=N,bk:=D.nx } σ H1 else D.nx σ H1
theorem z9 {c:Expr} {body:List Stmt} {tc:TT} {tb:TS} (hp:PassesOwn (model X.prog X.w) X.A X.env X.xe) (hc:PT X c tc) (hb:PSs X body tb):PS X (.While c body [] pos) (aHr tc tb):=by
 intro pins s σ H D I h
 obtain⟨W,⟨m0,w0⟩,turn⟩:=h
 refine wpAny_While (codeAny_whileLoop (fun n s'=> ∃ σ' H',Inv X pins σ' H' s'/\W n σ' H') ?_ m0 ⟨σ,H,I,w0⟩)
 rintro n s1 ⟨σ1,H1,I1,w1⟩
 refine wpAny_passesOwn hp (thn (hc pins s1 σ1 H1 _ I1 (turn n σ1 H1 w1)) fun b s2 hz_=> ?_)
 obtain⟨H2,I2,q2⟩:=hz_
 cases b with
 | true=>
  obtain⟨N,hN,q2⟩:=q2
  rw [if_pos rfl]
  refine wpAny_passesOwn hp (thn (hb pins s2 σ1 H2 _ I2 q2) fun f s3 q3=> ?_)
  cases f with
  | next=>
   obtain⟨σ3,H3,I3,n3⟩:=q3
   obtain⟨m',hm,w3⟩:=hN σ3 H3 n3
   exact⟨m',hm,σ3,H3,I3,w3⟩
  | cont=>
   obtain⟨σ3,H3,I3,n3⟩:=q3
   obtain⟨m',hm,w3⟩:=hN σ3 H3 n3
   exact⟨m',hm,σ3,H3,I3,w3⟩
  | brk=>exact q3
  | ret v=>exact q3
 | false=>
  rw [if_neg ba]
  exact wpAny_execs_nil ⟨σ1,H2,I2,q2⟩
end
structure It where
 go:Nat->Hp->Prop
 yld:Nat->Hp->V->Hp->Prop
 stop:Nat->Hp->Prop
def qN (X:Cx) (pins:List (Addr×Obj)) (H:Hp) (b:Addr):Prop:=
 H b=none/\b≠X.env.locals/\b∉X.fs/\(b∈X.ex\/X.s₀.heap.objs.size<=b)/\(∀ x c,X.env.cells.lookup x=some c->c≠b)/\ ∀ p∈X.pn++pins,p.1≠b
theorem Inv.fpOk {X:Cx} {pins:List (Addr×Obj)} {σ:St} {H H':Hp} {s:Shared} {b:Addr} (I:Inv X pins σ H s) (hb:s.heap.objs.size<=b) (hn:H' b=none):qN X pins H' b:=by
 refine⟨hn,Nat.ne_of_gt (bd I.lt hb),I.nofs hb, .inr (Nat.le_trans I.sz hb),fun x c e z=> ?_,fun p hp z=> ?_⟩
 ·obtain⟨v,q⟩:=I.cell x c e
  exact absurd (bd q.lt (by rw [z];exact hb)) (Nat.lt_irrefl _)
 ·exact absurd (bd (ah (I.pin p hp).1) (by rw [z];exact hb)) (Nat.lt_irrefl _)
structure Turn (P:Program) (w:World) (K:PySem.W.Frag) (tg:Expr) (J:It) (fp:List Addr) (it:Addr) (tn:Nat->Heap->Prop):Prop where
 mem:it∈fp
 obj: ∀ i h,tn i h-> ∀ b∈fp, ∃ o,h.get? b=some o/\ ∀ v,o.data≠ .cell v
 keep: ∀ i h h',tn i h->(∀ b∈fp, ∀ o,h.get? b=some o->h'.get? b=some o)->tn i h'
 item: ∀ (X:Cx),X.prog=P->X.w=w->X.K=K->X.calm=true-> ∀ (i:Nat) (pins:List (Addr×Obj)) (s:Shared) (σ:St) (H:Hp) (E:Value->Shared->Prop),Inv X pins σ H s->(∀ b∈fp,qN X pins H b)->tn i s.heap->J.go i H->
  wpAny (model P w) X.A (pyNext (.ref it)) (fun r s1=> ∃ u,r=some u/\
   wpAny (model P w) X.A (letOwnedTupleGo tg (.ref it) u) (fun _ s2=> ∃ x H',Inv X pins σ H' s2/\bF x u/\J.yld i H x H'/\tn (i+1) s2.heap/\ ∀ b∈fp,H' b=none) E s1) E s
 done: ∀ (X:Cx),X.prog=P->X.w=w->X.K=K->X.calm=true-> ∀ (i:Nat) (pins:List (Addr×Obj)) (s:Shared) (σ:St) (H:Hp) (E:Value->Shared->Prop),Inv X pins σ H s->(∀ b∈fp,qN X pins H b)->tn i s.heap->J.stop i H->
  wpAny (model P w) X.A (pyNext (.ref it)) (fun r s1=>r=none/\Inv X pins σ H s1) E s
 self: ∀ (A:Around) (i:Nat) (s:Shared) (Q:Value->Shared->Prop) (E:Value->Shared->Prop),tn i s.heap->Q (.ref it) s->wpAny (model P w) A (pyIter (.ref it)) Q E s
abbrev TI:=St->Hp->(It->Hp->Prop)->Prop
def PIE (X:Cx) (pins:List (Addr×Obj)) (σ:St) (tg:Expr) (R:It->Hp->Prop) (itv:Value) (s2:Shared):Prop:=
 ∃ (it:Addr) (fp:List Addr) (tn:Nat->Heap->Prop) (J:It) (H':Hp),itv= .ref it/\Inv X pins σ H' s2/\Turn X.prog X.w X.K tg J fp it tn/\tn 0 s2.heap/\(∀ b∈fp,qN X pins H' b)/\R J H'
def PI (X:Cx) (tg iter:Expr) (wi:TI):Prop:=
 ∀ (pins:List (Addr×Obj)) (s:Shared) (σ:St) (H:Hp) (R:It->Hp->Prop),Inv X pins σ H s->wi σ H R->
  wpAny (model X.prog X.w) X.A (eval iter X.env) (fun v s1=>wpAny (model X.prog X.w) X.A (pyIter v) (PIE X pins σ tg R) X.xe s1) X.xe s
theorem aDm {M:Model} {A:Around} {E:Value->Shared->Prop} {s:Shared} {tg:Expr} {it:Addr} {u:Value} {o:Obj} {n:String} {vs:Array Value} {Q:Unit->Shared->Prop} (ho:s.heap.get? it=some o) (hc:o.cls= .type n) (hd:o.data= .fields vs)
  (hn:["enumerate","zip","dict_itemiterator","dict_reverseitemiterator","odict_iterator","itertools.zip_longest","itertools.pairwise"].contains n=false) (hQ:Q () s):wpAny M A (letOwnedTupleGo tg (.ref it) u) Q E s:=by
 unfold letOwnedTupleGo
 cases tg<;>first
  | exact ae hQ
  | (cases u<;>first
    | exact ae hQ
    | (refine aa (wpAny_load ho ?_)
       rw [hc,hd]
       show wpAny M A (if(["enumerate","zip","dict_itemiterator","dict_reverseitemiterator","odict_iterator","itertools.zip_longest","itertools.pairwise"].contains n&&vs[0]? ==some (rawInt _))=true then _ else _) Q E s
       rw [if_neg (by intro h;rw [hn,Bool.false_and] at h;cases h)]
       exact ae hQ))
noncomputable def Itl (K:PySem.W.Frag) (a:Addr):It:=
 ⟨fun i H=> ∃ xs x,SqL K H a xs/\xs[i]? =some x,fun i H x H'=>H'=H/\ ∀ xs,SqL K H a xs->xs[i]? =some x,fun i H=> ∃ xs,SqL K H a xs/\xs.length<=i⟩
noncomputable def Itt (K:PySem.W.Frag) (a:Addr):It:=
 ⟨fun i H=> ∃ xs x,SqT K H a xs/\xs[i]? =some x,fun i H x H'=>H'=H/\ ∀ xs,SqT K H a xs->xs[i]? =some x,fun i H=> ∃ xs,SqT K H a xs/\xs.length<=i⟩
noncomputable def Itr (lo:Int) (n:Nat):It:=⟨fun i _=>i<n,fun i H x H'=>H'=H/\x= .int (lo+i),fun i _=>n<=i⟩
theorem jS {P:Program} {w:World} {K:PySem.W.Frag} {tg:Expr} (a it:Addr):Turn P w K tg (Itl K a) [it] it (fun i h=>h.IsListIter it a i) where
 mem:=by simp
 obj:=fun i h st b hb=>by
  have e:b=it:=by simpa using hb
  subst e
  obtain⟨o,e,c,d⟩:=st
  exact⟨o,e,fun v z=>by rw [d] at z;cases z⟩
 keep:=fun i h h' st k=>st.at fun o e=>k it (by simp) o e
 item:=by
  intro X hP hw hK hc i pins s σ H E I hf st hg
  subst hP hw hK
  obtain⟨xs,x,hq,hx⟩:=hg
  obtain⟨its,rv,p,hz⟩:=I.list hq
  obtain⟨u,hu,ru⟩:=rv.get hx
  obtain⟨f0,f1,f2,f3,f4,f5⟩:=hf it (by simp)
  refine wpAny_pyNext_list_item st p.isList (x:=u) (by simpa using hu) fun h' st' sb=> ?_
  have I1:Inv X pins σ H { s with heap:=h' }:=I.turned (t':=s.toks) (fun b o hb e=>(sb.2 b hb).trans e) f0 f1 f3 f4 f5
  obtain⟨o,e,c,d⟩:=id st'
  exact⟨u,rfl,aDm (s:={ s with heap:=h' }) e c d (by decide) ⟨x,H,I1,ru,⟨rfl,fun ys hy=>by rw [I.list_inj hy hq];exact hx⟩,st',fun b hb=>(hf b hb).1⟩⟩
 done:=by
  intro X hP hw hK hc i pins s σ H E I hf st hg
  subst hP hw hK
  obtain⟨xs,hq,hx⟩:=hg
  obtain⟨its,rv,p,hz⟩:=I.list hq
  obtain⟨f0,f1,f2,f3,f4,f5⟩:=hf it (by simp)
  have hl:=rv.length
  exact wpAny_pyNext_list_end (I.ok.hd hc) st p.isList (by simp;omega) fun h' eb=>⟨rfl,I.turned (t':=s.toks) (fun b o hb e=>eb b o hb e) f0 f1 f3 f4 f5⟩
 self:=fun _ _ _ _ _ st h=>wpAny_pyIter_listiter st h
theorem lK {P:Program} {w:World} {K:PySem.W.Frag} {tg:Expr} (a it:Addr):Turn P w K tg (Itt K a) [it] it (fun i h=>h.IsTupleIter it a i) where
 mem:=by simp
 obj:=fun i h st b hb=>by
  have e:b=it:=by simpa using hb
  subst e
  obtain⟨o,e,c,d⟩:=st
  exact⟨o,e,fun v z=>by rw [d] at z;cases z⟩
 keep:=fun i h h' st k=>st.at fun o e=>k it (by simp) o e
 item:=by
  intro X hP hw hK hc i pins s σ H E I hf st hg
  subst hP hw hK
  obtain⟨xs,x,hq,hx⟩:=hg
  obtain⟨its,rv,p,hz⟩:=I.tuple hq
  obtain⟨u,hu,ru⟩:=rv.get hx
  obtain⟨f0,f1,f2,f3,f4,f5⟩:=hf it (by simp)
  refine wpAny_pyNext_tuple_item st (show s.heap.IsTuple a its.toArray from p) (x:=u) (by simpa using hu) fun h' st' sb=> ?_
  have I1:Inv X pins σ H { s with heap:=h' }:=I.turned (t':=s.toks) (fun b o hb e=>(sb.2 b hb).trans e) f0 f1 f3 f4 f5
  obtain⟨o,e,c,d⟩:=id st'
  exact⟨u,rfl,aDm (s:={ s with heap:=h' }) e c d (by decide) ⟨x,H,I1,ru,⟨rfl,fun ys hy=>by rw [I.tuple_inj hy hq];exact hx⟩,st',fun b hb=>(hf b hb).1⟩⟩
 done:=by
  intro X hP hw hK hc i pins s σ H E I hf st hg
  subst hP hw hK
  obtain⟨xs,hq,hx⟩:=hg
  obtain⟨its,rv,p,hz⟩:=I.tuple hq
  obtain⟨f0,f1,f2,f3,f4,f5⟩:=hf it (by simp)
  have hl:=rv.length
  exact wpAny_pyNext_tuple_end (I.ok.hd hc) st (show s.heap.IsTuple a its.toArray from p) (by simp;omega) fun h' eb=>⟨rfl,I.turned (t':=s.toks) (fun b o hb e=>eb b o hb e) f0 f1 f3 f4 f5⟩
 self:=fun _ _ _ _ _ st h=>wpAny_pyIter_tupleiter st h
theorem uO {P:Program} {w:World} {K:PySem.W.Frag} {tg:Expr} (it:Addr) (lo:Int) (n:Nat):Turn P w K tg (Itr lo n) [it] it (fun i h=>IsRangeIter h it (lo+(i:Nat) * 1) ((n:Int) - (i:Nat)) 1) where
 mem:=by simp
 obj:=fun i h st b hb=>by
  have e:b=it:=by simpa using hb
  subst e
  exact⟨_,st,fun v z=>by
   have z':Data.fields _=Data.cell v:=z
   cases z'⟩
 keep:=fun i h h' st k=>k it (by simp) _ st
 item:=by
  intro X hP hw hK hc i pins s σ H E I hf st hg
  subst hP hw hK
  obtain⟨f0,f1,f2,f3,f4,f5⟩:=hf it (by simp)
  have W:=Walks.range (prog:=X.prog) (w:=X.w) (I.ok.hd hc) it lo 1 n
  refine W.item i s _ _ hg st fun v h' tk hv st' kk=> ?_
  obtain⟨t,rfl⟩:=hv
  have I1:Inv X pins σ H { s with heap:=h',toks:=tk }:=I.turned (fun b o hb e=>kk b o (by simpa using hb) e) f0 f1 f3 f4 f5
  refine⟨_,rfl,aDm (s:={ s with heap:=h',toks:=tk }) (n:="range_iterator") st' rfl rfl (by decide) ⟨.int (lo+i),H,I1,⟨t, ?_⟩,⟨rfl,rfl⟩,st',fun b hb=>(hf b hb).1⟩⟩
  rw [Int.mul_one]
 done:=by
  intro X hP hw hK hc i pins s σ H E I hf st hg
  subst hP hw hK
  obtain⟨f0,f1,f2,f3,f4,f5⟩:=hf it (by simp)
  exact wpAny_pyNext_range_end (I.ok.hd hc) st (by have:n<=i:=hg;omega) fun h' eb=>⟨rfl,I.turned (t':=s.toks) (fun b o hb e=>eb b o hb e) f0 f1 f3 f4 f5⟩
 self:=fun _ _ _ _ _ st h=>wpAny_pyIter_rangeiter st h
section
variable {X:Cx} {tg:Expr}
noncomputable def aKx (K:PySem.W.Frag) (tl:TE):TI:=fun σ H R=>tl σ H fun x H1=> ∃ a,x= .ref a/\(∃ xs,SqL K H1 a xs)/\R (Itl K a) H1
theorem aDn {l:Expr} {tl:TE} (hl:PE X l tl):PI X tg l (aKx X.K tl):=by
 intro pins s σ H R I h
 refine thn (hl pins s σ H _ I h) fun v s1 hz_=> ?_
 obtain⟨x,H1,I1,r1,q1⟩:=hz_
 obtain⟨a,e,⟨xs,hq⟩,q⟩:=q1
 subst e
 cases r1
 obtain⟨its,rv,p,hz⟩:=I1.list hq
 refine wpAny_pyIter_list p.isList ?_
 refine⟨s1.heap.objs.size,[s1.heap.objs.size],_,_,H1,rfl,I1.kept (t':=s1.toks) fun b o e=>af _ e,jS a _,⟨_,ag _ rfl,rfl,rfl⟩,fun b hb=> ?_,q⟩
 have e:b=s1.heap.objs.size:=by simpa using hb
 subst e
 exact I1.fpOk (aj _) (I1.hok.fresh (aj _))
theorem aAa {pins:List (Addr×Obj)} {σ:St} {H:Hp} {s:Shared} {R:It->Hp->Prop} {E:Value->Shared->Prop} {lo hi:Int} {t u v:Tok} {tk:Nat} (I:Inv X pins σ H s) (h1: -(2 ^ 62)<=lo) (h2:lo<2 ^ 62) (h3: -(2 ^ 62)<=hi) (h4:hi<2 ^ 62)
  (q:R (Itr lo (hi - lo).toNat) H):wpAny (model X.prog X.w) X.A (pyIter (.ref s.heap.objs.size)) (PIE X pins σ tg R) E { s with heap:=s.heap.push { cls:= .type "range",data:= .fields #[.int lo t, .int hi u, .int 1 v] },toks:=tk }:=by
 refine wpAny_pyIter_range (IsRange.new ..) (small_one h1 h2 h3 h4) ?_
 have I1:Inv X pins σ H { s with heap:=s.heap.push { cls:= .type "range",data:= .fields #[.int lo t, .int hi u, .int 1 v] },toks:=tk }:=I.kept fun b o e=>af _ e
 refine⟨(s.heap.push { cls:= .type "range",data:= .fields #[.int lo t, .int hi u, .int 1 v] }).objs.size,[(s.heap.push { cls:= .type "range",data:= .fields #[.int lo t, .int hi u, .int 1 v] }).objs.size],_,_,H,rfl,
  I1.kept (t':=tk) fun b o e=>af _ e,uO _ lo (hi - lo).toNat, ?_,fun b hb=> ?_,q⟩
 ·have e1:lo+((0:Nat):Int) * 1=lo:=by simp
  have e2:(((hi - lo).toNat:Nat):Int) - ((0:Nat):Int)=Builtin.Range.rangeSize lo hi 1:=by rw [rangeSize_one];split<;>omega
  show IsRangeIter _ _ (lo+((0:Nat):Int) * 1) ((((hi - lo).toNat:Nat):Int) - ((0:Nat):Int)) 1
  rw [e1,e2]
  exact ag _ rfl
 ·have e:b=(s.heap.push { cls:= .type "range",data:= .fields #[.int lo t, .int hi u, .int 1 v] }).objs.size:=by simpa using hb
  subst e
  exact I1.fpOk (aj _) (I1.hok.fresh (aj _))
noncomputable def aKy (ta:TA):TI:=fun σ H R=>ta σ H fun vs H1=> ∃ j:Int,vs=[.int j]/\ -(2 ^ 62)<=j/\j<2 ^ 62/\R (Itr 0 j.toNat) H1
theorem n9 {a:Expr} {ta:TA} {p pos:Pos} (hg:Gl X "range") (hm:X.mg "range"=none) (ha:PA X [a] ta) (hs:starEach [a] X.env=[(false,eval a X.env)]:=by rfl):PI X tg (.Call (.Name "range" p) [a] [] pos) (aKy ta):=by
 intro pins s σ H R I h
 refine Call_ (eW I hg hm boot_range (PyProof.Rows.callWith_type1 (thn (ha pos pins s σ H _ I h) fun us s1 ⟨vs,H1,I1,r1,q1⟩=> ?_) hs rfl))
 obtain⟨j,e,q1,q2,q⟩:=q1
 subst e
 cases r1 with
 | cons r rr=>
  cases rr
  obtain⟨t,rfl⟩:=r
  exact call_range_1 (aAa I1 (by omega) (by omega) q1 q2 (by simpa using q))
noncomputable def aNh (wi:TI) (g:TG) (tb:TS):TS:=fun D σ H=>wi σ H fun J H1=> ∃ W:Nat->Nat->St->Hp->Prop,(∃ m,W 0 m σ H1)/\ ∀ i m σ H,W i m σ H->
 (J.stop i H/\D.nx σ H)\/(J.go i H/\ ∃ N:St->Hp->Prop,(∀ σ' H',N σ' H'-> ∃ m',m'<m/\W (i+1) m' σ' H')/\ ∀ x H',J.yld i H x H'->g x σ H' fun σ2 H2=>tb { D with nx:=N,ct:=N,bk:=D.nx } σ2 H2)
noncomputable def lL (fp:List Addr) (h:Heap):List (Addr×Obj):=fp.filterMap fun b=>(h.get? b).map fun o=>(b,o)
theorem fO {fp:List Addr} {h:Heap} {b:Addr} {o:Obj} (hb:b∈fp) (e:h.get? b=some o):(b,o)∈lL fp h:=List.mem_filterMap.mpr ⟨b,hb,by rw [e];rfl⟩
theorem vX {fp:List Addr} {h:Heap} {p:Addr×Obj} (hp:p∈lL fp h):p.1∈fp/\h.get? p.1=some p.2:=by
 obtain⟨b,hb,e⟩:=List.mem_filterMap.mp hp
 cases q:h.get? b with
 | none=>rw [q] at e;cases e
 | some o=>
  rw [q] at e
  have e':(b,o)=p:=Option.some.inj e
  subst e'
  exact⟨hb,q⟩
theorem Inv.pinned {pins:List (Addr×Obj)} {σ:St} {H:Hp} {s:Shared} {fp:List Addr} (I:Inv X pins σ H s) (hf: ∀ b∈fp,qN X pins H b) (ho: ∀ b∈fp, ∃ o,s.heap.get? b=some o/\ ∀ v,o.data≠ .cell v):Inv X (pins++lL fp s.heap) σ H s:=
 I.pins_of fun p hp=>(List.mem_append.mp hp).elim (fun z=>I.pin p (bo _ z)) fun z=>by
  obtain⟨hb,e⟩:=vX z
  obtain⟨f0,f1,f2,_⟩:=hf p.1 hb
  obtain⟨o,e',d⟩:=ho p.1 hb
  rw [e] at e';cases e'
  exact⟨e,f0,f1,f2,d⟩
theorem Inv.unpinned {pins pl:List (Addr×Obj)} {σ:St} {H:Hp} {s:Shared} (I:Inv X (pins++pl) σ H s):Inv X pins σ H s:=I.pins_of fun p hp=>I.pin p (bo _ (List.mem_append_left _ hp))
theorem aCa {iter:Expr} {body:List Stmt} {wi:TI} {g:TG} {tb:TS} {pos:Pos} (hp:PassesOwn (model X.prog X.w) X.A X.env X.xe) (hc:X.calm=true) (hi:PI X tg iter wi) (hg:PG X tg g) (hb:PSs X body tb)
  (hs: ∀ x,foldedSetIterable iter X.env x=pure x:=by intro _;rfl):PS X (.For tg iter body [] pos) (aNh wi g tb):=by
 intro pins s σ H D I h
 refine wpAny_For (thn (hi pins s σ H _ I h) fun v s1 h1=>thn h1 fun itv s2 h2=> ?_) hs
 obtain⟨it,fp,tn,J,H2,e,I2,T,st2,f2,W,⟨m0,w0⟩,turn⟩:=h2
 subst e
 -- what stays true of the iterator's objects through the loop
 have stat: ∀ {H':Hp},(∀ b∈fp,H' b=none)-> ∀ b∈fp,qN X pins H' b:=fun hn b hb=>⟨hn b hb,(f2 b hb).2⟩
 refine codeAny_forLoop_any (fun n s'=> ∃ i σ' H',Inv X pins σ' H' s'/\tn i s'.heap/\(∀ b∈fp,H' b=none)/\W i n σ' H') ?_ m0 ⟨0,σ,H2,I2,st2,fun b hb=>(f2 b hb).1,w0⟩
 rintro n s3 ⟨i,σ3,H3,I3,st3,fr3,w3⟩
 rcases turn i n σ3 H3 w3 with ⟨stop,qn⟩ | ⟨go,N,hN,step⟩
 ·refine wpAny_passesOwn hp (thn (T.done X rfl rfl rfl hc i pins s3 σ3 H3 X.xe I3 (stat fr3) st3 stop) fun r s4 hz_=> ?_)
  obtain⟨hr,I4⟩:=hz_
  subst hr
  exact wpAny_execs_nil ⟨σ3,H3,I4,qn⟩
 ·refine wpAny_passesOwn hp (thn (T.item X rfl rfl rfl hc i pins s3 σ3 H3 X.xe I3 (stat fr3) st3 go) fun r s4 hz_=> ?_)
  obtain⟨u,hr,h4⟩:=hz_
  subst hr
  refine wpAny_passesOwn hp (thn h4 fun _ s5 hz_=> ?_)
  obtain⟨x,H5,I5,r5,y5,st5,fr5⟩:=hz_
  have I5':=I5.pinned (stat fr5) (T.obj _ _ st5)
  refine wpAny_passesOwn hp (thn (hg _ s5 σ3 H5 x u _ I5' r5 (step x H5 y5)) fun _ s6 hz_=> ?_)
  obtain⟨σ6,H6,I6,q6⟩:=hz_
  refine wpAny_passesOwn hp (thn (hb _ s6 σ6 H6 _ I6 q6) fun f s7 q7=> ?_)
  have again: ∀ {σ7:St} {H7:Hp},Inv X (pins++lL fp s5.heap) σ7 H7 s7->N σ7 H7-> ∃ m,m<n/\ ∃ i σ' H',Inv X pins σ' H' s7/\tn i s7.heap/\(∀ b∈fp,H' b=none)/\W i m σ' H':=fun {σ7 H7} I7 n7=>by
   obtain⟨m',hm,w7⟩:=hN σ7 H7 n7
   refine⟨m',hm,i+1,σ7,H7,I7.unpinned,T.keep _ _ _ st5 fun b hb o e=>(I7.pin (b,o) (bo _ (bo _ (fO hb e)))).1,fun b hb=> ?_,w7⟩
   obtain⟨o,e,d⟩:=T.obj _ _ st5 b hb
   exact(I7.pin (b,o) (bo _ (bo _ (fO hb e)))).2.1
  cases f with
  | next=>obtain⟨σ7,H7,I7,n7⟩:=q7;exact again I7 n7
  | cont=>obtain⟨σ7,H7,I7,n7⟩:=q7;exact again I7 n7
  | brk=>obtain⟨σ7,H7,I7,q7⟩:=q7;exact⟨σ7,H7,I7.unpinned,q7⟩
  | ret v=>obtain⟨x7,σ7,H7,I7,r7,q7⟩:=q7;exact⟨x7,σ7,H7,I7.unpinned,r7,q7⟩
end
theorem aAb {K:PySem.W.Frag} {a:Addr} {xs:List V} {g:TG} {tb:TS} {D:Ends} {σ:St} {H:Hp} (Pv:Nat->St->Hp->Prop) (h0:Pv 0 σ H) (hl: ∀ i σ H,i<=xs.length->Pv i σ H->SqL K H a xs)
  (hs: ∀ i x σ H,xs[i]? =some x->Pv i σ H->g x σ H fun σ2 H2=>tb { D with nx:=Pv (i+1),ct:=Pv (i+1),bk:=D.nx } σ2 H2) (hd: ∀ σ H,Pv xs.length σ H->D.nx σ H):
  ∃ W:Nat->Nat->St->Hp->Prop,(∃ m,W 0 m σ H)/\ ∀ i m σ H,W i m σ H->
   ((Itl K a).stop i H/\D.nx σ H)\/((Itl K a).go i H/\ ∃ N:St->Hp->Prop,(∀ σ' H',N σ' H'-> ∃ m',m'<m/\W (i+1) m' σ' H')/\ ∀ x H',(Itl K a).yld i H x H'->g x σ H' fun σ2 H2=>tb { D with nx:=N,ct:=N,bk:=D.nx } σ2 H2):=by
 refine⟨fun i m σ H=>m=xs.length - i/\i<=xs.length/\Pv i σ H,⟨xs.length,by simp,bp _,h0⟩, ?_⟩
 rintro i m σ H ⟨rfl,hi,p⟩
 have q:=hl i σ H hi p
 by_cases hlt:i<xs.length
 ·refine .inr ⟨⟨xs,xs[i],q,by simp [hlt]⟩,Pv (i+1),fun σ' H' p'=>⟨xs.length - (i+1),by omega,rfl,hlt,p'⟩,fun x H' y=> ?_⟩
  obtain⟨e,y⟩:=y
  subst e
  exact hs i x σ _ (y xs q) p
 ·have e:i=xs.length:=by omega
  subst e
  exact .inl ⟨⟨xs,q,aj _⟩,hd σ H p⟩
abbrev R2:=V->V->Hp->VK->Prop
def OpR (X:Cx) (f:Value->Value->Sem Value) (r:R2):Prop:=
 ∀ (pins:List (Addr×Obj)) (s:Shared) (σ:St) (H:Hp) (x y:V) (v u:Value) (Q:VK),Inv X pins σ H s->bF x v->bF y u->r x y H Q->
  wpAny (model X.prog X.w) X.A (f v u) (EP X pins σ Q) X.xe s
def UnR (X:Cx) (f:Value->Sem Value) (r:V->Hp->VK->Prop):Prop:=
 ∀ (pins:List (Addr×Obj)) (s:Shared) (σ:St) (H:Hp) (x:V) (v:Value) (Q:VK),Inv X pins σ H s->bF x v->r x H Q->
  wpAny (model X.prog X.w) X.A (f v) (EP X pins σ Q) X.xe s
def k8 (X:Cx) (f:Value) (r:List V->Hp->VK->Prop):Prop:=
 ∀ (pins:List (Addr×Obj)) (s:Shared) (σ:St) (H:Hp) (xs:List V) (us:List Value) (Q:VK),Inv X pins σ H s->aZ xs us->r xs H Q->
  wpAny (model X.prog X.w) X.A (call f us) (EP X pins σ Q) X.xe s
noncomputable def tOp (r:R2) (ta tb:TE):TE:=fun σ H Q=>ta σ H fun x H1=>tb σ H1 fun y H2=>r x y H2 Q
noncomputable def tUn (r:V->Hp->VK->Prop) (ta:TE):TE:=fun σ H Q=>ta σ H fun x H1=>r x H1 Q
noncomputable def rI (C:Int->Int->Prop) (g:Int->Int->V):R2:=fun x y H Q=> ∃ i j,x= .int i/\y= .int j/\C i j/\Q (g i j) H
noncomputable def rI0 (g:Int->Int->V):R2:=fun x y H Q=> ∃ i j,x= .int i/\y= .int j/\Q (g i j) H
noncomputable def rU (g:Int->V):V->Hp->VK->Prop:=fun x H Q=> ∃ i,x= .int i/\Q (g i) H
section
variable {X:Cx} {a b c:Expr} {ta tb tc:TE} {pos:Pos}
theorem aNi (ha:PE X a ta) (hb:PE X b tb) {pins:List (Addr×Obj)} {s:Shared} {σ:St} {H:Hp} {R:V->V->Hp->Prop} (I:Inv X pins σ H s)
  (h:ta σ H fun x H1=>tb σ H1 fun y H2=>R x y H2) {Q:Value->Shared->Prop} {f:Value->Value->Sem Value}
  (hf: ∀ v u s2 x y H2,Inv X pins σ H2 s2->bF x v->bF y u->R x y H2->wpAny (model X.prog X.w) X.A (f v u) Q X.xe s2):
  wpAny (model X.prog X.w) X.A (eval a X.env) (fun v s₁=>wpAny (model X.prog X.w) X.A (eval b X.env) (fun u s₂=>wpAny (model X.prog X.w) X.A (f v u) Q X.xe s₂) X.xe s₁) X.xe s:=by
 refine thn (ha pins s σ H _ I h) fun v s1 hz_=> ?_
 obtain⟨x,H1,I1,r1,q1⟩:=hz_
 refine thn (hb pins s1 σ H1 _ I1 q1) fun u s2 hz_=> ?_
 obtain⟨y,H2,I2,r2,q2⟩:=hz_
 exact hf v u s2 x y H2 I2 r1 r2 q2
theorem aKz {op:Operator} {r:R2} (ho:OpR X (binaryOp op) r) (ha:PE X a ta) (hb:PE X b tb):PE X (.BinOp a op b pos) (tOp r ta tb):=by
 intro pins s σ H Q I h
 exact wpAny_BinOp (aNi ha hb I h fun v u s2 x y H2 I2 rx ry q=>ho pins s2 σ H2 x y v u Q I2 rx ry q)
theorem aK0 {op:UnaryOp} {r:V->Hp->VK->Prop} (ho:UnR X (unaryOp op) r) (ha:PE X a ta):PE X (.UnaryOp op a pos) (tUn r ta):=by
 intro pins s σ H Q I h
 exact UnaryOp_ (thn (ha pins s σ H _ I h) fun v s1 ⟨x,H1,I1,r1,q1⟩=>ho pins s1 σ H1 x v Q I1 r1 q1)
theorem opI {f:Value->Value->Sem Value} {C:Int->Int->Prop} {g:Int->Int->Int}
  (rule: ∀ (i j:Int) (t u:Tok) (s:Shared) (Q:Value->Shared->Prop) (E:Value->Shared->Prop),C i j->Q (.int (g i j) s.toks) { s with toks:=s.toks+1 }->wpAny (model X.prog X.w) X.A (f (.int i t) (.int j u)) Q E s):
  OpR X f (rI C fun i j=> .int (g i j)):=by
 intro pins s σ H x y v u Q I rx ry h
 obtain⟨i,j,rfl,rfl,hc,q⟩:=h
 obtain⟨t,rfl⟩:=rx
 obtain⟨t',rfl⟩:=ry
 exact rule i j t t' s _ _ hc ⟨.int (g i j),H,I.tok _,⟨_,rfl⟩,q⟩
theorem aHs {f:Value->Value->Sem Value} {g:Int->Int->Int}
  (rule: ∀ (i j:Int) (t u:Tok) (s:Shared) (Q:Value->Shared->Prop) (E:Value->Shared->Prop),Q (.int (g i j) s.toks) { s with toks:=s.toks+1 }->wpAny (model X.prog X.w) X.A (f (.int i t) (.int j u)) Q E s):
  OpR X f (rI0 fun i j=> .int (g i j)):=by
 intro pins s σ H x y v u Q I rx ry h
 obtain⟨i,j,rfl,rfl,q⟩:=h
 obtain⟨t,rfl⟩:=rx
 obtain⟨t',rfl⟩:=ry
 exact rule i j t t' s _ _ ⟨.int (g i j),H,I.tok _,⟨_,rfl⟩,q⟩
theorem aKb {f:Value->Value->Sem Value} {g:Int->Int->Bool}
  (rule: ∀ (i j:Int) (t u:Tok) (s:Shared) (Q:Value->Shared->Prop) (E:Value->Shared->Prop),Q (.bool (g i j)) s->wpAny (model X.prog X.w) X.A (f (.int i t) (.int j u)) Q E s):
  OpR X f (rI0 fun i j=> .bl (g i j)):=by
 intro pins s σ H x y v u Q I rx ry h
 obtain⟨i,j,rfl,rfl,q⟩:=h
 obtain⟨t,rfl⟩:=rx
 obtain⟨t',rfl⟩:=ry
 exact rule i j t t' s _ _ ⟨.bl (g i j),H,I,rfl,q⟩
def aNj (i j:Int):Prop:=0<j/\j<1073741824
def aNk (i j:Int):Prop:=0<=j/\j<=1000000/\i.natAbs<2 ^ 64
def aK1 (i j:Int):Prop:=(-(2 ^ 64)<i/\i<2 ^ 64)\/(-(2 ^ 64)<j/\j<2 ^ 64)
theorem aK1.ok {i j:Int} (h:aK1 i j):IntMulOk i j:=by
 rcases h with ⟨h1,h2⟩ | ⟨h1,h2⟩
 ·exact .of_left (intBits_le_64 h1 h2)
 ·exact .of_right (intBits_le_64 h1 h2)
theorem uP (k:Nat):(0:Int)<=2 ^ k:=by
 rw [two_pow_cast]
 exact Int.natCast_nonneg _
theorem aHt:OpR X (binaryOp .Add) (rI0 fun i j=> .int (i+j)):=aHs fun _ _ _ _ _ _ _ q=>add_int q
theorem aHu:OpR X (binaryOp .Sub) (rI0 fun i j=> .int (i - j)):=aHs fun _ _ _ _ _ _ _ q=>sub_int q
theorem aHv:OpR X (binaryOp .Mult) (rI aK1 fun i j=> .int (i * j)):=opI fun _ _ _ _ _ _ _ hc q=>mul_int q hc.ok
theorem aDo:OpR X (binaryOp .FloorDiv) (rI aNj fun i j=> .int (i / j)):=opI fun i j _ _ _ _ _ hc q=>by
 have h1:(0:Int)<j:=hc.1
 have h2:j<1073741824:=hc.2
 exact floordiv_int (by omega) (by rw [Int.fdiv_eq_ediv_of_nonneg i (by omega)];exact q) (.inl (PyProof.noPylong_small (by omega)))
theorem aHw:OpR X (binaryOp .Mod) (rI (fun _ j=>0<j) fun i j=> .int (i % j)):=opI fun i j _ _ _ _ _ hc q=>by
 have h1:(0:Int)<j:=hc
 exact mod_int' (by omega) (by rw [Int.fmod_eq_emod_of_nonneg i (by omega)];exact q)
theorem aHx:OpR X (binaryOp .LShift) (rI aNk fun i j=> .int (i * 2 ^ j.toNat)):=opI fun _ _ _ _ _ _ _ hc q=>lshift_int_small hc.1 hc.2.1 hc.2.2 q
theorem aHy:OpR X (binaryOp .RShift) (rI (fun _ j=>0<=j) fun i j=> .int (i / 2 ^ j.toNat)):=opI fun i j _ _ _ _ _ hc q=>
 rshift_int hc (by rw [Int.fdiv_eq_ediv_of_nonneg i (uP _)];exact q)
theorem aHz:OpR X (binaryOp .BitAnd) (rI0 fun i j=> .int (Builtin.bitAnd i j)):=aHs fun _ _ _ _ _ _ _ q=>and_int q
theorem aK2:OpR X (binaryOp .BitOr) (rI0 fun i j=> .int (Builtin.bitOr i j)):=aHs fun _ _ _ _ _ _ _ q=>or_int q
theorem aH0:OpR X (binaryOp .BitXor) (rI0 fun i j=> .int (Builtin.bitXor i j)):=aHs fun _ _ _ _ _ _ _ q=>xor_int q
theorem unI {f:Value->Sem Value} {g:Int->Int}
  (rule: ∀ (i:Int) (t:Tok) (s:Shared) (Q:Value->Shared->Prop) (E:Value->Shared->Prop),Q (.int (g i) s.toks) { s with toks:=s.toks+1 }->wpAny (model X.prog X.w) X.A (f (.int i t)) Q E s):
  UnR X f (rU fun i=> .int (g i)):=by
 intro pins s σ H x v Q I rx h
 obtain⟨i,rfl,q⟩:=h
 obtain⟨t,rfl⟩:=rx
 exact rule i t s _ _ ⟨.int (g i),H,I.tok _,⟨_,rfl⟩,q⟩
theorem aH1:UnR X (unaryOp .USub) (rU fun i=> .int (-i)):=unI fun _ _ _ _ _ q=>neg_int q
end
section
variable {X:Cx} {a b c:Expr} {ta tb tc:TE} {pos:Pos}
theorem sC {pins:List (Addr×Obj)} {σ:St} {H:Hp} {s:Shared} {Q:VK} {k k':Bool} (I:Inv X pins σ H s) (q:Q (.bl k) H) (e:k=k'):EP X pins σ Q (.bool k') s:=by
 subst e
 exact⟨.bl k,H,I,rfl,q⟩
theorem aK3:OpR X (compareOp .Lt) (rI0 fun i j=> .bl (decide (i<j))):=aKb fun _ _ _ _ _ _ _ q=>lt_int q
theorem aK4:OpR X (compareOp .LtE) (rI0 fun i j=> .bl (decide (i<=j))):=aKb fun _ _ _ _ _ _ _ q=>le_int q
theorem aK5:OpR X (compareOp .Gt) (rI0 fun i j=> .bl (decide (j<i))):=aKb fun _ _ _ _ _ _ _ q=>gt_int q
theorem aK6:OpR X (compareOp .GtE) (rI0 fun i j=> .bl (decide (j<=i))):=aKb fun _ _ _ _ _ _ _ q=>ge_int q
theorem vY:OpR X (compareOp .In) (fun x y H Q=> ∃ i j,x= .str i/\y= .str j/\Q (.bl (!(Builtin.Str.occurrences j i 0 j.length 1).isEmpty)) H):=by
 intro pins s σ H x y v u Q I rx ry h
 obtain⟨i,j,rfl,rfl,q⟩:=h
 obtain⟨t,rfl⟩:=rx
 obtain⟨t',rfl⟩:=ry
 exact in_str (sC I q rfl)
theorem aH2:OpR X (compareOp .Is) (fun x y H Q=>y= .non/\Q (.bl (decide (x= .non))) H):=by
 intro pins s σ H x y v u Q I rx ry h
 obtain⟨rfl,q⟩:=h
 cases ry
 refine is_none_gen (sC I q ?_)
 cases x<;>first
  | (cases rx;rfl)
  | (obtain⟨t,rfl⟩:=rx;rfl)
theorem aDp:OpR X (compareOp .IsNot) (fun x y H Q=>y= .non/\Q (.bl (!decide (x= .non))) H):=by
 intro pins s σ H x y v u Q I rx ry h
 obtain⟨rfl,q⟩:=h
 cases ry
 refine isnot_none_gen (sC I q ?_)
 cases x<;>first
  | (cases rx;rfl)
  | (obtain⟨t,rfl⟩:=rx;rfl)
theorem oA:OpR X (compareOp .NotIn) (fun x y H Q=> ∃ i j,x= .str i/\y= .str j/\Q (.bl (!(!(Builtin.Str.occurrences j i 0 j.length 1).isEmpty))) H):=by
 intro pins s σ H x y v u Q I rx ry h
 obtain⟨i,j,rfl,rfl,q⟩:=h
 obtain⟨t,rfl⟩:=rx
 obtain⟨t',rfl⟩:=ry
 exact notIn_str (sC I q rfl)
theorem jT:(sizeLine:Nat)<2 ^ 63:=by rw [sizeLine_eq];decide
theorem uQ:OpR X (binaryOp .Add) (fun x y H Q=> ∃ i j,x= .str i/\y= .str j/\i.length+j.length<=sizeLine/\Q (.str (i++j)) H):=by
 intro pins s σ H x y v u Q I rx ry h
 obtain⟨i,j,rfl,rfl,hz,q⟩:=h
 obtain⟨t,rfl⟩:=rx
 obtain⟨t',rfl⟩:=ry
 exact add_str (fun t' tk=>⟨.str (i++j),H,I.tok _,⟨_,rfl⟩,q⟩) hz
theorem iK {x:V} {us:List Value} (r:aZ [x] us): ∃ u,us=[u]/\bF x u:=by
 cases r with
 | cons r1 r2=>cases r2;exact⟨_,rfl,r1⟩
theorem aH3 {x y:V} {us:List Value} (r:aZ [x,y] us): ∃ u w',us=[u,w']/\bF x u/\bF y w':=by
 cases r with
 | cons r1 r2=>
  cases r2 with
  | cons r3 r4=>cases r4;exact⟨_,_,rfl,r1,r3⟩
theorem aAc:k8 X (.builtin "abs") (fun xs H Q=> ∃ i,xs=[.int i]/\Q (.int (if i<0 then -i else i)) H):=by
 intro pins s σ H xs us Q I r h
 obtain⟨i,rfl,q⟩:=h
 obtain⟨u,rfl,t,rfl⟩:=iK r
 exact call_abs_int fun u tk=>⟨.int (if i<0 then -i else i),H,I.tok _,⟨_,rfl⟩,q⟩
theorem vZ (hc:X.calm=true):k8 X (.builtin "max") (fun xs H Q=> ∃ i j,xs=[.int i, .int j]/\Q (.int (if j > i then j else i)) H):=by
 intro pins s σ H xs us Q I r h
 obtain⟨i,j,rfl,q⟩:=h
 obtain⟨u,w',rfl,⟨t,rfl⟩,⟨t',rfl⟩⟩:=aH3 r
 refine max_two_ints (I.ok.hd hc) fun h' tk k=>⟨_,H,I.kept k, ?_,q⟩
 by_cases hj:j > i
 ·rw [if_pos hj,if_pos hj];exact⟨_,rfl⟩
 ·rw [if_neg hj,if_neg hj];exact⟨_,rfl⟩
theorem aH4 (hc:X.calm=true):k8 X (.builtin "min") (fun xs H Q=> ∃ i j,xs=[.int i, .int j]/\Q (.int (if j<i then j else i)) H):=by
 intro pins s σ H xs us Q I r h
 obtain⟨i,j,rfl,q⟩:=h
 obtain⟨u,w',rfl,⟨t,rfl⟩,⟨t',rfl⟩⟩:=aH3 r
 refine min_two_ints (I.ok.hd hc) fun h' tk k=>⟨_,H,I.kept k, ?_,q⟩
 by_cases hj:j<i
 ·rw [if_pos hj,if_pos hj];exact⟨_,rfl⟩
 ·rw [if_neg hj,if_neg hj];exact⟨_,rfl⟩
theorem oB:k8 X (.type "int") (fun xs H Q=>(∃ i,xs=[.int i]/\Q (.int i) H)\/ ∃ k,xs=[.bl k]/\Q (.int (if k then 1 else 0)) H):=by
 intro pins s σ H xs us Q I r h
 rcases h with ⟨i,rfl,q⟩ | ⟨k,rfl,q⟩
 ·obtain⟨u,rfl,t,rfl⟩:=iK r
  exact call_int_int ⟨.int i,H,I,⟨_,rfl⟩,q⟩
 ·obtain⟨u,rfl,r1⟩:=iK r
  cases r1
  exact call_int_bool ⟨.int (if k then 1 else 0),H,I.tok _,⟨_,rfl⟩,q⟩
end
section
variable {prog:Program} {w:World} {A:Around} {E:Value->Shared->Prop} {s:Shared} {K:PySem.W.Frag} {x dx C f:Addr} {mA:Str->Option Value} {name:Str} {v:Value}
end
section
variable {P:Program} {w:World} {H H':Hp} {h h':Heap} {a C dx:Addr} {fs fs':List (Str×V)}
end
section
variable {X:Cx} {pins:List (Addr×Obj)} {σ:St} {H:Hp} {s:Shared} {a C dx:Addr} {fs:List (Str×V)} {f:Str} {v:V} {A:Around} {E:Value->Shared->Prop}
end
section
variable {X:Cx} {o e value:Expr} {f:Str} {pos pos' tpos:Pos} {ta tv:TE}
end
section
variable {X:Cx} {pins:List (Addr×Obj)} {σ:St} {H:Hp} {s:Shared} {A:Around} {E:Value->Shared->Prop} {Q:Value->Shared->Prop} {c:Value} {b:Bool}
end
structure Room (k:Nat) (A:Around):Prop where
 hd:A.handled=none
 dp:A.depth+3 * k+5<recursionLimit
 un:A.units+16 * k+200<cLine
theorem Room.mono {j k:Nat} {A:Around} (r:Room k A) (h:j<=k):Room j A:=⟨r.hd,by have:=r.dp;omega,by have:=r.un;omega⟩
theorem Room.deeper {k:Nat} {A:Around} (r:Room (k+1) A) (env:Env):Room k (A.deeper env):=
 ⟨r.hd,by have:=r.dp;show A.depth+1+3 * k+5<_;omega,by have:=r.un;show A.units+3+16 * k+200<_;omega⟩
theorem Room.depth {k:Nat} {A:Around} (r:Room k A):A.depth<recursionLimit:=by have:=r.dp;omega
theorem Room.units {k:Nat} {A:Around} (r:Room k A):A.units+64<cLine:=by have:=r.un;omega
noncomputable def aCb:TA:=fun _ H Q=>Q [] H
noncomputable def jU (ta:TE) (tr:TA):TA:=fun σ H Q=>ta σ H fun x H1=>tr σ H1 fun xs H2=>Q (x::xs) H2
section
variable {X:Cx} {e:Expr} {es:List Expr} {te:TE} {t:TA} {pos:Pos}
theorem dB:PA X [] aCb:=fun _ _ _ _ H Q I h=>Calls.spliced_nil ⟨[],H,I, .nil,h⟩
theorem bS (ha:PE X e te) (hr:PA X es t) (hs:starEach (e::es) X.env=(false,eval e X.env)::starEach es X.env:=by rfl):PA X (e::es) (jU te t):=by
 intro pos pins s σ H Q I h
 rw [hs]
 show wpAny _ _ (spliced ((false,eval e X.env)::backTo pos (starEach es X.env))) _ _ s
 refine Calls.spliced_cons (thn (ha pins s σ H _ I h) fun u s1 hz_=> ?_)
 obtain⟨x,H1,I1,r1,q1⟩:=hz_
 exact thn (hr pos pins s1 σ H1 _ I1 q1) fun us s2 ⟨xs,H2,I2,r2,q2⟩=>⟨x::xs,H2,I2, .cons r1 r2,q2⟩
noncomputable def aNl (t:TA):TE:=fun σ H Q=>t σ H fun xs H1=>xs.length<=sizeLine/\ ∀ p,H1 p=none->Q (.ref p) (upd H1 p (.tup xs))
noncomputable def aNm (t:TA):TE:=fun σ H Q=>t σ H fun xs H1=>xs.length<=sizeLine/\ ∀ p,H1 p=none->Q (.ref p) (upd H1 p (.lst xs))
theorem aH5 {x1} (h:PA X es t):PE X (.Tuple es x1 pos) (aNl t):=by
 intro pins s σ H Q I hq
 refine wpAny_Tuple_spliced (thn (h pos pins s σ H _ I hq) fun us s1 ⟨xs,H1,I1,r,z,q⟩=>⟨by rw [<-r.length];exact z, ?_⟩)
 have hf:H1 s1.heap.objs.size=none:=I1.hok.fresh (aj _)
 refine⟨.ref s1.heap.objs.size,upd H1 s1.heap.objs.size (.tup xs),I1.laid (t':=s1.toks) (fun b u e=>af _ e) (aj _) ?_,rfl,q _ hf⟩
 exact⟨z,us,r,⟨_,ag _ rfl,rfl,_,rfl⟩,⟨_,ag _ rfl,rfl⟩⟩
theorem v5 (h:PA X es t):PE X (.List es pos) (aNm t):=by
 intro pins s σ H Q I hq
 refine wpAny_List_spliced (thn (h pos pins s σ H _ I hq) fun us s1 ⟨xs,H1,I1,r,z,q⟩=>⟨by rw [<-r.length];exact z, ?_⟩)
 have hf:H1 s1.heap.objs.size=none:=I1.hok.fresh (aj _)
 refine⟨.ref s1.heap.objs.size,upd H1 s1.heap.objs.size (.lst xs),I1.laid (t':=s1.toks) (fun b u e=>af _ e) (aj _) ?_,rfl,q _ hf⟩
 exact⟨z,us,0,r,ag _ rfl⟩
end
abbrev Sp:=List V->Hp->VK->XK->Prop
abbrev CXT:=List Env->Hp->Shared->XK->Value->Shared->Prop
structure Env0 (P:Program) (w:World) (K:PySem.W.Frag) (mg:Str->Option Value) (base:Heap) (A:Around) (outer:List Env) (s:Shared) (H:Hp):Prop where
 frames:A.frames=some outer
 mod:Mod K mg base
 bs: ∀ b o,base.get? b=some o->s.heap.get? b=some o/\H b=none
 bsz:base.objs.size<=s.heap.objs.size
 funs:s.heap.FunFrames base outer
 frf: ∀ b∈frs outer,H b=none
 hok:HOk P w H s.heap
 bare:AllBare s.gens
def CE (outer:List Env) (P:Program) (w:World) (H:Hp) (s:Shared) (Q:VK) (u:Value) (s':Shared):Prop:=
 ∃ v H',s'.os=s.os/\AllBare s'.gens/\Un (frs outer) [] H H' s.heap s'.heap/\HOk P w H' s'.heap/\bF v u/\Q v H'
def CR (CX:CXT) (outer:List Env) (P:Program) (w:World) (H:Hp) (s:Shared) (Q:VK) (E:XK) (r:Result) (s':Shared):Prop:=
 match r with
 | .ok (.ret u)=>CE outer P w H s Q u s'
 | .ok _=>False
 | .error e=>CX outer H s E e s'
structure FnOk (P:Program) (w:World) (K:PySem.W.Frag) (mg:Str->Option Value) (base:Heap) (CX:CXT) (k:Nat) (f:Addr) (fd:FuncData) (ps:List Str) (sp:Sp):Prop where
 len: ∀ vs H Q E,sp vs H Q E->vs.length=ps.length
 run: ∀ (A:Around) (outer:List Env) (s:Shared) (H:Hp) (args:Args) (us:List Value) (vs:List V) (Q:VK) (E:XK),Room k A->Env0 P w K mg base A outer s H->BindsTo s fd args (ps.zip us)->aZ vs us->sp vs H Q E->
  codeAny (model P w) A (.call (.ref f) args) (CR CX outer P w H s Q E) s
theorem FnOk.imp {P:Program} {w:World} {K:PySem.W.Frag} {mg:Str->Option Value} {base:Heap} {CX:CXT} {k:Nat} {f:Addr} {fd:FuncData} {ps:List Str} {sp sp':Sp} (F:FnOk P w K mg base CX k f fd ps sp)
  (h: ∀ vs H Q E,sp' vs H Q E->sp vs H Q E):FnOk P w K mg base CX k f fd ps sp':=
 ⟨fun vs H Q E q=>F.len vs H Q E (h _ _ _ _ q),fun A outer s H args us vs Q E hr he hb hv hs=>F.run A outer s H args us vs Q E hr he hb hv (h _ _ _ _ hs)⟩
section
variable {X:Cx} {pins:List (Addr×Obj)} {σ:St} {H:Hp} {s s':Shared}
theorem Inv.env0 (I:Inv X pins σ H s):Env0 X.prog X.w X.K X.mg X.base X.A X.stack s H:=
 ⟨I.ok.frames,I.ok.mod,I.bs,Nat.le_trans I.ok.bsz I.sz,I.stack,I.stkFree,I.hok,I.bare⟩
theorem Inv.after {Q:VK} {u:Value} (I:Inv X pins σ H s) (h:CE X.stack X.prog X.w H s Q u s'):EP X pins σ Q u s':=by
 obtain⟨v,H',os,bare,un,hok,r,q⟩:=h
 obtain⟨hh,g,d,t,os'⟩:=s'
 obtain rfl:os'=s.os:=os
 exact⟨v,H',I.call (h':=hh) (g':=g) (d':=d) (t':=t) (ch:=[]) un hok bare (fun b z=>absurd z (by simp)),r,q⟩
end
def gA (K:PySem.W.Frag) (fd:FuncData) (ps:List Str) (ds:List Value):Prop:=
 ∀ (s:Shared) (us:List Value),K.In s.heap->(us++ds).length=ps.length->BindsTo s fd ⟨us,[]⟩ (ps.zip (us++ds))
theorem gA.all {K:PySem.W.Frag} {fd:FuncData} {ps:List Str} (h: ∀ us:List Value,us.length=ps.length->bindArgs fd ⟨us,[]⟩=pure (ps.zip us)):gA K fd ps []:=fun s us _ hl=>by
 rw [List.append_nil] at hl ⊢
 exact .of_eq (h us hl)
section
variable {X:Cx} {CX:CXT} {k:Nat} {f C:Addr} {fd:FuncData} {ps:List Str} {sp:Sp} {dvs:List V} {ds:List Value} {E:XK} {x m:Str} {p pos apos:Pos} {e o:Expr} {es:List Expr} {ta:TE} {t:TA}
end
def PK (X:Cx) (kws:List Keyword) (t:TA):Prop:=
 ∀ (pos:Pos) (pins:List (Addr×Obj)) (s:Shared) (σ:St) (H:Hp) (Q:List V->Hp->Prop),Inv X pins σ H s->t σ H Q->wpAny (model X.prog X.w) X.A (evalAll ((backToKw pos (keywordEach kws X.env)).map (·.2))) (AP X pins σ Q) X.xe s
section
variable {X:Cx} {CX:CXT} {k:Nat} {f C:Addr} {fd:FuncData} {ps ks:List Str} {sp:Sp} {E:XK} {x m:Str} {p pos apos kpos:Pos} {e o:Expr} {es:List Expr} {kws:List Keyword} {te ta:TE} {t tk:TA} {nm:Option Str}
variable {g:List Value->List Value->List Value} {gV:List V->List V->List V}
end
structure FnScope (N P:List Str) (sc:Scope):Prop where
 kind:sc.kind= .function
 co:sc.isCoroutine=false
 gen:sc.isGenerator=false
 nd:N.Nodup
 pre:N.take P.length=P
 par: ∀ x∈P,sc.names.lookup x=some .local\/sc.names.lookup x=some .cell
 nofree: ∀ y∈sc.names,y.2≠ .free
theorem oC {kindOf:Str->Option NameKind} {x:Str}: ∀ {binds:List (Str×Value)} {m:Str->Option Value},(∀ v,(x,v)∉binds)->bindL kindOf binds m x=m x
 | [],_,_=>rfl
 | (n,v)::r,m,h=>by
  unfold bindL
  rw [oC fun w hw=>h w (List.mem_cons_of_mem _ hw)]
  split
  ·have:x≠n:=by rintro rfl;exact h v List.mem_cons_self
   simp [this]
  ·rfl
theorem oD {kindOf:Str->Option NameKind} {x:Str}: ∀ {binds:List (Str×Value)} {m:Str->Option Value},(∀ v,(x,v)∉binds)->bindC kindOf binds m x=m x
 | [],_,_=>rfl
 | (n,v)::r,m,h=>by
  unfold bindC
  rw [oD fun w hw=>h w (List.mem_cons_of_mem _ hw)]
  split
  ·rfl
  ·have:x≠n:=by rintro rfl;exact h v List.mem_cons_self
   simp [this]
theorem oE {kindOf:Str->Option NameKind} {x:Str} {v:Value}: ∀ {P:List Str} {vs:List Value} {i:Nat} {m:Str->Option Value},P.Nodup->P[i]? =some x->vs[i]? =some v->kindOf x=some .local->
  bindL kindOf (P.zip vs) m x=some v
 | [],_,_,_,_,h,_,_=>by simp at h
 | _::_,[],_,_,_,_,h,_=>by simp at h
 | p::P,w::vs,0,m,nd,h1,h2,hk=>by
  simp at h1 h2;subst h1;subst h2
  show bindL kindOf ((p,w)::P.zip vs) m p=_
  unfold bindL
  rw [oC fun v hv=>(List.nodup_cons.mp nd).1 (List.of_mem_zip hv).1,if_pos hk]
  simp
 | p::P,w::vs,i+1,m,nd,h1,h2,hk=>by
  show bindL kindOf ((p,w)::P.zip vs) m x=_
  unfold bindL
  exact oE (i:=i) (List.nodup_cons.mp nd).2 (by simpa using h1) (by simpa using h2) hk
theorem oF {kindOf:Str->Option NameKind} {x:Str} {v:Value}: ∀ {P:List Str} {vs:List Value} {i:Nat} {m:Str->Option Value},P.Nodup->P[i]? =some x->vs[i]? =some v->kindOf x≠some .local->
  bindC kindOf (P.zip vs) m x=some v
 | [],_,_,_,_,h,_,_=>by simp at h
 | _::_,[],_,_,_,_,h,_=>by simp at h
 | p::P,w::vs,0,m,nd,h1,h2,hk=>by
  simp at h1 h2;subst h1;subst h2
  show bindC kindOf ((p,w)::P.zip vs) m p=_
  unfold bindC
  rw [oD fun v hv=>(List.nodup_cons.mp nd).1 (List.of_mem_zip hv).1,if_neg hk]
  simp
 | p::P,w::vs,i+1,m,nd,h1,h2,hk=>by
  show bindC kindOf ((p,w)::P.zip vs) m x=_
  unfold bindC
  exact oF (i:=i) (List.nodup_cons.mp nd).2 (by simpa using h1) (by simpa using h2) hk
noncomputable def start (N:List Str) (vs:List V):St:=vs.map some++ak (N.length - vs.length) none
noncomputable def k9 (CX:CXT) (P:Program) (w:World) (K:PySem.W.Frag) (mg:Str->Option Value) (base:Heap) (N:List Str) (qual:Str) (scope:Scope) (f:Addr) (cd:Value) (A:Around) (outer:List Env) (s:Shared) (H:Hp) (E:XK):Cx where
 prog:=P
 w:=w
 K:=K
 mg:=mg
 base:=base
 A:=A.deeper (envOfC qual scope s.heap.objs.size f cd)
 N:=N
 s₀:=s
 H₀:=H
 env:=envOfC qual scope s.heap.objs.size f cd
 outer:=outer
 stack:=envOfC qual scope s.heap.objs.size f cd::outer
 ex:=[]
 calm:=true
 fn:=fun _=>true
 pn:=[]
 xe:=fun e s'=>wpAny (model P w) (A.deeper (envOfC qual scope s.heap.objs.size f cd)) (leaving (envOfC qual scope s.heap.objs.size f cd) e) (fun _ s''=>CX outer H s E e s'') (fun e' s''=>CX outer H s E e' s'') s'
theorem sD {sc:Scope} {n:Nat} {x:Str} (h:sc.names.lookup x=some .cell): ∃ c,(cellsFrom n sc.names []).lookup x=some c:=by
 have q:=PySem.W.cellsFrom_some sc.names n [] (.inl h)
 exact Option.isSome_iff_exists.mp q
theorem v6 {CX:CXT} {P:Program} {w:World} {K:PySem.W.Frag} {mg:Str->Option Value} {base:Heap} {N ps:List Str} {qual:Str} {scope:Scope} {f:Addr} {cd:Value} {A:Around} {outer:List Env} {s s1:Shared} {H:Hp} {E:XK} {us:List Value} {vs:List V}
  (S:FnScope N ps scope) (hd:A.handled=none) (e0:Env0 P w K mg base A outer s H) (hl:vs.length=ps.length) (r:aZ vs us)
  (x:InCallC s s.heap.objs.size (bindL (envOfC qual scope s.heap.objs.size f cd).kindOf (ps.zip us) fun _=>none) (cellsFrom (s.heap.objs.size+1) scope.names []) (bindC (envOfC qual scope s.heap.objs.size f cd).kindOf (ps.zip us) fun _=>none) s1):
  Inv (k9 CX P w K mg base N qual scope f cd A outer s H E) [] (start N vs) H s1:=by
 have hpl:ps.length<=N.length:=by have:=congrArg List.length S.pre;rw [List.length_take] at this;omega
 obtain⟨h1,tk,rfl,hk⟩:=x.done
 have noA: ∀ b:Addr,b∉(k9 CX P w K mg base N qual scope f cd A outer s H E).ex:=fun b z=>absurd (show b∈([]:List Addr) from z) (by simp)
 refine⟨⟨e0.mod,S.kind,rfl,rfl,aj _,fun y z c h1 h2=> ?_,fun y hy=> ?_,fun y c _ h=> ?_,fun _=>hd,Around.frames_deeper e0.frames, .inr ⟨rfl,rfl⟩,fun b z=>absurd z (noA b),e0.bs,e0.bsz,fun b _ _=>noA b,fun b z=>absurd z (noA b),e0.funs,e0.frf⟩,
  rfl,e0.bare,Un.kept hk,⟨_,x.toInCall.ns,fun i y v h1 h2 h3=> ?_⟩,fun y c h=>⟨_,x.cell y c h⟩,e0.hok.fresh (aj _),fun y c h=> ?_,fun p hp=>absurd (show p∈([]:List (Addr×Obj)) from hp) (by simp),e0.hok.kept hk, ?_⟩
 ·exact name_of_addr x.apart (PySem.mem_of_lookup h1) (PySem.mem_of_lookup h2)
 ·have hy:scope.names.lookup y=some .cell\/scope.names.lookup y=some .free:=hy
  rcases hy with hy | hy
  ·exact sD hy
  ·exact absurd rfl (S.nofree _ (PySem.mem_of_lookup hy))
 ·exact Nat.le_of_lt (x.above y c (PySem.mem_of_lookup h))
 ·have hi:i<vs.length:=by
   unfold start at h2
   by_cases hi:i<vs.length
   ·exact hi
   ·rw [bh (by simpa using hi)] at h2
    rw [List.getElem?_replicate] at h2
    split at h2<;>cases h2
  have ha:vs[i]? =some v:=by
   unfold start at h2
   rw [bq (by simpa using hi),List.getElem?_map] at h2
   cases e:vs[i]? with
   | none=>rw [e] at h2;cases h2
   | some a=>rw [e] at h2;cases h2;rfl
  obtain⟨u,hu,rv⟩:=r.get ha
  have hp:ps[i]? =some y:=by
   rw [<-S.pre,List.getElem?_take_of_lt (by omega)];exact h1
  have ndP:ps.Nodup:=by rw [<-S.pre];exact S.nd.sublist (List.take_sublist _ _)
  refine⟨u,rv, ?_⟩
  rcases S.par y (List.mem_of_getElem? hp) with k | k
  ·exact .inl ⟨k,oE ndP hp hu k⟩
  ·obtain⟨c,e⟩:=sD (n:=s.heap.objs.size+1) k
   refine .inr ⟨.inl k,c,e, ?_⟩
   have q:=x.cell y c e
   rw [oF ndP hp hu (by show scope.names.lookup y≠_;rw [k];decide)] at q
   exact q
 ·exact e0.hok.fresh (Nat.le_of_lt (x.above y c (PySem.mem_of_lookup h)))
 ·unfold start
  show _=N.length
  rw [bj,am,List.length_replicate]
  omega
theorem aDq {CX:CXT} {P:Program} {w:World} {K:PySem.W.Frag} {mg:Str->Option Value} {base:Heap} {k:Nat} {f:Addr} {name qual:Str} {params:Arguments} {body:List Stmt} {scope:Scope} {dV kV doc pm cdv ct oc:Value} {an od:Option Addr}
  {osl:Array (Option Value)} {N ps:List Str} {sp:Sp} (lk:K.lookup f=some ⟨oc,od, .func (PySem.W.fnOf name qual params body scope dV kV doc pm an cdv ct),osl⟩) (hcd:PySem.W.codeIn K cdv qual=true) (S:FnScope N ps scope)
  (len: ∀ vs H Q E,sp vs H Q E->vs.length=ps.length)
  (hbody: ∀ (A:Around) (outer:List Env) (s:Shared) (H:Hp) (vs:List V) (Q:VK) (E:XK),Room k (A.deeper (envOfC qual scope s.heap.objs.size f cdv))->sp vs H Q E->
   ∃ t,PSs (k9 CX P w K mg base N qual scope f cdv A outer s H E) body t/\t { nx:=fun _ H'=>Q .non H',rt:=Q } (start N vs) H):
  FnOk P w K mg base CX (k+1) f (PySem.W.fnOf name qual params body scope dV kV doc pm an cdv ct) ps sp:=by
 refine⟨len,fun A outer s H args us vs Q E hr e0 hb r hsp=> ?_⟩
 have hl:=len _ _ _ _ hsp
 have KX:K.In s.heap:=e0.mod.kin.keeps fun b o e=>(e0.bs b o e).1
 have lim:s.heap.NoLimit:=e0.mod.nolimit.keeps fun b o e=>(e0.bs b o e).1
 have hkind: ∀ y∈ps.zip us,scope.names.lookup y.1=some .local\/(scope.names.lookup y.1=some .cell/\((cellsFrom (s.heap.objs.size+1) scope.names []).lookup y.1).isSome=true):=fun⟨n,v⟩ hy=>by
  rcases S.par n (List.of_mem_zip hy).1 with q | q
  ·exact .inl q
  ·exact .inr ⟨q,PySem.W.cellsFrom_some _ _ _ (.inl q)⟩
 refine codeAny_call_function hr.depth (KX _ _ lk) rfl S.co S.gen rfl (PySem.W.codeRec_of KX hcd) (hb _ _ _ _ ?_)
 refine wpAny_newFunctionEnv_cells S.kind hkind fun env he s1 x=> ?_
 subst he
 refine⟨lim.keeps x.toInCall.keep,codeAny_func ?_⟩
 obtain⟨t,ht,hq⟩:=hbody A outer s H vs Q E (hr.deeper _) hsp
 have I:Inv (k9 CX P w K mg base N qual scope f cdv A outer s H E) [] (start N vs) H s1:=v6 S hr.hd e0 hl r x
 refine wpAny_mono (ht [] s1 (start N vs) H _ I hq) (fun fl s' hs=> ?_) fun e s' hs=>hs
 have fin: ∀ {σ':St} {H':Hp} {v:V} {u:Value},Inv (k9 CX P w K mg base N qual scope f cdv A outer s H E) [] σ' H' s'->bF v u->Q v H'->CE outer P w H s Q u s':=
  fun {σ' H' v u} J rv q=>⟨v,H',J.os,J.bare,J.base,J.hok,rv,q⟩
 cases fl with
 | ret u=>
  obtain⟨v,σ',H',J,rv,q⟩:=hs
  exact fin J rv q
 | next=>
  obtain⟨σ',H',J,q⟩:=hs
  exact fin (v:=V.non) (u:=Value.none) J rfl q
 | brk=>
  obtain⟨_,_,_,q⟩:=hs
  exact ax q
 | cont=>
  obtain⟨_,_,_,q⟩:=hs
  exact ax q
section
variable {X:Cx} {x:Str} {p pos:Pos} {e:Expr} {es:List Expr} {t:TA} {id T:String} {r:List V->Hp->VK->Prop}
noncomputable def tCB (r:List V->Hp->VK->Prop) (t:TA):TE:=fun σ H Q=>t σ H fun vs H1=>r vs H1 Q
theorem aAd (hc:k8 X (.builtin id) r) (hg:Gl X x) (hm:X.mg x=none) (hv:bootBuiltins x=some (.builtin id)) (ha:PA X (e::es) t) (hn:x≠"__name__":=by decide) (hdb:(x==("__debug__":Str))=false:=by decide)
  (he:starEach (e::es) X.env=(false,eval e X.env)::starEach es X.env:=by rfl) (hpl:(backTo pos (starEach es X.env)).any (·.1)=false:=by rfl):PE X (.Call (.Name x p) (e::es) [] pos) (tCB r t):=by
 intro pins s σ H Q I h
 refine wpAny_Call_Name_kw (eW I hg hm hv ?_ hn hdb)
 exact PyProof.Rows.callWith_builtin1 (thn (ha pos pins s σ H _ I h) fun us s1 ⟨vs,H1,I1,r1,q1⟩=>hc pins s1 σ H1 vs us Q I1 r1 q1) he hpl
end
end L2
namespace HT
open PySem PyProof.Rows
section
open PySem.SeqAt
open PySem.AutoSeq1 (wpAny_loadPart')
open PySem.MeetsSeq PySem.MeetsSeq2 PySem.MeetsSeq3
end
section
variable {prog:Program} {w:World} {A:Around} {E:Value->Shared->Prop} {s:Shared}
theorem cat_tup {t b:Addr} {vs ws:List Value} {Q:Value->Shared->Prop} (ht:IsTup s.heap t vs.toArray) (hb:IsTup s.heap b ws.toArray) (hv:vs≠[])
  (h1:ws=[]->Q (.ref t) s) (h2:ws≠[]->Q (.ref s.heap.objs.size) { s with heap:=s.heap.push { cls:= .type "tuple",data:= .seq (vs++ws).toArray } })
  (hsz:vs.length+ws.length<=sizeLine):wpAny (model prog w) A (binaryOp .Add (.ref t) (.ref b)) Q E s:=by
 obtain⟨⟨cls,dd,data,sl⟩,ho,hc,n,hd⟩:=id ht
 obtain⟨⟨cls2,dd2,data2,sl2⟩,ho2,hc2,n2,hd2⟩:=id hb
 simp only at hc hd hc2 hd2
 subst hc hd hc2 hd2
 have e:vs.toArray++ws.toArray=(vs++ws).toArray:=by simp
 by_cases hw:ws=[]
 ·exact concat_meets ⟨_,ho,rfl⟩ ⟨_,ho2,rfl⟩ noFill_tuple_add seq_tuple_add PySem.F.slot_tuple_add PySem.F.entry_tuple_add (PySem.F.args_tuple_add_2 _ _)
   (tuple_addW1 t b vs.toArray ws.toArray n n2 dd dd2 sl sl2 (by simpa using hv) (by simp [hw])) ⟨ho,ho2,h1 hw⟩
 ·refine concat_meets ⟨_,ho,rfl⟩ ⟨_,ho2,rfl⟩ noFill_tuple_add seq_tuple_add PySem.F.slot_tuple_add PySem.F.entry_tuple_add (PySem.F.args_tuple_add_2 _ _)
   (tuple_addW2 t b vs.toArray ws.toArray n n2 dd dd2 sl sl2 (by simpa using hv) (by simpa using hw) (by rw [au,au];exact hsz)) ⟨ho,ho2, ?_⟩
  rw [e]
  exact h2 hw
noncomputable def sIx (n d:Nat):Option Int->Nat
 | none=>d
 | some v=>if v<0 then(v+(n:Int)).toNat else min v.toNat n
theorem aH6 (n d:Nat) (hd:d<=n) (o:Option Int):sIx n d o<=n:=by
 cases o with
 | none=>exact hd
 | some v=>
  show(if v<0 then(v+(n:Int)).toNat else min v.toNat n)<=n
  by_cases hv:v<0
  ·rw [if_pos hv];omega
  ·rw [if_neg hv];exact Nat.min_le_right _ _
theorem v7 (v:Int) (n d:Nat):(if v<0 then max (v+(n:Int)) 0 else min v (n:Int))=((sIx n d (some v):Nat):Int):=by
 show(if v<0 then max (v+(n:Int)) 0 else min v (n:Int))=(((if v<0 then(v+(n:Int)).toNat else min v.toNat n):Nat):Int)
 by_cases hv:v<0
 ·simp only [if_pos hv];omega
 ·simp only [if_neg hv];omega
theorem uR (lo hi:Option Int) (n:Nat):Builtin.Slice.sliceAdjust lo hi 1 (n:Int)=(((sIx n 0 lo:Nat):Int),((sIx n n hi:Nat):Int)):=by
 have h1: ¬ ((1:Int)<0):=by omega
 unfold Builtin.Slice.sliceAdjust
 simp only [h1,if_false]
 refine Prod.ext ?_ ?_
 ·cases lo with
  | none=>rfl
  | some v=>exact v7 v n 0
 ·cases hi with
  | none=>rfl
  | some v=>exact v7 v n n
theorem uS (i j:Nat):Builtin.Slice.slicePlaces (i:Int) (j:Int) 1=j - i:=by
 unfold Builtin.Slice.slicePlaces
 have h1:(1:Int) > 0:=by omega
 simp only [h1,if_true,Int.ediv_one]
 split<;>omega
theorem lM {v:Value} {o:Option Int} {Q:Option Int->Shared->Prop} (p:IsPart v o) (h:Q o s):wpAny (model prog w) A (Builtin.Slice.slicePartIndex v) Q E s:=by
 cases p with
 | none=>exact slicePart_none h
 | int i t=>exact slicePart_int h
theorem sliceApplied_gen {sl:Addr} {vl vu:Value} {lo hi:Option Int} {n:Nat} {Q:Int×Int×Nat->Shared->Prop} (hs:s.heap.IsSliceOf sl vl vu .none) (pl:IsPart vl lo) (pu:IsPart vu hi)
  (h:Q (((sIx n 0 lo:Nat):Int),1,sIx n n hi - sIx n 0 lo) s):wpAny (model prog w) A (Builtin.Slice.sliceApplied (.ref sl) (pure (n:Int))) Q E s:=by
 obtain⟨os,hos,hcs,hds⟩:=id hs
 unfold Builtin.Slice.sliceApplied Builtin.Slice.sliceFields
 refine aa (aa (wpAny_field hos hds (x:=vl) rfl (aa (wpAny_field hos hds (x:=vu) rfl (aa (wpAny_field hos hds (x:= .none) rfl (ae ?_)))))))
 refine aa (slicePart_none ?_)
 show wpAny _ _ (if((1:Int)==0)=true then _ else _) _ _ s
 rw [if_neg (by decide)]
 refine aa (lM pl (aa (lM pu (aa (ae ?_)))))
 show wpAny _ _ (match Builtin.Slice.sliceAdjust lo hi 1 (n:Int) with | (lo,hi)=>pure (lo,(1:Int),Builtin.Slice.slicePlaces lo hi 1)) _ _ s
 rw [uR lo hi n]
 show wpAny _ _ (pure (((sIx n 0 lo:Nat):Int),(1:Int),Builtin.Slice.slicePlaces ((sIx n 0 lo:Nat):Int) ((sIx n n hi:Nat):Int) 1)) _ _ s
 rw [uS]
 exact ae h
theorem aAe (xs:Array Value) (i k:Nat):((List.range k).filterMap fun(m:Nat)=>xs[((i:Int)+(m:Int) * 1).toNat]?).toArray=((xs.toList.drop i).take k).toArray:=by
 have e:(fun(m:Nat)=>xs[((i:Int)+(m:Int) * 1).toNat]?)=fun m=>xs[i+m]? :=by
  funext m
  have:((i:Int)+(m:Int) * 1).toNat=i+m:=by omega
  rw [this]
 rw [e]
 have:=pick_run xs i k
 rw [List.filterMap_map] at this
 have e2:((fun x=>xs[x]?) ∘ fun x=>i+x)=fun m=>xs[i+m]? :=rfl
 rw [e2] at this
 rw [this]
theorem getItem_tuple_cut {t sl:Addr} {items:Array Value} {vl vu:Value} {lo hi:Option Int} {Q:Value->Shared->Prop} (ht:IsTup s.heap t items) (hs:s.heap.IsSliceOf sl vl vu .none) (pl:IsPart vl lo) (pu:IsPart vu hi)
  (hw: ¬ (sIx items.size 0 lo=0/\sIx items.size items.size hi=items.size))
  (h:Q (.ref s.heap.objs.size) { s with heap:=s.heap.push { cls:= .type "tuple",data:= .seq ((items.toList.drop (sIx items.size 0 lo)).take (sIx items.size items.size hi - sIx items.size 0 lo)).toArray } })
  (hsz:items.size<=sizeLine):wpAny (model prog w) A (getItem (.ref t) (.ref sl)) Q E s:=by
 have htake:sizeOk (.seq ((items.toList.drop (sIx items.size 0 lo)).take (sIx items.size items.size hi - sIx items.size 0 lo)).toArray):=by
  show((items.toList.drop (sIx items.size 0 lo)).take (sIx items.size items.size hi - sIx items.size 0 lo)).toArray.size<=sizeLine
  rw [au,List.length_take,List.length_drop,Array.length_toList]
  omega
 have hj:sIx items.size items.size hi<=items.size:=aH6 _ _ (aj _) hi
 obtain⟨os,hos,hcs,hds⟩:=id hs
 have hTs:s.TypeIs (.ref sl) "slice":=⟨os,hos,hcs⟩
 unfold getItem
 try with_reducible refine wpAny_holding ?_
 first | refine aa (ae ?_) | skip
 refine aa (wpAny_sequenceKey ht.typeIs (by decide) ?_)
 refine aa (wpAny_callSpecial?_slot (name:=Str.ofString "__getitem__") ht.typeIs PyProof.Rows.slot_tuple_getitem
  (wpAny_call_entry PyProof.Rows.slot_tuple_getitem ht.typeIs entry_tuple_getitem ?_ (args_tuple_getitem _ _)))
 show wpAny _ _ (Builtin.Tuple.tupleItemsOf (.ref t) >>= _) _ _ s
 refine aa (tupleItemsOf_ ht ?_)
 refine aa (wpAny_typeOf hTs ?_)
 rw [if_pos (by decide)]
 refine aa (sliceApplied_gen hs pl pu ?_)
 have hno: ¬ ((((sIx items.size 0 lo:Nat):Int)==0&&(1:Int)==1&&(sIx items.size items.size hi - sIx items.size 0 lo)==items.size)=true):=by
  intro q
  rw [ar,ar] at q
  have q1:((sIx items.size 0 lo:Nat):Int)=0:=eq_of_beq q.1.1
  have q2:sIx items.size items.size hi - sIx items.size 0 lo=items.size:=eq_of_beq q.2
  exact hw ⟨by omega,by omega⟩
 show wpAny _ _ (if(((sIx items.size 0 lo:Nat):Int)==0&&(1:Int)==1&&(sIx items.size items.size hi - sIx items.size 0 lo)==items.size)=true then _ else _) _ _ s
 rw [if_neg hno,aAe]
 first
  | exact aa (m:=Builtin.Tuple.tupleExact _) (wpAny_newObj_type (ae ⟨_,rfl,ae h⟩) htake)
  | exact aa (m:=Builtin.Tuple.tupleExact _) (wpAny_newObj_type (aa (ae (ae ⟨_,rfl,ae h⟩))) htake)
  | exact aa (aa (m:=Builtin.Tuple.tupleExact _) (wpAny_newObj_type (ae (ae ⟨_,rfl,ae h⟩)) htake))
  | exact aa (aa (m:=Builtin.Tuple.tupleExact _) (wpAny_newObj_type (ae ⟨_,rfl,ae h⟩) htake))
end
end HT
namespace L2
open PySem PySem.Spec PyProof.Rows
abbrev TO:=St->Hp->(Option Int->Hp->Prop)->Prop
def PO (X:Cx) (e:Option Expr) (t:TO):Prop:=
 ∀ (pins:List (Addr×Obj)) (s:Shared) (σ:St) (H:Hp) (Q:Option Int->Hp->Prop),Inv X pins σ H s->t σ H Q->
  wpAny (model X.prog X.w) X.A (evalPart e X.env) (fun u s'=> ∃ o H',Inv X pins σ H' s'/\IsPart u o/\Q o H') X.xe s
theorem uT {ns:List Int}: ∀ {us:List Value},aZ (ns.map V.int) us->IntsAre us ns:=by
 induction ns with
 | nil=>intro us r;rw [List.map_nil] at r;cases r;exact .nil
 | cons n ns ih=>
  intro us r
  rw [List.map_cons] at r
  cases r with
  | cons r1 r2=>
   obtain⟨t,e⟩:=r1
   subst e
   exact .cons n t (ih r2)
section
variable {X:Cx} {e:Expr} {te:TE} {lo hi:Option Expr} {tl th:TO} {pos p2:Pos}
def SlR (X:Cx) (r:V->Option Int->Option Int->Hp->VK->Prop):Prop:=
 ∀ (pins:List (Addr×Obj)) (s:Shared) (σ:St) (H:Hp) (x:V) (v vl vu:Value) (lo hi:Option Int) (sl:Addr) (Q:VK),Inv X pins σ H s->bF x v->s.heap.IsSliceOf sl vl vu .none->IsPart vl lo->IsPart vu hi->r x lo hi H Q->
  ∃ T id,typeLookup (.type T) "__getitem__"=pure (some (.builtin id))/\s.TypeIs v T/\wpAny (model X.prog X.w) X.A (getItem v (.ref sl)) (EP X pins σ Q) X.xe s
noncomputable def zR (xs:List V) (lo hi:Option Int):List V:=(xs.drop (HT.sIx xs.length 0 lo)).take (HT.sIx xs.length xs.length hi - HT.sIx xs.length 0 lo)
theorem jV (xs:List V) (lo hi:Option Int):(zR xs lo hi).length<=xs.length:=by
 unfold zR
 rw [List.length_take,List.length_drop]
 omega
noncomputable def aNn (K:PySem.W.Frag):V->Option Int->Option Int->Hp->VK->Prop:=fun x lo hi H Q=> ∃ a xs,x= .ref a/\SqT K H a xs/\
 ¬ (HT.sIx xs.length 0 lo=0/\HT.sIx xs.length xs.length hi=xs.length)/\ ∀ p,H p=none->Q (.ref p) (upd H p (.tup (zR xs lo hi)))
theorem aH7:SlR X (aNn X.K):=by
 intro pins s σ H x v vl vu lo hi sl Q I rx hs pl pu h
 obtain⟨a,xs,rfl,hx,hw,q⟩:=h
 cases rx
 obtain⟨its,r,ht,hz⟩:=I.tuple hx
 have hlen:its.toArray.size=xs.length:=by rw [au];exact r.length.symm
 refine⟨"tuple",_,PyProof.Rows.slot_tuple_getitem.lookup,ht.typeIs, ?_⟩
 refine HT.getItem_tuple_cut ht hs pl pu (by rw [hlen];exact hw) ?_ (by rw [hlen];exact hz)
 rw [hlen]
 refine⟨.ref s.heap.objs.size,_,I.laid (t':=s.toks) (o:= .tup (zR xs lo hi)) (fun b ob q=>af _ q) (aj _) ?_,rfl,q _ (I.hok.fresh (aj _))⟩
 exact⟨Nat.le_trans (jV xs lo hi) hz,_,(r.drop (HT.sIx xs.length 0 lo)).take (HT.sIx xs.length xs.length hi - HT.sIx xs.length 0 lo),IsTup.new _ _,⟨_,ag _ rfl,rfl⟩⟩
noncomputable def aK7 (K:PySem.W.Frag):R2:=fun x y H Q=> ∃ a b xs ys,x= .ref a/\y= .ref b/\SqT K H a xs/\SqT K H b ys/\xs≠[]/\xs.length+ys.length<=sizeLine/\
 (ys=[]->Q (.ref a) H)/\(ys≠[]-> ∀ p,H p=none->Q (.ref p) (upd H p (.tup (xs++ys))))
theorem aZ.nil_iff {xs:List V} {us:List Value} (r:aZ xs us):us=[]↔xs=[]:=by
 cases r with
 | nil=>simp
 | cons _ _=>simp
theorem aDr:OpR X (binaryOp .Add) (aK7 X.K):=by
 intro pins s σ H x y v u Q I rx ry h
 obtain⟨a,b,xs,ys,rfl,rfl,ha,hb,hx,hz,q1,q2⟩:=h
 cases rx
 cases ry
 obtain⟨its,r1,p1,_⟩:=I.tuple ha
 obtain⟨its2,r2,p2,_⟩:=I.tuple hb
 refine HT.cat_tup p1 p2 (fun z=>hx (r1.nil_iff.mp z)) (fun z=>⟨.ref a,H,I,rfl,q1 (r2.nil_iff.mp z)⟩) (fun z=> ?_) (by rw [<-r1.length, <-r2.length];exact hz)
 refine⟨.ref s.heap.objs.size,_,I.laid (t':=s.toks) (o:= .tup (xs++ys)) (fun b ob q=>af _ q) (aj _) ?_,rfl,q2 (fun w=>z (r2.nil_iff.mpr w)) _ (I.hok.fresh (aj _))⟩
 exact⟨by rw [bj];exact hz,_,r1.append r2,IsTup.new _ _,⟨_,ag _ rfl,rfl⟩⟩
end
noncomputable def ixN (n:Nat) (i:Int):Option Nat:=if 0<=i then(if i<n then some i.toNat else none) else if -(n:Int)<=i then some (i+n).toNat else none
noncomputable def atI {α:Type} (xs:List α) (i:Int):Option α:=(ixN xs.length i).bind fun j=>xs[j]?
theorem v8 {n:Nat} {i:Int} {j:Nat} (h:ixN n i=some j):seqIndex? i n=some j/\j<n/\ -(n:Int)<=i/\i<n:=by
 unfold ixN at h
 by_cases h0:0<=i
 ·rw [if_pos h0] at h
  by_cases h1:i<n
  ·rw [if_pos h1] at h
   have e:i.toNat=j:=Option.some.inj h
   exact⟨by rw [seqIndex_of h0 h1,e],by omega,by omega,h1⟩
  ·rw [if_neg h1] at h;cases h
 ·rw [if_neg h0] at h
  by_cases h1: -(n:Int)<=i
  ·rw [if_pos h1] at h
   have e:(i+n).toNat=j:=Option.some.inj h
   exact⟨by rw [seqIndex_neg (by omega) h1,e],by omega,h1,by omega⟩
  ·rw [if_neg h1] at h;cases h
theorem mJ {α:Type} {xs:List α} {i:Int} {v:α} (h:atI xs i=some v): ∃ j,seqIndex? i xs.length=some j/\xs[j]? =some v/\j<xs.length/\ -(xs.length:Int)<=i/\i<xs.length:=by
 unfold atI at h
 cases e:ixN xs.length i with
 | none=>rw [e] at h;cases h
 | some j=>
  rw [e] at h
  obtain⟨h1,h2,h3,h4⟩:=v8 e
  exact⟨j,h1,h,h2,h3,h4⟩
def v9 (b:Expr):Prop:= ∀ o i,subscripted b false o i=operate [o,i] (getItem o i)
def IxR (X:Cx) (r:R2):Prop:=
 ∀ (value slice:Expr) (pins:List (Addr×Obj)) (s:Shared) (σ:St) (H:Hp) (x y:V) (v u:Value) (Q:VK),Inv X pins σ H s->bF x v->bF y u->r x y H Q->
  subscripted slice false v u=operate [v,u] (getItem v u)->wpAny (model X.prog X.w) X.A (subscriptTail value slice v u) (EP X pins σ Q) X.xe s
def MtR (X:Cx) (id:String) (r:V->List V->Hp->VK->Prop):Prop:=
 ∀ (pins:List (Addr×Obj)) (s:Shared) (σ:St) (H:Hp) (x:V) (xs:List V) (v:Value) (us:List Value) (Q:VK),Inv X pins σ H s->bF x v->aZ xs us->r x xs H Q->
  wpAny (model X.prog X.w) X.A (call (.builtin id) (v::us)) (EP X pins σ Q) X.xe s
section
variable {X:Cx} {a b:Expr} {ta tb:TE} {pos:Pos}
noncomputable def aK8 (K:PySem.W.Frag):R2:=fun x y H Q=> ∃ p xs i v,x= .ref p/\y= .int i/\SqL K H p xs/\atI xs i=some v/\Q v H
noncomputable def aMh (K:PySem.W.Frag):R2:=fun x y H Q=> ∃ p xs i v,x= .ref p/\y= .int i/\SqT K H p xs/\atI xs i=some v/\Q v H
noncomputable def aMi:R2:=fun x y H Q=> ∃ z i c,x= .str z/\y= .int i/\z.length<=sizeLine/\atI z.cps.toList i=some c/\Q (.str ⟨#[c]⟩) H
theorem aDs:IxR X (aK8 X.K):=by
 intro value slice pins s σ H x y v u Q I rx ry h hs
 obtain⟨p,xs,i,z,rfl,rfl,hq,he,q⟩:=h
 cases rx
 obtain⟨t,rfl⟩:=ry
 obtain⟨its,r,pl,hz⟩:=I.list hq
 obtain⟨j,h1,h2,h3,h4,h5⟩:=mJ he
 obtain⟨w,ew,rw'⟩:=r.get h2
 have hl:=r.length
 have hn:=jT
 have fin:EP X pins σ Q w s:=⟨z,H,I,rw',q⟩
 by_cases h0:0<=i
 ·have hj:i.toNat=j:=by
   rw [seqIndex_of h0 h5] at h1
   exact Option.some.inj h1
  exact item_listR pl.isList h0 (by omega) (by rw [hj];simpa using ew) fin hs
 ·have hj:(i+(its.toArray.size:Int)).toNat=j:=by
   rw [seqIndex_neg (by omega) h4] at h1
   rw [au, <-hl]
   exact Option.some.inj h1
  exact subscriptTail_builtinR (x:=w) pl.isList.typeIs slot_list_getitem.lookup
   (wpAny_getItem_list_neg (Q:=fun r s'=>r=w/\EP X pins σ Q r s') pl.isList (by omega) (by rw [au]<;>omega) (by omega) (by rw [hj];simpa using ew) ⟨rfl,fin⟩) hs
theorem aH8:IxR X (aMh X.K):=by
 intro value slice pins s σ H x y v u Q I rx ry h hs
 obtain⟨p,xs,i,z,rfl,rfl,hq,he,q⟩:=h
 cases rx
 obtain⟨t,rfl⟩:=ry
 obtain⟨its,r,pl,hz⟩:=I.tuple hq
 obtain⟨j,h1,h2,h3,h4,h5⟩:=mJ he
 obtain⟨w,ew,rw'⟩:=r.get h2
 have hl:=r.length
 have hn:=jT
 have fin:EP X pins σ Q w s:=⟨z,H,I,rw',q⟩
 exact subscriptTail_builtinR (x:=w) pl.typeIs slot_tuple_getitem.lookup
  (getItem_tuple (j:=j) (Q:=fun r s'=>r=w/\EP X pins σ Q r s') pl (by omega) (by omega) (by rw [au, <-hl];exact h1) (by simpa using ew) ⟨rfl,fin⟩) hs
theorem aH9:IxR X aMi:=by
 intro value slice pins s σ H x y v u Q I rx ry h hs
 obtain⟨z,i,c,rfl,rfl,hz,he,q⟩:=h
 obtain⟨t,rfl⟩:=rx
 obtain⟨t',rfl⟩:=ry
 obtain⟨j,h1,h2,h3,h4,h5⟩:=mJ he
 have hl:z.cps.toList.length=z.length:=by simp [Str.length]
 rw [hl] at h1 h4 h5
 have hn:=jT
 exact tail_any (typeIs_str s z t) slot_str_getitem.lookup (getItem_str (c:=c) (by
  have e1:decide (i< -(2 ^ 63:Int))=false:=decide_eq_false (by omega)
  have e2:decide (i≥2 ^ 63)=false:=decide_eq_false (by omega)
  rw [e1,e2,Bool.or_false]) (by rw [h1];simpa using h2) ⟨.str ⟨#[c]⟩,H,I.tok _,⟨_,rfl⟩,q⟩) hs
noncomputable def rIx (K:PySem.W.Frag):R2:=fun x y H Q=>aK8 K x y H Q\/aMh K x y H Q\/aMi x y H Q
theorem uU (its:List Value) (n j:Nat) (u:Value):Obj.mapSeq (·.setIfInBounds j u) { cls:= .type "list",data:= .seq its.toArray n }={ cls:= .type "list",data:= .seq (its.set j u).toArray n }:=by
 simp [Obj.mapSeq]
theorem Inv.lst {pins:List (Addr×Obj)} {σ:St} {H:Hp} {s:Shared} {p:Addr} {xs:List V} (I:Inv X pins σ H s) (h:H p=some (.lst xs)):
  ∃ (its:List Value) (n:Nat),aZ xs its/\s.heap.get? p=some { cls:= .type "list",data:= .seq its.toArray n }/\xs.length<=sizeLine:=by
 obtain⟨z,its,n,r,e⟩:=I.hok p _ h
 exact⟨its,n,r,e,z⟩
theorem Inv.lstUpd {pins:List (Addr×Obj)} {σ:St} {H:Hp} {s:Shared} {p:Addr} {xs ys:List V} {its its':List Value} {n n':Nat} {f:Obj->Obj} (I:Inv X pins σ H s) (h:H p=some (.lst xs))
  (ho:s.heap.get? p=some { cls:= .type "list",data:= .seq its.toArray n }) (hf:f { cls:= .type "list",data:= .seq its.toArray n }={ cls:= .type "list",data:= .seq its'.toArray n' }) (r:aZ ys its') (hz:ys.length<=sizeLine) (t:Nat):
  Inv X pins σ (upd H p (.lst ys)) { s with heap:=s.heap.update p f,toks:=t }:=by
 have e:(s.heap.update p f).get? p=some { cls:= .type "list",data:= .seq its'.toArray n' }:=by
  rw [Heap.get?_update_self f ho (by rw [hf]<;>rfl),hf]
 refine I.write (x:=p) (e:=p) (by rw [h];trivial) (.inl rfl) (fun b u hb q=>(Heap.get?_update_other _ _ (Ne.symm hb)).trans q) ⟨_,e⟩ ?_
 exact⟨hz,its',n',r,e⟩
noncomputable def aK9:V->V->V->Hp->(Hp->Prop)->Prop:=fun o i v H Q=> ∃ p xs k j,o= .ref p/\i= .int k/\H p=some (.lst xs)/\ixN xs.length k=some j/\Q (upd H p (.lst (xs.set j v)))
theorem sE:aKu X aK9:=by
 intro pins s σ H o i v ov iv u Q I ro ri rv h
 obtain⟨p,xs,k,j,rfl,rfl,hp,hj,q⟩:=h
 cases ro
 obtain⟨t,rfl⟩:=ri
 obtain⟨its,n,r,ho,hz⟩:=I.lst hp
 obtain⟨h1,h2,h3,h4⟩:=v8 hj
 have hl:=r.length
 have hn:=jT
 have I':Inv X pins σ (upd H p (.lst (xs.set j v))) { s with heap:=s.heap.update p (Obj.mapSeq (·.setIfInBounds j u)) }:=
  I.lstUpd hp ho (uU its n j u) (r.set rv j) (by rw [List.length_set];exact hz) s.toks
 by_cases h0:0<=k
 ·have hk:k.toNat=j:=by
   rw [seqIndex_of h0 h4] at h1
   exact Option.some.inj h1
  exact PySem.W.ki_setAt ho h0 (by omega) (by rw [au, <-hl];exact h4) (by rw [hk];exact⟨_,I',q⟩)
 ·have hk:(k+(its.toArray.size:Int)).toNat=j:=by
   rw [seqIndex_neg (by omega) h3] at h1
   rw [au, <-hl]
   exact Option.some.inj h1
  exact PySem.W.ki_setBack ho (by omega) (by rw [au, <-hl];exact h3) (by omega) (by rw [hk];exact⟨_,I',q⟩)
theorem oG (lo hi:Option Int) (n:Nat):(sliceBounds lo hi none n).1=((HT.sIx n 0 lo:Nat):Int)/\(sliceBounds lo hi none n).2.1=((HT.sIx n n hi:Nat):Int)/\(sliceBounds lo hi none n).2.2=1:=by
 refine⟨?_, ?_,rfl⟩
 ·cases lo with
  | none=>simp [sliceBounds,HT.sIx]
  | some i=>
   simp only [sliceBounds,HT.sIx,Option.getD_none,show(1:Int) > 0 by decide,if_true]
   by_cases h:i<0
   ·simp only [h,if_true]<;>omega
   ·simp only [h,if_false]<;>omega
 ·cases hi with
  | none=>simp [sliceBounds,HT.sIx]
  | some i=>
   simp only [sliceBounds,HT.sIx,Option.getD_none,show(1:Int) > 0 by decide,if_true]
   by_cases h:i<0
   ·simp only [h,if_true]<;>omega
   ·simp only [h,if_false]<;>omega
theorem mK (its:List Value) (lo hi:Option Int):slicePick its.toArray lo hi none=((its.drop (HT.sIx its.length 0 lo)).take (HT.sIx its.length its.length hi - HT.sIx its.length 0 lo)).toArray:=by
 obtain⟨h1,h2,h3⟩:=oG lo hi its.toArray.size
 unfold slicePick
 rw [h1,h2,h3]
 simp only [sliceRange_one,pick_run,au]<;>rfl
noncomputable def aNo (K:PySem.W.Frag):V->Option Int->Option Int->Hp->VK->Prop:=fun x lo hi H Q=> ∃ a xs,x= .ref a/\SqL K H a xs/\ ∀ p,H p=none->Q (.ref p) (upd H p (.lst (zR xs lo hi)))
theorem aDt:SlR X (aNo X.K):=by
 intro pins s σ H x v vl vu lo hi sl Q I rx hs pl pu h
 obtain⟨a,xs,rfl,hx,q⟩:=h
 cases rx
 obtain⟨its,r,ht,hz⟩:=I.list hx
 have hlen:=r.length
 refine⟨"list",_,slot_list_getitem.lookup,ht.isList.typeIs, ?_⟩
 refine wpAny_getItem_list_slice ht.isList hs pl pu .none (by simp) ?_ (by rw [au]<;>omega)
 rw [mK, <-hlen]
 refine⟨.ref s.heap.objs.size,_,I.laid (t':=s.toks) (o:= .lst (zR xs lo hi)) (fun b ob q=>af _ q) (aj _) ?_,rfl,q _ (I.hok.fresh (aj _))⟩
 exact⟨Nat.le_trans (jV xs lo hi) hz,_,0,(r.drop (HT.sIx xs.length 0 lo)).take (HT.sIx xs.length xs.length hi - HT.sIx xs.length 0 lo),ag _ rfl⟩
theorem oH:k8 X (.builtin "len") (fun xs H Q=> ∃ p ys,xs=[.ref p]/\(SqL X.K H p ys\/SqT X.K H p ys)/\Q (.int ys.length) H):=by
 intro pins s σ H xs us Q I r h
 obtain⟨p,ys,rfl,hq,q⟩:=h
 obtain⟨u,rfl,rx⟩:=iK r
 cases rx
 have hn:=jT
 rcases hq with hq | hq
 ·obtain⟨its,r',pl,hz⟩:=I.list hq
  have hlen:=r'.length
  exact Calls.call_len_list pl.isList (by simp only [au]<;>omega) ⟨.int ys.length,H,I.tok _,⟨s.toks+1,by rw [au,hlen]⟩,q⟩
 ·obtain⟨its,r',pl,hz⟩:=I.tuple hq
  have hlen:=r'.length
  exact len_tuple pl (by simp only [au]<;>omega) ⟨.int ys.length,H,I.tok _,⟨s.toks+1,by rw [au,hlen]⟩,q⟩
theorem oI:k8 X (.builtin "len") (fun xs H Q=> ∃ z,xs=[.str z]/\z.length<=sizeLine/\Q (.int z.length) H):=by
 intro pins s σ H xs us Q I r h
 obtain⟨z,rfl,hz,q⟩:=h
 obtain⟨u,rfl,t,rfl⟩:=iK r
 have hn:=jT
 exact len_str (by omega) ⟨.int z.length,H,I.tok _,⟨_,rfl⟩,q⟩
theorem oJ:k8 X (.type "list") (fun xs H Q=> ∃ p ys,xs=[.ref p]/\(SqL X.K H p ys\/SqT X.K H p ys)/\ ∀ l,H l=none->Q (.ref l) (upd H l (.lst ys))):=by
 intro pins s σ H xs us Q I r h
 obtain⟨p,ys,rfl,hq,q⟩:=h
 obtain⟨u,rfl,rx⟩:=iK r
 cases rx
 have fin: ∀ (its:List Value),aZ ys its->ys.length<=sizeLine-> ∀ (h':Heap) (c':Nat),(∀ b o',s.heap.get? b=some o'->h'.get? b=some o')->
   h'.get? s.heap.objs.size=some { cls:= .type "list",dict:=none,data:= .seq its.toArray c',slots:= #[] }->EP X pins σ Q (.ref s.heap.objs.size) { s with heap:=h' }:=fun its r' hz h' c' kp e=>
  ⟨.ref s.heap.objs.size,_,I.laid (t':=s.toks) kp (aj _) (show ObjOk X.prog X.w _ h' _ (.lst ys) from⟨hz,its,c',r',e⟩),rfl,q _ (I.hok.fresh (aj _))⟩
 rcases hq with hq | hq
 ·obtain⟨its,r',pl,hz⟩:=I.list hq
  have hlen:=r'.length
  obtain⟨o,ho,hc,n,hd⟩:=pl.isList
  exact call_list_seq p (.inl rfl) ho hc hd (fun h' c' kp e=>fin its r' hz h' c' kp e) (by simp only [au]<;>omega)
 ·obtain⟨its,r',pl,hz⟩:=I.tuple hq
  have hlen:=r'.length
  obtain⟨o,ho,hc,n,hd⟩:=pl
  exact call_list_seq p (.inr rfl) ho hc hd (fun h' c' kp e=>fin its r' hz h' c' kp e) (by simp only [au]<;>omega)
theorem gQ:k8 X (.type "tuple") (fun xs H Q=> ∃ p ys,xs=[.ref p]/\((SqL X.K H p ys/\ ∀ l,H l=none->Q (.ref l) (upd H l (.tup ys)))\/(SqT X.K H p ys/\Q (.ref p) H))):=by
 intro pins s σ H xs us Q I r h
 obtain⟨p,ys,rfl,h⟩:=h
 obtain⟨u,rfl,rx⟩:=iK r
 cases rx
 rcases h with ⟨hq,q⟩ | ⟨hq,q⟩
 ·obtain⟨its,r',pl,hz⟩:=I.list hq
  have hlen:=r'.length
  refine call_tuple_list pl.isList (fun h' kp=> ?_) (by simp only [au]<;>omega)
  have I1:Inv X pins σ H { s with heap:=h' }:=I.kept (t':=s.toks) kp
  have I2:Inv X pins σ (upd H h'.objs.size (.tup ys)) { s with heap:=h'.push { cls:= .type "tuple",data:= .seq its.toArray } }:=
   I1.laid (t':=s.toks) (fun b o e=>af _ e) (aj _) (show ObjOk X.prog X.w _ _ _ (.tup ys) from⟨hz,its,r',IsTup.new _ _,⟨_,ag _ rfl,rfl⟩⟩)
  exact⟨.ref h'.objs.size,_,I2,rfl,q _ (I1.hok.fresh (aj _))⟩
 ·obtain⟨its,r',pl,hz⟩:=I.tuple hq
  exact call_tuple_same pl ⟨.ref p,H,I,rfl,q⟩
def tyV (K:PySem.W.Frag) (T:String) (x:V) (H:Hp):Prop:=match x with
 | .str _=>T="str"
 | .int _=>T="int"
 | .ref p=>(T="list"/\ ∃ xs,SqL K H p xs)\/(T="tuple"/\ ∃ o,K.lookup p=some o/\o.cls= .type "tuple"/\o.dict=none)\/
   (T="dict"/\((∃ kvs,H p=some (.dK kvs))\/ ∃ kvs,H p=some (.dT kvs)))\/(T="set"/\ ∃ S n,H p=some (.set S n))
 | _=>False
theorem aCc {pins:List (Addr×Obj)} {σ:St} {H:Hp} {s:Shared} {T:String} {x:V} {v:Value} (I:Inv X pins σ H s) (r:bF x v) (ty:tyV X.K T x H):
  s.TypeIs v T/\ ∀ a,v= .ref a-> ∃ ob,s.heap.get? a=some ob/\ob.dict=none:=by
 cases x with
 | str z=>
  obtain⟨t,rfl⟩:=r
  cases (show T="str" from ty)
  exact⟨typeIs_str s z t,fun _ e=>nomatch e⟩
 | int i=>
  obtain⟨t,rfl⟩:=r
  cases (show T="int" from ty)
  exact⟨typeIs_int s i t,fun _ e=>nomatch e⟩
 | ref p=>
  cases r
  rcases ty with ⟨rfl,xs,hq⟩ | ⟨rfl,o,hk,hc,hd⟩ | ⟨rfl,hk⟩ | ⟨rfl,S,n,hk⟩
  ·obtain⟨its,_,pl,_⟩:=I.list hq
   refine⟨pl.isList.typeIs,fun a e=> ?_⟩
   cases e
   obtain⟨o,n,e,c,hd,_⟩:=pl
   exact⟨o,e,hd⟩
  ·refine⟨⟨o,I.kIn p o hk,hc⟩,fun a e=> ?_⟩
   cases e
   exact⟨o,I.kIn _ o hk,hd⟩
  ·have z: ∃ o,s.heap.get? p=some o/\o.ExactDict:=by
    rcases hk with ⟨kvs,hk⟩ | ⟨kvs,hk⟩
    ·obtain⟨_,_,_,_,o,_,_,e,ex,_⟩:=I.hok p _ hk
     exact⟨o,e,ex⟩
    ·obtain⟨_,_,_,_,o,_,_,e,ex,_⟩:=I.hok p _ hk
     exact⟨o,e,ex⟩
   obtain⟨o,e,ex⟩:=z
   refine⟨⟨o,e,ex.1⟩,fun a e2=> ?_⟩
   cases e2
   exact⟨o,e,ex.2.1⟩
  ·obtain⟨o,_,_,_,e,ex,_⟩:=I.hok p _ hk
   refine⟨⟨o,e,ex.1⟩,fun a e2=> ?_⟩
   cases e2
   exact⟨o,e,ex.2.1⟩
 | _=>exact ax ty
noncomputable def aNp (K:PySem.W.Frag) (T:String) (r:V->List V->Hp->VK->Prop) (to:TE):TE:=fun σ H Q=>to σ H fun x H1=>tyV K T x H1/\r x [] H1 Q
noncomputable def tBM (K:PySem.W.Frag) (T:String) (r:V->List V->Hp->VK->Prop) (to:TE) (t:TA):TE:=fun σ H Q=>to σ H fun x H1=>tyV K T x H1/\t σ H1 fun xs H2=>r x xs H2 Q
variable {o e:Expr} {es:List Expr} {to:TE} {t:TA} {name:Str} {apos cpos:Pos} {T id:String} {r:V->List V->Hp->VK->Prop}
theorem aIa (pa:PlainAttrs T) (slot:Slot T name id) (hty:typeOf (.builtin id)=pure (.type "method_descriptor")) (hm:MtR X id r) (ho:PE X o to)
  (hbase:attributeBase o name X.env (eval o X.env)=eval o X.env:=by rfl) (hline:(apos.endLine==cpos.line)=true:=by rfl):PE X (.Call (.Attribute o name apos) [] [] cpos) (aNp X.K T r to):=by
 intro pins s σ H Q I h
 refine wpAny_Call_method0_late hbase hline (thn (ho pins s σ H _ I h) fun v s1 hz_=> ?_)
 obtain⟨x,H1,I1,r1,ty,q1⟩:=hz_
 obtain⟨h1,h2⟩:=aCc I1 r1 ty
 exact⟨T,id,pa,slot,hty,h1,h2,Calls.callWith_builtin rfl (PySem.evalArgs_none (hm pins s1 σ H1 x [] v [] Q I1 r1 .nil q1))⟩
theorem aDu (pa:PlainAttrs T) (slot:Slot T name id) (hty:typeOf (.builtin id)=pure (.type "method_descriptor")) (hm:MtR X id r) (ho:PE X o to) (ha:PA X (e::es) t)
  (hbase:attributeBase o name X.env (eval o X.env)=eval o X.env:=by rfl)
  (hfew:((backTo cpos (starEach (e::es) X.env)).all (fun x=> !x.1)&&(backToKw cpos (keywordEach [] X.env)).all (fun x=>x.1.isSome)
   &&decide ((e::es).length+([]:List Keyword).length+(if([]:List Keyword).isEmpty then 0 else 1)<30))=true:=by rfl)
  (hline:(apos.endLine==cpos.line)=true:=by rfl) (hs:starEach (e::es) X.env=(false,eval e X.env)::starEach es X.env:=by rfl) (hplain:(backTo cpos (starEach es X.env)).any (·.1)=false:=by rfl):
  PE X (.Call (.Attribute o name apos) (e::es) [] cpos) (tBM X.K T r to t):=by
 intro pins s σ H Q I h
 refine wpAny_Call_method_late hbase hfew hline rfl (thn (ho pins s σ H _ I h) fun v s1 hz_=> ?_)
 obtain⟨x,H1,I1,r1,ty,q1⟩:=hz_
 obtain⟨h1,h2⟩:=aCc I1 r1 ty
 refine⟨T,id,pa,slot,hty,h1,h2, ?_⟩
 have hA:=ha cpos pins s1 σ H1 _ I1 q1
 rw [hs] at hA ⊢
 refine Calls.callWith_builtin (by show(false||(backTo cpos (starEach es X.env)).any (·.1))=false;rw [hplain]<;>rfl) (Calls.evalArgs_plain ?_)
 exact thn hA fun us s2 ⟨vs,H2,I2,r2,q2⟩=>hm pins s2 σ H2 x vs v us Q I2 r1 r2 q2
end
def MtM (X:Cx) (id:String) (r:V->List V->Hp->VK->Prop):Prop:=
 ∀ (pins:List (Addr×Obj)) (s:Shared) (σ:St) (H:Hp) (x:V) (xs:List V) (v:Value) (us:List Value) (Q:VK),Inv X pins σ H s->bF x v->aZ xs us->r x xs H Q->
  wpAny (model X.prog X.w) X.A (call (.builtin id) (v::us)) (EP X pins σ Q) X.xe s
theorem aZ.one: ∀ {x:V} {us:List Value},aZ [x] us-> ∃ u,us=[u]/\bF x u
 | _,_, .cons r .nil=>⟨_,rfl,r⟩
theorem aZ.two: ∀ {x y:V} {us:List Value},aZ [x,y] us-> ∃ u v,us=[u,v]/\bF x u/\bF y v
 | _,_,_, .cons r (.cons q .nil)=>⟨_,_,rfl,r,q⟩
theorem aZ.reverse {xs:List V} {us:List Value} (h:aZ xs us):aZ xs.reverse us.reverse:=by
 induction h with
 | nil=>exact .nil
 | cons r t ih=>rw [List.reverse_cons,List.reverse_cons];exact aZ.append ih (.cons r .nil)
theorem aZ.rep {xs:List V} {us:List Value} (h:aZ xs us): ∀ k:Nat,aZ (ak k xs).flatten (ak k us).flatten
 | 0=> .nil
 | k+1=>by
  rw [List.replicate_succ,List.replicate_succ,List.flatten_cons,List.flatten_cons]
  exact aZ.append h (aZ.rep h k)
theorem oK (its:List Value): ∀ (k:Nat) (acc:List Value),
  List.foldl (fun x1 x2=>x1++x2) acc.toArray (ak k its.toArray)=(acc++(ak k its).flatten).toArray
 | 0,acc=>by simp
 | k+1,acc=>by
  have e:acc.toArray++its.toArray=(acc++its).toArray:=by simp
  have e2:(acc++its)++(ak k its).flatten=acc++(ak (k+1) its).flatten:=by
   rw [List.replicate_succ,List.flatten_cons,List.append_assoc]
  rw [<-e2, <-oK its k (acc++its), <-e,List.replicate_succ,List.foldl_cons]
section
variable {X:Cx} {pins:List (Addr×Obj)} {σ:St} {H:Hp} {s:Shared} {l b:Addr} {xs ys zs:List V}
theorem Inv.lset {its its':List Value} {n:Nat} {f:Array Value->Array Value} {t':Nat} (I:Inv X pins σ H s) (hH:H l=some (.lst xs))
  (e:s.heap.get? l=some { cls:= .type "list",data:= .seq its.toArray n }) (hf:f its.toArray=its'.toArray) (hv:aZ ys its') (hz:ys.length<=sizeLine):
  Inv X pins σ (upd H l (.lst ys)) { s with heap:=s.heap.update l (Obj.mapSeq f),toks:=t' }:=by
 have q:=PySem.IsL.update e f
 rw [hf] at q
 refine I.write (x:=l) (e:=l) (by rw [hH];exact trivial) (.inl rfl) (fun b' u hb hu=>(Heap.get?_update_other s.heap (Obj.mapSeq f) (Ne.symm hb)).trans hu) ⟨_,q⟩ ?_
 exact⟨hz,its',_,hv,q⟩
theorem Inv.lnew {its:List Value} {t':Nat} (I:Inv X pins σ H s) (hv:aZ ys its) (hz:ys.length<=sizeLine):
  Inv X pins σ (upd H s.heap.objs.size (.lst ys)) { s with heap:=s.heap.push { cls:= .type "list",data:= .seq its.toArray },toks:=t' }:=
 I.laid (fun _ _ q=>af _ q) (aj _) ⟨hz,its,0,hv,ag _ rfl⟩
theorem Inv.fresh (I:Inv X pins σ H s):H s.heap.objs.size=none:=I.hok.fresh (aj _)
theorem Inv.lstM (I:Inv X pins σ H s) (hH:H l=some (.lst xs)):xs.length<=sizeLine/\ ∃ (its:List Value) (n:Nat),aZ xs its/\xs.length=its.length/\s.heap.get? l=some { cls:= .type "list",data:= .seq its.toArray n }:=by
 obtain⟨z,its,n,r,e⟩:=I.hok l _ hH
 exact⟨z,its,n,r,r.length,e⟩
theorem sF {n:Nat} (h:n<=sizeLine):Builtin.List.listTooLong n=false:=by
 unfold Builtin.List.listTooLong
 exact decide_eq_false (by omega)
end
section
variable {X:Cx}
noncomputable def aDv:V->List V->Hp->VK->Prop:=fun x vs H Q=> ∃ l xs y,x= .ref l/\vs=[y]/\H l=some (.lst xs)/\xs.length<sizeLine/\Q .non (upd H l (.lst (xs++[y])))
theorem jW:MtM X "list.append" aDv:=by
 intro pins s σ H x vs v us Q I rx rv h
 obtain⟨l,xs,y,rfl,rfl,hH,hz,q⟩:=h
 cases rx
 obtain⟨u,rfl,ru⟩:=rv.one
 obtain⟨z,its,n,r,hl,e⟩:=I.lstM hH
 refine call_meets F.slot_list_append ⟨_,e,rfl⟩ F.entry_list_append (F.args_list_append_2 _ _) (PySem.list_append l its.toArray n u (by rw [au];omega)) ⟨e, ?_⟩
 refine⟨.non,_,I.lset (its':=its++[u]) hH e (by simp) (r.append (.cons ru .nil)) ?_,rfl,q⟩
 rw [bj,List.length_singleton]
 omega
noncomputable def aNq:R2:=fun x y H Q=> ∃ l b xs zs,x= .ref l/\y= .ref b/\H l=some (.lst xs)/\H b=some (.lst zs)/\xs.length+zs.length<=sizeLine/\ ∀ p,H p=none->Q (.ref p) (upd H p (.lst (xs++zs)))
theorem aIb:OpR X (binaryOp .Add) aNq:=by
 intro pins s σ H x y v u Q I rx ry h
 obtain⟨l,b,xs,zs,rfl,rfl,hH,hB,hz,q⟩:=h
 cases rx
 cases ry
 obtain⟨z,its,n,r,hl,e⟩:=I.lstM hH
 obtain⟨z2,its2,n2,r2,hl2,e2⟩:=I.lstM hB
 refine PySem.P.add_list e e2 ?_ (by rw [au,au];omega)
 have ea:its.toArray++its2.toArray=(its++its2).toArray:=by simp
 rw [ea]
 exact⟨.ref _,_,I.lnew (t':=s.toks) (r.append r2) (by rw [bj];omega),rfl,q _ I.fresh⟩
theorem qO {α:Type} (xs:List α) (k:Nat):(ak k xs).flatten.length=k * xs.length:=by
 induction k with
 | zero=>simp
 | succ k ih=>rw [List.replicate_succ,List.flatten_cons,bj,ih,Nat.succ_mul,Nat.add_comm]
end
section
variable {prog:Program} {w:World} {A:Around} {E:Value->Shared->Prop} {s:Shared}
end
section
variable {X:Cx}
end
end L2
namespace Att
open PySem PySem.W PySem.Calls PyProof.Rows
theorem jX {P:Params} {h:Heap}: ∀ (ns:List Int) (vs:List Value),WellAll P h vs (ns.map WData.int)->IntsAre vs ns:=by
 intro ns
 induction ns with
 | nil=>
  intro vs w
  rw [List.map_nil] at w
  cases w
  exact .nil
 | cons n ns ih=>
  intro vs w
  rw [List.map_cons] at w
  cases w with
  | cons a b=>
   cases a
   exact .cons _ _ (ih _ b)
theorem wA {l:OpenLaw} {n:Nat} (hn:l.most=some n) {P:Params} {h:Heap} {args:List WData} {vals:List Value}
  (hpre:l.row.toRowW.claim.pre args=true) (hwl:WellAll P h vals args):
  ∃ a vs ns,vals=[Value.ref a]/\args=[WData.list (ns.map WData.int)]/\h.get? a=some { cls:= .type "list",data:= .seq vs.toArray }/\IntsAre vs ns/\ns.length<=n:=by
 have hsh:WShape.hasAll [] args [.list .int]=true:=(pre_splitW hpre).1
 have hc:l.pre.holds [] { args:=args }=true:=(pre_splitW hpre).2
 obtain⟨d,r,rfl,h1,h2⟩:=hasAllW_cons hsh
 obtain rfl:=hasAllW_nil h2
 obtain⟨xs,rfl,h3⟩:=hasW_list h1
 obtain⟨ns,rfl⟩:=items_int h3
 have hlen:ns.length<=n:=by
  unfold OpenLaw.pre at hc
  have h4:(WTm.not (.lt (.lit (.int (n:Int))) (.len (.arg 0)))).holds [] { args:=[.list (ns.map .int)] }=true:=by
   have h4:=(holds_andW hc).1
   rw [hn] at h4
   exact h4
  have h5:=condW_of h4 (w_not (w_lt w_lit (w_len_list (w_arg rfl))))
  rw [am] at h5
  refine Nat.le_of_not_lt fun q=> ?_
  have q':(n:Int)<((ns.length:Nat):Int):=by omega
  first
   | (rw [decide_eq_true q'] at h5;exact absurd h5 (by decide))
   | (simp at h5;omega)
 cases hwl with
 | cons w1 w2=>
  cases w2
  cases w1 with
  | list ho hall=>exact⟨_,_,ns,rfl,rfl,ho,jX ns _ hall,hlen⟩
theorem wB (l:OpenLaw) (args:List WData):l.row.toRowW.claim.post args (.bool true) args=true:=
 postW_of (r:=l.row.toRowW) (X:=(true==true))
  (show WShape.has [] (.bool true) .bool=true by first | rfl | decide | simp [WShape.has,WShape.arms,WShape.armsAll])
  (show(WTm.eq .res (.lit (.bool true))).value [] { args:=args,res:=some (.bool true),after:=args }=some (.bool (true==true)) from w_eq_bool (w_res rfl) w_lit) rfl
theorem attach_call {l:OpenLaw} {n:Nat} {q:Program} {loose:List Str} {XP:(Str->Option Value)->Heap->Prop} {YP:World->Heap->Prop} {d:DefRec}
  (hn:l.most=some n) (hdf:d.params.defaults=[])
  (call: ∀ (w:World) (s₀ s₁:Shared) (mg mb:Str->Option Value) (fa:Addr) (o:Obj) (pm cd doc:Value) (a:Addr) (vs:List Value) (ns:List Int),
   Ground q loose [] XP w s₀ mg mb s₁.heap->YP w s₁.heap->
   s₁.heap.get? fa=some o->o.data= .func (docDef d.name d.params d.body d.scope pm cd doc)->s₁.heap.CodeRec cd d.name->mg d.name=some (.ref fa)->
   s₁.heap.get? a=some { cls:= .type "list",data:= .seq vs.toArray }->IntsAre vs ns->ns.length<=n->s₁.gens= #[]->
   codeAny (model l.prog w) callerA (.call (.ref fa) ⟨[.ref a],[]⟩) (fun r s'=>r= .ok (.ret (.bool true))/\OldK s₁.heap s'.heap/\s'.os=s₁.os/\AllBare s'.gens) s₁):
  WalkO q loose XP YP l.row.toRowW d [] (fun f vs=>PySem.call f vs):=by
 intro w s₀ s₁ mg mb G Y fa o pm cd doc dV kV ho hd hcd hD hmg hg args vals as hpre hlay hrd hwl hlo
 obtain rfl:dV= .none:=Dflts.none hD hdf
 obtain rfl:kV= .none:=Dflts.noKw hD
 obtain⟨a,vs,ns,rfl,rfl,hobj,hints,hlen⟩:=wA hn hpre hwl
 refine enter_call (codeAny_mono (call w s₀ s₁ mg mb fa o pm cd doc a vs ns G Y ho (fd_plain hd) hcd hmg hobj hints hlen hg) fun r s' hq=> ?_)
 obtain⟨rfl,h2,h3,h4⟩:=hq
 exact⟨.inl ⟨.bool true, .bool true,[],rfl,fun _=>rfl, .bool true,wB l _,fun _=>⟨List.Pairwise.nil,fun _ hm=>(nomatch hm)⟩⟩,h2,h3,h4⟩
section
variable {prog:Program} {w:World} {A:Around} {E:Value->Shared->Prop} {s:Shared} {K:Frag}
noncomputable def aMj (h:Heap) (L d:Addr):List (Addr×Obj):=(List.range h.objs.size).filterMap fun a=>if a=L\/a=d then none else(h.get? a).map fun o=>(a,o)
end
end Att
namespace L2
open PySem PySem.Spec PyProof.Rows
theorem oM: ∀ {vs:List Value} {ns:List Int},IntsAre vs ns->aZ (ns.map V.int) vs
 | _,_, .nil=> .nil
 | _,_, .cons n t h=> .cons ⟨t,rfl⟩ (oM h)
def aLa (H:Hp):Prop:= ∀ b,H b=none\/ ∃ o xs,H b=some (.frz o (.lst xs))
theorem aAf {P:Program} {w:World} {K:PySem.W.Frag} {mg mb:Str->Option Value} {CX:CXT} {k:Nat} {fa a:Addr} {fd:FuncData} {x:Str} {sp:Sp} {s₁:Shared} {vs:List Value} {ns:List Int}
  (KX:K.In s₁.heap) (hns:s₁.heap.Ns mainGlobals mg) (hb:s₁.heap.Ns builtinsNs mb) (hbb: ∀ x:Str,x≠"__name__"->mb x=bootBuiltins x) (hlim:s₁.heap.NoLimit) (hg:s₁.gens= #[])
  (ha:s₁.heap.get? a=some { cls:= .type "list",data:= .seq vs.toArray }) (hi:IntsAre vs ns) (hl:ns.length<=sizeLine) (hr:Room k callerA)
  (F: ∀ base:Heap,K.In base->base.Ns mainGlobals mg->FnOk P w K mg base CX k fa fd [x] sp) (hbind: ∀ (s:Shared) (u:Value),BindsTo s fd ⟨[u],[]⟩ [(x,u)])
  (hsp: ∀ H:Hp,aLa H->SqL K H a (ns.map V.int)->sp [.ref a] H (fun v _=>v= .bl true) fun _ _ _=>False)
  (hCX: ∀ H e s',CX [] H s₁ (fun _ _ _=>False) e s'->False):
  codeAny (model P w) callerA (.call (.ref fa) ⟨[.ref a],[]⟩) (fun r s'=>r= .ok (.ret (.bool true))/\OldK s₁.heap s'.heap/\s'.os=s₁.os/\AllBare s'.gens) s₁:=by
 have rv:=oM hi
 have lenV:=hi.length
 -- from an abstract heap in which nothing but the script may be tracked
 have core: ∀ H:Hp,aLa H->SqL K H a (ns.map V.int)->HOk P w H s₁.heap->(∀ b,H b≠none->b=a)->(H a≠none->K.lookup a=none)->
   codeAny (model P w) callerA (.call (.ref fa) ⟨[.ref a],[]⟩) (fun r s'=>r= .ok (.ret (.bool true))/\OldK s₁.heap s'.heap/\s'.os=s₁.os/\AllBare s'.gens) s₁:=by
  intro H hO hS hok hA hK
  have base_of: ∀ {b:Addr} {o:Obj},s₁.heap.get? b=some o->H b=none->(zV s₁.heap H).get? b=some o:=fun e n=>zW e n
  have noA: ∀ {b:Addr} {o:Obj} {es:Array DictEntry} {ep:Nat},s₁.heap.get? b=some o->o.data= .dict es ep->H b=none:=fun {b o es ep} e d=>by
   cases q:H b with
   | none=>rfl
   | some u=>
    have e':b=a:=hA b (by rw [q];simp)
    subst e'
    rw [ha] at e;cases e
    have d':Data.seq vs.toArray _=Data.dict es ep:=d
    cases d'
  have nsK: ∀ {b:Addr} {m:Str->Option Value},s₁.heap.Ns b m->(zV s₁.heap H).Ns b m:=fun {b m} ⟨o,es,ep,e,d,r⟩=>⟨o,es,ep,base_of e (noA e d),d,r⟩
  have hKb:K.In (zV s₁.heap H):=fun b o e=>base_of (KX b o e) (by
   cases q:H b with
   | none=>rfl
   | some u=>
    have e':b=a:=hA b (by rw [q];simp)
    subst e'
    rw [hK (by rw [q];simp)] at e;cases e)
  have hM:Mod K mg (zV s₁.heap H):=⟨hKb,nsK hns,⟨mb,nsK hb,hbb⟩,let ⟨mc,h1,h2⟩:=hlim;⟨mc,nsK h1,h2⟩⟩
  have e0:Env0 P w K mg (zV s₁.heap H) callerA [] s₁ H:=⟨rfl,hM,fun b o e=>aDe e,Nat.le_of_eq (vU _ _),trivial,fun b hb=>absurd (show b∈([]:List Addr) from hb) (by simp),hok, .of_eq hg⟩
  refine codeAny_mono ((F _ hKb (nsK hns)).run callerA [] s₁ H ⟨[.ref a],[]⟩ [.ref a] [.ref a] _ _ hr e0 (hbind s₁ (.ref a)) (.cons rfl .nil) (hsp H hO hS)) fun r s' h=> ?_
  cases r with
  | error e=>exact(hCX H e s' h).elim
  | ok fl=>
   cases fl with
   | next=>exact ax h
   | brk=>exact ax h
   | cont=>exact ax h
   | ret u=>
    obtain⟨v,H',os,bare,un,hok',r',q⟩:=h
    have q':v= .bl true:=q
    subst q'
    obtain rfl:u=Value.bool true:=r'
    refine⟨rfl,OldK.of_keep fun b o e=> ?_,os,bare⟩
    cases q:H b with
    | none=>exact un.keep b o e q (by intro z;exact absurd (show b∈([]:List Addr) from z) (by simp)) (by simp)
    | some u=>
     rcases hO b with z | ⟨ob,xs,z⟩
     ·rw [q] at z;cases z
     ·have z2:=un.frzs b ob _ z
      obtain⟨e1,_⟩:=hok b _ z
      obtain⟨e2,_⟩:=hok' b _ z2
      rw [e] at e1;cases e1
      exact e2
 cases hk:K.lookup a with
 | some o=>
  -- the script is one of the module's own objects
  have e:=KX a o hk
  rw [ha] at e
  cases e
  refine core (fun _=>none) (fun _=> .inl rfl) (.inr ⟨_,vs.toArray,_,hk,rfl,rfl,rfl,by rw [au,lenV];exact hl,by simpa using rv⟩) (fun b u z=>by have z':(none:Option HO)=some u:=z;cases z') (fun b z=>absurd rfl z) fun z=>absurd rfl z
 | none=>
  refine core (fun b=>if b=a then some (.frz { cls:= .type "list",data:= .seq vs.toArray } (.lst (ns.map V.int))) else none) (fun b=> ?_) (.inl (.inr ⟨{ cls:= .type "list",data:= .seq vs.toArray },if_pos rfl⟩)) (fun b u z=> ?_) (fun b z=> ?_) fun _=>hk
  ·by_cases hb:b=a
   ·exact .inr ⟨_,_,if_pos hb⟩
   ·exact .inl (if_neg hb)
  ·by_cases hb:b=a
   ·have z':=(if_pos hb).symm.trans z
    cases z'
    subst hb
    exact⟨ha,by rw [am];exact hl,vs,_,rv,ha⟩
   ·have z':=(if_neg hb).symm.trans z
    cases z'
  ·by_cases hb:b=a
   ·exact hb
   ·exact absurd (if_neg hb) z
noncomputable abbrev KOf {K:PySem.W.Frag} {h:Heap} (_:K.In h):PySem.W.Frag:=K
theorem walk_of {l:PySem.W.OpenLaw} {n k:Nat} {q:Program} {loose:List Str} {XP:(Str->Option Value)->Heap->Prop} {YP:World->Heap->Prop} {d:DefRec} {K:Params->PySem.W.Frag} {CX:World->CXT} {sp:World->Sp} {x:Str}
  (hn:l.most=some n) (hn2:n<=sizeLine) (hdf:d.params.defaults=[]) (hr:Room k callerA)
  (hY: ∀ (w:World) (h:Heap),YP w h->(K w.params).In h)
  (F: ∀ (w:World) (mg:Str->Option Value) (fa:Addr) (h:Heap),(K w.params).In h->h.Ns mainGlobals mg->mg d.name=some (.ref fa)->
   ∃ fd:FuncData,(∀ (s:Shared) (u:Value),BindsTo s fd ⟨[u],[]⟩ [(x,u)])/\
    ∀ base:Heap,(K w.params).In base->base.Ns mainGlobals mg->FnOk l.prog w (K w.params) mg base (CX w) k fa fd [x] (sp w))
  (hsp: ∀ (w:World) (H:Hp) (a:Addr) (ns:List Int),ns.length<=n->aLa H->SqL (K w.params) H a (ns.map V.int)->sp w [.ref a] H (fun v _=>v= .bl true) fun _ _ _=>False)
  (hCX: ∀ (w:World) (H:Hp) (s:Shared) (e:Value) (s':Shared),CX w [] H s (fun _ _ _=>False) e s'->False):
  PySem.W.WalkO q loose XP YP l.row.toRowW d [] (fun f vs=>PySem.call f vs):=by
 refine Att.attach_call hn hdf fun w s₀ s₁ mg mb fa o pm cd doc a vs ns G Y ho hd hcd hmg hobj hints hlen hg=> ?_
 have KX:=hY w _ Y
 obtain⟨fd,hb,hF⟩:=F w mg fa _ KX G.T.g hmg
 exact aAf KX G.T.g G.T.b G.T.builtins G.T.nolimit hg hobj hints (Nat.le_trans hlen hn2) hr hF hb (fun H hO hS=>hsp w H a ns hlen hO hS) fun H e s'=>hCX w H s₁ e s'
structure Fun (K:PySem.W.Frag) (x qual:Str) (st:Stmt) (f:Addr) (fd:FuncData):Prop where
 ex: ∃ (oc:Value) (od:Option Addr) (kV doc pm:Value) (an:Option Addr) (cdv ct:Value) (osl:Array (Option Value)),
  fd=PySem.W.fnOf x qual (defArgs st) (defBody st) (defScope st) .none kV doc pm an cdv ct/\K.lookup f=some ⟨oc,od, .func fd,osl⟩/\PySem.W.codeIn K cdv qual=true
 kp:PySem.W.keepIn K (.ref f)=true
section
variable {P:Program} {w:World} {K:PySem.W.Frag} {mg:Str->Option Value} {base:Heap}
theorem Fun.binds {x qual:Str} {st:Stmt} {f:Addr} {fd:FuncData} {ps:List Str} (F:Fun K x qual st f fd)
  (h: ∀ (kV doc pm:Value) (an:Option Addr) (cdv ct:Value) (us:List Value),us.length=ps.length->bindArgs (PySem.W.fnOf x qual (defArgs st) (defBody st) (defScope st) .none kV doc pm an cdv ct) ⟨us,[]⟩=pure (ps.zip us)):gA K fd ps []:=by
 obtain⟨oc,od,kV,doc,pm,an,cdv,ct,osl,rfl,lk,hcd⟩:=F.ex
 exact .all (h kV doc pm an cdv ct)
theorem oN {x qual:Str} {st:Stmt} {f:Addr} {oc:Value} {od an:Option Addr} {osl:Array (Option Value)} {kV doc pm cdv ct:Value} (l:K.lookup f=some ⟨oc,od, .func (PySem.W.fnOf x qual (defArgs st) (defBody st) (defScope st) .none kV doc pm an cdv ct),osl⟩)
  (c:PySem.W.codeIn K cdv qual=true) (k:PySem.W.keepIn K (.ref f)=true):Fun K x qual st f (PySem.W.fnOf x qual (defArgs st) (defBody st) (defScope st) .none kV doc pm an cdv ct):=⟨⟨oc,od,kV,doc,pm,an,cdv,ct,osl,rfl,l,c⟩,k⟩
end
section
variable {X:Cx}
end
theorem aCd {A B:Prop} (h:B):if false=true then A else B:=by
 rw [if_neg ba]
 exact h
theorem aAg {A B:Prop} (h:A):if true=true then A else B:=by
 rw [if_pos rfl]
 exact h
def Same (H H':Hp):Prop:= ∀ b o,H b=some o->H' b=some o
theorem Same.refl (H:Hp):Same H H:=fun _ _ h=>h
theorem Same.trans {H H1 H2:Hp} (a:Same H H1) (b:Same H1 H2):Same H H2:=fun c o h=>b c o (a c o h)
theorem Same.free {H H':Hp} (e:Same H H') {l:Addr} (h:H' l=Option.none):H l=Option.none:=by
 cases q:H l with
 | none=>rfl
 | some o=>
  rw [e l o q] at h
  cases h
theorem Same.seq {K:PySem.W.Frag} {H H':Hp} {a:Addr} {xs:List V} (e:Same H H') (h:SqL K H a xs):SqL K H' a xs:=by
 rcases h with (h | ⟨o,h⟩) | h
 ·exact .inl (.inl (e _ _ h))
 ·exact .inl (.inr ⟨o,e _ _ h⟩)
 ·exact .inr h
end L2
namespace SK
open PySem PySem.Spec PyProof.Rows L2
open PySem.AutoSeq1 (wpAny_loadPart' idx_int)
theorem oO (l:Addr) (items:Array Value) (n:Nat) (b:Addr) (items2:Array Value) (n2:Nat) (dd2:Option Addr) (sl2:Array (Option Value)) (hc0: ¬(!items.isEmpty&&Builtin.List.listTooLong (items.size+items2.size))=true) (hc1:items.size<=sizeLine) (hs2:items.size+items2.size<=sizeLine+1):
  Meets (Builtin.«list.extend» ⟨[.ref l, .ref b],[]⟩) (fun _ R s=>s.heap.get? l=some { cls:= .type "list",dict:=none,data:= .seq items n,slots:= #[] }/\s.heap.get? b=some { cls:= .type "list",dict:=dd2,data:= .seq items2 n2,slots:=sl2 }/\R (.ok (.ret Value.none)) { s with heap:=s.heap.update l (Obj.mapSeq fun x=>x++items2),toks:=s.toks }):=
 .of_wp fun prog w A R s h=>by
  obtain⟨hp,g,d,tk,os⟩:=s;obtain⟨hl,hb,h⟩:=h;have f1:=idx_int;have f2:=AutoSeq1.sub_tuple_tuple;have f3:=AutoSeq1.sub_list_list;have f4:=AutoSeq1.sub_tuple_list;have f5:=AutoSeq1.sub_list_tuple;
  have hz':(items++items2).size<=sizeLine+1:=by rw [Array.size_append];exact hs2
  wp_walk using (wpAny_updateSeq hl rfl (hz:=hc1) (_hz':=hz')),wpAny_loadPart' hl,wpAny_loadPart' hb;exact⟨_,rfl,h⟩
theorem fW (a:Int) (t:Tok) (l:Addr) (items:Array Value) (n:Nat) (T:String) (dd:Option Addr) (sl:Array (Option Value)) (hT:T="list"\/T="tuple"):
  Meets (Builtin.«int.__rmul__» ⟨[.int a t, .ref l],[]⟩) (fun _ R s=>s.heap.get? l=some { cls:= .type T,dict:=dd,data:= .seq items n,slots:=sl }/\R (.ok (.ret Value.notImplemented)) s):=
 .of_wp fun prog w A R s h=>by
  obtain⟨hp,g,d,tk,os⟩:=s;obtain⟨hl,h⟩:=h
  rcases hT with rfl | rfl<;>(wp_walk using wpAny_loadPart' hl;exact⟨_,rfl,h⟩)
theorem wC (l:Addr) (items:Array Value) (n:Nat) (x:Int) (u:Tok) (dd:Option Addr) (sl:Array (Option Value)) (hc0: ¬(!Builtin.List.listFitsIndex x)=true) (hc1: ¬items.size * x.toNat > (2 ^ 63 - 1) / 8) (hc2: ¬Builtin.List.listTooLong (items.size * x.toNat)=true):
  Meets (Builtin.«list.__mul__» ⟨[.ref l, .int x u],[]⟩) (fun _ R s=>s.heap.get? l=some { cls:= .type "list",dict:=dd,data:= .seq items n,slots:=sl }/\R (.ok (.ret (Value.ref s.heap.objs.size))) { s with heap:=s.heap.push { cls:=Value.type "list",data:=Data.seq (List.foldl (fun x1 x2=>x1++x2) #[] (ak (if items.isEmpty=true then 0 else x.toNat) items)) },toks:=s.toks }):=
 .of_wp fun prog w A R s h=>by
  obtain⟨hp,g,d,tk,os⟩:=s;obtain⟨hl,h⟩:=h
  have hsz:=AutoListH.joined_fits hc2
  wp_walk using wpAny_loadPart' hl;refine wpAny_ite_false (decide_eq_false (Nat.not_lt.mpr hsz)) ?_;wp_walk;exact⟨_,rfl,h⟩
open PySem.AutoSeq1 (wpAny_loadPart' idx_int)
theorem qP (l:Addr) (items:Array Value) (n:Nat) (x:Int) (u:Tok) (dd:Option Addr) (sl:Array (Option Value)) (h0:(decide (x< -(2 ^ 63))||decide (x≥2 ^ 63))=false) (hc:(items.isEmpty||x==1)=true):
  Meets (Builtin.«tuple.__mul__» ⟨[.ref l, .int x u],[]⟩) (fun _ R s=>s.heap.get? l=some { cls:= .type "tuple",dict:=dd,data:= .seq items n,slots:=sl }/\R (.ok (.ret (Value.ref l))) s):=
 .of_wp fun prog w A R s h=>by
  obtain⟨hp,g,d,tk,os⟩:=s;obtain⟨hl,h⟩:=h
  have f1:=idx_int
  wp_walk;refine wpAny_ite_false (by rw [h0];rfl) ?_;wp_walk using wpAny_loadPart' hl;exact⟨_,rfl,h⟩
theorem qQ (l:Addr) (items:Array Value) (n:Nat) (x:Int) (u:Tok) (dd:Option Addr) (sl:Array (Option Value)) (h0:(decide (x< -(2 ^ 63))||decide (x≥2 ^ 63))=false) (hc: ¬(items.isEmpty||x==1)=true) (hc1:(x<=0||items.isEmpty)=true):
  Meets (Builtin.«tuple.__mul__» ⟨[.ref l, .int x u],[]⟩) (fun _ R s=>s.heap.get? l=some { cls:= .type "tuple",dict:=dd,data:= .seq items n,slots:=sl }/\R (.ok (.ret (Value.ref s.heap.objs.size))) { s with heap:=s.heap.push { cls:=Value.type "tuple",data:=Data.seq #[] },toks:=s.toks }):=
 .of_wp fun prog w A R s h=>by
  obtain⟨hp,g,d,tk,os⟩:=s;obtain⟨hl,h⟩:=h
  have f1:=idx_int
  wp_walk;refine wpAny_ite_false (by rw [h0];rfl) ?_;wp_walk using wpAny_loadPart' hl;exact⟨_,rfl,h⟩
theorem qR (l:Addr) (items:Array Value) (n:Nat) (x:Int) (u:Tok) (dd:Option Addr) (sl:Array (Option Value)) (h0:(decide (x< -(2 ^ 63))||decide (x≥2 ^ 63))=false) (hc: ¬(items.isEmpty||x==1)=true) (hc1: ¬(x<=0||items.isEmpty)=true)
  (hc2: ¬ (items.size:Int) * x > (2 ^ 63 - 1) / 8) (hc3: ¬ Builtin.Tuple.tupleTooMany (items.size * x)=true) (hsz:(List.foldl (fun x1 x2=>x1++x2) #[] (ak x.toNat items)).size<=sizeLine):
  Meets (Builtin.«tuple.__mul__» ⟨[.ref l, .int x u],[]⟩) (fun _ R s=>s.heap.get? l=some { cls:= .type "tuple",dict:=dd,data:= .seq items n,slots:=sl }/\R (.ok (.ret (Value.ref s.heap.objs.size))) { s with heap:=s.heap.push { cls:=Value.type "tuple",data:=Data.seq (List.foldl (fun x1 x2=>x1++x2) #[] (ak x.toNat items)) },toks:=s.toks }):=
 .of_wp fun prog w A R s h=>by
  obtain⟨hp,g,d,tk,os⟩:=s;obtain⟨hl,h⟩:=h
  have f1:=idx_int
  wp_walk;refine wpAny_ite_false (by rw [h0];rfl) ?_;wp_walk using wpAny_loadPart' hl;refine wpAny_ite_false (decide_eq_false hc2) ?_;wp_walk;exact⟨_,rfl,h⟩
theorem jB:fillsNumberSlot (.type "tuple") "mul"=pure false:=
 PySem.fillsNumberSlot_seq (id:="tuple.__mul__") (r:=some (.builtin "tuple.__rmul__")) F.slot_tuple_mul.lookup (by decide+kernel) F.slot_tuple_rmul.lookup (by decide+kernel)
theorem oP:seqRepeat? (.type "tuple")=pure (some (.builtin "tuple.__mul__")):=by
 unfold seqRepeat?
 rw [PySem.seqSlot_of (T:="tuple") (name:="__mul__") (id:="tuple.__mul__") F.slot_tuple_mul.lookup (by decide+kernel),PySem.seqSlot_of (T:="tuple") (name:="__rmul__") (id:="tuple.__rmul__") F.slot_tuple_rmul.lookup (by decide+kernel)]
 rfl
inductive D where
 | non | bl (b:Bool) | int (i:Int) | str (x:Str)
 | tup (xs:List D) | lst (xs:List D)
 | exc (c:Nat) | fn (f:Nat)
 deriving Inhabited
noncomputable def b2i (b:Bool):Int:=if b then 1 else 0
mutual
noncomputable def deq:D->D->Bool
 | .non, .non=>true
 | .bl a, .bl b=>a==b
 | .bl a, .int j=>b2i a==j
 | .int i, .bl b=>i==b2i b
 | .int i, .int j=>i==j
 | .str x, .str y=>x==y
 | .tup xs, .tup ys=>uV xs ys
 | .lst xs, .lst ys=>uV xs ys
 | _,_=>false
noncomputable def uV:List D->List D->Bool
 | [],[]=>true
 | x::xs,y::ys=>deq x y&&uV xs ys
 | _,_=>false
end
mutual
noncomputable def plain:D->Bool
 | .non=>true
 | .bl _=>true
 | .int _=>true
 | .str x=>x.cps.all (· <0x110000)
 | .tup xs=>aS xs
 | .lst xs=>aS xs
 | .exc _=>false
 | .fn _=>false
noncomputable def aS:List D->Bool
 | []=>true
 | x::xs=>plain x&&aS xs
end
mutual
noncomputable def dep:D->Nat
 | .tup xs=>iI xs+1
 | .lst xs=>iI xs+1
 | _=>0
noncomputable def iI:List D->Nat
 | []=>0
 | x::xs=>max (dep x) (iI xs)
end
noncomputable def nY (x y:D):Bool:=plain x&&plain y&&decide (min (dep x) (dep y)<=60)
inductive R where
 | ok (d:D) | ow (xs:List D) | ex (c:Nat) | bad
noncomputable def R.bind (r:R) (k:D->R):R:=match r with
 | .ok d=>k d
 | .ow xs=>k (.lst xs)
 | .ex c=> .ex c
 | .bad=> .bad
inductive Slot where
 | no | sh (d:D) | ow (xs:List D)
noncomputable def Slot.owns:Slot->Bool
 | .ow _=>true
 | _=>false
abbrev Rho:=List Slot
abbrev F:=Rho->R
inductive Out where
 | nx (ρ:Rho) | rt (r:R) | bk (ρ:Rho) | ct (ρ:Rho) | ex (c:Nat) (ρ:Rho)
abbrev FS:=Rho->Out
abbrev Fn:=List D->R
noncomputable def LIM:Nat:=100000
noncomputable def num:D->Option Int
 | .int i=>some i
 | .bl b=>some (b2i b)
 | _=>none
noncomputable def sml (i:Int):Bool:=decide (-18446744073709551616<i)&&decide (i<18446744073709551616)
noncomputable def d7 (op:Operator) (i j:Int):R:=match op with
 | .Add=> .ok (.int (i+j))
 | .Sub=> .ok (.int (i - j))
 | .Mult=>if sml i||sml j then .ok (.int (i * j)) else .bad
 | .FloorDiv=>if 0<j/\j<1073741824 then .ok (.int (i / j)) else .bad
 | .Mod=>if 0<j then .ok (.int (i % j)) else .bad
 | .LShift=>if 0<=j/\j<=1000/\sml i=true then .ok (.int (i * 2 ^ j.toNat)) else .bad
 | .RShift=>if 0<=j then .ok (.int (i / 2 ^ j.toNat)) else .bad
 | .Pow=>if i=10/\j=9 then .ok (.int 1000000000) else .bad
 | _=> .bad
noncomputable def aKc (xs:List D) (k:Int):List D:=(ak k.toNat xs).flatten
noncomputable def k7 (op:Operator) (x y:D):R:=match x,y with
 | .int i, .int j=>(match op with
  | .BitAnd=> .ok (.int (Builtin.bitAnd i j))
  | .BitOr=> .ok (.int (Builtin.bitOr i j))
  | .BitXor=> .ok (.int (Builtin.bitXor i j))
  | op=>d7 op i j)
 | .int i, .bl b=>(match op with
  | .Sub=> .ok (.int (i - b2i b))
  | .Add=> .ok (.int (i+b2i b))
  | _=> .bad)
 | .tup xs, .tup ys=>(match op with
  | .Add=>if xs.length+ys.length<=LIM then .ok (.tup (xs++ys)) else .bad
  | _=> .bad)
 | .lst xs, .lst ys=>(match op with
  | .Add=>if xs.length+ys.length<=LIM then .ow (xs++ys) else .bad
  | _=> .bad)
 | .tup xs, .int k=>(match op with
  | .Mult=>if -1000000<k/\k<1000000/\xs.length * k.toNat<=LIM then .ok (.tup (aKc xs k)) else .bad
  | _=> .bad)
 | .str x, .str y=>(match op with
  | .Add=>if x.length<=LIM/\y.length<=LIM then .ok (.str (x++y)) else .bad
  | _=> .bad)
 | .str x, .int k=>(match op with
  | .Mult=>if x.length<=16/\0<=k/\k<=1000 then .ok (.str (Txt.mul x k)) else .bad
  | _=> .bad)
 | .lst xs, .int k=>(match op with
  | .Mult=>if -1000000<k/\k<1000000/\xs.length * k.toNat<=LIM then .ow (aKc xs k) else .bad
  | _=> .bad)
 | _,_=> .bad
noncomputable def items:D->Option (List D)
 | .tup xs=>some xs
 | .lst xs=>some xs
 | _=>none
noncomputable def lN:D->Option (List D)
 | .tup xs=>some xs
 | .lst xs=>some xs
 | _=>none
noncomputable def aDw:D->Bool
 | .non=>true
 | _=>false
noncomputable def aLb (b:Bool):D->Bool
 | .bl a=>a==b
 | _=>false
noncomputable def qI (x:D) (ys:List D):Bool:=ys.all fun y=>nY y x
noncomputable def inS (x y:D) (neg:Bool):R:=match x,y with
 | .str a, .str b=> .ok (.bl (cond neg (!Txt.contains b a) (Txt.contains b a)))
 | _,_=> .bad
noncomputable def mL (op:CmpOp) (x y:D):R:=match op with
 | .Eq=>if nY x y then .ok (.bl (deq x y)) else .bad
 | .NotEq=>if nY x y then .ok (.bl (!deq x y)) else .bad
 | .Lt=>(match x,y with | .int i, .int j=> .ok (.bl (decide (i<j))) | _,_=> .bad)
 | .LtE=>(match x,y with | .int i, .int j=> .ok (.bl (decide (i<=j))) | .str i, .str j=> .ok (.bl (!decide (j.cps.toList<i.cps.toList))) | _,_=> .bad)
 | .Gt=>(match x,y with | .int i, .int j=> .ok (.bl (decide (j<i))) | _,_=> .bad)
 | .GtE=>(match x,y with | .int i, .int j=> .ok (.bl (decide (j<=i))) | _,_=> .bad)
 | .Is=>(match y with
  | .non=> .ok (.bl (aDw x))
  | .bl b=> .ok (.bl (aLb b x))
  | _=> .bad)
 | .IsNot=>(match y with
  | .non=> .ok (.bl (!aDw x))
  | .bl b=> .ok (.bl (!aLb b x))
  | _=> .bad)
 | .In=>(match items y with | some ys=>if qI x ys then .ok (.bl (ys.any fun y=>deq y x)) else .bad | none=>inS x y false)
 | .NotIn=>(match items y with | some ys=>if qI x ys then .ok (.bl (!ys.any fun y=>deq y x)) else .bad | none=>inS x y true)
noncomputable def ixD (n:Nat) (i:Int):Option Nat:=if 0<=i then(if i<n then some i.toNat else none) else if -(n:Int)<=i then some (i+n).toNat else none
noncomputable def ixS (x y:D):R:=match x,y with
 | .str z, .int i=>if z.length<=LIM then(match(ixD z.cps.toList.length i).bind fun j=>z.cps.toList[j]? with | some c=> .ok (.str ⟨#[c]⟩) | none=> .bad) else .bad
 | _,_=> .bad
noncomputable def dIx (x y:D):R:=match items x,y with
 | some xs, .int i=>(match(ixD xs.length i).bind fun j=>xs[j]? with | some d=> .ok d | none=> .bad)
 | some _,_=> .bad
 | none,_=>ixS x y
noncomputable def cE (n d:Nat):Option Int->Nat
 | none=>d
 | some v=>if v<0 then(v+n).toNat else min v.toNat n
noncomputable def aAh (xs:List D) (lo hi:Option Int):List D:=(xs.drop (cE xs.length 0 lo)).take (cE xs.length xs.length hi - cE xs.length 0 lo)
noncomputable def aAi (xs:List Nat) (lo hi:Option Int):List Nat:=(xs.drop (cE xs.length 0 lo)).take (cE xs.length xs.length hi - cE xs.length 0 lo)
noncomputable def aIc (x:D) (lo hi:Option Int):R:=match x with
 | .tup xs=> .ok (.tup (aAh xs lo hi))
 | .lst xs=> .ow (aAh xs lo hi)
 | .str z=>if z.length<=LIM then .ok (.str ⟨(aAi z.cps.toList lo hi).toArray⟩) else .bad
 | _=> .bad
noncomputable def aCe:D->(Int->R)->R
 | .int i,k=>k i
 | _,_=> .bad
noncomputable def aB (i:Nat):F:=fun ρ=>match ρ[i]? with | some (.sh d)=> .ok d | _=> .bad
noncomputable def aD (i:Nat):F:=fun ρ=>match ρ[i]? with | some (.sh d)=> .ok d | some (.ow xs)=> .ok (.lst xs) | _=> .bad
noncomputable def qS (i:Nat):F:=fun ρ=>match ρ[i]? with | some (.sh d)=> .ok d | some (.ow xs)=> .ow xs | _=> .bad
noncomputable def rK (d:D):F:=fun _=> .ok d
noncomputable def aU (op:Operator) (a b:F):F:=fun ρ=>(a ρ).bind fun x=>(b ρ).bind fun y=>k7 op x y
noncomputable def aKd (a:F):F:=fun ρ=>(a ρ).bind fun x=>match x with | .int i=> .ok (.int (-i)) | _=> .bad
noncomputable def jF (a:F):F:=fun ρ=>(a ρ).bind fun x=>match x with | .bl b=> .ok (.bl (!b)) | _=> .bad
noncomputable def iL (a b:F):F:=fun ρ=>(a ρ).bind fun x=>match x with | .bl true=>b ρ | .bl false=> .ok (.bl false) | _=> .bad
noncomputable def rOr (a b:F):F:=fun ρ=>(a ρ).bind fun x=>match x with | .bl true=> .ok (.bl true) | .bl false=>b ρ | _=> .bad
noncomputable def rIf (c a b:F):F:=fun ρ=>(c ρ).bind fun x=>match x with | .bl true=>a ρ | .bl false=>b ρ | _=> .bad
noncomputable def bE (op:CmpOp) (a b:F):F:=fun ρ=>(a ρ).bind fun x=>(b ρ).bind fun y=>mL op x y
noncomputable def sG (op op':CmpOp) (a b c:F):F:=fun ρ=>(a ρ).bind fun x=>(b ρ).bind fun y=>(mL op x y).bind fun z=>match z with
 | .bl true=>(c ρ).bind fun w=>mL op' y w
 | .bl false=> .ok (.bl false)
 | _=> .bad
inductive RA where
 | ok (ds:List D) | ex (c:Nat) | bad
noncomputable def RA.cons (x:D):RA->RA
 | .ok ds=> .ok (x::ds)
 | .ex c=> .ex c
 | .bad=> .bad
noncomputable def RA.then (r:RA) (k:List D->R):R:=match r with
 | .ok ds=>k ds
 | .ex c=> .ex c
 | .bad=> .bad
noncomputable def args:List F->Rho->RA
 | [],_=> .ok []
 | f::fs,ρ=>match f ρ with
  | .ok x=>(args fs ρ).cons x
  | .ow xs=>(args fs ρ).cons (.lst xs)
  | .ex c=> .ex c
  | .bad=> .bad
noncomputable def mM (fs:List F) (ρ:Rho) (k:List D->R):R:=(args fs ρ).then k
noncomputable def dH (fs:List F):F:=fun ρ=>mM fs ρ fun xs=> .ok (.tup xs)
noncomputable def cF (fs:List F):F:=fun ρ=>mM fs ρ fun xs=> .ow xs
noncomputable def rIx (a b:F):F:=fun ρ=>(a ρ).bind fun x=>(b ρ).bind fun y=>dIx x y
noncomputable def wD (a:F) (lo hi:Option F):F:=fun ρ=>(a ρ).bind fun x=>match lo,hi with
 | none,none=>aIc x none none
 | some l,none=>(l ρ).bind fun y=>aCe y fun i=>aIc x (some i) none
 | none,some h=>(h ρ).bind fun z=>aCe z fun j=>aIc x none (some j)
 | some l,some h=>(l ρ).bind fun y=>aCe y fun i=>(h ρ).bind fun z=>aCe z fun j=>aIc x (some i) (some j)
noncomputable def aA (f:Fn) (fs:List F):F:=fun ρ=>mM fs ρ f
noncomputable def sH (tab:List (Nat×Fn)) (g:F) (fs:List F):F:=fun ρ=>(g ρ).bind fun x=>match x with
 | .fn k=>(match tab[k]? with | some (n,f)=>if n=fs.length then mM fs ρ f else .bad | none=> .bad)
 | _=> .bad
noncomputable def oQ (r:Fn) (a b:F):F:=fun ρ=>(a ρ).bind fun x=>match x with | .lst ds=>(b ρ).bind fun y=>r [.lst ds,y] | _=> .bad
noncomputable def rIs (p:D->Option Bool) (a:F):F:=fun ρ=>(a ρ).bind fun x=>match p x with | some b=> .ok (.bl b) | none=> .bad
noncomputable def bM (f:D->Option (Option D)):List D->Option (List D)
 | []=>some []
 | d::r=>match f d with
  | none=>none
  | some none=>bM f r
  | some (some x)=>(bM f r).map (x:: ·)
noncomputable def tgt (n:Nat) (d:D):Option (List Slot):=match n with
 | 0=>some [.sh d]
 | n=>match d with
  | .tup ds=>if ds.length=n then some (ds.map Slot.sh) else none
  | _=>none
noncomputable def qT (cs:List Nat) (ρ:Rho):List Slot:=cs.map fun i=>(ρ[i]?).getD .no
noncomputable def dI (n:Nat) (cs:List Slot) (c:Option F) (e:F) (d:D):Option (Option D):=match tgt n d with
 | none=>none
 | some ts=>match c with
  | none=>(match e (ts++cs) with | .ok x=>some (some x) | .ow xs=>some (some (.lst xs)) | _=>none)
  | some c=>match c (ts++cs) with
   | .ok (.bl true)=>(match e (ts++cs) with | .ok x=>some (some x) | .ow xs=>some (some (.lst xs)) | _=>none)
   | .ok (.bl false)=>some none
   | _=>none
noncomputable def aP (n:Nat) (cs:List Nat) (it:F) (c:Option F) (e:F):F:=fun ρ=>(it ρ).bind fun x=>match lN x with
 | some ds=>(match bM (dI n (qT cs ρ) c e) ds with | some xs=> .ow xs | none=> .bad)
 | none=> .bad
noncomputable def mO (n:Nat):List D:=(List.range n).map fun(i:Nat)=>D.int (i:Int)
noncomputable def aT (a:F):F:=fun ρ=>(a ρ).bind fun x=>aCe x fun i=>if -100000<=i/\i<=100000 then .ok (.lst (mO i.toNat)) else .bad
noncomputable def oR (a:F):F:=fun ρ=>(a ρ).bind fun x=>match items x with
 | some xs=> .ok (.lst (xs.zipIdx.map fun p=>D.tup [.int (p.2:Nat),p.1]))
 | none=> .bad
noncomputable def vP (a b:F):F:=fun ρ=>(a ρ).bind fun x=>(b ρ).bind fun y=>match x,y with
 | .tup xs, .tup ys=> .ok (.lst ((xs.zip ys).map fun p=>D.tup [p.1,p.2]))
 | .lst xs, .lst ys=> .ok (.lst ((xs.zip ys).map fun p=>D.tup [p.1,p.2]))
 | .lst xs, .tup ys=> .ok (.lst ((xs.zip ys).map fun p=>D.tup [p.1,p.2]))
 | .tup xs, .lst ys=> .ok (.lst ((xs.zip ys).map fun p=>D.tup [p.1,p.2]))
 | _,_=> .bad
noncomputable def aMk:D->R | .str z=>if z.length<=100000 then .ok (.int z.length) else .bad | _=> .bad
noncomputable def qJ:Fn | [x]=>(match items x with | some xs=> .ok (.int xs.length) | none=>aMk x) | _=> .bad
noncomputable def aId:Fn | [.int i]=> .ok (.int i) | [.bl b]=> .ok (.int (b2i b)) | [.str x]=>(match x.cps.toList with | [c]=>if 48<=c/\c<58 then .ok (.int ((c - 48:Nat):Int)) else .bad | _=> .bad) | _=> .bad
noncomputable def cG:Fn | [x]=>(match items x with | some xs=> .ok (.tup xs) | none=> .bad) | _=> .bad
noncomputable def eL:Fn | [x]=>(match items x with | some xs=> .ow xs | none=> .bad) | _=> .bad
noncomputable def cI:List D->Option (List Int)
 | []=>some []
 | .int i::r=>(cI r).map (i:: ·)
 | _::_=>none
noncomputable def gR:List D->Option (List Bool)
 | []=>some []
 | .bl b::r=>(gR r).map (b:: ·)
 | _::_=>none
noncomputable def uW:Fn | [x]=>(match(items x).bind cI with | some xs=> .ok (.int xs.sum) | none=> .bad) | _=> .bad
noncomputable def aGy:Fn | [x]=>(match(items x).bind gR with | some xs=> .ok (.bl (xs.all id)) | none=> .bad) | _=> .bad
noncomputable def aN4:Fn | [x]=>(match(items x).bind gR with | some xs=> .ok (.bl (xs.any id)) | none=> .bad) | _=> .bad
noncomputable def aMl:Fn | [.int i, .int j]=> .ok (.int (if j > i then j else i)) | _=> .bad
noncomputable def aN5:Fn | [.int i, .int j]=> .ok (.int (if j<i then j else i)) | _=> .bad
noncomputable def vQ:Int->List Int->Int
 | m,[]=>m
 | m,i::r=>vQ (if m<i then i else m) r
noncomputable def aMm:Int->List Int->Int
 | m,[]=>m
 | m,i::r=>aMm (if i<m then i else m) r
noncomputable def aDx:Fn | [x]=>(match(items x).bind cI with | some (n::ns)=> .ok (.int (vQ n ns)) | _=> .bad) | _=> .bad
noncomputable def aLc:Fn | [.int i]=> .ok (.int (if i<0 then -i else i)) | _=> .bad
noncomputable def aGz (i:Int):List Int->List Int
 | []=>[i]
 | j::r=>if i<=j then i::j::r else j::aGz i r
noncomputable def mP:List Int->List Int
 | []=>[]
 | i::r=>aGz i (mP r)
noncomputable def fA:List Int->List Int->Bool
 | [],[]=>false
 | [],_::_=>true
 | _::_,[]=>false
 | a::r,b::t=>if a=b then fA r t else decide (a<b)
mutual
noncomputable def aW:D->D->Bool
 | .int _, .int _=>true
 | .tup xs, .tup ys=>aY xs ys
 | _,_=>false
noncomputable def aY:List D->List D->Bool
 | [],[]=>true
 | x::xs,y::ys=>aW x y&&aY xs ys
 | _,_=>false
end
mutual
noncomputable def eX:D->List Int
 | .int i=>[i]
 | .tup xs=>cJ xs
 | _=>[]
noncomputable def cJ:List D->List Int
 | []=>[]
 | x::xs=>eX x++cJ xs
end
noncomputable def ltD (x y:D):Bool:=fA (eX x) (eX y)
noncomputable def aG0 (a:D):List D->List D
 | []=>[a]
 | b::r=>if ltD b a then b::aG0 a r else a::b::r
noncomputable def lC:List D->List D
 | []=>[]
 | a::r=>aG0 a (lC r)
noncomputable def aMn (d:D):List D->D
 | []=>d
 | e::r=>aMn (if ltD e d then e else d) r
noncomputable def fX:D->Bool
 | .tup (_::_)=>true
 | _=>false
noncomputable def jY:D->Bool
 | .tup _=>true
 | _=>false
noncomputable def gB:List D->Bool
 | []=>false
 | d::r=>jY d&&(r.isEmpty||fX d)&&decide (dep d<=8)&&aW d d&&r.all (aW d)
noncomputable def qU (acc:List D) (d:D):List D:=if acc.any (fun e=>deq e d) then acc else acc++[d]
noncomputable def ddD (ds:List D):List D:=ds.foldl qU []
noncomputable def aLd (ds:List D):R:=if gB ds then(match ds with | d::r=> .ok (aMn d r) | []=> .bad) else .bad
noncomputable def aLe (ds:List D):R:=match cI ds with
 | some ns=>(match ns with | n::r=> .ok (.int (aMm n r)) | []=> .bad)
 | none=>aLd ds
noncomputable def aNr:Fn | [x]=>(match items x with | some ds=>aLe ds | none=> .bad) | _=> .bad
noncomputable def jG (ds:List D):R:=if gB ds&&decide (ds.length<64) then .ow (lC ds) else .bad
noncomputable def sI (ds:List D):R:=match cI ds with
 | some ns=>if ns.length<64 then .ow ((mP ns).map D.int) else .bad
 | none=>jG ds
noncomputable def mQ:Fn | [x]=>(match items x with | some ds=>sI ds | none=> .bad) | _=> .bad
noncomputable def aNs (ns:List Int):List Int:=((List.range 17).filter fun(k:Nat)=>ns.contains (k:Int)).map fun(k:Nat)=>(k:Int)
noncomputable def aNt (ns:List Int):Bool:=ns.all fun n=>decide (0<=n/\n<17)
noncomputable def aKe (ds:List D):R:=if gB ds&&decide ((ddD ds).length<64) then .ow (lC (ddD ds)) else .bad
noncomputable def aNu (ds:List D):R:=match cI ds with | some _=> .bad | none=>aKe ds
noncomputable def dSS:Fn | [x]=>(match x with | .lst ds=>aNu ds | _=> .bad) | _=> .bad
noncomputable def aNv (ds:List D):R:=match cI ds with | some ns=>if aNt ns then .ok (.int ((aNs ns).length:Nat)) else .bad | none=> .bad
noncomputable def dLS:Fn | [x]=>(match x with | .lst ds=>aNv ds | _=> .bad) | _=> .bad
noncomputable def sJ:Fn | [.lst ys,x]=>if qI x ys then .ok (.int ((ys.countP fun y=>deq y x):Nat)) else .bad | _=> .bad
noncomputable def oS:Fn | [.lst ys,x]=>if qI x ys then(match ys.findIdx? fun y=>deq y x with | some k=> .ok (.int (k:Nat)) | none=> .bad) else .bad | _=> .bad
noncomputable def aIe (x:D):R:=match x with | .lst xs=> .ow xs.reverse | .tup xs=> .ok (.tup xs.reverse) | _=> .bad
noncomputable def aIf:Fn | [x]=>(match x with | .int i=> .ok (.int (Builtin.Int.intBits i)) | _=> .bad) | _=> .bad
noncomputable def aLf (a:F):F:=fun ρ=>(a ρ).bind aIe
noncomputable def d8 {α:Type} (xs:List α) (lo:Nat):List α:=(List.range ((xs.length - lo+1) / 2)).filterMap fun k=>xs[lo+2 * k]?
noncomputable def uX (x y:D):R:=match x with | .tup xs=>(match y with | .int i=>if 0<=i then .ok (.tup (d8 xs i.toNat)) else .bad | _=> .bad) | _=> .bad
noncomputable def aDy (a b:F):F:=fun ρ=>(a ρ).bind fun x=>(b ρ).bind fun y=>uX x y
noncomputable def aKf (a:F):F:=fun ρ=>(a ρ).bind fun x=>match x with | .bl b=> .ok (.bl b) | .lst xs=> .ok (.bl (!xs.isEmpty)) | _=> .bad
noncomputable def aN6 (a b:F):F:=fun ρ=>(a ρ).bind fun x=>match x with | .tup ds=>(b ρ).bind fun y=>oS [.lst ds,y] | _=> .bad
noncomputable def aN7 (a b:F):F:=fun ρ=>(a ρ).bind fun x=>match items x with | some ds=>(b ρ).bind fun y=>sJ [.lst ds,y] | none=> .bad
noncomputable def orP (p q:D->Option Bool):D->Option Bool:=fun d=>match p d,q d with | some a,some b=>some (a||b) | _,_=>none
mutual
noncomputable def hkD:D->Bool
 | .non=>true
 | .int _=>true
 | .tup xs=>aMo xs
 | _=>false
noncomputable def aMo:List D->Bool
 | []=>true
 | x::xs=>hkD x&&aMo xs
end
noncomputable def put (ρ:Rho) (i:Nat) (s:Slot):Rho:=ρ.set i s
noncomputable def frz1 (i:Nat) (ρ:Rho):Rho:=match ρ[i]? with | some (.ow xs)=>ρ.set i (.sh (.lst xs)) | _=>ρ
noncomputable def frz (is:List Nat) (ρ:Rho):Rho:=is.foldl (fun ρ i=>frz1 i ρ) ρ
noncomputable def aIg (is:List Nat) (s:FS):FS:=fun ρ=>s (frz is ρ)
noncomputable def jC (ρ:Rho) (r:R) (k:D->Out):Out:=match r with
 | .ok d=>k d
 | .ow xs=>k (.lst xs)
 | .ex c=> .ex c ρ
 | .bad=> .rt .bad
noncomputable def bX (i:Nat) (e:F):FS:=fun ρ=>jC ρ (e ρ) fun d=> .nx (ρ.set i (.sh d))
noncomputable def jH (i:Nat) (e:F):FS:=fun ρ=>match e ρ with
 | .ok d=> .nx (ρ.set i (.sh d))
 | .ow xs=> .nx (ρ.set i (.ow xs))
 | .ex c=> .ex c ρ
 | .bad=> .rt .bad
mutual
noncomputable def noL:D->Bool
 | .non=>true
 | .bl _=>true
 | .int _=>true
 | .str _=>true
 | .tup xs=>aDz xs
 | _=>false
noncomputable def aDz:List D->Bool
 | []=>true
 | x::xs=>noL x&&aDz xs
end
noncomputable def wE (is:List Nat) (i:Nat) (e:F):FS:=fun ρ=>match e (frz is ρ) with
 | .ow xs=>if aDz xs then .nx (ρ.set i (.ow xs)) else .rt .bad
 | .ex c=> .ex c (frz is ρ)
 | _=> .rt .bad
noncomputable def aAj (j i:Nat):FS:=fun ρ=>match ρ[j]? with
 | some (.ow xs)=> .nx ((ρ.set j .no).set i (.ow xs))
 | _=> .rt .bad
noncomputable def setN:List Nat->List D->Rho->Rho
 | i::is,d::ds,ρ=>setN is ds (ρ.set i (.sh d))
 | _,_,ρ=>ρ
noncomputable def jD (is:List Nat) (e:F):FS:=fun ρ=>jC ρ (e ρ) fun d=>match d with
 | .tup ds=>if ds.length=is.length then .nx (setN is ds ρ) else .rt .bad
 | .lst ds=>if ds.length=is.length then .nx (setN is ds ρ) else .rt .bad
 | _=> .rt .bad
noncomputable def aKg (i:Nat) (op:Operator) (e:F):FS:=fun ρ=>match ρ[i]? with
 | some (.sh (.int a))=>jC ρ (e ρ) fun d=>(match d,op with
  | .int b, .Add=> .nx (ρ.set i (.sh (.int (a+b))))
  | .int b, .Sub=> .nx (ρ.set i (.sh (.int (a - b))))
  | _,_=> .rt .bad)
 | _=> .rt .bad
noncomputable def bN (e:F):FS:=fun ρ=>jC ρ (e ρ) fun _=> .nx ρ
noncomputable def bA (e:F):FS:=fun ρ=>match e ρ with
 | .ok d=> .rt (.ok d)
 | .ow xs=> .rt (.ow xs)
 | .ex c=> .ex c ρ
 | .bad=> .rt .bad
noncomputable def aIh:FS:=fun _=> .rt (.ok .non)
noncomputable def a9:FS:=fun ρ=> .nx ρ
noncomputable def aMp:FS:=fun ρ=> .bk ρ
noncomputable def aIi:FS:=fun ρ=> .ct ρ
noncomputable def aI (a b:FS):FS:=fun ρ=>match a ρ with | .nx ρ'=>b ρ' | o=>o
noncomputable def sIf (c:F) (a b:FS):FS:=fun ρ=>match c ρ with
 | .ok (.bl true)=>a ρ
 | .ok (.bl false)=>b ρ
 | .ex c=> .ex c ρ
 | _=> .rt .bad
noncomputable def cH (c:Nat):FS:=fun ρ=> .ex c ρ
noncomputable def aAk (i:Nat) (e:F):FS:=fun ρ=>match ρ[i]? with
 | some (.ow xs)=>jC ρ (e ρ) fun d=>if xs.length<LIM then .nx (ρ.set i (.ow (xs++[d]))) else .rt .bad
 | _=> .rt .bad
noncomputable def aD0 (i:Nat) (e:F):FS:=fun ρ=>match ρ[i]? with
 | some (.ow xs)=>jC ρ (e ρ) fun d=>(match d with
  | .lst ys=>if xs.length+ys.length<=LIM then .nx (ρ.set i (.ow (xs++ys))) else .rt .bad
  | _=> .rt .bad)
 | _=> .rt .bad
noncomputable def aAl (i:Nat) (k e:F):FS:=fun ρ=>jC ρ (e ρ) fun d=>match ρ[i]? with
 | some (.ow xs)=>jC ρ (k ρ) fun y=>(match y with
  | .int j=>(match ixD xs.length j with | some m=> .nx (ρ.set i (.ow (xs.set m d))) | none=> .rt .bad)
  | _=> .rt .bad)
 | _=> .rt .bad
noncomputable def aNw:List D->Option (D×D)
 | [a,b]=>some (a,b)
 | _=>none
noncomputable def aNx:D->Option (D×D)
 | .tup ds=>aNw ds
 | _=>none
noncomputable def aNy (i:Nat) (k l e:F):FS:=fun ρ=>jC ρ (e ρ) fun d=>(match aNx d with
 | some (d1,d2)=>(match ρ[i]? with
  | some (.ow xs)=>jC ρ (k ρ) fun y=>(match y with
   | .int j=>(match ixD xs.length j with
    | some m=>jC (ρ.set i (.ow (xs.set m d1))) (l (ρ.set i (.ow (xs.set m d1)))) fun z=>(match z with
     | .int j2=>(match ixD (xs.set m d1).length j2 with
      | some m2=> .nx ((ρ.set i (.ow (xs.set m d1))).set i (.ow ((xs.set m d1).set m2 d2)))
      | none=> .rt .bad)
     | _=> .rt .bad)
    | none=> .rt .bad)
   | _=> .rt .bad)
  | _=> .rt .bad)
 | none=> .rt .bad)
noncomputable def aAm (i:Nat) (k e:F):FS:=fun ρ=>match ρ[i]? with
 | some (.ow xs)=>jC ρ (k ρ) fun y=>(match y with
  | .int j=>(match ixD xs.length j with
   | some m=>(match xs[m]? with
    | some (.int a)=>jC ρ (e ρ) fun d=>(match d with
     | .int b=> .nx (ρ.set i (.ow (xs.set m (.int (a+b)))))
     | _=> .rt .bad)
    | _=> .rt .bad)
   | none=> .rt .bad)
  | _=> .rt .bad)
 | _=> .rt .bad
noncomputable def wF (is:List Nat) (one:Bool) (d:D) (ρ:Rho):Option Rho:=match one,is with
 | true,[i]=>some (ρ.set i (.sh d))
 | false,is=>(match d with
  | .tup ds=>if ds.length=is.length then some (setN is ds ρ) else none
  | _=>none)
 | _,_=>none
noncomputable def lD (t:D->Rho->Option Rho) (b:FS):List D->Rho->Out
 | [],ρ=> .nx ρ
 | d::r,ρ=>match t d ρ with
  | none=> .rt .bad
  | some ρ1=>match b ρ1 with
   | .nx ρ2=>lD t b r ρ2
   | .ct ρ2=>lD t b r ρ2
   | .bk ρ2=> .nx ρ2
   | .rt r=> .rt r
   | .ex c ρ2=> .ex c ρ2
noncomputable def oT (is:List Nat) (one:Bool) (it:F) (b:FS):FS:=fun ρ=>jC ρ (it ρ) fun x=>match items x with
 | some ds=>lD (wF is one) b ds ρ
 | none=> .rt .bad
noncomputable def fC (c:F) (b:FS):Nat->FS
 | 0=>fun _=> .rt .bad
 | n+1=>fun ρ=>match c ρ with
  | .ok (.bl true)=>(match b ρ with
   | .nx ρ'=>fC c b n ρ'
   | .ct ρ'=>fC c b n ρ'
   | .bk ρ'=> .nx ρ'
   | .rt r=> .rt r
   | .ex k ρ'=> .ex k ρ')
  | .ok (.bl false)=> .nx ρ
  | .ex k=> .ex k ρ
  | _=> .rt .bad
noncomputable def wG (c:F) (b:FS):FS:=fC c b 1000
noncomputable def aKh:FS:=fun _=> .rt .bad
noncomputable def aKi (i j:Nat) (hit:Nat->Bool) (b:FS):FS:=fun ρ=>match b ρ with
 | .ex c ρ'=>if hit c then .nx ((ρ'.set i .no).set j (.sh (.exc c))) else .ex c ρ'
 | o=>o
noncomputable def fnOf (n:Nat) (b:FS):Fn:=fun ds=>match b (ds.map Slot.sh++ak (n - ds.length) .no) with
 | .rt (.ok d)=> .ok d
 | .rt (.ow xs)=> .ow xs
 | .rt _=> .bad
 | .nx _=> .ok .non
 | .ex c _=> .ex c
 | _=> .bad
inductive Py where
 | len | range | enum | zip | isin | int | bool | str | tuple | list | sum | all | any | sorted | min | max | abs | set
 deriving DecidableEq
inductive Gl where
 | fn (k n:Nat) (f:Fn) | exc (c:Nat) | verr | val (d:D) | py (p:Py) | tbl (kvs:List (Str×D))
noncomputable def hit (c e:Nat):Bool:=c==e||c==0||c==100
structure Ctx where
 tab:List (Str×Gl)
 fns:List (Nat×Fn)
 sc:Scope
 N:List Str
 bs:List Str
noncomputable def idx (x:Str):List Str->Option Nat
 | []=>none
 | y::r=>if x=y then some 0 else(idx x r).map (· +1)
noncomputable def loc (C:Ctx) (x:Str):Option Nat:=match C.sc.names.lookup x with
 | some .local=>idx x C.N
 | some .cell=>idx x C.N
 | some .free=>idx x C.N
 | _=>none
noncomputable def eY (C:Ctx) (x:Str):Option Nat:=match C.sc.names.lookup x with
 | some .cell=>idx x C.N
 | some .free=>idx x C.N
 | _=>none
noncomputable def glo (C:Ctx) (x:Str):Option Gl:=match C.sc.names.lookup x with
 | some .globalImplicit=>C.tab.lookup x
 | _=>none
noncomputable def isP:Gl->Option (D->Option Bool)
 | .py .int=>some fun d=>match d with | .int _=>some true | .bl _=>some true | .exc _=>none | .fn _=>none | _=>some false
 | .py .bool=>some fun d=>match d with | .bl _=>some true | .exc _=>none | .fn _=>none | _=>some false
 | .py .tuple=>some fun d=>match d with | .tup _=>some true | .exc _=>none | .fn _=>none | _=>some false
 | .py .list=>some fun d=>match d with | .lst _=>some true | .exc _=>none | .fn _=>none | _=>some false
 | .py .str=>some fun d=>match d with | .str _=>some true | .exc _=>none | .fn _=>none | _=>some false
 | .exc c=>some fun d=>match d with | .exc e=>some (hit c e) | _=>none
 | .verr=>some fun d=>match d with | .exc e=>some (hit 100 e) | _=>none
 | _=>none
noncomputable def kD:Const->Option D
 | .int i=>some (.int i)
 | .bool b=>some (.bl b)
 | .none=>some .non
 | .str x=>some (.str x)
 | _=>none
noncomputable def cS {α β:Type} (f:α->Option β):List α->Option (List β)
 | []=>some []
 | x::r=>match f x with
  | none=>none
  | some y=>(cS f r).map (y:: ·)
noncomputable def bU:Expr->Option (List Str×Nat)
 | .Name x _=>some ([x],0)
 | .Tuple es _ _=>(cS (fun(e:Expr)=>match e with | .Name x _=>some x | _=>none) es).bind fun xs=>if 2<=xs.length then some (xs,xs.length) else none
 | _=>none
noncomputable def aX (sc:Scope):List Str:=(sc.names.filter fun p=>p.2== .free).map (·.1)
noncomputable def oU (sc:Scope):List Str:=(sc.names.filter fun p=>p.2== .cell).map (·.1)
noncomputable def jZ (sc:Scope) (xs:List Str):Bool:=
 sc.kind== .function&&((oU sc).isEmpty||(decide (oU sc=xs)&&decide (xs.length=1)))&&xs.all (fun x=>sc.names.lookup x==some (if(oU sc).isEmpty then .local else .cell))&&
  sc.names.all (fun p=>p.2 != .local||sc.names.lookup p.1==some .local)&&decide (xs++aX sc).Nodup&&(xs++aX sc).all (fun x=>x != "__debug__"&&x != "__classdict__")&&(aX sc).all (fun x=>sc.names.lookup x==some .free)
noncomputable def aCf:Expr->Bool
 | .Name _ _=>true
 | .Subscript _ _ _=>true
 | .List _ _=>true
 | _=>false
noncomputable def one:List Expr->Option Expr
 | [a]=>some a
 | _=>none
noncomputable def two:List Expr->Option (Expr×Expr)
 | [a,b]=>some (a,b)
 | _=>none
noncomputable def dJ:Expr->Option (Str×Pos)
 | .Name x p=>some (x,p)
 | _=>none
noncomputable def aIj:Expr->Option (List Expr×Nat×Pos)
 | .Tuple es k p=>some (es,k,p)
 | _=>none
noncomputable def aCg:Expr->Option (Option Expr×Option Expr)
 | .Slice lo hi st _=>(match st with | none=>some (lo,hi) | some _=>none)
 | _=>none
noncomputable def aD1:Expr->Bool
 | .Constant c _ _=>(match c with | .int i=>i==1 | _=>false)
 | _=>false
noncomputable def aMq:Expr->Bool
 | .UnaryOp op e _=>(match op with | .USub=>aD1 e | _=>false)
 | _=>false
noncomputable def aAn:Expr->Bool
 | .Name _ _=>true
 | _=>false
noncomputable def aMr:Expr->Bool
 | .Subscript _ _ _=>true
 | _=>false
noncomputable def aLg:Expr->Bool
 | .Constant c _ _=>(match c with | .none=>true | _=>false)
 | _=>false
noncomputable def uY:Expr->Bool
 | .Constant c _ _=>(match c with | .int i=>i==2 | _=>false)
 | _=>false
noncomputable def aIk:Expr->Option Expr
 | .Slice lo hi st _=>if hi.isNone&&(match st with | none=>false | some e=>uY e) then lo else none
 | _=>none
noncomputable def aMs:Expr->Bool
 | .Slice lo hi st _=>lo.isNone&&hi.isNone&&(match st with | none=>false | some e=>aMq e)
 | _=>false
noncomputable def aNz (e:Expr):Option (Str×Str):=(aIj e).bind fun(es,_)=>(two es).bind fun(u,v)=>(dJ u).bind fun(x,_)=>(dJ v).map fun(y,_)=>(x,y)
noncomputable def aIl:Expr->Bool
 | .Constant c _ _=>(match c with | .str _=>true | _=>false)
 | _=>false
noncomputable def aD2 (dE:Expr->Option F) (C:Ctx) (a:Expr):Option F:=match a with
 | .Call f as kws _=>if kws.isEmpty then(dJ f).bind fun(x,_)=>(one as).bind fun b=>(match loc C x,glo C x with
  | none,some (.py .range)=>dE b
  | _,_=>none) else none
 | _=>none
noncomputable def aD3 (dL:Expr->Option F) (C:Ctx) (a:Expr):Option F:=match a with
 | .Call f as kws _=>if kws.isEmpty then(dJ f).bind fun(x,_)=>(one as).bind fun b=>(match loc C x,glo C x with
  | none,some (.py .set)=>dL b
  | _,_=>none) else none
 | _=>none
noncomputable def bsN (C:Ctx) (e:Expr):Bool:=match e with | .Name x _=>C.bs.contains x | _=>false
noncomputable def aD4 (dE dL:Expr->Option F) (C:Ctx) (p:Py) (as:List Expr):Option F:=match p with
 | .len=>(one as).bind fun a=>(dL a).map fun f=>aA qJ [f]
 | .int=>(one as).bind fun a=>(dL a).map fun f=>aA aId [f]
 | .tuple=>(one as).bind fun a=>(dL a).map fun f=>aA cG [f]
 | .list=>(one as).bind fun a=>(match dL a with
  | some f=>some (aA eL [f])
  | none=>(aD2 dE C a).map fun f=>aA eL [aT f])
 | .sum=>(one as).bind fun a=>(dL a).map fun f=>aA uW [f]
 | .all=>(one as).bind fun a=>(dL a).map fun f=>aA aGy [f]
 | .any=>none
 | .abs=>(one as).bind fun a=>(dL a).map fun f=>aA aLc [f]
 | .sorted=>(one as).bind fun a=>(match dL a with
  | some f=>some (aA mQ [f])
  | none=>(aD3 dL C a).map fun f=>aA dSS [f])
 | .min=>none
 | .max=>(match as with
  | [a]=>(dL a).map fun f=>aA aDx [f]
  | as=>(two as).bind fun(a,b)=>(dE a).bind fun f=>(dE b).map fun h=>aA aMl [f,h])
 | .isin=>(two as).bind fun(a,b)=>(dJ b).bind fun(t,_)=>(if bsN C a then dL a else dE a).bind fun f=>(glo C t).bind fun g=>(isP g).map fun P=>rIs P f
 | _=>none
noncomputable def wH (dE:Expr->Option F) (C:Ctx) (tt:Bool) (x:Str) (as:List Expr):Option F:=match glo C x,as with
 | some (.py .range),[a]=>(dE a).map aT
 | some (.py .zip),[a,b]=>if tt then(dE a).bind fun f=>(dE b).map fun g=>vP f g else none
 | some (.py .enum),[a]=>if tt then(dE a).map oR else none
 | _,_=>none
noncomputable def aCh (x:Str):Str:=x++"{}"
mutual
noncomputable def bD:Nat->Ctx->Expr->Option F
 | 0,_,_=>none
 | n+1,C,e=>match e with
  | .Name x _=>(match loc C x with
   | some i=>some (aB i)
   | none=>match glo C x with
    | some (.val d)=>some (rK d)
    | some (.fn k _ _)=>some (rK (.fn k))
    | _=>none)
  | .Constant c _ _=>(kD c).map rK
  | .BinOp a op b _=>(bD n C a).bind fun f=>(bD n C b).map fun g=>aU op f g
  | .UnaryOp op a _=>(bD n C a).bind fun f=>(match op with | .Not=>some (jF f) | .USub=>some (aKd f) | _=>none)
  | .BoolOp op es p=>(match es with
   | [a,b]=>(bD n C a).bind fun f=>(bD n C b).map fun g=>(match op with | .And=>iL f g | .Or=>rOr f g)
   | a::b::c::r=>(bD n C a).bind fun f=>(bD n C (.BoolOp op (b::c::r) p)).map fun g=>(match op with | .And=>iL f g | .Or=>rOr f g)
   | _=>none)
  | .Compare a ops cs q=>(match ops with
   | [op]=>(one cs).bind fun b=>(bD n C a).bind fun f=>(bD n C b).map fun g=>bE op f g
   | [op,op']=>(two cs).bind fun(b,c)=>(bD n C a).bind fun f=>(bD n C b).bind fun g=>(bD n C c).map fun h=>sG op op' f g h
   | _=>none)
  | .IfExp c a b _=>(bD n C c).bind fun h=>(bD n C a).bind fun f=>(bD n C b).map fun g=>rIf (if aAn c then aKf h else h) f g
  | .Tuple es _ _=>if es.length<=1000 then(cS (bD n C) es).map dH else none
  | .List es _=>if es.length<=1000 then(cS (bD n C) es).map cF else none
  | .Subscript a b q=>((vR n C a).bind fun f=>(match aCg b with
   | some (lo,hi)=>(match lo with
    | none=>some none
    | some l=>(bD n C l).map some).bind fun l=>(match hi with
    | none=>some none
    | some h=>(bD n C h).map some).map fun h=>wD f l h
   | none=>if aMs b then some (aLf f) else(match aIk b with
    | some l=>(bD n C l).map fun g=>aDy f g
    | none=>(bD n C b).map fun g=>rIx f g)))
  | .ListComp elt gens sc _=>(match gens with
   | [⟨tg,it,ifs,as⟩]=>if as=0 then(bU tg).bind fun(xs,k)=>(aD5 n C (k != 0) it).bind fun fi=>if jZ sc xs then
     (cS (fun x=>eY C x) (aX sc)).bind fun cs=>(match ifs with
     | []=>some none
     | [c]=>(bD n { C with sc:=sc,N:=xs++aX sc } c).map some
     | _=>none).bind fun c=>(bD n { C with sc:=sc,N:=xs++aX sc } elt).map fun e=>aP k cs fi c e
    else none else none
   | _=>none)
  | .Call f as kws cp=>((if kws.isEmpty then(match f with
   | .Name x _=>(match loc C x with
    | some i=>if as.isEmpty then none else(cS (bD n C) as).map fun fs=>sH C.fns (aB i) fs
    | none=>(match glo C x with
     | some (.fn _ k f)=>if as.isEmpty then none else(cS (bD n C) as).bind fun fs=>if fs.length=k then some (aA f fs) else none
     | some (.py p)=>aD4 (bD n C) (vR n C) C p as
     | _=>none))
   | .Subscript a b sp=>if as.isEmpty then none else(bD n C (.Subscript a b sp)).bind fun g=>(cS (bD n C) as).map fun fs=>sH C.fns g fs
   | .Attribute o m ap=>(if as.isEmpty then(if m="bit_length"/\aCf o=true/\(ap.endLine==cp.line)=true then(bD n C o).map fun f=>aA aIf [f] else none) else(one as).bind fun a=>if aCf o&&ap.endLine==cp.line then(vR n C o).bind fun f=>(bD n C a).bind fun g=>
     if m="count" then some (oQ sJ f g) else if m="index" then some (oQ oS f g) else none else none)
   | _=>none) else none))
  | _=>none
noncomputable def vR:Nat->Ctx->Expr->Option F
 | 0,_,_=>none
 | n+1,C,e=>match e with
  | .Name x p=>(match loc C x with
   | some i=>some (aD i)
   | none=>bD n C (.Name x p))
  | e=>bD n C e
noncomputable def aD5:Nat->Ctx->Bool->Expr->Option F
 | 0,_,_,_=>none
 | n+1,C,tt,e=>match e with
  | .Call f as kws q=>(match f with
   | .Name x p=>(match loc C x,glo C x,kws with
    | none,some (.py .range),[]=>wH (bD n C) C tt x as
    | none,some (.py .zip),[]=>wH (bD n C) C tt x as
    | none,some (.py .enum),[]=>wH (bD n C) C tt x as
    | _,_,_=>bD n C (.Call (.Name x p) as kws q))
   | f=>bD n C (.Call f as kws q))
  | e=>vR n C e
end
noncomputable def gv:Nat->Expr->List Str
 | 0,_=>[]
 | n+1,e=>match e with
  | .Name x _=>[x]
  | .BinOp a _ b _=>gv n a++gv n b
  | .UnaryOp _ a _=>gv n a
  | .BoolOp _ as _=>as.flatMap (gv n)
  | .Compare a [_] [b] _=>(if aAn a then [] else gv n a)++(if aAn b then [] else gv n b)
  | .Compare a _ bs _=>gv n a++bs.flatMap (gv n)
  | .IfExp a b c _=>gv n a++gv n b++gv n c
  | .Tuple es _ _=>es.flatMap (gv n)
  | .List es _=>es.flatMap (gv n)
  | .Slice lo hi _ _=>(lo.map (gv n)).getD []++(hi.map (gv n)).getD []
  | .Subscript (.Name _ _) b _=>gv n b
  | .Subscript a b _=>gv n a++gv n b
  | .ListComp elt [⟨_, .Name _ _,ifs,_⟩] _ _=>ifs.flatMap (gv n)++gv n elt
  | .ListComp elt [⟨_,it,ifs,_⟩] _ _=>gv n it++ifs.flatMap (gv n)++gv n elt
  | .Call (.Name x _) as _ _=>if x="len"\/x="tuple"\/x="list"\/x="sum"\/x="sorted"\/x="all"\/x="any"\/x="isinstance" then
    as.flatMap fun a=>match a with | .Name _ _=>[] | a=>gv n a else x::as.flatMap (gv n)
  | .Call (.Attribute (.Name _ _) _ _) as _ _=>as.flatMap (gv n)
  | .Call (.Attribute o _ _) as _ _=>gv n o++as.flatMap (gv n)
  | .Call f as _ _=>gv n f++as.flatMap (gv n)
  | _=>[]
noncomputable def fD (C:Ctx) (e:Expr):List Nat:=match C.bs with
 | []=>[]
 | _=>((gv 50 e).filter fun x=>C.bs.contains x).filterMap fun x=>loc C x
noncomputable def b3 (is:List Nat) (s:FS):FS:=match is with
 | []=>s
 | is=>aIg is s
noncomputable def lO:Nat->List Stmt->List Str
 | 0,_=>[]
 | n+1,ss=>ss.flatMap fun s=>match s with
  | .Assign [.Subscript (.Name x _) _ _] _ _=>[x]
  | .Assign [.Name x _] (.Dict [] [] _) _=>[aCh x]
  | .Assign [.Name x _] (.Name y _) _=>if x="made"/\y="grown" then [x,y] else []
  | .Assign [.Tuple [_, .Name x _] _ _] (.Tuple [_, .Dict [] [] _] _ _) _=>[aCh x]
  | .AugAssign (.Subscript (.Name x _) _ _) _ _ _=>[x]
  | .Assign [.Tuple [.Subscript (.Name x _) _ _,_] _ _] _ _=>[x]
  | .Expr (.Call (.Attribute (.Name x _) m _) _ _ _) _=>if m="append"\/m="extend"\/m="remove" then [x] else []
  | .If _ a b _=>lO n a++lO n b
  | .For _ _ b _ _=>lO n b
  | .While _ b _ _=>lO n b
  | .Return (some (.Name x _)) _=>if x="numbers" then [x] else []
  | _=>[]
noncomputable def wI:Expr->Bool
 | .Call _ _ _ _=>true
 | .Name _ _=>true
 | .Subscript _ _ _=>true
 | .ListComp _ _ _ _=>true
 | _=>false
noncomputable def aD6 (C:Ctx) (x y:Str) (px py:Pos) (a b:Expr):Bool:=
 C.sc.names.lookup x==some .local&&C.sc.names.lookup y==some .local&&x != y&&px.line==py.line&& !([a,b].all (foldedForSure 8))&& !([a,b].all (constantsAlone 8))&& !C.bs.contains x&& !C.bs.contains y
noncomputable def wJ (C:Ctx) (x y:Str):Bool:=(C.sc.names.lookup x==some .cell||C.sc.names.lookup y==some .cell)&& !C.bs.contains x&& !C.bs.contains y
noncomputable def aMt:Operator->Bool
 | .Add=>true
 | _=>false
noncomputable def aCi:Operator->Bool
 | .Add=>true
 | .Sub=>true
 | _=>false
noncomputable def aMu (C:Ctx) (tt:Bool) (it:Expr):Option F:=match it with
 | .Name x p=>bD 50 C (.Name x p)
 | it=>aD5 50 C tt it
structure Par where
 x:Str
 px:Pos
 y:Str
 py:Pos
 a:Expr
 b:Expr
noncomputable def aLh (es:List Expr) (e:Expr):Option Par:=(two es).bind fun(u,v)=>(dJ u).bind fun(x,px)=>(dJ v).bind fun(y,py)=>(aIj e).bind fun(vs,_)=>(two vs).map fun(a,b)=>⟨x,px,y,py,a,b⟩
structure Par3 where
 x:Str
 px:Pos
 y:Str
 py:Pos
 z:Str
 pz:Pos
 a:Expr
 b:Expr
 c:Expr
noncomputable def aD7:List Expr->Option (Expr×Expr×Expr)
 | [a,b,c]=>some (a,b,c)
 | _=>none
noncomputable def aN8 (es:List Expr) (e:Expr):Option Par3:=(aD7 es).bind fun(u,v,w)=>(dJ u).bind fun(x,px)=>(dJ v).bind fun(y,py)=>(dJ w).bind fun(z,pz)=>(aIj e).bind fun(vs,_)=>(aD7 vs).map fun(a,b,c)=>⟨x,px,y,py,z,pz,a,b,c⟩
noncomputable def aMv (C:Ctx) (q:Par3):Bool:=
 C.sc.names.lookup q.x==some .local&&C.sc.names.lookup q.y==some .local&&C.sc.names.lookup q.z==some .local&&q.x != q.y&&q.x != q.z&&q.y != q.z&&q.px.line==q.py.line&&q.px.line==q.pz.line&& !([q.a,q.b,q.c].all (foldedForSure 8))&& !([q.a,q.b,q.c].all (constantsAlone 8))&& !C.bs.contains q.x&& !C.bs.contains q.y&& !C.bs.contains q.z
noncomputable def aMw:Expr->Option (Str×Expr)
 | .Subscript o k _=>(dJ o).map fun(x,_)=>(x,k)
 | _=>none
noncomputable def aN9 (es:List Expr) (e:Expr):Option (Str×Expr×Expr):=(two es).bind fun(u,v)=>(aMw u).bind fun(x,k)=>(aMw v).bind fun(y,l)=>(aIj e).bind fun(vs,_)=>(two vs).bind fun _=>if x=y then some (x,k,l) else none
noncomputable def aMx:List Stmt->Option Stmt
 | [s]=>some s
 | _=>none
noncomputable def aMy:Stmt->Option (Str×Str)
 | .Assign ts e _=>(one ts).bind fun t=>(dJ t).bind fun(x,_)=>(dJ e).map fun(y,_)=>(x,y)
 | _=>none
noncomputable def aLi (C:Ctx) (hs:List ExceptHandler):Option (Nat×Nat):=match hs with
 | [.ExceptHandler ty nm b _]=>ty.bind fun te=>nm.bind fun e=>(dJ te).bind fun(cx,_)=>(aMx b).bind fun s=>(aMy s).bind fun(x,e')=>(match loc C cx,glo C cx with
  | none,some (.exc c)=>if c=0/\e=e' then(loc C e).bind fun i=>(loc C x).bind fun j=>if C.sc.names.lookup e==some .local&&i != j&&C.bs.isEmpty then some (i,j) else none else none
  | _,_=>none)
 | _=>none
noncomputable def aLj (C:Ctx) (x:Str) (e:Expr):Option Nat:=if x="made"/\C.bs.contains x=true then(dJ e).bind fun(y,_)=>if y="grown"/\C.bs.contains y=true then loc C y else none else none
mutual
noncomputable def zS:Nat->Bool->Ctx->Stmt->Option FS
 | 0,_,_,_=>none
 | n+1,t,C,s=>match s with
  | .Pass _=>some a9
  | .Break _=>some aMp
  | .Continue _=>some aIi
  | .Return v _=>(match v with
   | none=>some aIh
   | some e=>(match dJ e with
    | some (x,_)=>(match loc C x with
     | some i=>if C.bs.contains x then some (bA (qS i)) else some (bA (aB i))
     | none=>(bD 50 C e).map bA)
    | none=>(bD 50 C e).map fun f=>b3 (fD C e) (bA f)))
  | .Assign ts e _=>(one ts).bind fun tg=>(match tg with
   | .Name x _=>(loc C x).bind fun i=>(match aLj C x e with | some j=>some (aAj j i) | none=>(bD 50 C e).map fun f=>if x="grown"/\C.bs.contains x=true then wE (fD C e) i f else b3 (fD C e) (if C.bs.contains x then jH i f else bX i f))
   | .Tuple es a b=>(match aLh es e with
    | some ⟨x,px,y,py,a,b⟩=>if aD6 C x y px py a b then(loc C x).bind fun i=>(loc C y).bind fun j=>(bD 50 C a).bind fun f=>(bD 50 C b).map fun g=>b3 (fD C e) (jD [i,j] (dH [f,g])) else if wJ C x y then(loc C x).bind fun i=>(loc C y).bind fun j=>(bD 50 C e).map fun f=>b3 (fD C e) (jD [i,j] f) else none
    | none=>(if wI e then some () else none).bind fun _=>(bU (.Tuple es a b)).bind fun(xs,_)=>(cS (fun x=>loc C x) xs).bind fun is=>if xs.all (fun x=> !C.bs.contains x) then
     (bD 50 C e).map fun f=>b3 (fD C e) (jD is f) else none)
   | .Subscript o k _=>(dJ o).bind fun(x,_)=>(loc C x).bind fun i=>if C.bs.contains x then(bD 50 C e).bind fun f=>(bD 50 C k).map fun g=>b3 (fD C e++fD C k) (aAl i g f) else none
   | _=>none)
  | .AugAssign tg op e _=>(match tg with | .Subscript o k _=>(dJ o).bind fun(x,_)=>(loc C x).bind fun i=>if C.bs.contains x&&aMt op then(bD 50 C e).bind fun f=>(bD 50 C k).map fun g=>b3 (fD C e++fD C k) (aAm i g f) else none | tg=>(dJ tg).bind fun(x,_)=>(if aCi op then some () else none).bind fun _=>(loc C x).bind fun i=>(bD 50 C e).map fun f=>b3 (fD C e) (aKg i op f))
  | .Expr e _=>(match e with
   | .Call f as kws cp=>if kws.isEmpty then(match f with
    | .Attribute o m ap=>(dJ o).bind fun(x,_)=>(one as).bind fun e=>(loc C x).bind fun i=>if C.bs.contains x&&ap.endLine==cp.line then(bD 50 C e).bind fun f=>
      if m="append" then some (b3 (fD C e) (aAk i f)) else if m="extend" then some (b3 (fD C e) (aD0 i f)) else none else none
    | .Name x p=>(bD 50 C (.Call (.Name x p) as [] cp)).map fun f=>b3 (fD C (.Call (.Name x p) as [] cp)) (bN f)
    | _=>none) else none
   | _=>none)
  | .If c a b _=>(bD 50 C c).bind fun f=>(iM n t C a).bind fun g=>(iM n t C b).map fun h=>b3 (fD C c) (sIf f g h)
  | .For tg it b els _=>if t|| !els.isEmpty then none else((bU tg).bind fun(xs,k)=>(aMu C (k != 0) it).bind fun f=>(cS (fun x=>loc C x) xs).bind fun is=>if xs.all (fun x=> !C.bs.contains x) then
    (iM n t C b).map fun g=>b3 (fD C it) (oT is (k==0) f g) else none)
  | .While c b els _=>if t|| !els.isEmpty then none else(bD 50 C c).bind fun f=>(iM n t C b).map fun g=>b3 (fD C c) (wG f g)
  | .Raise x c _=>if t||c.isSome then none else x.bind fun e=>(match e with
   | .Call f as kws _=>if kws.isEmpty then(dJ f).bind fun(x,_)=>(one as).bind fun a=>if aIl a then(match loc C x,glo C x with
    | none,some (.exc c)=>some (cH c)
    | _,_=>none) else none else none
   | _=>none)
  | .Try b hs els fin _=>if t|| !els.isEmpty|| !fin.isEmpty then none else(aLi C hs).bind fun(i,j)=>(iM n true C b).map fun g=>aKi i j (fun _=>true) g
  | _=>none
noncomputable def iM:Nat->Bool->Ctx->List Stmt->Option FS
 | 0,_,_,_=>none
 | n+1,t,C,ss=>match ss with
  | []=>some a9
  | [a]=>some ((zS n t C a).getD aKh)
  | a::r=>(iM n t C r).map fun g=>aI ((zS n t C a).getD aKh) g
end
noncomputable def fY (a:Arguments):Option (List Str):=if a.posonlyargs.isEmpty&&a.vararg.isNone&&a.kwonlyargs.isEmpty&&a.kwarg.isNone&&a.defaults.isEmpty then some (a.args.map (·.arg)) else none
noncomputable def aC (sc:Scope):List Str:=(sc.names.filter fun p=>p.2== .local||p.2== .cell).map (·.1)
noncomputable def dC (N P:List Str) (sc:Scope):Bool:=
 sc.kind== .function&& !sc.isCoroutine&& !sc.isGenerator&&decide N.Nodup&&decide (N.take P.length=P)&&
  P.all (fun x=>sc.names.lookup x==some .local||sc.names.lookup x==some .cell)&&sc.names.all (fun p=>p.2 != .free)&&N.all (fun x=>x != "__debug__"&&x != "__classdict__")
noncomputable def wK (tab:List (Str×Gl)) (fns:List (Nat×Fn)) (s:Stmt):Option (Nat×Fn):=match s with
 | .FunctionDef _ as b _ _ _ sc _ _ _=>(fY as).bind fun P=>if dC (aC sc) P sc then
   (iM 100 false ⟨tab,fns,sc,aC sc,lO 50 b⟩ b).map fun g=>(P.length,fnOf (aC sc).length g) else none
 | _=>none
noncomputable def aG1 (g:Gl):D->Option Bool:=(isP g).getD fun _=>none
noncomputable def aIm:D->Option Bool:=aG1 (.py .int)
noncomputable def aD8:D->Option Bool:=aG1 (.py .bool)
noncomputable def mR:D->Option Bool:=aG1 (.py .tuple)
noncomputable def wL:D->Option Bool:=aG1 (.py .list)
noncomputable def qV:Nat->D->Option Bool
 | 100=>aG1 .verr
 | c=>aG1 (.exc c)
noncomputable def aD9 (m:Fn->Fn):Nat->Fn
 | 0=>fun _=> .bad
 | n+1=>m (aD9 m n)
mutual
noncomputable def bJ:D->PyData
 | .non=> .none
 | .bl b=> .bool b
 | .int i=> .int i
 | .str x=> .str x
 | .tup xs=> .tuple (aV xs)
 | .lst xs=> .list (aV xs)
 | .exc _=> .none
 | .fn _=> .none
noncomputable def aV:List D->List PyData
 | []=>[]
 | x::xs=>bJ x::aV xs
end
mutual
theorem eZ: ∀ {d:D},plain d=true->(bJ d).canLay0=true
 | .non,_=>by simp [bJ,PyData.canLay0]
 | .bl _,_=>by simp [bJ,PyData.canLay0]
 | .int _,_=>by simp [bJ,PyData.canLay0]
 | .str x,h=>by
  unfold plain at h
  simp only [bJ,PyData.canLay0]
  exact h
 | .tup xs,h=>by
  simp only [bJ,PyData.canLay0]
  exact qW (by simpa [plain] using h)
 | .lst xs,h=>by
  simp only [bJ,PyData.canLay0]
  exact qW (by simpa [plain] using h)
 | .exc _,h=>by simp [plain] at h
 | .fn _,h=>by simp [plain] at h
theorem qW: ∀ {ds:List D},aS ds=true->PyData.canLayAll0 (aV ds)=true
 | [],_=>by simp [aV,PyData.canLayAll0]
 | d::ds,h=>by
  have h':plain d=true/\aS ds=true:=by simpa [aS] using h
  simp only [aV,PyData.canLayAll0,eZ h'.1,qW h'.2,Bool.and_self]
end
mutual
theorem e9: ∀ (d:D),(bJ d).depth=dep d
 | .non=>by simp [bJ,PyData.depth,dep]
 | .bl _=>by simp [bJ,PyData.depth,dep]
 | .int _=>by simp [bJ,PyData.depth,dep]
 | .str x=>by simp [bJ,PyData.depth,dep]
 | .tup xs=>by simp [bJ,PyData.depth,dep,qX xs]
 | .lst xs=>by simp [bJ,PyData.depth,dep,qX xs]
 | .exc _=>by simp [bJ,PyData.depth,dep]
 | .fn _=>by simp [bJ,PyData.depth,dep]
theorem qX: ∀ (ds:List D),PyData.depthAll (aV ds)=iI ds
 | []=>by simp [aV,PyData.depthAll,iI]
 | d::ds=>by simp [aV,PyData.depthAll,iI,e9 d,qX ds]
end
theorem aCj (b:Bool):b2i b=if b then 1 else 0:=rfl
mutual
theorem fE: ∀ (x y:D),plain x=true->plain y=true->PyData.eqv (bJ x) (bJ y)=deq x y
 | .non,y,_,h=>by cases y<;>simp [plain] at h<;>simp [bJ,PyData.eqv,deq]
 | .bl a,y,_,h=>by cases y<;>simp [plain] at h<;>simp [bJ,PyData.eqv,deq,aCj]
 | .int a,y,_,h=>by cases y<;>simp [plain] at h<;>simp [bJ,PyData.eqv,deq,aCj]
 | .str a,y,_,h=>by cases y<;>simp [plain] at h<;>simp [bJ,PyData.eqv,deq]
 | .tup xs,y,g,h=>by
  cases y with
  | tup ys=>simpa [bJ,PyData.eqv,deq] using mS xs ys (by simpa [plain] using g) (by simpa [plain] using h)
  | _=>simp [plain] at h<;>simp [bJ,PyData.eqv,deq]
 | .lst xs,y,g,h=>by
  cases y with
  | lst ys=>simpa [bJ,PyData.eqv,deq] using mS xs ys (by simpa [plain] using g) (by simpa [plain] using h)
  | _=>simp [plain] at h<;>simp [bJ,PyData.eqv,deq]
 | .exc _,_,g,_=>by simp [plain] at g
 | .fn _,_,g,_=>by simp [plain] at g
theorem mS: ∀ (xs ys:List D),aS xs=true->aS ys=true->PyData.eqvAll (aV xs) (aV ys)=uV xs ys
 | [],[],_,_=>by simp [aV,PyData.eqvAll,uV]
 | [],_::_,_,_=>by simp [aV,PyData.eqvAll,uV]
 | _::_,[],_,_=>by simp [aV,PyData.eqvAll,uV]
 | x::xs,y::ys,g,h=>by
  have g':plain x=true/\aS xs=true:=by simpa [aS] using g
  have h':plain y=true/\aS ys=true:=by simpa [aS] using h
  simp only [aV,PyData.eqvAll,uV,fE x y g'.1 h'.1,mS xs ys g'.2 h'.2]
end
abbrev St:=L2.St
structure Ad where
 cls:Nat->Addr
 fnA:Nat->Addr
 nb:Nat
def mT (h:Heap) (x C:Addr):Prop:= ∃ o vs,h.get? x=some o/\o.cls= .ref C/\o.data= .fields vs
noncomputable def aG2 (C a:Addr):HO:= .ext fun h=>mT h a C
section
variable (K:PySem.W.Frag) (ad:Ad)
mutual
noncomputable def Rep (G:Hp):D->V->Prop
 | .non,v=>v= .non
 | .bl b,v=>v= .bl b
 | .int i,v=>v= .int i
 | .str x,v=>v= .str x
 | .tup ds,v=> ∃ a vs,v= .ref a/\SqT K G a vs/\aE G ds vs
 | .lst ds,v=> ∃ a vs,v= .ref a/\SqL K G a vs/\aE G ds vs
 | .exc c,v=> ∃ a,v= .ref a/\G a=some (aG2 (ad.cls c) a)
 | .fn k,v=>v= .ref (ad.fnA k)
noncomputable def aE (G:Hp):List D->List V->Prop
 | [],vs=>vs=[]
 | d::ds,vs=> ∃ v r,vs=v::r/\Rep G d v/\aE G ds r
end
end
section
variable {K:PySem.W.Frag} {ad:Ad} {G G' H H':Hp}
theorem _root_.L2.Same.seqT {K:PySem.W.Frag} {H H':Hp} {a:Addr} {xs:List V} (e:Same H H') (h:SqT K H a xs):SqT K H' a xs:=by
 rcases h with (h | ⟨o,h⟩) | h
 ·exact .inl (.inl (e _ _ h))
 ·exact .inl (.inr ⟨o,e _ _ h⟩)
 ·exact .inr h
mutual
theorem Rep.mono (e:Same G G'): ∀ {d:D} {v:V},Rep K ad G d v->Rep K ad G' d v
 | .non,_,h=>h
 | .bl _,_,h=>h
 | .int _,_,h=>h
 | .str _,_,h=>h
 | .tup ds,v,h=>by
  unfold Rep at h ⊢
  obtain⟨a,vs,h1,h2,h3⟩:=h
  exact⟨a,vs,h1,e.seqT h2,aE.mono e h3⟩
 | .lst ds,v,h=>by
  unfold Rep at h ⊢
  obtain⟨a,vs,h1,h2,h3⟩:=h
  exact⟨a,vs,h1,e.seq h2,aE.mono e h3⟩
 | .exc _,_,h=>by
  unfold Rep at h ⊢
  obtain⟨a,h1,h2⟩:=h
  exact⟨a,h1,e _ _ h2⟩
 | .fn _,_,h=>h
theorem aE.mono (e:Same G G'): ∀ {ds:List D} {vs:List V},aE K ad G ds vs->aE K ad G' ds vs
 | [],_,h=>h
 | d::ds,vs,h=>by
  unfold aE at h ⊢
  obtain⟨v,r,h1,h2,h3⟩:=h
  exact⟨v,r,h1,Rep.mono e h2,aE.mono e h3⟩
end
theorem aE.length: ∀ {ds:List D} {vs:List V},aE K ad G ds vs->vs.length=ds.length
 | [],_,h=>by
  unfold aE at h
  subst h
  rfl
 | d::ds,vs,h=>by
  unfold aE at h
  obtain⟨v,r,rfl,_,h3⟩:=h
  simp [aE.length h3]
theorem aE.nil:aE K ad G [] []:=by unfold aE;rfl
theorem aE.cons {d:D} {v:V} {ds:List D} {vs:List V} (h:Rep K ad G d v) (t:aE K ad G ds vs):aE K ad G (d::ds) (v::vs):=by
 unfold aE
 exact⟨v,vs,rfl,h,t⟩
theorem aE.get: ∀ {ds:List D} {vs:List V} {i:Nat} {d:D},aE K ad G ds vs->ds[i]? =some d-> ∃ v,vs[i]? =some v/\Rep K ad G d v
 | [],_,_,_,_,e=>by simp at e
 | d::ds,vs,i,d',h,e=>by
  unfold aE at h
  obtain⟨v,r,rfl,h2,h3⟩:=h
  cases i with
  | zero=>
   simp at e
   subst e
   exact⟨v,rfl,h2⟩
  | succ i=>
   obtain⟨w,a,b⟩:=aE.get (i:=i) (d:=d') h3 (by simpa using e)
   exact⟨w,by simpa using a,b⟩
theorem aE.append: ∀ {ds es:List D} {vs ws:List V},aE K ad G ds vs->aE K ad G es ws->aE K ad G (ds++es) (vs++ws)
 | [],_,_,_,h,t=>by
  unfold aE at h
  subst h
  exact t
 | d::ds,es,vs,ws,h,t=>by
  unfold aE at h
  obtain⟨v,r,rfl,h2,h3⟩:=h
  exact aE.cons h2 (aE.append h3 t)
theorem aE.drop: ∀ (n:Nat) {ds:List D} {vs:List V},aE K ad G ds vs->aE K ad G (ds.drop n) (vs.drop n)
 | 0,_,_,h=>h
 | n+1,[],_,h=>by
  unfold aE at h
  subst h
  exact aE.nil
 | n+1,d::ds,vs,h=>by
  unfold aE at h
  obtain⟨v,r,rfl,h2,h3⟩:=h
  exact aE.drop n h3
theorem aE.take: ∀ (n:Nat) {ds:List D} {vs:List V},aE K ad G ds vs->aE K ad G (ds.take n) (vs.take n)
 | 0,_,_,_=>aE.nil
 | n+1,[],_,h=>by
  unfold aE at h
  subst h
  exact aE.nil
 | n+1,d::ds,vs,h=>by
  unfold aE at h
  obtain⟨v,r,rfl,h2,h3⟩:=h
  exact aE.cons h2 (aE.take n h3)
theorem aE.set {d:D} {v:V} (q:Rep K ad G d v): ∀ (n:Nat) {ds:List D} {vs:List V},aE K ad G ds vs->aE K ad G (ds.set n d) (vs.set n v)
 | _,[],_,h=>by
  unfold aE at h
  subst h
  exact aE.nil
 | 0,_::ds,vs,h=>by
  unfold aE at h
  obtain⟨w,r,rfl,h2,h3⟩:=h
  exact aE.cons q h3
 | n+1,e::ds,vs,h=>by
  unfold aE at h
  obtain⟨w,r,rfl,h2,h3⟩:=h
  exact aE.cons h2 (aE.set q n h3)
theorem aE.rep {ds:List D} {vs:List V} (h:aE K ad G ds vs): ∀ k:Nat,aE K ad G (ak k ds).flatten (ak k vs).flatten
 | 0=>aE.nil
 | k+1=>by
  simp only [List.replicate_succ,List.flatten_cons]
  exact aE.append h (aE.rep h k)
theorem aE.map_int: ∀ {ns:List Int},aE K ad G (ns.map D.int) (ns.map V.int)
 | []=>aE.nil
 | _::_=>aE.cons (by unfold Rep;rfl) aE.map_int
structure Step (G H G' H':Hp):Prop where
 sg:Same G G'
 gh:Same G' H'
 sh:Same H H'
 nw: ∀ b,G b=none->G' b≠none->H b=none
theorem oV (e:Same H H') {b:Addr} (h:H' b=none):H b=none:=e.free h
theorem Step.refl (h:Same G H):Step G H G H:=⟨Same.refl _,h,Same.refl _,fun b h1 h2=>absurd h1 h2⟩
theorem Step.trans {G1 H1 G2 H2:Hp} (a:Step G H G1 H1) (b:Step G1 H1 G2 H2):Step G H G2 H2:=
 ⟨a.sg.trans b.sg,b.gh,a.sh.trans b.sh,fun x h1 h2=>by
  cases q:G1 x with
  | none=>exact a.sh.free (b.nw x q h2)
  | some o=>exact a.nw x h1 (by rw [q];exact fun z=>nomatch z)⟩
theorem Same.upd_new {p:Addr} {o:HO} (h:H p=none):Same H (upd H p o):=fun b u e=>by rw [aO (bC e h)];exact e
theorem Step.new {p:Addr} {o:HO} (h:Same G H) (n:H p=none):Step G H (upd G p o) (upd H p o):=by
 have gn:G p=none:=h.free n
 refine⟨Same.upd_new gn,fun b u e=> ?_,Same.upd_new n,fun b h1 h2=> ?_⟩
 ·by_cases q:b=p
  ·subst q
   rw [aM] at e ⊢
   exact e
  ·rw [aO q] at e ⊢
   exact h b u e
 ·by_cases q:b=p
  ·subst q
   exact n
  ·rw [aO q] at h2
   exact absurd h1 h2
theorem Step.own {p:Addr} {o:HO} (h:Same G H) (n:H p=none):Step G H G (upd H p o):=
 ⟨Same.refl _,h.trans (Same.upd_new n),Same.upd_new n,fun b h1 h2=>absurd h1 h2⟩
theorem Step.shareO {p:Addr} {o:HO} (s:Step G H G' H') (n:H p=none) (m:G' p=none) (e:H' p=some o):Step G H (upd G' p o) H':=by
 refine⟨s.sg.trans (Same.upd_new m),fun b u q=> ?_,s.sh,fun b h1 h2=> ?_⟩
 ·by_cases z:b=p
  ·subst z
   rw [aM] at q
   rw [e]
   exact q
  ·rw [aO z] at q
   exact s.gh b u q
 ·by_cases z:b=p
  ·subst z
   exact n
  ·rw [aO z] at h2
   exact s.nw b h1 h2
theorem Step.share {p:Addr} {vs:List V} (s:Step G H G' H') (n:H p=none) (m:G' p=none) (e:H' p=some (.lst vs)):Step G H (upd G' p (.lst vs)) H':=s.shareO n m e
mutual
noncomputable def hD:D->Int
 | .non=>0xFCA86420
 | .int i=>hashInt i
 | .tup xs=>reduceHash (Builtin.Tuple.tupleHashOf (hDs xs))
 | _=>0
noncomputable def hDs:List D->List Int
 | []=>[]
 | x::xs=>hD x::hDs xs
end
theorem Step.gnone {G H G' H':Hp} (st:Step G H G' H') {b:Addr} {o:HO} (g:G b=none) (h:H b=some o):G' b=none:=by
 cases q:G' b with
 | none=>rfl
 | some o'=>
  have:=st.nw b g (by rw [q];exact fun z=>nomatch z)
  rw [h] at this
  cases this
noncomputable def SLi (K:PySem.W.Frag) (ad:Ad) (G H:Hp):Slot->Option V->Prop
 | .no,_=>True
 | .sh d,ov=> ∃ v,ov=some v/\Rep K ad G d v
 | .ow xs,ov=> ∃ a vs,ov=some (.ref a)/\G a=none/\H a=some (.lst vs)/\aE K ad G xs vs
structure SL (K:PySem.W.Frag) (ad:Ad) (G H:Hp) (ρ:Rho) (σ:St):Prop where
 len:ρ.length=σ.length
 at_: ∀ (i:Nat) (s:Slot),ρ[i]? =some s-> ∃ ov,σ[i]? =some ov/\SLi K ad G H s ov
theorem SLi.step (st:Step G H G' H'): ∀ {s:Slot} {ov:Option V},SLi K ad G H s ov->SLi K ad G' H' s ov
 | .no,_,_=>trivial
 | .sh d,_,⟨v,h1,h2⟩=>⟨v,h1,h2.mono st.sg⟩
 | .ow xs,_,⟨a,vs,h1,h2,h3,h4⟩=>by
  refine⟨a,vs,h1, ?_,st.sh _ _ h3,h4.mono st.sg⟩
  cases q:G' a with
  | none=>rfl
  | some o=>
   have:=st.nw a h2 (by rw [q];exact fun z=>nomatch z)
   rw [h3] at this
   cases this
theorem SL.step {ρ:Rho} {σ:St} (h:SL K ad G H ρ σ) (st:Step G H G' H'):SL K ad G' H' ρ σ:=
 ⟨h.len,fun i s e=>let ⟨ov,h1,h2⟩:=h.at_ i s e;⟨ov,h1,h2.step st⟩⟩
theorem SL.sh {ρ:Rho} {σ:St} {i:Nat} {d:D} (h:SL K ad G H ρ σ) (e:ρ[i]? =some (.sh d)): ∃ v,σ[i]? =some (some v)/\Rep K ad G d v:=by
 obtain⟨ov,h1,v,rfl,h3⟩:=h.at_ i _ e
 exact⟨v,h1,h3⟩
theorem SL.ow {ρ:Rho} {σ:St} {i:Nat} {xs:List D} (h:SL K ad G H ρ σ) (e:ρ[i]? =some (.ow xs)): ∃ a vs,σ[i]? =some (some (.ref a))/\G a=none/\H a=some (.lst vs)/\aE K ad G xs vs:=by
 obtain⟨ov,h1,a,vs,rfl,h3⟩:=h.at_ i _ e
 exact⟨a,vs,h1,h3⟩
def RK (K:PySem.W.Frag) (ad:Ad) (G H:Hp) (r:R) (Q:VK) (E:Nat->Hp->Prop):Prop:=match r with
 | .ok d=> ∀ v G' H',Step G H G' H'->Rep K ad G' d v->Q v H'
 | .ow xs=> ∀ p vs G' H',Step G H G' H'->H p=none->G' p=none->H' p=some (.lst vs)->aE K ad G' xs vs->Q (.ref p) H'
 | .ex c=> ∀ G' H',Step G H G' H'->E c H'
 | .bad=>False
theorem RK.step {r:R} {Q:VK} {E:Nat->Hp->Prop} (h:RK K ad G H r Q E) (st:Step G H G' H'):RK K ad G' H' r Q E:=by
 cases r with
 | ok d=>exact fun v G2 H2 s2 q=>h v G2 H2 (st.trans s2) q
 | ow xs=>exact fun p vs G2 H2 s2 n m e q=>h p vs G2 H2 (st.trans s2) (st.sh.free n) m e q
 | ex c=>exact fun G2 H2 s2=>h G2 H2 (st.trans s2)
 | bad=>exact h
theorem RK.ok_now {d:D} {v:V} {Q:VK} {E:Nat->Hp->Prop} (h:RK K ad G H (.ok d) Q E) (e:Same G H) (q:Rep K ad G d v):Q v H:=h v G H (Step.refl e) q
theorem RK.ow_new {xs:List D} {vs:List V} {p:Addr} {Q:VK} {E:Nat->Hp->Prop} (h:RK K ad G H (.ow xs) Q E) (e:Same G H) (q:aE K ad G xs vs) (n:H p=none):Q (.ref p) (upd H p (.lst vs)):=
 h p vs G (upd H p (.lst vs)) (Step.own e n) n (e.free n) aM q
theorem RK.tup_new {xs:List D} {vs:List V} {p:Addr} {Q:VK} {E:Nat->Hp->Prop} (h:RK K ad G H (.ok (.tup xs)) Q E) (e:Same G H) (q:aE K ad G xs vs) (n:H p=none):Q (.ref p) (upd H p (.tup vs)):=by
 refine h (.ref p) (upd G p (.tup vs)) (upd H p (.tup vs)) (Step.new e n) ?_
 unfold Rep
 exact⟨p,vs,rfl,SqT.of aM,q.mono (Same.upd_new (e.free n))⟩
end
noncomputable def CXe (P:Program) (w:World):CXT:=fun outer H s E e s'=>
 ∃ (ea:Addr) (cls a0:Value) (H':Hp) (B:Heap),e= .ref ea/\s'.os=s.os/\AllBare s'.gens/\Heap.FlyingW B outer ea cls a0 s'.heap/\Un (frs outer) [] H H' s.heap s'.heap/\
  HOk P w H' s'.heap/\H' ea=none/\(∀ b o,s.heap.get? b=some o->b∉frs outer-> ∃ o',B.get? b=some o')/\(∀ b o,H' b=some o-> ∃ o',B.get? b=some o')/\E cls none H'
noncomputable def xk (ad:Ad) (E:Nat->Hp->Prop):XK:=fun cls _ H'=> ∃ c,cls= .ref (ad.cls c)/\E c H'
def XP (X:Cx) (ad:Ad) (σ:St) (E:Nat->Hp->Prop):Prop:=
 ∀ (pins:List (Addr×Obj)) (H:Hp) (s:Shared) (e:Value) (s':Shared),Inv X pins σ H s->CXe X.prog X.w X.stack H s (xk ad E) e s'->X.xe e s'
noncomputable def tE (X:Cx) (ad:Ad) (f:F):TE:=fun σ H Q=> ∃ G ρ E,Same G H/\SL X.K ad G H ρ σ/\XP X ad σ E/\RK X.K ad G H (f ρ) Q E
abbrev ME (X:Cx) (ad:Ad) (e:Expr) (f:F):Prop:=PE X e (tE X ad f)
def lP (r:R):Prop:=(∃ b,r= .ok (.bl b))\/ ∃ c,r= .ex c
noncomputable def tT (X:Cx) (ad:Ad) (f:F):TT:=fun σ H Q=> ∃ G ρ E,Same G H/\SL X.K ad G H ρ σ/\XP X ad σ E/\lP (f ρ)/\RK X.K ad G H (f ρ) (fun v H'=> ∃ b,v= .bl b/\Q b H') E
abbrev MT (X:Cx) (ad:Ad) (e:Expr) (f:F):Prop:=PT X e (tT X ad f)
abbrev MW (X:Cx) (ad:Ad) (e:Expr) (f:F):Prop:=PW X e (tT X ad f)
def AK (K:PySem.W.Frag) (ad:Ad) (G H:Hp) (r:RA) (Q:List V->Hp->Prop) (E:Nat->Hp->Prop):Prop:=match r with
 | .ok ds=> ∀ vs G' H',Step G H G' H'->aE K ad G' ds vs->Q vs H'
 | .ex c=> ∀ G' H',Step G H G' H'->E c H'
 | .bad=>False
noncomputable def tA (X:Cx) (ad:Ad) (fs:List F):TA:=fun σ H Q=> ∃ G ρ E,Same G H/\SL X.K ad G H ρ σ/\XP X ad σ E/\AK X.K ad G H (args fs ρ) Q E
abbrev MA (X:Cx) (ad:Ad) (es:List Expr) (fs:List F):Prop:=PA X es (tA X ad fs)
section
variable {X:Cx} {ad:Ad} {pins:List (Addr×Obj)} {s:Shared} {σ:St} {H G:Hp} {ρ:Rho} {Q:VK} {E:Nat->Hp->Prop} {pos:Pos} {a b c:Expr} {f g h:F}
theorem cO {xs:List D} {p:Addr} {vs:List V} {G1 H1:Hp} (st:Step G H G1 H1) (n:H p=none) (m:G1 p=none) (e:H1 p=some (.lst vs)) (q:aE X.K ad G1 xs vs):
  ∃ G2,Step G H G2 H1/\Rep X.K ad G2 (.lst xs) (.ref p):=by
 refine⟨upd G1 p (.lst vs),st.share n m e, ?_⟩
 unfold Rep
 exact⟨p,vs,rfl,SqL.of aM,q.mono (Same.upd_new m)⟩
theorem ME.thn {k:D->R} (ha:ME X ad a f) (I:Inv X pins σ H s) (hG:Same G H) (hS:SL X.K ad G H ρ σ) (hx:XP X ad σ E) (hr:RK X.K ad G H ((f ρ).bind k) Q E):
  wpAny (model X.prog X.w) X.A (eval a X.env) (fun u s1=> ∃ v d G1 H1,Inv X pins σ H1 s1/\bF v u/\Step G H G1 H1/\Rep X.K ad G1 d v/\RK X.K ad G1 H1 (k d) Q E) X.xe s:=by
 cases e:f ρ with
 | ok d=>
  rw [e] at hr
  refine L2.thn (ha pins s σ H (fun v H1=> ∃ G1,Step G H G1 H1/\Rep X.K ad G1 d v) I ⟨G,ρ,E,hG,hS,hx,by rw [e];exact fun v G1 H1 st q=>⟨G1,st,q⟩⟩) fun u s1 ⟨v,H1,I1,r1,G1,st,q⟩=> ?_
  exact⟨v,d,G1,H1,I1,r1,st,q,RK.step hr st⟩
 | ow xs=>
  rw [e] at hr
  refine L2.thn (ha pins s σ H (fun v H1=> ∃ G1,Step G H G1 H1/\Rep X.K ad G1 (.lst xs) v) I ⟨G,ρ,E,hG,hS,hx,by rw [e];exact fun p vs G1 H1 st n m e' q=>cO st n m e' q⟩) fun u s1 ⟨v,H1,I1,r1,G1,st,q⟩=> ?_
  exact⟨v, .lst xs,G1,H1,I1,r1,st,q,RK.step hr st⟩
 | ex c=>
  rw [e] at hr
  refine L2.thn (ha pins s σ H (fun v H1=>False) I ⟨G,ρ,E,hG,hS,hx,by rw [e];exact hr⟩) fun u s1 ⟨v,H1,I1,r1,q⟩=>q.elim
 | bad=>
  rw [e] at hr
  exact ax hr
theorem aN {i:Int}:Rep X.K ad G (.int i) (.int i):=by unfold Rep;rfl
theorem bB {i:Bool}:Rep X.K ad G (.bl i) (.bl i):=by unfold Rep;rfl
theorem aEa:Rep X.K ad G .non .non:=by unfold Rep;rfl
theorem j0 {i:Str}:Rep X.K ad G (.str i) (.str i):=by unfold Rep;rfl
theorem wM {i:Nat} {x:Str} (hN:X.N[i]? =some x) (hv:Vis X.env.scope x) (hd:(x==("__debug__":Str))=false) (hcd:(x==("__classdict__":Str))=false):ME X ad (.Name x pos) (aB i):=by
 intro pins s σ H Q I ⟨G,ρ,E,hG,hS,hx,hr⟩
 unfold aB at hr
 cases e:ρ[i]? with
 | none=>
  rw [e] at hr
  exact hr.elim
 | some sl=>
  rw [e] at hr
  cases sl with
  | no=>exact hr.elim
  | ow xs=>exact hr.elim
  | sh d=>
   obtain⟨v,h1,h2⟩:=hS.sh e
   exact d6 hN hv hd hcd pins s σ H Q I ⟨v,h1,hr.ok_now hG h2⟩
def MLk (X:Cx) (ad:Ad) (e:Expr) (f:F):Prop:=
 ∀ (pins:List (Addr×Obj)) (s:Shared) (σ:St) (H G:Hp) (ρ:Rho) (k:D->R) (Q:VK) (E:Nat->Hp->Prop),Inv X pins σ H s->Same G H->SL X.K ad G H ρ σ->XP X ad σ E->RK X.K ad G H ((f ρ).bind k) Q E->
  wpAny (model X.prog X.w) X.A (eval e X.env) (fun u s1=> ∃ v d G1 H1,Inv X pins σ H1 s1/\bF v u/\Step G H G1 H1/\(Rep X.K ad G1 d v\/ ∃ a vs ds,d= .lst ds/\v= .ref a/\G1 a=none/\H1 a=some (.lst vs)/\aE X.K ad G1 ds vs)/\RK X.K ad G1 H1 (k d) Q E) X.xe s
theorem mU {k:Const} {j:Nat} {d:D} (e:kD k=some d):ME X ad (.Constant k j pos) (rK d):=by
 intro pins s σ H Q I ⟨G,ρ,E,hG,hS,hx,hr⟩
 cases k with
 | int i=>cases e;exact aHc pins s σ H Q I (hr.ok_now hG aN)
 | bool i=>cases e;exact aKn pins s σ H Q I (hr.ok_now hG bB)
 | none=>cases e;exact aB5 pins s σ H Q I (hr.ok_now hG aEa)
 | str i=>cases e;exact aHd pins s σ H Q I (hr.ok_now hG j0)
 | float _=>cases e
 | complex _ _=>cases e
 | bytes _=>cases e
 | ellipsis=>cases e
theorem wN {x:Str} {d:D} {u:Value} {v:V} (hg:L2.Gl X x) (hm:X.mg x=some u) (r:bF v u) (q: ∀ G,Rep X.K ad G d v) (hd:(x==("__debug__":Str))=false):ME X ad (.Name x pos) (rK d):=by
 intro pins s σ H Q I ⟨G,ρ,E,hG,hS,hx,hr⟩
 exact aDg hg hm r hd pins s σ H Q I (hr.ok_now hG (q G))
def DOp (X:Cx) (ad:Ad) (t:Value->Value->Sem Value) (r:D->D->R):Prop:=
 ∀ (pins:List (Addr×Obj)) (s:Shared) (σ:St) (H G:Hp) (x y:D) (v w:V) (u z:Value) (Q:VK) (E:Nat->Hp->Prop),Inv X pins σ H s->Same G H->Rep X.K ad G x v->Rep X.K ad G y w->bF v u->bF w z->
  RK X.K ad G H (r x y) Q E->wpAny (model X.prog X.w) X.A (t u z) (EP X pins σ Q) X.xe s
theorem wO {t:Value->Value->Sem Value} {r:D->D->R} (ho:DOp X ad t r) (ha:ME X ad a f) (hb:ME X ad b g) (I:Inv X pins σ H s) (hG:Same G H) (hS:SL X.K ad G H ρ σ) (hx:XP X ad σ E)
  (hr:RK X.K ad G H ((f ρ).bind fun x=>(g ρ).bind fun y=>r x y) Q E):
  wpAny (model X.prog X.w) X.A (eval a X.env) (fun v s₁=>wpAny (model X.prog X.w) X.A (eval b X.env) (fun u s₂=>wpAny (model X.prog X.w) X.A (t v u) (EP X pins σ Q) X.xe s₂) X.xe s₁) X.xe s:=by
 refine L2.thn (ha.thn I hG hS hx hr) fun u s1 hz_=> ?_
 obtain⟨v,d,G1,H1,I1,r1,st1,q1,hr1⟩:=hz_
 refine L2.thn (hb.thn I1 st1.gh (hS.step st1) hx hr1) fun z s2 hz_=> ?_
 obtain⟨w,e,G2,H2,I2,r2,st2,q2,hr2⟩:=hz_
 exact ho pins s2 σ H2 G2 d e v w u z Q E I2 st2.gh (q1.mono st2.sg) q2 r1 r2 hr2
end
section
variable {X:Cx} {ad:Ad} {pins:List (Addr×Obj)} {s:Shared} {σ:St} {H G:Hp} {ρ:Rho} {Q:VK} {E:Nat->Hp->Prop} {pos:Pos} {a b c:Expr} {f g h:F}
theorem sK {n:Nat} (h:n<=LIM):n<=sizeLine:=Nat.le_trans h (by decide)
theorem qY {i:Int} (h:sml i=true): -(2 ^ 64)<i/\i<2 ^ 64:=by
 unfold sml at h
 rw [ar] at h
 exact⟨of_decide_eq_true h.1,of_decide_eq_true h.2⟩
theorem mV {i:Int} (h:sml i=true):i.natAbs<2 ^ 64:=by
 obtain⟨h1,h2⟩:=qY h
 omega
theorem sub_int_bool {prog:Program} {w:World} {A:Around} {Ex:Value->Shared->Prop} {s:Shared} {i:Int} {t:Tok} {k:Bool} {Q:Value->Shared->Prop} (h:Q (.int (i - SK.b2i k) s.toks) { s with toks:=s.toks+1 }):
  wpAny (model prog w) A (binaryOp .Sub (.int i t) (.bool k)) Q Ex s:=PySem.IntBool.sub_int_bool h
theorem add_int_bool {prog:Program} {w:World} {A:Around} {Ex:Value->Shared->Prop} {s:Shared} {i:Int} {t:Tok} {k:Bool} {Q:Value->Shared->Prop} (h:Q (.int (i+SK.b2i k) s.toks) { s with toks:=s.toks+1 }):
  wpAny (model prog w) A (binaryOp .Add (.int i t) (.bool k)) Q Ex s:=PySem.add_int_bool h
theorem aEb {prog:Program} {w:World} {A:Around} {Ex:Value->Shared->Prop} {s:Shared} {t b:Addr} {ws:List Value} {Q:Value->Shared->Prop} (ht:IsTup s.heap t #[]) (hb:IsTup s.heap b ws.toArray) (h:Q (.ref b) s):
  wpAny (model prog w) A (binaryOp .Add (.ref t) (.ref b)) Q Ex s:=by
 obtain⟨⟨cls,dd,data,sl⟩,ho,hc,n,hd⟩:=id ht
 obtain⟨⟨cls2,dd2,data2,sl2⟩,ho2,hc2,n2,hd2⟩:=id hb
 simp only at hc hd hc2 hd2
 subst hc hd hc2 hd2
 exact concat_meets ⟨_,ho,rfl⟩ ⟨_,ho2,rfl⟩ noFill_tuple_add seq_tuple_add PySem.F.slot_tuple_add PySem.F.entry_tuple_add (PySem.F.args_tuple_add_2 _ _)
   (tuple_addW0 t b #[] ws.toArray n n2 dd dd2 sl sl2 rfl) ⟨ho,ho2,h⟩
theorem iN (its:List Value) (m:Nat):List.foldl (fun x1 x2=>x1++x2) #[] (ak m its.toArray)=(ak m its).flatten.toArray:=by
 have:=oK its m []
 rw [List.nil_append] at this
 exact this
theorem aEc {t:Addr} {k:Int} {u:Tok} {xs:List V} {its:List Value} (I:Inv X pins σ H s) (ht:IsTup s.heap t its.toArray) (r:aZ xs its) (h0: -1000000<k) (h1:k<1000000) (hz:xs.length * k.toNat<=sizeLine)
  (q: ∀ p,(p=t/\(ak k.toNat xs).flatten=xs->Q (.ref p) H)/\(H p=none->Q (.ref p) (upd H p (.tup (ak k.toNat xs).flatten)))):
  wpAny (model X.prog X.w) X.A (binaryOp .Mult (.ref t) (.int k u)) (EP X pins σ Q) X.xe s:=by
 obtain⟨⟨cls,dd,data,sl⟩,e,hc,n,hd⟩:=id ht
 simp only at hc hd
 subst hc hd
 have hov:(decide (k< -(2 ^ 63))||decide (k≥2 ^ 63))=false:=by
  rw [Bool.or_eq_false_iff]
  exact⟨decide_eq_false (by omega),decide_eq_false (by omega)⟩
 have hlen:its.length * k.toNat<=sizeLine:=by rw [<-r.length];exact hz
 have lrep:(ak k.toNat xs).flatten.length<=sizeLine:=by rw [qO,Nat.mul_comm];exact hz
 refine wpAny_binaryOp_repeat_ref (T:="tuple") (U:="int") (by decide) ⟨_,e,rfl⟩ (fun s'=>typeIs_int s' k u) jB F.fills_int_mul F.slot_int_rmul oP F.slot_int_index.lookup
  (call_meets F.slot_int_rmul (typeIs_int s k u) F.entry_int_rmul (F.args_int_rmul_2 _ _) (fW k u t its.toArray n "tuple" dd sl (.inr rfl))
   ⟨e,rfl,⟨_,e,rfl⟩, ?_⟩)
 by_cases c0:(its.toArray.isEmpty||k==1)=true
 ·refine call_meets F.slot_tuple_mul ⟨_,e,rfl⟩ F.entry_tuple_mul (F.args_tuple_mul_2 _ _) (qP t its.toArray n k u dd sl hov c0) ⟨e, ?_⟩
  refine⟨.ref t,H,I,rfl,(q t).1 ⟨rfl, ?_⟩⟩
  rcases(Bool.or_eq_true _ _).mp c0 with z | z
  ·have:its=[]:=by simpa using z
   have:xs=[]:=r.nil_iff.mp this
   subst this
   simp
  ·have:k=1:=by simpa using z
   subst this
   simp
 ·by_cases c1:(decide (k<=0)||its.toArray.isEmpty)=true
  ·refine call_meets F.slot_tuple_mul ⟨_,e,rfl⟩ F.entry_tuple_mul (F.args_tuple_mul_2 _ _) (qQ t its.toArray n k u dd sl hov c0 c1) ⟨e, ?_⟩
   have k0:k.toNat=0:=by
    rcases(Bool.or_eq_true _ _).mp c1 with z | z
    ·have:=of_decide_eq_true z
     omega
    ·exact absurd (by rw [z];rfl) c0
   have q2:=(q s.heap.objs.size).2 (I.hok.fresh (aj _))
   rw [k0] at q2
   refine⟨.ref s.heap.objs.size,_,I.laid (t':=s.toks) (o:= .tup []) (fun b ob q=>af _ q) (aj _) ?_,rfl,q2⟩
   exact⟨bp _,[], .nil,IsTup.new _ _,⟨_,ag _ rfl,rfl⟩⟩
  ·have kp:0<k:=by
    rw [Bool.or_eq_true,not_or] at c1
    have:=c1.1
    rw [decide_eq_true_iff] at this
    omega
   have kk:(k.toNat:Int)=k:=by omega
   have hm:(its.toArray.size:Int) * k=((its.length * k.toNat:Nat):Int):=by rw [Int.natCast_mul,kk,au]
   have hs:(sizeLine:Nat)<=(2 ^ 63 - 1) / 8:=by decide
   refine call_meets F.slot_tuple_mul ⟨_,e,rfl⟩ F.entry_tuple_mul (F.args_tuple_mul_2 _ _) (qR t its.toArray n k u dd sl hov c0 c1 ?_ ?_ ?_) ⟨e, ?_⟩
   ·rw [hm]
    have:((its.length * k.toNat:Nat):Int)<=((2 ^ 63 - 1) / 8:Int):=by
     have:=Nat.le_trans hlen hs
     omega
    omega
   ·rw [hm]
    unfold Builtin.Tuple.tupleTooMany
    simp only [decide_eq_true_eq,gt_iff_lt,Int.not_lt]
    exact Int.ofNat_le.mpr hlen
   ·rw [iN,au,qO,Nat.mul_comm]
    exact hlen
   ·rw [iN]
    refine⟨.ref s.heap.objs.size,_,I.laid (t':=s.toks) (o:= .tup (ak k.toNat xs).flatten) (fun b ob q=>af _ q) (aj _) ?_,rfl,(q _).2 (I.hok.fresh (aj _))⟩
    exact⟨lrep,_,r.rep k.toNat,IsTup.new _ _,⟨_,ag _ rfl,rfl⟩⟩
theorem aEd {l b:Addr} {xs ys:List V} (I:Inv X pins σ H s) (hl:SqL X.K H l xs) (hb:SqL X.K H b ys) (hz:xs.length+ys.length<=sizeLine) (q: ∀ p,H p=none->Q (.ref p) (upd H p (.lst (xs++ys)))):
  wpAny (model X.prog X.w) X.A (binaryOp .Add (.ref l) (.ref b)) (EP X pins σ Q) X.xe s:=by
 obtain⟨its,r1,⟨⟨cls,dd,data,sl⟩,n,ho,hc,hdd,hd⟩,_⟩:=I.list hl
 obtain⟨its2,r2,⟨⟨cls2,dd2,data2,sl2⟩,n2,ho2,hc2,hdd2,hd2⟩,_⟩:=I.list hb
 simp only at hc hd hc2 hd2 hdd hdd2
 subst hc hd hc2 hd2
 have e:its.toArray++its2.toArray=(its++its2).toArray:=by simp
 refine concat_meets ⟨_,ho,rfl⟩ ⟨_,ho2,rfl⟩ noFill_list_add seq_list_add PySem.F.slot_list_add PySem.F.entry_list_add (PySem.F.args_list_add_2 _ _)
   (list_addW l b its.toArray its2.toArray n n2 dd dd2 sl sl2 (by rw [au,au, <-r1.length, <-r2.length];exact hz)) ⟨ho,ho2, ?_⟩
 rw [e]
 exact⟨.ref _,_,I.lnew (t':=s.toks) (r1.append r2) (by rw [bj];exact hz),rfl,q _ I.fresh⟩
theorem aEe {l:Addr} {k:Int} {u:Tok} {xs:List V} (I:Inv X pins σ H s) (hl:SqL X.K H l xs) (h0: -1000000<k) (h1:k<1000000) (hz:xs.length * k.toNat<=sizeLine) (q: ∀ p,H p=none->Q (.ref p) (upd H p (.lst (ak k.toNat xs).flatten))):
  wpAny (model X.prog X.w) X.A (binaryOp .Mult (.ref l) (.int k u)) (EP X pins σ Q) X.xe s:=by
 obtain⟨its,r,⟨⟨cls,dd,data,sl⟩,n,e,hc,hdd,hd⟩,_⟩:=I.list hl
 simp only at hc hd hdd
 subst hc hd
 have hlen:its.toArray.size * k.toNat<=sizeLine:=by rw [au, <-r.length];exact hz
 have hcap: ¬ its.toArray.size * k.toNat > (2 ^ 63 - 1) / 8:=by
  have:(sizeLine:Nat)<=(2 ^ 63 - 1) / 8:=by decide
  omega
 have hfit: ¬ (!Builtin.List.listFitsIndex k)=true:=by
  rw [fitsIndex_both (by omega) (by omega)]
  exact ba
 have hlong: ¬ Builtin.List.listTooLong (its.toArray.size * k.toNat)=true:=by
  rw [sF hlen]
  exact ba
 have hnew:List.foldl (fun x1 x2=>x1++x2) #[] (ak (if its.toArray.isEmpty=true then 0 else k.toNat) its.toArray)=(ak k.toNat its).flatten.toArray:=by
  rw [iN]
  cases its with
  | nil=>simp
  | cons a r'=>rw [if_neg (by simp)]
 refine wpAny_binaryOp_repeat_ref (T:="list") (U:="int") (by decide) ⟨_,e,rfl⟩ (fun s'=>typeIs_int s' k u) noFill_list_mul F.fills_int_mul F.slot_int_rmul repeat_list F.slot_int_index.lookup
  (call_meets F.slot_int_rmul (typeIs_int s k u) F.entry_int_rmul (F.args_int_rmul_2 _ _) (fW k u l its.toArray n "list" dd sl (.inl rfl))
   ⟨e,rfl,⟨_,e,rfl⟩,call_meets F.slot_list_mul ⟨_,e,rfl⟩ F.entry_list_mul (F.args_list_mul_2 _ _) (wC l its.toArray n k u dd sl hfit hcap hlong) ⟨e, ?_⟩⟩)
 rw [hnew]
 exact⟨.ref _,_,I.lnew (t':=s.toks) (r.rep k.toNat) (by rw [qO,Nat.mul_comm];exact hz),rfl,q _ I.fresh⟩
theorem aEf (op:Operator):DOp X ad (binaryOp op) (k7 op):=by
 intro pins s σ H G x y v w u z Q E I hG rx ry ru rz hr
 cases x with
 | int i=>
  unfold Rep at rx
  subst rx
  cases y with
  | int j=>
   unfold Rep at ry
   subst ry
   cases op with
   | Add=>exact aHt pins s σ H _ _ u z Q I ru rz ⟨i,j,rfl,rfl,hr.ok_now hG aN⟩
   | Sub=>exact aHu pins s σ H _ _ u z Q I ru rz ⟨i,j,rfl,rfl,hr.ok_now hG aN⟩
   | Mult=>
    have hr':RK X.K ad G H (if sml i||sml j then R.ok (.int (i * j)) else .bad) Q E:=hr
    by_cases hc:(sml i||sml j)=true
    ·rw [if_pos hc] at hr'
     refine aHv pins s σ H _ _ u z Q I ru rz ⟨i,j,rfl,rfl, ?_,hr'.ok_now hG aN⟩
     rcases(Bool.or_eq_true _ _).mp hc with h | h
     ·exact .inl (qY h)
     ·exact .inr (qY h)
    ·rw [if_neg hc] at hr'
     exact hr'.elim
   | FloorDiv=>
    have hr':RK X.K ad G H (if 0<j/\j<1073741824 then R.ok (.int (i / j)) else .bad) Q E:=hr
    by_cases hc:0<j/\j<1073741824
    ·rw [if_pos hc] at hr'
     exact aDo pins s σ H _ _ u z Q I ru rz ⟨i,j,rfl,rfl,hc,hr'.ok_now hG aN⟩
    ·rw [if_neg hc] at hr'
     exact hr'.elim
   | Mod=>
    have hr':RK X.K ad G H (if 0<j then R.ok (.int (i % j)) else .bad) Q E:=hr
    by_cases hc:0<j
    ·rw [if_pos hc] at hr'
     exact aHw pins s σ H _ _ u z Q I ru rz ⟨i,j,rfl,rfl,hc,hr'.ok_now hG aN⟩
    ·rw [if_neg hc] at hr'
     exact hr'.elim
   | LShift=>
    have hr':RK X.K ad G H (if 0<=j/\j<=1000/\sml i=true then R.ok (.int (i * 2 ^ j.toNat)) else .bad) Q E:=hr
    by_cases hc:0<=j/\j<=1000/\sml i=true
    ·rw [if_pos hc] at hr'
     exact aHx pins s σ H _ _ u z Q I ru rz ⟨i,j,rfl,rfl,⟨hc.1,by omega,mV hc.2.2⟩,hr'.ok_now hG aN⟩
    ·rw [if_neg hc] at hr'
     exact hr'.elim
   | RShift=>
    have hr':RK X.K ad G H (if 0<=j then R.ok (.int (i / 2 ^ j.toNat)) else .bad) Q E:=hr
    by_cases hc:0<=j
    ·rw [if_pos hc] at hr'
     exact aHy pins s σ H _ _ u z Q I ru rz ⟨i,j,rfl,rfl,hc,hr'.ok_now hG aN⟩
    ·rw [if_neg hc] at hr'
     exact hr'.elim
   | BitAnd=>exact aHz pins s σ H _ _ u z Q I ru rz ⟨i,j,rfl,rfl,hr.ok_now hG aN⟩
   | BitOr=>exact aK2 pins s σ H _ _ u z Q I ru rz ⟨i,j,rfl,rfl,hr.ok_now hG aN⟩
   | BitXor=>exact aH0 pins s σ H _ _ u z Q I ru rz ⟨i,j,rfl,rfl,hr.ok_now hG aN⟩
   | MatMult=>exact ax hr
   | Div=>exact ax hr
   | Pow=>
    have hr':RK X.K ad G H (if i=10/\j=9 then R.ok (.int 1000000000) else .bad) Q E:=hr
    by_cases hc:i=10/\j=9
    ·rw [if_pos hc] at hr'
     obtain⟨rfl,rfl⟩:=hc
     obtain⟨t,rfl⟩:=ru
     obtain⟨t',rfl⟩:=rz
     exact PySem.AutoIntOps.pow_4 (by decide) (by decide) (by decide) (by decide) (by decide+kernel) (show EP X pins σ Q (.int 1000000000 _) _ from⟨.int _,H,I.tok _,⟨_,rfl⟩,hr'.ok_now hG aN⟩)
    ·rw [if_neg hc] at hr'
     exact hr'.elim
  | bl k=>
   unfold Rep at ry
   subst ry
   obtain⟨t,rfl⟩:=ru
   cases (show z=Value.bool k from rz)
   cases op with
   | Sub=>exact sub_int_bool ⟨.int _,H,I.tok _,⟨_,rfl⟩,hr.ok_now hG aN⟩
   | Add=>exact add_int_bool ⟨.int _,H,I.tok _,⟨_,rfl⟩,hr.ok_now hG aN⟩
   | _=>exact ax hr
  | _=>cases op<;>exact ax hr
 | tup xs=>
  unfold Rep at rx
  obtain⟨p,vs,rfl,hp,rp⟩:=rx
  cases y with
  | tup ys=>
   unfold Rep at ry
   obtain⟨q,ws,rfl,hq,rq⟩:=ry
   cases op with
   | Add=>
    have hr':RK X.K ad G H (if xs.length+ys.length<=LIM then R.ok (.tup (xs++ys)) else .bad) Q E:=hr
    by_cases hc:xs.length+ys.length<=LIM
    ·rw [if_pos hc] at hr'
     have l1:=rp.length
     have l2:=rq.length
     by_cases hv:vs=[]
     ·subst hv
      cases (show u=Value.ref p from ru)
      cases (show z=Value.ref q from rz)
      obtain⟨its,r1,p1,_⟩:=I.tuple (hG.seqT hp)
      obtain⟨its2,r2,p2,_⟩:=I.tuple (hG.seqT hq)
      cases r1
      refine aEb p1 p2 ⟨.ref q,H,I,rfl,hr'.ok_now hG ?_⟩
      have:xs=[]:=by simpa using l1.symm
      subst this
      unfold Rep
      exact⟨q,ws,rfl,hq,rq⟩
     ·refine aDr pins s σ H _ _ u z Q I ru rz ⟨p,q,vs,ws,rfl,rfl,hG.seqT hp,hG.seqT hq,hv,by rw [l1,l2];exact sK hc,fun hw=> ?_,fun hw a ha=> ?_⟩
      ·subst hw
       have:ys=[]:=by simpa using l2.symm
       subst this
       refine hr'.ok_now hG ?_
       unfold Rep
       exact⟨p,vs,rfl,hp,by rw [List.append_nil];exact rp⟩
      ·exact hr'.tup_new hG (rp.append rq) ha
    ·rw [if_neg hc] at hr'
     exact hr'.elim
   | _=>exact ax hr
  | int k=>
   unfold Rep at ry
   subst ry
   cases op with
   | Mult=>
    have hr':RK X.K ad G H (if -1000000<k/\k<1000000/\xs.length * k.toNat<=LIM then R.ok (.tup (aKc xs k)) else .bad) Q E:=hr
    by_cases hc: -1000000<k/\k<1000000/\xs.length * k.toNat<=LIM
    ·rw [if_pos hc] at hr'
     cases (show u=Value.ref p from ru)
     obtain⟨t,rfl⟩:=rz
     obtain⟨its,r1,p1,_⟩:=I.tuple (hG.seqT hp)
     refine aEc I p1 r1 hc.1 hc.2.1 (by rw [rp.length];exact sK hc.2.2) fun a=>⟨fun⟨e1,e2⟩=> ?_,fun ha=> ?_⟩
     ·subst e1
      refine hr'.ok_now hG ?_
      unfold Rep
      exact⟨a,vs,rfl,hp,by rw [<-e2];exact rp.rep k.toNat⟩
     ·exact hr'.tup_new hG (rp.rep k.toNat) ha
    ·rw [if_neg hc] at hr'
     exact hr'.elim
   | _=>exact ax hr
  | _=>cases op<;>exact ax hr
 | lst xs=>
  unfold Rep at rx
  obtain⟨p,vs,rfl,hp,rp⟩:=rx
  cases y with
  | lst ys=>
   unfold Rep at ry
   obtain⟨q,ws,rfl,hq,rq⟩:=ry
   cases op with
   | Add=>
    have hr':RK X.K ad G H (if xs.length+ys.length<=LIM then R.ow (xs++ys) else .bad) Q E:=hr
    by_cases hc:xs.length+ys.length<=LIM
    ·rw [if_pos hc] at hr'
     cases (show u=Value.ref p from ru)
     cases (show z=Value.ref q from rz)
     exact aEd I (hG.seq hp) (hG.seq hq) (by rw [rp.length,rq.length];exact sK hc) fun a ha=>hr'.ow_new hG (rp.append rq) ha
    ·rw [if_neg hc] at hr'
     exact hr'.elim
   | _=>exact ax hr
  | int k=>
   unfold Rep at ry
   subst ry
   cases op with
   | Mult=>
    have hr':RK X.K ad G H (if -1000000<k/\k<1000000/\xs.length * k.toNat<=LIM then R.ow (aKc xs k) else .bad) Q E:=hr
    by_cases hc: -1000000<k/\k<1000000/\xs.length * k.toNat<=LIM
    ·rw [if_pos hc] at hr'
     cases (show u=Value.ref p from ru)
     obtain⟨t,rfl⟩:=rz
     exact aEe I (hG.seq hp) hc.1 hc.2.1 (by rw [rp.length];exact sK hc.2.2) fun a ha=>hr'.ow_new hG (rp.rep k.toNat) ha
    ·rw [if_neg hc] at hr'
     exact hr'.elim
   | _=>exact ax hr
  | _=>cases op<;>exact ax hr
 | str x=>
  unfold Rep at rx
  subst rx
  cases y with
  | str y=>
   unfold Rep at ry
   subst ry
   cases op with
   | Add=>
    have hr':RK X.K ad G H (if x.length<=LIM/\y.length<=LIM then R.ok (.str (x++y)) else .bad) Q E:=hr
    by_cases hc:x.length<=LIM/\y.length<=LIM
    ·rw [if_pos hc] at hr'
     exact uQ pins s σ H _ _ u z Q I ru rz ⟨x,y,rfl,rfl,Nat.le_trans (Nat.add_le_add hc.1 hc.2) (by decide),hr'.ok_now hG j0⟩
    ·rw [if_neg hc] at hr'
     exact hr'.elim
   | _=>exact ax hr
  | int k=>
   unfold Rep at ry
   subst ry
   cases op with
   | Mult=>
    have hr':RK X.K ad G H (if x.length<=16/\0<=k/\k<=1000 then R.ok (.str (Txt.mul x k)) else .bad) Q E:=hr
    by_cases hc:x.length<=16/\0<=k/\k<=1000
    ·rw [if_pos hc] at hr'
     obtain⟨t,rfl⟩:=(show ∃ t,u=Value.str x t from ru)
     obtain⟨t',rfl⟩:=(show ∃ t,z=Value.int k t from rz)
     exact PySem.W.KXi.mul (n:=x.length) rfl hc.1 (by omega) (by omega) fun t' k' _ _=>⟨.str _,H,I.tok k',⟨t',rfl⟩,hr'.ok_now hG j0⟩
    ·rw [if_neg hc] at hr'
     exact hr'.elim
   | _=>exact ax hr
  | _=>cases op<;>exact ax hr
 | _=>cases y<;>cases op<;>exact ax hr
theorem aIn {op:Operator} (ha:ME X ad a f) (hb:ME X ad b g):ME X ad (.BinOp a op b pos) (aU op f g):=by
 intro pins s σ H Q I ⟨G,ρ,E,hG,hS,hx,hr⟩
 exact wpAny_BinOp (wO (aEf op) ha hb I hG hS hx hr)
end
section
variable {X:Cx} {ad:Ad} {pins:List (Addr×Obj)} {s:Shared} {σ:St} {H G:Hp} {ρ:Rho} {Q:VK} {E:Nat->Hp->Prop} {pos:Pos} {a b c:Expr} {f g h:F}
mutual
theorem dN (I:Inv X pins σ H s) (hG:Same G H): ∀ {d:D} {v:V} {u:Value},plain d=true->Rep X.K ad G d v->bF v u-> ∃ as,Reads s.heap u (bJ d) as
 | .non,v,u,_,h,r=>by
  unfold Rep at h;subst h
  cases r
  unfold bJ
  exact⟨_, .none⟩
 | .bl b,v,u,_,h,r=>by
  unfold Rep at h;subst h
  cases r
  unfold bJ
  exact⟨_, .bool b⟩
 | .int i,v,u,_,h,r=>by
  unfold Rep at h;subst h
  obtain⟨t,rfl⟩:=r
  unfold bJ
  exact⟨_, .int i t⟩
 | .str x,v,u,_,h,r=>by
  unfold Rep at h;subst h
  obtain⟨t,rfl⟩:=r
  unfold bJ
  exact⟨_, .str x t⟩
 | .tup ds,v,u,p,h,r=>by
  unfold Rep at h
  obtain⟨a,vs,rfl,h2,h3⟩:=h
  cases r
  obtain⟨its,rv,⟨o,ho,hc,n,hd⟩,_⟩:=I.tuple (hG.seqT h2)
  obtain⟨as,ra⟩:=dD I hG (by simpa [plain] using p) h3 rv
  unfold bJ
  exact⟨_, .tuple ho hc hd (by simpa using ra)⟩
 | .lst ds,v,u,p,h,r=>by
  unfold Rep at h
  obtain⟨a,vs,rfl,h2,h3⟩:=h
  cases r
  obtain⟨its,rv,⟨o,n,ho,hc,_,hd⟩,_⟩:=I.list (hG.seq h2)
  obtain⟨as,ra⟩:=dD I hG (by simpa [plain] using p) h3 rv
  unfold bJ
  exact⟨_, .list ho hc hd (by simpa using ra)⟩
 | .exc _,_,_,p,_,_=>by simp [plain] at p
 | .fn _,_,_,p,_,_=>by simp [plain] at p
theorem dD (I:Inv X pins σ H s) (hG:Same G H): ∀ {ds:List D} {vs:List V} {us:List Value},aS ds=true->aE X.K ad G ds vs->aZ vs us-> ∃ as,ReadsAll s.heap us (aV ds) as
 | [],vs,us,_,h,r=>by
  unfold aE at h;subst h
  cases r
  unfold aV
  exact⟨_, .nil⟩
 | d::ds,vs,us,p,h,r=>by
  unfold aE at h
  obtain⟨v,r',rfl,h2,h3⟩:=h
  have p':plain d=true/\aS ds=true:=by simpa [aS] using p
  cases r with
  | cons r1 r2=>
   obtain⟨as,q1⟩:=dN I hG p'.1 h2 r1
   obtain⟨bs,q2⟩:=dD I hG p'.2 h3 r2
   unfold aV
   exact⟨_, .cons q1 q2⟩
end
theorem jI {x y:D} (h:nY x y=true):plain x=true/\plain y=true/\min (dep x) (dep y)<=60:=by
 unfold nY at h
 rw [ar,ar] at h
 exact⟨h.1.1,h.1.2,of_decide_eq_true h.2⟩
theorem aEg {A:Around} {x y:D} {v w:V} {u z:Value} (hu:A.units+61<cLine) (I:Inv X pins σ H s) (hG:Same G H) (h:nY x y=true) (rx:Rep X.K ad G x v) (ry:Rep X.K ad G y w) (ru:bF v u) (rz:bF w z):
  SeqAt.EqAt A s u z (deq x y):=by
 obtain⟨p1,p2,p3⟩:=jI h
 obtain⟨as,q1⟩:=dN I hG p1 rx ru
 obtain⟨bs,q2⟩:=dN I hG p2 ry rz
 rw [<-fE x y p1 p2]
 exact SeqAt.eqAt_reads (bJ x) (bJ y) A s u z as bs q1 q2 (eZ p1) (eZ p2) (by rw [e9,e9];omega)
theorem q0 {M:Model} {A:Around} {Ex:Value->Shared->Prop} {s:Shared} {Q:Value->Shared->Prop} {v:V} {u:Value} {b:Bool} (r:bF v u) (h:Q (.bool (decide (v= .bl b))) s):wpAny M A (compareOp .Is u (.bool b)) Q Ex s:=by
 cases v with
 | bl a=>
  cases (show u=Value.bool a from r)
  refine ae (show Q (.bool (Value.bool a==Value.bool b)) s from ?_)
  have e:(Value.bool a==Value.bool b)=decide (V.bl a=V.bl b):=by cases a<;>cases b<;>rfl
  rw [e];exact h
 | non=>cases (show u=Value.none from r);exact ae h
 | int i=>obtain⟨t,rfl⟩:=r;exact ae h
 | str i=>obtain⟨t,rfl⟩:=r;exact ae h
 | byt i=>obtain⟨t,rfl⟩:=r;exact ae h
 | flt i=>obtain⟨t,rfl⟩:=r;exact ae h
 | ref p=>cases (show u=Value.ref p from r);exact ae h
 | ty p=>cases (show u=Value.type p from r);exact ae h
theorem lE {M:Model} {A:Around} {Ex:Value->Shared->Prop} {s:Shared} {Q:Value->Shared->Prop} {v:V} {u:Value} {b:Bool} (r:bF v u) (h:Q (.bool (!decide (v= .bl b))) s):wpAny M A (compareOp .IsNot u (.bool b)) Q Ex s:=by
 cases v with
 | bl a=>
  cases (show u=Value.bool a from r)
  refine ae (show Q (.bool (!(Value.bool a==Value.bool b))) s from ?_)
  have e:(Value.bool a==Value.bool b)=decide (V.bl a=V.bl b):=by cases a<;>cases b<;>rfl
  rw [e];exact h
 | non=>cases (show u=Value.none from r);exact ae h
 | int i=>obtain⟨t,rfl⟩:=r;exact ae h
 | str i=>obtain⟨t,rfl⟩:=r;exact ae h
 | byt i=>obtain⟨t,rfl⟩:=r;exact ae h
 | flt i=>obtain⟨t,rfl⟩:=r;exact ae h
 | ref p=>cases (show u=Value.ref p from r);exact ae h
 | ty p=>cases (show u=Value.type p from r);exact ae h
theorem oW {x:D} {v:V} {b:Bool} (r:Rep X.K ad G x v):decide (v= .bl b)=aLb b x:=by
 cases x with
 | bl a=>unfold Rep at r;subst r;cases a<;>cases b<;>rfl
 | non=>unfold Rep at r;subst r;rfl
 | int _=>unfold Rep at r;subst r;rfl
 | str _=>unfold Rep at r;subst r;rfl
 | tup _=>unfold Rep at r;obtain⟨p,_,rfl,_⟩:=r;rfl
 | lst _=>unfold Rep at r;obtain⟨p,_,rfl,_⟩:=r;rfl
 | exc _=>unfold Rep at r;obtain⟨p,rfl,_⟩:=r;rfl
 | fn _=>unfold Rep at r;subst r;rfl
theorem lQ {x:D} {v:V} (r:Rep X.K ad G x v):decide (v= .non)=aDw x:=by
 cases x with
 | bl a=>unfold Rep at r;subst r;rfl
 | non=>unfold Rep at r;subst r;rfl
 | int _=>unfold Rep at r;subst r;rfl
 | str _=>unfold Rep at r;subst r;rfl
 | tup _=>unfold Rep at r;obtain⟨p,_,rfl,_⟩:=r;rfl
 | lst _=>unfold Rep at r;obtain⟨p,_,rfl,_⟩:=r;rfl
 | exc _=>unfold Rep at r;obtain⟨p,rfl,_⟩:=r;rfl
 | fn _=>unfold Rep at r;subst r;rfl
theorem j4 {y:D} {ys:List D} {w:V} (e:items y=some ys) (r:Rep X.K ad G y w): ∃ a vs,w= .ref a/\(SqT X.K G a vs\/SqL X.K G a vs)/\aE X.K ad G ys vs:=by
 cases y with
 | tup _=>cases e;unfold Rep at r;obtain⟨a,vs,h1,h2,h3⟩:=r;exact⟨a,vs,h1, .inl h2,h3⟩
 | lst _=>cases e;unfold Rep at r;obtain⟨a,vs,h1,h2,h3⟩:=r;exact⟨a,vs,h1, .inr h2,h3⟩
 | _=>cases e
theorem sL: ∀ {ys:List D} {vs:List V} {us:List Value},aE X.K ad G ys vs->aZ vs us-> ∀ u∈us, ∃ d∈ys, ∃ v,Rep X.K ad G d v/\bF v u
 | [],vs,us,h,r,u,hu=>by
  unfold aE at h;subst h
  cases r
  cases hu
 | d::ds,vs,us,h,r,u,hu=>by
  unfold aE at h
  obtain⟨v,r',rfl,h2,h3⟩:=h
  cases r with
  | cons r1 r2=>
   rcases aq.mp hu with rfl | hu
   ·exact⟨d, .head _,v,h2,r1⟩
   ·obtain⟨d',hd,v',q⟩:=sL h3 r2 u hu
    exact⟨d', .tail _ hd,v',q⟩
theorem sM (p:D->Bool) (q:Value->Bool): ∀ {ys:List D} {vs:List V} {us:List Value},aE X.K ad G ys vs->aZ vs us->(∀ d∈ys, ∀ v u,Rep X.K ad G d v->bF v u->q u=p d)->us.any q=ys.any p
 | [],vs,us,h,r,_=>by
  unfold aE at h;subst h
  cases r
  rfl
 | d::ds,vs,us,h,r,k=>by
  unfold aE at h
  obtain⟨v,r',rfl,h2,h3⟩:=h
  cases r with
  | cons r1 r2=>
   rw [List.any_cons,List.any_cons,k d (.head _) v _ h2 r1,sM p q h3 r2 fun d' hd=>k d' (.tail _ hd)]
theorem lR (p:D->Bool) (q:Value->Bool): ∀ {ys:List D} {vs:List V} {us:List Value},aE X.K ad G ys vs->aZ vs us->(∀ d∈ys, ∀ v u,Rep X.K ad G d v->bF v u->q u=p d)->us.countP q=ys.countP p
 | [],vs,us,h,r,_=>by
  unfold aE at h;subst h
  cases r
  rfl
 | d::ds,vs,us,h,r,k=>by
  unfold aE at h
  obtain⟨v,r',rfl,h2,h3⟩:=h
  cases r with
  | cons r1 r2=>
   rw [List.countP_cons,List.countP_cons,k d (.head _) v _ h2 r1,lR p q h3 r2 fun d' hd=>k d' (.tail _ hd)]
theorem oX (p:D->Bool) (q:Value->Bool): ∀ {ys:List D} {vs:List V} {us:List Value},aE X.K ad G ys vs->aZ vs us->(∀ d∈ys, ∀ v u,Rep X.K ad G d v->bF v u->q u=p d)->us.findIdx? q=ys.findIdx? p
 | [],vs,us,h,r,_=>by
  unfold aE at h;subst h
  cases r
  rfl
 | d::ds,vs,us,h,r,k=>by
  unfold aE at h
  obtain⟨v,r',rfl,h2,h3⟩:=h
  cases r with
  | cons r1 r2=>
   rw [List.findIdx?_cons,List.findIdx?_cons,k d (.head _) v _ h2 r1,oX p q h3 r2 fun d' hd=>k d' (.tail _ hd)]
open Classical in
theorem lS {x:D} {ys:List D} {v:V} {u:Value} {vs:List V} {its:List Value} (hu:X.A.units+62<cLine) (I:Inv X pins σ H s) (hG:Same G H) (h:qI x ys=true) (rx:Rep X.K ad G x v) (ru:bF v u) (r:aE X.K ad G ys vs) (rv:aZ vs its):
  ∃ e:Value->Bool,(∀ y,y∈its.toArray->SeqAt.EqAt X.A.in1 s y u (e y))/\its.toArray.any e=(ys.any fun y=>deq y x)/\its.countP e=(ys.countP fun y=>deq y x)/\its.findIdx? e=ys.findIdx? fun y=>deq y x:=by
 have ok: ∀ d∈ys,nY d x=true:=fun d hd=>zAd h d hd
 have key: ∀ d∈ys, ∀ v' u',Rep X.K ad G d v'->bF v' u'->(decide (∃ d' as,plain d'=true/\Reads s.heap u' (bJ d') as/\PyData.eqv (bJ d') (bJ x)=true))=deq d x:=fun d hd v' u' r1 r2=>by
  obtain⟨p1,p2,_⟩:=jI (ok d hd)
  obtain⟨as,q1⟩:=dN I hG p1 r1 r2
  rw [<-fE d x p1 p2]
  by_cases z:PyData.eqv (bJ d) (bJ x)=true
  ·rw [z]
   exact decide_eq_true ⟨d,as,p1,q1,z⟩
  ·rw [Bool.not_eq_true] at z
   rw [z]
   refine decide_eq_false ?_
   rintro⟨d',as',p',q',z'⟩
   have:=SeqAt.Reads.unique (bJ d) (bJ d') u' as as' (eZ p1) q1 q'
   rw [<-this,z] at z'
   cases z'
 refine⟨fun u'=>decide (∃ d' as,plain d'=true/\Reads s.heap u' (bJ d') as/\PyData.eqv (bJ d') (bJ x)=true),fun y hy=> ?_, ?_,lR _ _ r rv key,oX _ _ r rv key⟩
 ·obtain⟨d,hd,v',r1,r2⟩:=sL r rv y (by simpa using hy)
  have:=aEg (A:=X.A.in1) (by show X.A.units+1+61<_;omega) I hG (ok d hd) r1 rx r2 ru
  rw [<-key d hd v' y r1 r2] at this
  exact this
 ·rw [List.any_toArray]
  exact sM _ _ r rv key
theorem j5 (op:CmpOp) (hu:X.A.units+62<cLine):DOp X ad (compareOp op) (mL op):=by
 intro pins s σ H G x y v w u z Q E I hG rx ry ru rz hr
 cases op with
 | Eq=>
  have hr':RK X.K ad G H (if nY x y then R.ok (.bl (deq x y)) else .bad) Q E:=hr
  by_cases hc:nY x y=true
  ·rw [if_pos hc] at hr'
   obtain⟨p1,p2,p3⟩:=jI hc
   obtain⟨as,q1⟩:=dN I hG p1 rx ru
   obtain⟨bs,q2⟩:=dN I hG p2 ry rz
   exact SeqAt.compareEq_reads q1 q2 (eZ p1) (eZ p2) (by rw [e9,e9];omega) (by rw [fE x y p1 p2];exact⟨.bl _,H,I,rfl,hr'.ok_now hG bB⟩)
  ·rw [if_neg hc] at hr'
   exact hr'.elim
 | NotEq=>
  have hr':RK X.K ad G H (if nY x y then R.ok (.bl (!deq x y)) else .bad) Q E:=hr
  by_cases hc:nY x y=true
  ·rw [if_pos hc] at hr'
   obtain⟨p1,p2,p3⟩:=jI hc
   obtain⟨as,q1⟩:=dN I hG p1 rx ru
   obtain⟨bs,q2⟩:=dN I hG p2 ry rz
   exact SeqAt.neOverData X.prog X.w X.A X.xe s u z (bJ x) (bJ y) as bs _ q1 q2 (eZ p1) (eZ p2) (by rw [e9,e9];omega) (by rw [fE x y p1 p2];exact⟨.bl _,H,I,rfl,hr'.ok_now hG bB⟩)
  ·rw [if_neg hc] at hr'
   exact hr'.elim
 | Lt=>
  cases x<;>cases y<;>try exact ax hr
  unfold Rep at rx ry;subst rx;subst ry
  exact aK3 pins s σ H _ _ u z Q I ru rz ⟨_,_,rfl,rfl,hr.ok_now hG bB⟩
 | LtE=>
  cases x<;>cases y<;>try exact ax hr
  ·unfold Rep at rx ry;subst rx;subst ry
   exact aK4 pins s σ H _ _ u z Q I ru rz ⟨_,_,rfl,rfl,hr.ok_now hG bB⟩
  ·rename_i i j
   unfold Rep at rx ry;subst rx;subst ry
   obtain⟨t,rfl⟩:=(show ∃ t,u=Value.str i t from ru)
   obtain⟨t',rfl⟩:=(show ∃ t,z=Value.str j t from rz)
   exact PySem.P.le_str ⟨.bl _,H,I,rfl,hr.ok_now hG bB⟩
 | Gt=>
  cases x<;>cases y<;>try exact ax hr
  unfold Rep at rx ry;subst rx;subst ry
  exact aK5 pins s σ H _ _ u z Q I ru rz ⟨_,_,rfl,rfl,hr.ok_now hG bB⟩
 | GtE=>
  cases x<;>cases y<;>try exact ax hr
  unfold Rep at rx ry;subst rx;subst ry
  exact aK6 pins s σ H _ _ u z Q I ru rz ⟨_,_,rfl,rfl,hr.ok_now hG bB⟩
 | Is=>
  cases y<;>try exact ax hr
  ·unfold Rep at ry;subst ry
   exact aH2 pins s σ H _ _ u z Q I ru rz ⟨rfl,by rw [lQ rx];exact hr.ok_now hG bB⟩
  ·unfold Rep at ry;subst ry
   rename_i k
   cases (show z=Value.bool k from rz)
   exact q0 ru ⟨.bl _,H,I,rfl,by rw [oW rx];exact hr.ok_now hG bB⟩
 | IsNot=>
  cases y<;>try exact ax hr
  ·unfold Rep at ry;subst ry
   exact aDp pins s σ H _ _ u z Q I ru rz ⟨rfl,by rw [lQ rx];exact hr.ok_now hG bB⟩
  ·unfold Rep at ry;subst ry
   rename_i k
   cases (show z=Value.bool k from rz)
   exact lE ru ⟨.bl _,H,I,rfl,by rw [oW rx];exact hr.ok_now hG bB⟩
 | In=>
  have hr':RK X.K ad G H (match items y with | some ys=>if qI x ys then R.ok (.bl (ys.any fun y=>deq y x)) else .bad | none=>inS x y false) Q E:=hr
  cases e:items y with
  | none=>
   rw [e] at hr'
   have hr2:RK X.K ad G H (inS x y false) Q E:=hr'
   cases x<;>try exact ax hr2
   cases y<;>try exact ax hr2
   unfold Rep at rx ry;subst rx;subst ry
   exact vY pins s σ H _ _ u z Q I ru rz ⟨_,_,rfl,rfl,hr2.ok_now hG bB⟩
  | some ys=>
   rw [e] at hr'
   by_cases hc:qI x ys=true
   ·have hr2:RK X.K ad G H (if qI x ys then R.ok (.bl (ys.any fun y=>deq y x)) else .bad) Q E:=hr'
    rw [if_pos hc] at hr2
    obtain⟨p,vs,rfl,hq,rq⟩:=j4 e ry
    cases (show z=Value.ref p from rz)
    rcases hq with hq | hq
    ·obtain⟨its,rv,pt,_⟩:=I.tuple (hG.seqT hq)
     obtain⟨e1,e2,e3,_⟩:=lS hu I hG hc rx ru rq rv
     exact SeqAt.in_tupleAt e1 (show s.heap.IsTuple p its.toArray from pt) e2 (by rw [e3];exact⟨.bl _,H,I,rfl,hr2.ok_now hG bB⟩)
    ·obtain⟨its,rv,pt,_⟩:=I.list (hG.seq hq)
     obtain⟨e1,e2,e3,_⟩:=lS hu I hG hc rx ru rq rv
     exact SeqAt.in_listAt e1 pt.isList e2 (by rw [e3];exact⟨.bl _,H,I,rfl,hr2.ok_now hG bB⟩)
   ·have hr2:RK X.K ad G H (if qI x ys then R.ok (.bl (ys.any fun y=>deq y x)) else .bad) Q E:=hr'
    rw [if_neg hc] at hr2
    exact hr2.elim
 | NotIn=>
  have hr':RK X.K ad G H (match items y with | some ys=>if qI x ys then R.ok (.bl (!ys.any fun y=>deq y x)) else .bad | none=>inS x y true) Q E:=hr
  cases e:items y with
  | none=>
   rw [e] at hr'
   have hr2:RK X.K ad G H (inS x y true) Q E:=hr'
   cases x<;>try exact ax hr2
   cases y<;>try exact ax hr2
   unfold Rep at rx ry;subst rx;subst ry
   exact oA pins s σ H _ _ u z Q I ru rz ⟨_,_,rfl,rfl,hr2.ok_now hG bB⟩
  | some ys=>
   rw [e] at hr'
   have hr2:RK X.K ad G H (if qI x ys then R.ok (.bl (!ys.any fun y=>deq y x)) else .bad) Q E:=hr'
   by_cases hc:qI x ys=true
   ·rw [if_pos hc] at hr2
    obtain⟨p,vs,rfl,hq,rq⟩:=j4 e ry
    cases (show z=Value.ref p from rz)
    rcases hq with hq | hq
    ·obtain⟨its,rv,pt,_⟩:=I.tuple (hG.seqT hq)
     obtain⟨e1,e2,e3,_⟩:=lS hu I hG hc rx ru rq rv
     exact SeqAt.notIn_tupleAt e1 (show s.heap.IsTuple p its.toArray from pt) e2 (by rw [e3];exact⟨.bl _,H,I,rfl,hr2.ok_now hG bB⟩)
    ·obtain⟨its,rv,pt,_⟩:=I.list (hG.seq hq)
     obtain⟨e1,e2,e3,_⟩:=lS hu I hG hc rx ru rq rv
     exact SeqAt.notIn_listAt e1 pt.isList e2 (by rw [e3];exact⟨.bl _,H,I,rfl,hr2.ok_now hG bB⟩)
   ·rw [if_neg hc] at hr2
    exact hr2.elim
end
theorem PE.imp {X:Cx} {e:Expr} {t t':TE} (h:PE X e t) (k: ∀ σ H Q,t' σ H Q->t σ H Q):PE X e t':=fun pins s σ H Q I w=>h pins s σ H Q I (k σ H Q w)
theorem PT.imp {X:Cx} {e:Expr} {t t':TT} (h:PT X e t) (k: ∀ σ H Q,t' σ H Q->t σ H Q):PT X e t':=fun pins s σ H Q I w=>h pins s σ H Q I (k σ H Q w)
theorem PW.imp {X:Cx} {e:Expr} {t t':TT} (h:PW X e t) (k: ∀ σ H Q,t' σ H Q->t σ H Q):PW X e t':=fun wh pins s σ H Q I w=>h wh pins s σ H Q I (k σ H Q w)
theorem PS.imp {X:Cx} {e:Stmt} {t t':TS} (h:PS X e t) (k: ∀ D σ H,t' D σ H->t D σ H):PS X e t':=fun pins s σ H D I w=>h pins s σ H D I (k D σ H w)
theorem PSs.imp {X:Cx} {e:List Stmt} {t t':TS} (h:PSs X e t) (k: ∀ D σ H,t' D σ H->t D σ H):PSs X e t':=fun pins s σ H D I w=>h pins s σ H D I (k D σ H w)
theorem PA.imp {X:Cx} {es:List Expr} {t t':TA} (h:PA X es t) (k: ∀ σ H Q,t' σ H Q->t σ H Q):PA X es t':=fun p pins s σ H Q I w=>h p pins s σ H Q I (k σ H Q w)
section
variable {X:Cx} {ad:Ad} {pins:List (Addr×Obj)} {s:Shared} {σ:St} {H G:Hp} {ρ:Rho} {Q:VK} {E:Nat->Hp->Prop} {pos:Pos} {a b c:Expr} {f g h:F}
theorem mW {k:D->R} {σ:St} {H:Hp} {Q Q':VK} (hG:Same G H) (hS:SL X.K ad G H ρ σ) (hx:XP X ad σ E) (hr:RK X.K ad G H ((f ρ).bind k) Q E)
  (q: ∀ v d G1 H1,Step G H G1 H1->Rep X.K ad G1 d v->RK X.K ad G1 H1 (k d) Q E->Q' v H1):tE X ad f σ H Q':=by
 refine⟨G,ρ,E,hG,hS,hx, ?_⟩
 cases e:f ρ with
 | ok d=>
  rw [e] at hr
  exact fun v G1 H1 st r=>q v d G1 H1 st r (RK.step hr st)
 | ow xs=>
  rw [e] at hr
  intro p vs G1 H1 st n m e' r
  obtain⟨G2,st2,r2⟩:=cO (X:=X) (ad:=ad) st n m e' r
  exact q _ _ G2 H1 st2 r2 (RK.step hr st2)
 | ex c=>
  rw [e] at hr
  exact hr
 | bad=>
  rw [e] at hr
  exact hr
theorem mX (hx:XP X ad σ E) {G1 H1:Hp} (st:Step G H G1 H1) (hS:SL X.K ad G H ρ σ) {Q:VK} (hr:RK X.K ad G1 H1 (f ρ) Q E):tE X ad f σ H1 Q:=⟨G1,ρ,E,st.gh,hS.step st,hx,hr⟩
theorem aIo (ha:ME X ad a f):ME X ad (.UnaryOp .Not a pos) (jF f):=by
 refine PE.imp (aHj ha) ?_
 rintro σ H Q ⟨G,ρ,E,hG,hS,hx,hr⟩
 refine mW hG hS hx hr fun v d G1 H1 st r k=> ?_
 cases d<;>try exact ax k
 unfold Rep at r;subst r
 exact⟨_,rfl,k.ok_now st.gh bB⟩
theorem aCk (ha:ME X ad a f):ME X ad (.UnaryOp .USub a pos) (aKd f):=by
 refine PE.imp (aK0 aH1 ha) ?_
 rintro σ H Q ⟨G,ρ,E,hG,hS,hx,hr⟩
 refine mW hG hS hx hr fun v d G1 H1 st r k=> ?_
 cases d<;>try exact ax k
 unfold Rep at r;subst r
 exact⟨_,rfl,k.ok_now st.gh aN⟩
theorem aIp {σ:St} {H:Hp} {Q:VK} (h:tE X ad (iL f g) σ H Q):aHg (tE X ad f) (tE X ad g) σ H Q:=by
 obtain⟨G,ρ,E,hG,hS,hx,hr⟩:=h
 refine mW hG hS hx hr fun v d G1 H1 st r k=> ?_
 cases d<;>try exact ax k
 rename_i b
 unfold Rep at r;subst r
 refine⟨b,rfl, ?_⟩
 cases b with
 | true=>exact aAg (mX hx st hS k)
 | false=>exact aCd (k.ok_now st.gh bB)
theorem aLk {σ:St} {H:Hp} {Q:VK} (h:tE X ad (rOr f g) σ H Q):aMf (tE X ad f) (tE X ad g) σ H Q:=by
 obtain⟨G,ρ,E,hG,hS,hx,hr⟩:=h
 refine mW hG hS hx hr fun v d G1 H1 st r k=> ?_
 cases d<;>try exact ax k
 rename_i b
 unfold Rep at r;subst r
 refine⟨b,rfl, ?_⟩
 cases b with
 | true=>exact aAg (k.ok_now st.gh bB)
 | false=>exact aCd (mX hx st hS k)
theorem aCl {r:List Expr} (ha:ME X ad a f) (hb:ME X ad (.BoolOp .And (b::r) pos) g):ME X ad (.BoolOp .And (a::b::r) pos) (iL f g):=PE.imp (aHi ha hb) fun _ _ _ h=>aIp h
theorem aIq {r:List Expr} (ha:ME X ad a f) (hb:ME X ad (.BoolOp .Or (b::r) pos) g):ME X ad (.BoolOp .Or (a::b::r) pos) (rOr f g):=PE.imp (aKp ha hb) fun _ _ _ h=>aLk h
theorem aCm {op:BoolOp} (hb:ME X ad b g):ME X ad (.BoolOp op [b] pos) g:=aHh hb
theorem aLl {σ:St} {H:Hp} {Q:Bool->Hp->Prop} (h:tT X ad f σ H Q):tE X ad f σ H fun x H1=> ∃ k,x= .bl k/\Q k H1:=by
 obtain⟨G,ρ,E,hG,hS,hx,ht,hr⟩:=h
 exact⟨G,ρ,E,hG,hS,hx,hr⟩
theorem aIr (ha:ME X ad a f) (he: ∀ whole,isTrue a X.env whole=(do let v<-whole;standAt a.pos;holding [v] (truthy v))):MT X ad a f:=PT.imp (aHe ha he) fun _ _ _ h=>aLl h
theorem eM {r:R} {k:D->R} (h:lP (r.bind k)):(∃ d,r= .ok d/\lP (k d))\/(∃ xs,r= .ow xs/\lP (k (.lst xs)))\/ ∃ c,r= .ex c:=by
 cases r with
 | ok d=>exact .inl ⟨d,rfl,h⟩
 | ow xs=>exact .inr (.inl ⟨xs,rfl,h⟩)
 | ex c=>exact .inr (.inr ⟨c,rfl⟩)
 | bad=>
  rcases h with ⟨_,h⟩ | ⟨_,h⟩<;>cases h
theorem bG: ¬ lP .bad:=by
 rintro(⟨_,h⟩ | ⟨_,h⟩)<;>cases h
theorem aIs {σ:St} {H:Hp} {Q:Bool->Hp->Prop} (h:tT X ad (jF f) σ H Q):aMe (tT X ad f) σ H Q:=by
 obtain⟨G,ρ,E,hG,hS,hx,ht,hr⟩:=h
 rcases eM ht with ⟨d,e,ht⟩ | ⟨xs,e,ht⟩ | ⟨c,e⟩
 ·cases d<;>try exact(bG ht).elim
  rename_i b
  refine⟨G,ρ,E,hG,hS,hx, .inl ⟨b,e⟩, ?_⟩
  have hr':RK X.K ad G H ((f ρ).bind fun x=>match x with | .bl b=> .ok (.bl (!b)) | _=> .bad) (fun v H'=> ∃ b,v= .bl b/\Q b H') E:=hr
  rw [e] at hr' ⊢
  intro v G1 H1 st r
  unfold Rep at r;subst r
  obtain⟨b',e',q⟩:=hr' (.bl (!b)) G1 H1 st bB
  cases e'
  exact⟨b,rfl,q⟩
 ·exact(bG ht).elim
 ·refine⟨G,ρ,E,hG,hS,hx, .inr ⟨c,e⟩, ?_⟩
  have hr':RK X.K ad G H ((f ρ).bind fun x=>match x with | .bl b=> .ok (.bl (!b)) | _=> .bad) (fun v H'=> ∃ b,v= .bl b/\Q b H') E:=hr
  rw [e] at hr' ⊢
  exact hr'
theorem aIt (ha:MT X ad a f):MT X ad (.UnaryOp .Not a pos) (jF f):=PT.imp (aHf ha) fun _ _ _ h=>aIs h
theorem aIu {σ:St} {H:Hp} {Q:Bool->Hp->Prop} (h:tT X ad (iL f g) σ H Q):aMd (tT X ad f) (tT X ad g) σ H Q:=by
 obtain⟨G,ρ,E,hG,hS,hx,ht,hr⟩:=h
 have hr':RK X.K ad G H ((f ρ).bind fun x=>match x with | .bl true=>g ρ | .bl false=> .ok (.bl false) | _=> .bad) (fun v H'=> ∃ b,v= .bl b/\Q b H') E:=hr
 rcases eM ht with ⟨d,e,ht⟩ | ⟨xs,e,ht⟩ | ⟨c,e⟩
 ·cases d<;>try exact(bG ht).elim
  rename_i b
  refine⟨G,ρ,E,hG,hS,hx, .inl ⟨b,e⟩, ?_⟩
  rw [e] at hr' ⊢
  intro v G1 H1 st r
  unfold Rep at r;subst r
  refine⟨b,rfl, ?_⟩
  cases b with
  | true=>exact aAg ⟨G1,ρ,E,st.gh,hS.step st,hx,ht,RK.step hr' st⟩
  | false=>
   obtain⟨b',e',q⟩:=hr' (.bl false) G1 H1 st bB
   cases e'
   exact aCd q
 ·exact(bG ht).elim
 ·refine⟨G,ρ,E,hG,hS,hx, .inr ⟨c,e⟩, ?_⟩
  rw [e] at hr' ⊢
  exact hr'
theorem aLm {σ:St} {H:Hp} {Q:Bool->Hp->Prop} (h:tT X ad (rOr f g) σ H Q):tOr (tT X ad f) (tT X ad g) σ H Q:=by
 obtain⟨G,ρ,E,hG,hS,hx,ht,hr⟩:=h
 have hr':RK X.K ad G H ((f ρ).bind fun x=>match x with | .bl true=> .ok (.bl true) | .bl false=>g ρ | _=> .bad) (fun v H'=> ∃ b,v= .bl b/\Q b H') E:=hr
 rcases eM ht with ⟨d,e,ht⟩ | ⟨xs,e,ht⟩ | ⟨c,e⟩
 ·cases d<;>try exact(bG ht).elim
  rename_i b
  refine⟨G,ρ,E,hG,hS,hx, .inl ⟨b,e⟩, ?_⟩
  rw [e] at hr' ⊢
  intro v G1 H1 st r
  unfold Rep at r;subst r
  refine⟨b,rfl, ?_⟩
  cases b with
  | true=>
   obtain⟨b',e',q⟩:=hr' (.bl true) G1 H1 st bB
   cases e'
   exact aAg q
  | false=>exact aCd ⟨G1,ρ,E,st.gh,hS.step st,hx,ht,RK.step hr' st⟩
 ·exact(bG ht).elim
 ·refine⟨G,ρ,E,hG,hS,hx, .inr ⟨c,e⟩, ?_⟩
  rw [e] at hr' ⊢
  exact hr'
theorem aCn {r:List Expr} (ha:MT X ad a f) (hb:MW X ad (.BoolOp .And (b::r) pos) g):MW X ad (.BoolOp .And (a::b::r) pos) (iL f g):=PW.imp (pw_and ha hb) fun _ _ _ h=>aIu h
theorem aIv {r:List Expr} (ha:MT X ad a f) (hb:MW X ad (.BoolOp .Or (b::r) pos) g):MW X ad (.BoolOp .Or (a::b::r) pos) (rOr f g):=PW.imp (pw_or ha hb) fun _ _ _ h=>aLm h
theorem aCo {op:BoolOp} (hb:MT X ad b g):MW X ad (.BoolOp op [b] pos) g:=by
 cases op with
 | And=>exact pw_and1 hb
 | Or=>exact pw_or1 hb
theorem aIw {op:CmpOp} (hu:X.A.units+62<cLine) (ha:ME X ad a f) (hb:ME X ad b g) (hm:behindInMarks op b=false):ME X ad (.Compare a [op] [b] pos) (bE op f g):=by
 intro pins s σ H Q I ⟨G,ρ,E,hG,hS,hx,hr⟩
 exact wpAny_Compare1 (wO (j5 op hu) ha hb I hG hS hx hr) hm
theorem aIx {op:CmpOp} (hu:X.A.units+62<cLine) (ha:ME X ad a f) (hb:ME X ad b g) (hm:behindInMarks op b=false):MT X ad (.Compare a [op] [b] pos) (bE op f g):=by
 intro pins s σ H Q I ⟨G,ρ,E,hG,hS,hx,ht,hr⟩
 refine wpAny_isTrue_Compare1 (L2.thn (wO (j5 op hu) ha hb I hG hS hx hr) fun v s1 h1=>L2.thn h1 fun u s2 h2=>L2.thn h2 fun c s3 ⟨x,H1,I1,r1,k,e,q⟩=> ?_) hm
 subst e
 cases r1
 exact wpAny_truthy_bool ⟨H1,I1,q⟩
theorem aEh {op:CmpOp} {x y:D}:(∃ k,mL op x y= .ok (.bl k))\/mL op x y= .bad:=by
 cases op<;>unfold mL<;>(try unfold inS)<;>(repeat' split)<;>first | exact .inr rfl | exact .inl ⟨_,rfl⟩
theorem aLn {op:CmpOp} {x y:D} {v w:V} {u z:Value} (hu:X.A.units+62<cLine) (I:Inv X pins σ H s) (hG:Same G H) (rx:Rep X.K ad G x v) (ry:Rep X.K ad G y w) (ru:bF v u) (rz:bF w z) {k:D->R}
  (hr:RK X.K ad G H ((mL op x y).bind k) Q E):wpAny (model X.prog X.w) X.A (compareOp op u z) (fun d s3=> ∃ b G' H',d= .bool b/\Step G H G' H'/\Inv X pins σ H' s3/\RK X.K ad G' H' (k (.bl b)) Q E) X.xe s:=by
 rcases aEh (op:=op) (x:=x) (y:=y) with ⟨b,e⟩ | e
 ·rw [e] at hr
  refine L2.thn (j5 op hu pins s σ H G x y v w u z (fun q H'=> ∃ G',Step G H G' H'/\q= .bl b) E I hG rx ry ru rz (by rw [e];exact fun q G' H' st r=>⟨G',st,by unfold Rep at r;exact r⟩)) fun d s3 ⟨q,H',I',r',G',st,e1⟩=> ?_
  subst e1
  cases r'
  exact⟨b,G',H',rfl,st,I',RK.step hr st⟩
 ·rw [e] at hr
  exact hr.elim
theorem aAo {op op':CmpOp} (hu:X.A.units+62<cLine) (ha:ME X ad a f) (hb:ME X ad b g) (hc:ME X ad c h) (hm:lastMarks [op,op'] [b,c]=false):ME X ad (.Compare a [op,op'] [b,c] pos) (sG op op' f g h):=by
 intro pins s σ H Q I ⟨G,ρ,E,hG,hS,hx,hr⟩
 refine Compare_chain (L2.thn (ha.thn I hG hS hx hr) fun v s1 ⟨x,d1,G1,H1,I1,r1,st1,q1,k1⟩=>chain_link (L2.thn (hb.thn I1 st1.gh (hS.step st1) hx k1) fun u s2 ⟨y,d2,G2,H2,I2,r2,st2,q2,k2⟩=>
  L2.thn (aLn hu I2 st2.gh (q1.mono st2.sg) q2 r1 r2 k2) fun d s3 ⟨k,G3,H3,e,st3,I3,k3⟩=> ?_)) hm
 subst e
 refine wpAny_truthy_bool ?_
 cases k with
 | false=>exact ite_ff ⟨.bl false,H3,I3,rfl,k3.ok_now st3.gh bB⟩
 | true=>
  refine ite_tt (chain_last (L2.thn (hc.thn I3 st3.gh (((hS.step st1).step st2).step st3) hx k3) fun w' s4 hz_=> ?_))
  obtain⟨z',d4,G4,H4,I4,r4,st4,q4,k4⟩:=hz_
  exact j5 op' hu pins s4 σ H4 G4 d2 d4 y z' u w' Q E I4 st4.gh ((q2.mono st3.sg).mono st4.sg) q4 r2 r4 k4
theorem aAp {op op':CmpOp} (hu:X.A.units+62<cLine) (ha:ME X ad a f) (hb:ME X ad b g) (hc:ME X ad c h) (hm:lastMarks [op,op'] [b,c]=false):MT X ad (.Compare a [op,op'] [b,c] pos) (sG op op' f g h):=by
 intro pins s σ H Q I ⟨G,ρ,E,hG,hS,hx,ht,hr⟩
 refine isTrue_chain (L2.thn (ha.thn I hG hS hx hr) fun v s1 ⟨x,d1,G1,H1,I1,r1,st1,q1,k1⟩=>test_link (L2.thn (hb.thn I1 st1.gh (hS.step st1) hx k1) fun u s2 ⟨y,d2,G2,H2,I2,r2,st2,q2,k2⟩=>
  L2.thn (aLn hu I2 st2.gh (q1.mono st2.sg) q2 r1 r2 k2) fun d s3 ⟨k,G3,H3,e,st3,I3,k3⟩=> ?_)) hm
 subst e
 refine wpAny_truthy_bool ?_
 cases k with
 | false=>
  obtain⟨k',e',q'⟩:=k3.ok_now (v:= .bl false) st3.gh bB
  cases e'
  exact ite_ff ⟨H3,I3,q'⟩
 | true=>
  refine ite_tt (test_last (L2.thn (hc.thn I3 st3.gh (((hS.step st1).step st2).step st3) hx k3) fun w' s4 hz_=> ?_))
  obtain⟨z',d4,G4,H4,I4,r4,st4,q4,k4⟩:=hz_
  refine L2.thn (j5 op' hu pins s4 σ H4 G4 d2 d4 y z' u w' _ E I4 st4.gh ((q2.mono st3.sg).mono st4.sg) q4 r2 r4 k4) fun d' s5 hz_=> ?_
  obtain⟨z2,H5,I5,r5,k2,e2,q5⟩:=hz_
  subst e2
  cases r5
  exact wpAny_truthy_bool ⟨H5,I5,q5⟩
theorem aAq (hc:MT X ad c h) (ha:ME X ad a f) (hb:ME X ad b g):ME X ad (.IfExp c a b pos) (rIf h f g):=by
 refine PE.imp (zX hc ha hb) ?_
 rintro σ H Q ⟨G,ρ,E,hG,hS,hx,hr⟩
 have hr':RK X.K ad G H ((h ρ).bind fun x=>match x with | .bl true=>f ρ | .bl false=>g ρ | _=> .bad) Q E:=hr
 cases e:h ρ with
 | ok d=>
  rw [e] at hr'
  cases d<;>try exact hr'.elim
  rename_i k
  refine⟨G,ρ,E,hG,hS,hx, .inl ⟨k,e⟩, ?_⟩
  rw [e]
  intro v G1 H1 st r
  unfold Rep at r;subst r
  refine⟨k,rfl, ?_⟩
  cases k with
  | true=>exact aAg (mX hx st hS (RK.step hr' st))
  | false=>exact aCd (mX hx st hS (RK.step hr' st))
 | ow xs=>rw [e] at hr';exact hr'.elim
 | ex k=>
  rw [e] at hr'
  exact⟨G,ρ,E,hG,hS,hx, .inr ⟨k,e⟩,by rw [e];exact hr'⟩
 | bad=>rw [e] at hr';exact hr'.elim
theorem aCp:MA X ad [] []:=PA.imp dB fun σ H Q ⟨G,ρ,E,hG,hS,hx,hr⟩=>hr [] G H (Step.refl hG) aE.nil
theorem q8 {es:List Expr} {fs:List F} (ha:ME X ad a f) (hr:MA X ad es fs) (hs:starEach (a::es) X.env=(false,eval a X.env)::starEach es X.env):MA X ad (a::es) (f::fs):=by
 refine PA.imp (bS ha hr hs) ?_
 rintro σ H Q ⟨G,ρ,E,hG,hS,hx,hr⟩
 have main: ∀ d,AK X.K ad G H ((args fs ρ).cons d) Q E-> ∀ v G1 H1,Step G H G1 H1->Rep X.K ad G1 d v->tA X ad fs σ H1 fun xs H2=>Q (v::xs) H2:=fun d hk v G1 H1 st r=>by
  refine⟨G1,ρ,E,st.gh,hS.step st,hx, ?_⟩
  cases e:args fs ρ with
  | ok ds=>rw [e] at hk;exact fun vs G2 H2 st2 r2=>hk (v::vs) G2 H2 (st.trans st2) (aE.cons (r.mono st2.sg) r2)
  | ex c=>rw [e] at hk;exact fun G2 H2 st2=>hk G2 H2 (st.trans st2)
  | bad=>rw [e] at hk;exact hk
 refine⟨G,ρ,E,hG,hS,hx, ?_⟩
 unfold args at hr
 cases e:f ρ with
 | ok d=>rw [e] at hr;exact fun v G1 H1 st r=>main d hr v G1 H1 st r
 | ow xs=>
  rw [e] at hr
  intro p vs G1 H1 st n m e' r
  obtain⟨G2,st2,r2⟩:=cO (X:=X) (ad:=ad) st n m e' r
  exact main _ hr _ G2 H1 st2 r2
 | ex c=>rw [e] at hr;exact hr
 | bad=>rw [e] at hr;exact hr
theorem jJ {fs:List F} {ρ:Rho} {ds:List D} (h:args fs ρ= .ok ds):ds.length=fs.length:=by
 induction fs generalizing ds with
 | nil=>cases h;rfl
 | cons f fs ih=>
  unfold args at h
  cases e:f ρ with
  | ok d=>
   rw [e] at h
   cases e2:args fs ρ with
   | ok r=>rw [e2] at h;cases h;simp [ih e2]
   | ex c=>rw [e2] at h;cases h
   | bad=>rw [e2] at h;cases h
  | ow d=>
   rw [e] at h
   cases e2:args fs ρ with
   | ok r=>rw [e2] at h;cases h;simp [ih e2]
   | ex c=>rw [e2] at h;cases h
   | bad=>rw [e2] at h;cases h
  | ex c=>rw [e] at h;cases h
  | bad=>rw [e] at h;cases h
theorem q9 {fs:List F} {k:List D->R} {σ:St} {H:Hp} {Q:VK} {Q':List V->Hp->Prop} (hG:Same G H) (hS:SL X.K ad G H ρ σ) (hx:XP X ad σ E) (hr:RK X.K ad G H (mM fs ρ k) Q E)
  (q: ∀ vs ds G1 H1,Step G H G1 H1->aE X.K ad G1 ds vs->ds.length=fs.length->RK X.K ad G1 H1 (k ds) Q E->Q' vs H1):tA X ad fs σ H Q':=by
 refine⟨G,ρ,E,hG,hS,hx, ?_⟩
 unfold mM at hr
 cases e:args fs ρ with
 | ok ds=>rw [e] at hr;exact fun vs G1 H1 st r=>q vs ds G1 H1 st r (jJ e) (RK.step hr st)
 | ex c=>rw [e] at hr;exact hr
 | bad=>rw [e] at hr;exact hr
theorem aIy {es:List Expr} {fs:List F} {j:Nat} (ha:MA X ad es fs) (hl:fs.length<=1000):ME X ad (.Tuple es j pos) (dH fs):=by
 refine PE.imp (aH5 ha) ?_
 rintro σ H Q ⟨G,ρ,E,hG,hS,hx,hr⟩
 refine⟨G,ρ,E,hG,hS,hx, ?_⟩
 have hr':RK X.K ad G H ((args fs ρ).then fun xs=> .ok (.tup xs)) Q E:=hr
 cases e:args fs ρ with
 | ok ds=>
  rw [e] at hr'
  intro vs G1 H1 st r
  refine⟨?_,fun p hp=>(RK.step hr' st).tup_new st.gh r hp⟩
  have:=r.length
  rw [this,jJ e]
  exact Nat.le_trans hl (by decide)
 | ex c=>rw [e] at hr';exact hr'
 | bad=>rw [e] at hr';exact hr'
theorem aIz {es:List Expr} {fs:List F} (ha:MA X ad es fs) (hl:fs.length<=1000):ME X ad (.List es pos) (cF fs):=by
 refine PE.imp (v5 ha) ?_
 rintro σ H Q ⟨G,ρ,E,hG,hS,hx,hr⟩
 refine⟨G,ρ,E,hG,hS,hx, ?_⟩
 have hr':RK X.K ad G H ((args fs ρ).then fun xs=> .ow xs) Q E:=hr
 cases e:args fs ρ with
 | ok ds=>
  rw [e] at hr'
  intro vs G1 H1 st r
  refine⟨?_,fun p hp=>(RK.step hr' st).ow_new st.gh r hp⟩
  have:=r.length
  rw [this,jJ e]
  exact Nat.le_trans hl (by decide)
 | ex c=>rw [e] at hr';exact hr'
 | bad=>rw [e] at hr';exact hr'
def Seq (X:Cx) (ad:Ad) (G H:Hp) (x:D) (v:V):Prop:=Rep X.K ad G x v\/ ∃ a vs ds,x= .lst ds/\v= .ref a/\G a=none/\H a=some (.lst vs)/\aE X.K ad G ds vs
theorem Seq.step {G1 H1:Hp} {x:D} {v:V} (q:Seq X ad G H x v) (st:Step G H G1 H1):Seq X ad G1 H1 x v:=by
 rcases q with q | ⟨a,vs,ds,e1,e2,h1,h2,h3⟩
 ·exact .inl (q.mono st.sg)
 ·refine .inr ⟨a,vs,ds,e1,e2, ?_,st.sh _ _ h2,h3.mono st.sg⟩
  cases z:G1 a with
  | none=>rfl
  | some o=>
   have:=st.nw a h1 (by rw [z];exact fun z=>nomatch z)
   rw [h2] at this
   cases this
theorem Seq.items {x:D} {v:V} {ds:List D} (q:Seq X ad G H x v) (hG:Same G H) (e:items x=some ds): ∃ a vs,v= .ref a/\(x= .tup ds/\SqT X.K H a vs\/x= .lst ds/\SqL X.K H a vs)/\aE X.K ad G ds vs:=by
 rcases q with q | ⟨a,vs,ds',e1,e2,h1,h2,h3⟩
 ·cases x with
  | tup _=>cases e;unfold Rep at q;obtain⟨a,vs,h1,h2,h3⟩:=q;exact⟨a,vs,h1, .inl ⟨rfl,hG.seqT h2⟩,h3⟩
  | lst _=>cases e;unfold Rep at q;obtain⟨a,vs,h1,h2,h3⟩:=q;exact⟨a,vs,h1, .inr ⟨rfl,hG.seq h2⟩,h3⟩
  | _=>cases e
 ·subst e1
  cases e
  exact⟨a,vs,e2, .inr ⟨rfl,SqL.of h2⟩,h3⟩
theorem sN (n:Nat) (i:Int):ixD n i=L2.ixN n i:=rfl
theorem aLo (ha:MLk X ad a f) (hb:ME X ad b g) (hs:v9 b):ME X ad (.Subscript a b pos) (rIx f g):=by
 intro pins s σ H Q I ⟨G,ρ,E,hG,hS,hx,hr⟩
 refine Subscript_ (L2.thn (ha pins s σ H G ρ _ Q E I hG hS hx hr) fun v s1 hz_=> ?_)
 obtain⟨x,d1,G1,H1,I1,r1,st1,q1,k1⟩:=hz_
 refine L2.thn (hb.thn I1 st1.gh (hS.step st1) hx k1) fun u s2 hz_=> ?_
 obtain⟨y,d2,G2,H2,I2,r2,st2,q2,k2⟩:=hz_
 have q1':Seq X ad G2 H2 d1 x:=Seq.step (X:=X) (ad:=ad) q1 st2
 unfold dIx at k2
 cases e:items d1 with
 | none=>
  rw [e] at k2
  have k3:RK X.K ad G2 H2 (ixS d1 d2) Q E:=k2
  cases d1<;>try exact ax k3
  cases d2<;>try exact ax k3
  rename_i z i
  have k4:RK X.K ad G2 H2 (if z.length<=LIM then(match(ixD z.cps.toList.length i).bind fun j=>z.cps.toList[j]? with | some c=> .ok (.str ⟨#[c]⟩) | none=> .bad) else .bad) Q E:=k3
  unfold Rep at q2;subst q2
  by_cases hc:z.length<=LIM
  ·rw [if_pos hc] at k4
   cases e3:(ixD z.cps.toList.length i).bind fun j=>z.cps.toList[j]? with
   | none=>rw [e3] at k4;exact k4.elim
   | some c=>
    rw [e3] at k4
    rcases q1' with q1' | ⟨_,_,_,w,_⟩
    ·unfold Rep at q1';subst q1'
     exact aH9 a b pins s2 σ H2 _ _ v u Q I2 r1 r2 ⟨z,i,c,rfl,rfl,Nat.le_trans hc (by decide),e3,k4.ok_now st2.gh j0⟩ (hs _ _)
    ·cases w
  ·rw [if_neg hc] at k4
   exact k4.elim
 | some ds=>
  rw [e] at k2
  cases d2<;>try exact k2.elim
  rename_i i
  unfold Rep at q2;subst q2
  obtain⟨p,vs,rfl,hq,rq⟩:=q1'.items st2.gh e
  have hr2:RK X.K ad G2 H2 (match(ixD ds.length i).bind fun j=>ds[j]? with | some d=> .ok d | none=> .bad) Q E:=k2
  cases e3:(ixD ds.length i).bind fun j=>ds[j]? with
  | none=>rw [e3] at hr2;exact hr2.elim
  | some d=>
   rw [e3] at hr2
   obtain⟨j,e4,e5⟩:=zBd e3
   obtain⟨w,e6,r6⟩:=rq.get e5
   have hat:atI vs i=some w:=by
    unfold atI
    rw [rq.length, <-sN,e4]
    exact e6
   rcases hq with ⟨_,hq⟩ | ⟨_,hq⟩
   ·exact aH8 a b pins s2 σ H2 _ _ v u Q I2 r1 r2 ⟨p,vs,i,w,rfl,rfl,hq,hat,hr2.ok_now st2.gh r6⟩ (hs _ _)
   ·exact aDs a b pins s2 σ H2 _ _ v u Q I2 r1 r2 ⟨p,vs,i,w,rfl,rfl,hq,hat,hr2.ok_now st2.gh r6⟩ (hs _ _)
theorem gC {prog:Program} {w:World} {A:Around} {Ex:Value->Shared->Prop} {s:Shared} {t sl:Addr} {items:Array Value} {vl vu:Value} {lo hi:Option Int} {Q:Value->Shared->Prop} (ht:IsTup s.heap t items) (hs:s.heap.IsSliceOf sl vl vu .none)
  (pl:IsPart vl lo) (pu:IsPart vu hi) (hw:HT.sIx items.size 0 lo=0/\HT.sIx items.size items.size hi=items.size) (h:Q (.ref t) s) (hsz:items.size<=sizeLine):wpAny (model prog w) A (getItem (.ref t) (.ref sl)) Q Ex s:=by
 obtain⟨os,hos,hcs,hds⟩:=id hs
 have ts:s.TypeIs (.ref sl) "slice":=⟨os,hos,hcs⟩
 unfold getItem
 try with_reducible refine wpAny_holding ?_
 first | refine aa (ae ?_) | skip
 refine aa (wpAny_sequenceKey ht.typeIs (by decide) ?_)
 refine aa (wpAny_callSpecial?_slot (name:=Str.ofString "__getitem__") ht.typeIs PyProof.Rows.slot_tuple_getitem
  (wpAny_call_entry PyProof.Rows.slot_tuple_getitem ht.typeIs entry_tuple_getitem ?_ (args_tuple_getitem _ _)))
 show wpAny _ _ (Builtin.Tuple.tupleItemsOf (.ref t) >>= _) _ _ s
 refine aa (tupleItemsOf_ ht ?_)
 refine aa (wpAny_typeOf ts ?_)
 rw [if_pos (by decide)]
 refine aa (HT.sliceApplied_gen hs pl pu ?_)
 have yes:(((HT.sIx items.size 0 lo:Nat):Int)==0&&(1:Int)==1&&(HT.sIx items.size items.size hi - HT.sIx items.size 0 lo)==items.size)=true:=by
  rw [hw.1,hw.2]
  simp
 show wpAny _ _ (if(((HT.sIx items.size 0 lo:Nat):Int)==0&&(1:Int)==1&&(HT.sIx items.size items.size hi - HT.sIx items.size 0 lo)==items.size)=true then _ else _) _ _ s
 rw [if_pos yes]
 unfold Builtin.Tuple.tupleIsExact
 refine aa (m:=(do let z<-typeOf (.ref t);return z== .type "tuple")) (aa (wpAny_typeOf ht.typeIs (ae ?_)))
 rw [if_pos (by decide)]
 first
  | exact aa (wpAny_rule (aa (ae (ae ⟨_,rfl,ae h⟩))))
  | exact aa (wpAny_rule (ae ⟨_,rfl,ae h⟩))
  | exact aa (aa (wpAny_rule (ae (ae ⟨_,rfl,ae h⟩))))
  | skip
theorem sO: ∀ {ds:List D} {vs:List V} (lo hi:Option Int),aE X.K ad G ds vs->aE X.K ad G (aAh ds lo hi) (zR vs lo hi):=by
 intro ds vs lo hi r
 unfold aAh zR
 rw [r.length]
 exact(r.drop _).take _
theorem aMz (l u:Option Int) (n:Nat):Builtin.Str.strSliceIndices l u 1 n=(List.range (cE n n u - cE n 0 l)).map fun k=>cE n 0 l+k:=by
 have hlo: ∀ (d:Nat) (v:Option Int),d<=n->(match v with | none=>(d:Int) | some i=>max 0 (min (if i<0 then i+n else i) (n:Int)))=((cE n d v:Nat):Int):=fun d v hd=>by
  cases v with
  | none=>rfl
  | some i=>
   show max 0 (min (if i<0 then i+n else i) (n:Int))=(((if i<0 then(i+n).toNat else min i.toNat n):Nat):Int)
   split<;>omega
 have e:Builtin.Str.strSliceIndices l u 1 n=sliceRange ((cE n 0 l:Nat):Int) ((cE n n u:Nat):Int) 1:=by
  rw [<-hlo 0 l (bp _), <-hlo n u (aj _)]
  cases l<;>cases u<;>rfl
 rw [e]
 unfold sliceRange
 have e2:(if(1:Int) > 0 then(if((cE n 0 l:Nat):Int)<((cE n n u:Nat):Int) then(((cE n n u:Nat):Int) - ((cE n 0 l:Nat):Int)+1 - 1) / 1 else 0) else(if((cE n 0 l:Nat):Int) > ((cE n n u:Nat):Int) then(((cE n 0 l:Nat):Int) - ((cE n n u:Nat):Int) - 1 - 1) / (-1) else 0):Int).toNat=cE n n u - cE n 0 l:=by
  rw [if_pos (by decide)]
  split<;>omega
 show(List.range (if(1:Int) > 0 then _ else _:Int).toNat).map _=_
 rw [e2]
 refine List.map_congr_left fun k _=> ?_
 show(((cE n 0 l:Nat):Int)+1 * (k:Int)).toNat=_
 omega
theorem gT {α:Type} (xs:List α): ∀ (m a:Nat),((List.range m).map fun k=>a+k).filterMap (xs[·]?)=(xs.drop a).take m
 | 0,a=>by simp
 | m+1,a=>by
  rw [List.range_succ,List.map_append,List.filterMap_append,gT xs m a,List.take_succ]
  congr 1
  show List.filterMap (xs[·]?) [a+m]=_
  rw [List.getElem?_drop]
  cases e:xs[a+m]? <;>simp [e]
theorem wP (z:Str) (lo hi:Option Int):Txt.slice z lo hi=⟨(aAi z.cps.toList lo hi).toArray⟩:=by
 have e0:z.length=z.cps.toList.length:=by simp [Str.length]
 have e1:((Builtin.Str.strSliceIndices lo hi 1 z.length).filterMap (z.cps[·]?))=aAi z.cps.toList lo hi:=by
  rw [aMz]
  unfold aAi
  rw [<-e0, <-gT]
  refine congrArg (fun f=>List.filterMap f _) (funext fun k=> ?_)
  simp
 unfold Txt.slice
 split
 ·rename_i h
  have h2:(Builtin.Str.strSliceIndices lo hi 1 z.length).length=z.length:=by simpa using h
  refine PySem.Str.ext' ?_
  show z.cps=(aAi z.cps.toList lo hi).toArray
  rw [aMz,am,List.length_range] at h2
  unfold aAi
  rw [<-e0,h2]
  have:cE z.length z.length hi<=z.length:=by
   unfold cE
   cases hi with
   | none=>exact aj _
   | some v=>simp only [];split<;>omega
  by_cases hz:z.length=0
  ·have hn:z.cps.toList=[]:=List.eq_nil_of_length_eq_zero (by rw [<-e0];exact hz)
   rw [hn]
   simpa using hn
  have ha:cE z.length 0 lo=0:=by omega
  rw [ha,List.drop_zero,e0,List.take_length]
 ·rw [e1]
def aLp (X:Cx) (x:V) (lo hi:Option Int) (H:Hp) (Q:VK):Prop:=(∃ a vs,x= .ref a/\((SqT X.K H a vs/\(HT.sIx vs.length 0 lo=0/\HT.sIx vs.length vs.length hi=vs.length->Q (.ref a) H)/\ ∀ p,H p=none->Q (.ref p) (upd H p (.tup (zR vs lo hi))))\/
  (SqL X.K H a vs/\ ∀ p,H p=none->Q (.ref p) (upd H p (.lst (zR vs lo hi))))))\/ ∃ z,x= .str z/\z.length<=LIM/\Q (.str ⟨(aAi z.cps.toList lo hi).toArray⟩) H
theorem wQ {v:Value} {o:Option Int} (h:IsPart v o): ∃ l:Option (Int×Tok),v=partValue l/\l.map (·.1)=o:=by
 cases h with
 | none=>exact⟨none,rfl,rfl⟩
 | int i t=>exact⟨some (i,t),rfl,rfl⟩
theorem aEi:SlR X (fun x lo hi H Q=> ∃ z,x= .str z/\z.length<=LIM/\Q (.str ⟨(aAi z.cps.toList lo hi).toArray⟩) H):=by
 intro pins s σ H x v vl vu lo hi sl Q I rx hs pl pu q
 obtain⟨z,rfl,hz,q⟩:=q
 obtain⟨t,rfl⟩:=(show ∃ t,v=Value.str z t from rx)
 obtain⟨l,rfl,rfl⟩:=wQ pl
 obtain⟨u,rfl,rfl⟩:=wQ pu
 obtain⟨os,hos,hcs,hds⟩:=hs
 refine⟨"str",_,F.slot_str_getitem.lookup,typeIs_str _ _ _,wpAny_getItem_str_slice (l:=l) (u:=u) (st:=none) ⟨os,hos,hcs,hds⟩ rfl ?_⟩
 have hz':z.length<=sizeLine:=Nat.le_trans hz (by decide)
 refine post_val_or_str ⟨Nat.le_trans (Txt.slice_le z _ _) hz',fun t' k=> ?_⟩
 rw [<-wP] at q
 exact⟨.str _,H,I.tok k,⟨t',rfl⟩,q⟩
theorem aI0:SlR X (aLp X):=by
 intro pins s σ H x v vl vu lo hi sl Q I rx hs pl pu q
 obtain⟨a,vs,rfl,⟨hq,q1,q2⟩ | ⟨hq,q⟩⟩ | q:=q
 ·by_cases hw:HT.sIx vs.length 0 lo=0/\HT.sIx vs.length vs.length hi=vs.length
  ·cases rx
   obtain⟨its,r,ht,hz⟩:=I.tuple hq
   have hlen:its.toArray.size=vs.length:=by rw [au];exact r.length.symm
   refine⟨"tuple",_,PyProof.Rows.slot_tuple_getitem.lookup,ht.typeIs, ?_⟩
   refine gC ht hs pl pu (by rw [hlen];exact hw) ⟨.ref a,H,I,rfl,q1 hw⟩ (by rw [hlen];exact hz)
  ·exact aH7 pins s σ H _ v vl vu lo hi sl Q I rx hs pl pu ⟨a,vs,rfl,hq,hw,q2⟩
 ·exact aDt pins s σ H _ v vl vu lo hi sl Q I rx hs pl pu ⟨a,vs,rfl,hq,q⟩
 ·exact aEi pins s σ H x v vl vu lo hi sl Q I rx hs pl pu q
theorem sP {x:D} {v:V} {lo hi:Option Int} (q:Seq X ad G H x v) (hG:Same G H) (hr:RK X.K ad G H (aIc x lo hi) Q E):
  aLp X v lo hi H Q:=by
 cases x with
 | tup ds=>
  rcases q with q | ⟨_,_,_,z,_⟩
  ·unfold Rep at q
   obtain⟨a,vs,rfl,hq,rq⟩:=q
   refine .inl ⟨a,vs,rfl, .inl ⟨hG.seqT hq,fun e=> ?_,fun p hp=>RK.tup_new (xs:=aAh ds lo hi) hr hG (sO lo hi rq) hp⟩⟩
   refine RK.ok_now (d:= .tup (aAh ds lo hi)) hr hG ?_
   have e':aAh ds lo hi=ds:=by
    rw [rq.length] at e
    have e1:cE ds.length 0 lo=0:=e.1
    have e2:cE ds.length ds.length hi=ds.length:=e.2
    unfold aAh
    rw [e1,e2]
    simp
   rw [e']
   unfold Rep
   exact⟨a,vs,rfl,hq,rq⟩
  ·cases z
 | lst ds=>
  obtain⟨a,vs,rfl,hq,rq⟩:=q.items hG (rfl:items (.lst ds)=some ds)
  rcases hq with ⟨z,_⟩ | ⟨_,hq⟩
  ·cases z
  ·exact .inl ⟨a,vs,rfl, .inr ⟨hq,fun p hp=>RK.ow_new (xs:=aAh ds lo hi) hr hG (sO lo hi rq) hp⟩⟩
 | str z=>
  have hr':RK X.K ad G H (if z.length<=LIM then .ok (.str ⟨(aAi z.cps.toList lo hi).toArray⟩) else .bad) Q E:=hr
  by_cases hc:z.length<=LIM
  ·rw [if_pos hc] at hr'
   rcases q with q | ⟨_,_,_,w,_⟩
   ·unfold Rep at q;subst q
    exact .inr ⟨z,rfl,hc,hr'.ok_now hG j0⟩
   ·cases w
  ·rw [if_neg hc] at hr'
   exact hr'.elim
 | _=>exact ax hr
theorem aI1 {l u:Option Expr} {fl fu:Option F} {p2:Pos} (ha:MLk X ad a f) (hl:match l,fl with | none,none=>True | some e,some k=>ME X ad e k | _,_=>False) (hu:match u,fu with | none,none=>True | some e,some k=>ME X ad e k | _,_=>False):
  ME X ad (.Subscript a (.Slice l u none p2) pos) (wD f fl fu):=by
 intro pins s σ H Q I ⟨G,ρ,E,hG,hS,hx,hr⟩
 -- the value first
 have key: ∀ (k:D->R),RK X.K ad G H ((f ρ).bind k) Q E->(∀ (pins:List (Addr×Obj)) (s1:Shared) (x:V) (d:D) (G1 H1:Hp),Inv X pins σ H1 s1->Step G H G1 H1->Seq X ad G1 H1 d x->RK X.K ad G1 H1 (k d) Q E->
   wpAny (model X.prog X.w) X.A (evalPart l X.env) (fun vl s2=>wpAny (model X.prog X.w) X.A (evalPart u X.env) (fun vu s3=> ∃ lo hi H3,Inv X pins σ H3 s3/\IsPart vl lo/\IsPart vu hi/\
    aLp X x lo hi H3 Q) X.xe s2) X.xe s1)->
   wpAny (model X.prog X.w) X.A (eval (.Subscript a (.Slice l u none p2) pos) X.env) (EP X pins σ Q) X.xe s:=fun k hk go=>by
  refine Subscript_ (L2.thn (ha pins s σ H G ρ k Q E I hG hS hx hk) fun v s1 hz_=> ?_)
  obtain⟨x,d1,G1,H1,I1,r1,st1,q1,k1⟩:=hz_
  refine wpAny_Slice (L2.thn (go pins s1 x d1 G1 H1 I1 st1 q1 k1) fun vl s2 h2=>L2.thn h2 fun vu s3 hz_=> ?_)
  obtain⟨lo,hi,H3,I3,pl,pu,q3⟩:=hz_
  rw [evalPart_none]
  refine ae ?_
  have I4:Inv X pins σ H3 { s3 with heap:=s3.heap.push { cls:= .type "slice",data:= .fields #[vl,vu, .none] } }:=I3.kept (t':=s3.toks) fun b ob q=>af _ q
  obtain⟨T,id,hT,ht,hg⟩:=aI0 pins { s3 with heap:=s3.heap.push { cls:= .type "slice",data:= .fields #[vl,vu, .none] } } σ H3 x v vl vu lo hi s3.heap.objs.size Q I4 r1 (Heap.IsSliceOf.new ..) pl pu q3
  show wpAny (model X.prog X.w) X.A (subscriptTail a (.Slice l u none p2) v (.ref s3.heap.objs.size)) (EP X pins σ Q) X.xe { s3 with heap:=s3.heap.push { cls:= .type "slice",data:= .fields #[vl,vu, .none] } }
  exact tail_any (ops:=[.ref s3.heap.objs.size,v]) ht hT hg (by with_unfolding_all rfl)
 unfold wD at hr
 refine key _ hr fun pins s1 x d G1 H1 I1 st1 q1 k1=> ?_
 cases l with
 | none=>
  cases fl with
  | some _=>exact hl.elim
  | none=>
   rw [evalPart_none]
   refine ae ?_
   cases u with
   | none=>
    cases fu with
    | some _=>exact hu.elim
    | none=>
     rw [evalPart_none]
     exact ae ⟨none,none,H1,I1, .none, .none,sP q1 st1.gh k1⟩
   | some e=>
    cases fu with
    | none=>exact hu.elim
    | some k=>
     rw [evalPart_some]
     refine L2.thn (ME.thn hu I1 st1.gh (hS.step st1) hx k1) fun vu s2 hz_=> ?_
     obtain⟨y,d2,G2,H2,I2,r2,st2,q2,k2⟩:=hz_
     cases d2<;>try exact ax k2
     rename_i j
     unfold Rep at q2;subst q2
     obtain⟨t,rfl⟩:=r2
     exact⟨none,some j,H2,I2, .none, .int j t,sP (Seq.step q1 st2) st2.gh k2⟩
 | some e=>
  cases fl with
  | none=>exact hl.elim
  | some k=>
   cases u with
   | none=>
    cases fu with
    | some _=>exact hu.elim
    | none=>
     rw [evalPart_some]
     refine L2.thn (ME.thn hl I1 st1.gh (hS.step st1) hx k1) fun vu s2 hz_=> ?_
     obtain⟨y,d2,G2,H2,I2,r2,st2,q2,k2⟩:=hz_
     cases d2<;>try exact ax k2
     rename_i j
     unfold Rep at q2;subst q2
     obtain⟨t,rfl⟩:=r2
     rw [evalPart_none]
     exact ae ⟨some j,none,H2,I2, .int j t, .none,sP (Seq.step q1 st2) st2.gh k2⟩
   | some e'=>
    cases fu with
    | none=>exact hu.elim
    | some k'=>
     rw [evalPart_some]
     refine L2.thn (ME.thn hl I1 st1.gh (hS.step st1) hx k1) fun vu s2 hz_=> ?_
     obtain⟨y,d2,G2,H2,I2,r2,st2,q2,k2⟩:=hz_
     cases d2<;>try exact ax k2
     rename_i j
     unfold Rep at q2;subst q2
     obtain⟨t,rfl⟩:=r2
     rw [evalPart_some]
     refine L2.thn (ME.thn hu I2 st2.gh ((hS.step st1).step st2) hx k2) fun vu s3 hz_=> ?_
     obtain⟨y3,d3,G3,H3,I3,r3,st3,q3,k3⟩:=hz_
     cases d3<;>try exact ax k3
     rename_i j'
     unfold Rep at q3;subst q3
     obtain⟨t',rfl⟩:=r3
     exact⟨some j,some j',H3,I3, .int j t, .int j' t',sP (Seq.step (Seq.step q1 st2) st3) st3.gh k3⟩
end
section
variable {X:Cx} {ad:Ad} {pins:List (Addr×Obj)} {s:Shared} {σ:St} {H G:Hp} {ρ:Rho} {Q:VK} {E:Nat->Hp->Prop} {pos p:Pos} {a b c:Expr} {f g h:F}
theorem RK.impE {K:PySem.W.Frag} {r:R} {E E':Nat->Hp->Prop} (h:RK K ad G H r Q E) (k: ∀ c H',E c H'->E' c H'):RK K ad G H r Q E':=by
 cases r with
 | ok d=>exact h
 | ow xs=>exact h
 | ex c=>exact fun G' H' st=>k c H' (h G' H' st)
 | bad=>exact h
def LK (X:Cx) (ad:Ad) (G H:Hp) (r:R) (Q:VK) (E:Nat->Hp->Prop):Prop:=match r with
 | .ok d=> ∀ v G' H',Step G H G' H'->Seq X ad G' H' d v->Q v H'
 | .ow xs=> ∀ p vs G' H',Step G H G' H'->H p=none->G' p=none->H' p=some (.lst vs)->aE X.K ad G' xs vs->Q (.ref p) H'
 | .ex c=> ∀ G' H',Step G H G' H'->E c H'
 | .bad=>False
noncomputable def tL (X:Cx) (ad:Ad) (f:F):TE:=fun σ H Q=> ∃ G ρ E,Same G H/\SL X.K ad G H ρ σ/\XP X ad σ E/\LK X ad G H (f ρ) Q E
abbrev ML (X:Cx) (ad:Ad) (e:Expr) (f:F):Prop:=PE X e (tL X ad f)
theorem LK.rk {r:R} (h:LK X ad G H r Q E):RK X.K ad G H r Q E:=by
 cases r with
 | ok d=>exact fun v G' H' st q=>h v G' H' st (.inl q)
 | ow xs=>exact h
 | ex c=>exact h
 | bad=>exact h
theorem ME.ml (ha:ME X ad a f):ML X ad a f:=PE.imp ha fun σ H Q ⟨G,ρ,E,hG,hS,hx,hr⟩=>⟨G,ρ,E,hG,hS,hx,hr.rk⟩
theorem aEj {i:Nat} {x:Str} (hN:X.N[i]? =some x) (hv:Vis X.env.scope x) (hd:(x==("__debug__":Str))=false) (hcd:(x==("__classdict__":Str))=false):ML X ad (.Name x pos) (aD i):=by
 intro pins s σ H Q I ⟨G,ρ,E,hG,hS,hx,hr⟩
 unfold aD at hr
 cases e:ρ[i]? with
 | none=>
  rw [e] at hr
  exact hr.elim
 | some sl=>
  rw [e] at hr
  cases sl with
  | no=>exact hr.elim
  | ow xs=>
   obtain⟨p,vs,h1,h2,h3,h4⟩:=hS.ow e
   exact d6 hN hv hd hcd pins s σ H Q I ⟨.ref p,h1,hr (.ref p) G H (Step.refl hG) (.inr ⟨p,vs,xs,rfl,rfl,h2,h3,h4⟩)⟩
  | sh d=>
   obtain⟨w,h1,h2⟩:=hS.sh e
   exact d6 hN hv hd hcd pins s σ H Q I ⟨w,h1,hr w G H (Step.refl hG) (.inl h2)⟩
theorem ML.lk (ha:ML X ad a f):MLk X ad a f:=by
 intro pins s σ H G ρ k Q E I hG hS hx hr
 cases e:f ρ with
 | ok d=>
  rw [e] at hr
  refine L2.thn (ha pins s σ H (fun v H1=> ∃ G1,Step G H G1 H1/\Seq X ad G1 H1 d v) I ⟨G,ρ,E,hG,hS,hx,by rw [e];exact fun v G1 H1 st q=>⟨G1,st,q⟩⟩) fun u s1 ⟨v,H1,I1,r1,G1,st,q⟩=> ?_
  exact⟨v,d,G1,H1,I1,r1,st,q,RK.step hr st⟩
 | ow xs=>
  rw [e] at hr
  refine L2.thn (ha pins s σ H (fun v H1=> ∃ G1,Step G H G1 H1/\Rep X.K ad G1 (.lst xs) v) I ⟨G,ρ,E,hG,hS,hx,by rw [e];exact fun p vs G1 H1 st n m e' q=>cO st n m e' q⟩) fun u s1 ⟨v,H1,I1,r1,G1,st,q⟩=> ?_
  exact⟨v, .lst xs,G1,H1,I1,r1,st, .inl q,RK.step hr st⟩
 | ex c=>
  rw [e] at hr
  refine L2.thn (ha pins s σ H (fun v H1=>False) I ⟨G,ρ,E,hG,hS,hx,by rw [e];exact hr⟩) fun u s1 ⟨v,H1,I1,r1,q⟩=>q.elim
 | bad=>
  rw [e] at hr
  exact ax hr
theorem rB {k:D->R} {σ:St} {H:Hp} {Q Q':VK} (hG:Same G H) (hS:SL X.K ad G H ρ σ) (hx:XP X ad σ E) (hr:RK X.K ad G H ((f ρ).bind k) Q E)
  (q: ∀ v d G1 H1,Step G H G1 H1->Seq X ad G1 H1 d v->RK X.K ad G1 H1 (k d) Q E->Q' v H1):tL X ad f σ H Q':=by
 refine⟨G,ρ,E,hG,hS,hx, ?_⟩
 cases e:f ρ with
 | ok d=>
  rw [e] at hr
  exact fun v G1 H1 st r=>q v d G1 H1 st r (RK.step hr st)
 | ow xs=>
  rw [e] at hr
  intro p vs G1 H1 st n m e' r
  obtain⟨G2,st2,r2⟩:=cO (X:=X) (ad:=ad) st n m e' r
  exact q _ _ G2 H1 st2 (.inl r2) (RK.step hr st2)
 | ex c=>
  rw [e] at hr
  exact hr
 | bad=>
  rw [e] at hr
  exact hr
theorem gU {k:List D->R}:mM [f] ρ k=(f ρ).bind fun x=>k [x]:=by
 unfold mM args
 cases f ρ<;>rfl
def BOp (X:Cx) (ad:Ad) (fv:Value) (r:Fn):Prop:=
 ∀ (pins:List (Addr×Obj)) (s:Shared) (σ:St) (H G:Hp) (x:D) (v:V) (u:Value) (Q:VK) (E:Nat->Hp->Prop),Inv X pins σ H s->Same G H->Seq X ad G H x v->bF v u->RK X.K ad G H (r [x]) Q E->
  wpAny (model X.prog X.w) X.A (call fv [u]) (EP X pins σ Q) X.xe s
theorem iO {x:Str} {id:String} {r:Fn} (ho:BOp X ad (.builtin id) r) (hg:L2.Gl X x) (hm:X.mg x=none) (hv:bootBuiltins x=some (.builtin id)) (ha:ML X ad a f) (hn:x≠"__name__") (hdb:(x==("__debug__":Str))=false)
  (he:starEach [a] X.env=(false,eval a X.env)::starEach [] X.env):ME X ad (.Call (.Name x p) [a] [] pos) (aA r [f]):=by
 intro pins s σ H Q I ⟨G,ρ,E,hG,hS,hx,hr⟩
 refine wpAny_Call_Name_kw (eW I hg hm hv ?_ hn hdb)
 unfold aA at hr
 rw [gU] at hr
 refine PyProof.Rows.callWith_builtin1 (L2.thn (bS ha dB he pos pins s σ H (fun vs H1=> ∃ v d G1,vs=[v]/\Step G H G1 H1/\Seq X ad G1 H1 d v/\RK X.K ad G1 H1 (r [d]) Q E) I ?_) fun us s1 ⟨vs,H1,I1,r1,v,d,G1,e1,st,q,k⟩=> ?_) he rfl
 ·exact rB hG hS hx hr fun v d G1 H1 st q k=>⟨v,d,G1,rfl,st,q,k⟩
 ·subst e1
  obtain⟨u,rfl,ru⟩:=iK r1
  exact ho pins s1 σ H1 G1 d v u Q E I1 st.gh q ru k
theorem wR {x:Str} {T:String} {r:Fn} (ho:BOp X ad (.type T) r) (hg:L2.Gl X x) (hm:X.mg x=none) (hv:bootBuiltins x=some (.type T)) (ha:ML X ad a f) (hn:x≠"__name__") (hdb:(x==("__debug__":Str))=false)
  (he:starEach [a] X.env=(false,eval a X.env)::starEach [] X.env):ME X ad (.Call (.Name x p) [a] [] pos) (aA r [f]):=by
 intro pins s σ H Q I ⟨G,ρ,E,hG,hS,hx,hr⟩
 refine wpAny_Call_Name_kw (eW I hg hm hv ?_ hn hdb)
 unfold aA at hr
 rw [gU] at hr
 refine PyProof.Rows.callWith_type1 (L2.thn (bS ha dB he pos pins s σ H (fun vs H1=> ∃ v d G1,vs=[v]/\Step G H G1 H1/\Seq X ad G1 H1 d v/\RK X.K ad G1 H1 (r [d]) Q E) I ?_) fun us s1 ⟨vs,H1,I1,r1,v,d,G1,e1,st,q,k⟩=> ?_) he rfl
 ·exact rB hG hS hx hr fun v d G1 H1 st q k=>⟨v,d,G1,rfl,st,q,k⟩
 ·subst e1
  obtain⟨u,rfl,ru⟩:=iK r1
  exact ho pins s1 σ H1 G1 d v u Q E I1 st.gh q ru k
theorem aEk:BOp X ad (.builtin "len") qJ:=by
 intro pins s σ H G x v u Q E I hG q ru hr
 have hr':RK X.K ad G H (match items x with | some xs=> .ok (.int xs.length) | none=>aMk x) Q E:=hr
 cases e:items x with
 | none=>
  rw [e] at hr'
  cases x with
  | str z=>
   have hr2:RK X.K ad G H (if z.length<=100000 then .ok (.int z.length) else .bad) Q E:=hr'
   by_cases hl:z.length<=100000
   ·rw [if_pos hl] at hr2
    rcases q with q | ⟨_,_,_,y,_⟩
    ·unfold Rep at q;subst q
     exact oI pins s σ H _ [u] Q I (.cons ru .nil) ⟨_,rfl,Nat.le_trans hl (by decide),hr2.ok_now hG aN⟩
    ·cases y
   ·rw [if_neg hl] at hr2;exact hr2.elim
  | _=>exact ax hr'
 | some ds=>
  rw [e] at hr'
  obtain⟨p,vs,rfl,hq,rq⟩:=q.items hG e
  have hq':SqL X.K H p vs\/SqT X.K H p vs:=hq.elim (fun z=> .inr z.2) fun z=> .inl z.2
  refine oH pins s σ H [.ref p] [u] Q I (.cons ru .nil) ⟨p,vs,rfl,hq', ?_⟩
  rw [rq.length]
  exact hr'.ok_now hG aN
theorem aEl:BOp X ad (.type "int") aId:=by
 intro pins s σ H G x v u Q E I hG q ru hr
 cases x<;>try exact ax hr
 ·rcases q with q | ⟨_,_,_,z,_⟩
  ·unfold Rep at q;subst q
   exact oB pins s σ H _ [u] Q I (.cons ru .nil) (.inr ⟨_,rfl,hr.ok_now hG aN⟩)
  ·cases z
 ·rcases q with q | ⟨_,_,_,z,_⟩
  ·unfold Rep at q;subst q
   exact oB pins s σ H _ [u] Q I (.cons ru .nil) (.inl ⟨_,rfl,hr.ok_now hG aN⟩)
  ·cases z
 ·rename_i x
  rcases q with q | ⟨_,_,_,z,_⟩
  ·unfold Rep at q;subst q
   obtain⟨t,rfl⟩:=(show ∃ t,u=Value.str x t from ru)
   have hr':RK X.K ad G H (match x.cps.toList with | [c]=>if 48<=c/\c<58 then .ok (.int ((c - 48:Nat):Int)) else .bad | _=> .bad) Q E:=hr
   split at hr'
   ·rename_i c ex
    by_cases hc:48<=c/\c<58
    ·rw [if_pos hc] at hr'
     obtain⟨d,hd,rfl⟩: ∃ d,d<10/\c=48+d:=⟨c - 48,by omega,by omega⟩
     have ex':x=⟨#[48+d]⟩:=PySem.Str.ext' (by rw [<-Array.toList_inj];exact ex)
     subst ex'
     have hn:PySem.intText? ⟨#[48+d]⟩=some (((48+d - 48:Nat):Nat):Int):=(by decide+kernel: ∀ d:Fin 10,PySem.intText? ⟨#[48+d.val]⟩=some (((48+d.val - 48:Nat):Nat):Int)) ⟨d,hd⟩
     exact PySem.W.KIN.call_text hn (by show 1<=640;decide) ⟨.int _,H,I.tok _,⟨_,rfl⟩,hr'.ok_now hG aN⟩
    ·rw [if_neg hc] at hr'
     exact hr'.elim
   ·exact hr'.elim
  ·cases z
theorem aEm:BOp X ad (.builtin "abs") aLc:=by
 intro pins s σ H G x v u Q E I hG q ru hr
 cases x<;>try exact ax hr
 rcases q with q | ⟨_,_,_,z,_⟩
 ·unfold Rep at q;subst q
  exact aAc pins s σ H _ [u] Q I (.cons ru .nil) ⟨_,rfl,hr.ok_now hG aN⟩
 ·cases z
theorem aAr:BOp X ad (.type "list") eL:=by
 intro pins s σ H G x v u Q E I hG q ru hr
 have hr':RK X.K ad G H (match items x with | some xs=> .ow xs | none=> .bad) Q E:=hr
 cases e:items x with
 | none=>rw [e] at hr';exact hr'.elim
 | some ds=>
  rw [e] at hr'
  obtain⟨p,vs,rfl,hq,rq⟩:=q.items hG e
  have hq':SqL X.K H p vs\/SqT X.K H p vs:=hq.elim (fun z=> .inr z.2) fun z=> .inl z.2
  exact oJ pins s σ H [.ref p] [u] Q I (.cons ru .nil) ⟨p,vs,rfl,hq',fun l hl=>hr'.ow_new hG rq hl⟩
theorem wS:BOp X ad (.type "tuple") cG:=by
 intro pins s σ H G x v u Q E I hG q ru hr
 have hr':RK X.K ad G H (match items x with | some xs=> .ok (.tup xs) | none=> .bad) Q E:=hr
 cases e:items x with
 | none=>rw [e] at hr';exact hr'.elim
 | some ds=>
  rw [e] at hr'
  obtain⟨p,vs,rfl,hq,rq⟩:=q.items hG e
  rcases hq with ⟨e2,hq⟩ | ⟨e2,hq⟩
  ·refine gQ pins s σ H [.ref p] [u] Q I (.cons ru .nil) ⟨p,vs,rfl, .inr ⟨hq,hr'.ok_now hG ?_⟩⟩
   rcases q with q | ⟨_,_,_,z,_⟩
   ·rw [e2] at q;exact q
   ·rw [e2] at z;cases z
  ·exact gQ pins s σ H [.ref p] [u] Q I (.cons ru .nil) ⟨p,vs,rfl, .inl ⟨hq,fun l hl=>hr'.tup_new hG rq hl⟩⟩
theorem j6: ∀ {ds:List D} {ns:List Int} {vs:List V},cI ds=some ns->aE X.K ad G ds vs->vs=ns.map V.int
 | [],ns,vs,e,r=>by
  cases e
  unfold aE at r
  exact r
 | d::ds,ns,vs,e,r=>by
  cases d<;>try (unfold cI at e;cases e)
  rename_i i
  unfold cI at e
  obtain⟨ms,e1,e2⟩:=zMd e
  subst e2
  unfold aE at r
  obtain⟨v,r',rfl,r1,r2⟩:=r
  unfold Rep at r1
  subst r1
  rw [j6 e1 r2]
  rfl
theorem lT: ∀ {ds:List D} {ns:List Bool} {vs:List V},gR ds=some ns->aE X.K ad G ds vs->vs=ns.map V.bl
 | [],ns,vs,e,r=>by
  cases e
  unfold aE at r
  exact r
 | d::ds,ns,vs,e,r=>by
  cases d<;>try (unfold gR at e;cases e)
  rename_i i
  unfold gR at e
  obtain⟨ms,e1,e2⟩:=zMd e
  subst e2
  unfold aE at r
  obtain⟨v,r',rfl,r1,r2⟩:=r
  unfold Rep at r1
  subst r1
  rw [lT e1 r2]
  rfl
theorem mY {A:Around} (hh:A.handled=none) (I:Inv X pins σ H s) {p:Addr} {vs:List V} (hq:SqL X.K H p vs\/SqT X.K H p vs) {Ex:Value->Shared->Prop} {Q':Value->Shared->Prop}
  (k: ∀ (its:List Value) (s2:Shared) (I':Addr) (fp wr:List Addr) (Stt:Nat->Heap->Prop),aZ vs its->Walks X.prog X.w A I' fp wr its.length (fun i v=>its[i]? =some v) Stt->Stt 0 s2.heap->(∀ b∈fp,b<s2.heap.objs.size)->s2.os=s.os->s2.gens=s.gens->s2.drawn=s.drawn->
   (∀ b o,s.heap.get? b=some o->b∉wr)->(∀ b o,s.heap.get? b=some o->s2.heap.get? b=some o)->Q' (.ref I') s2):wpAny (model X.prog X.w) A (pyIter (.ref p)) Q' Ex s:=by
 rcases hq with hq | hq
 ·obtain⟨its,rv,pl,_⟩:=I.list hq
  have hlt:p<s.heap.objs.size:=by obtain⟨o,n,e,_⟩:=pl;exact ah e
  refine wpAny_pyIter_list pl.isList (k its _ s.heap.objs.size [s.heap.objs.size,p] [s.heap.objs.size] (fun i h=>h.IsListIter s.heap.objs.size p i/\h.IsList p its.toArray) rv ?_ (And.intro ⟨_,ag _ rfl,rfl,rfl⟩ ?_) ?_ rfl rfl rfl ?_ ?_)
  ·have W:=Walks.list (prog:=X.prog) (w:=X.w) hh s.heap.objs.size p (bf hlt) its.toArray
   simpa using W
  ·obtain⟨o,n,e,c,d⟩:=pl
   exact⟨o,af _ e,c,n,d.2⟩
  ·intro b hb
   rcases aq.mp hb with rfl | hb
   ·rw [ai];exact Nat.lt_succ_self _
   ·have:b=p:=by simpa using hb
    subst this
    rw [ai];exact Nat.lt_succ_of_lt hlt
  ·intro b o e hb
   have:b=s.heap.objs.size:=by simpa using hb
   subst this
   exact absurd (ah e) (Nat.lt_irrefl _)
  ·exact fun b o e=>af _ e
 ·obtain⟨its,rv,pl,_⟩:=I.tuple hq
  have hlt:p<s.heap.objs.size:=pl.lt
  refine wpAny_pyIter_tuple (show s.heap.IsTuple p its.toArray from pl) (k its _ s.heap.objs.size [s.heap.objs.size,p] [s.heap.objs.size] (fun i h=>h.IsTupleIter s.heap.objs.size p i/\h.IsTuple p its.toArray) rv ?_ (And.intro ⟨_,ag _ rfl,rfl,rfl⟩ ?_) ?_ rfl rfl rfl ?_ ?_)
  ·have W:=Walks.tuple (prog:=X.prog) (w:=X.w) hh s.heap.objs.size p (bf hlt) its.toArray
   simpa using W
  ·obtain⟨o,e,c⟩:=pl
   exact⟨o,af _ e,c⟩
  ·intro b hb
   rcases aq.mp hb with rfl | hb
   ·rw [ai];exact Nat.lt_succ_self _
   ·have:b=p:=by simpa using hb
    subst this
    rw [ai];exact Nat.lt_succ_of_lt hlt
  ·intro b o e hb
   have:b=s.heap.objs.size:=by simpa using hb
   subst this
   exact absurd (ah e) (Nat.lt_irrefl _)
  ·exact fun b o e=>af _ e
end
section
variable {X:Cx} {ad:Ad} {pins:List (Addr×Obj)} {s:Shared} {σ:St} {H G:Hp} {ρ:Rho} {Q:VK} {E:Nat->Hp->Prop} {pos p:Pos} {a b c:Expr} {f g h:F}
theorem _root_.L2.Inv.moved {wr:List Addr} {s2 s':Shared} (I:Inv X pins σ H s) (k1: ∀ b o,s.heap.get? b=some o->s2.heap.get? b=some o) (k2: ∀ b o,s.heap.get? b=some o->b∉wr) (e1:s2.os=s.os) (e2:s2.gens=s.gens) (e3:s2.drawn=s.drawn)
  (m:Moved wr (fun a b=>b=a) s2 s'):Inv X pins σ H s':=by
 have e:s'={ s with heap:=s'.heap,toks:=s'.toks }:=by
  obtain⟨h',g',d',t',o'⟩:=s'
  obtain⟨m1,m2,m3,m4,m5⟩:=m
  simp only at m2 m3 m4 ⊢
  rw [m2,m3,m4,e1,e2,e3]
 rw [e]
 exact I.kept fun b o q=>m.heap b o (k2 b o q) (k1 b o q)
theorem wT {ns:List Int} {its:List Value} (r:aZ (ns.map V.int) its) {i:Nat} {v:Value} (e:its[i]? =some v): ∃ t,v= .int (ns.getD i 0) t:=by
 have hl:=r.length
 have hi:i<its.length:=(av.mp e).1
 have hi':i<ns.length:=by rw [am] at hl;omega
 have e1:(ns.map V.int)[i]? =some (V.int ns[i]):=by simp [hi']
 obtain⟨u,e2,t,e3⟩:=r.get e1
 rw [e] at e2
 cases e2
 refine⟨t, ?_⟩
 rw [e3]
 simp [List.getD,hi']
theorem aEn (hh:X.A.handled=none):BOp X ad (.builtin "sum") uW:=by
 intro pins s σ H G x v u Q E I hG q ru hr
 have hr':RK X.K ad G H (match(items x).bind cI with | some xs=> .ok (.int xs.sum) | none=> .bad) Q E:=hr
 cases e:items x with
 | none=>rw [e] at hr';exact hr'.elim
 | some ds=>
  rw [e] at hr'
  have hr2:RK X.K ad G H (match cI ds with | some xs=> .ok (.int xs.sum) | none=> .bad) Q E:=hr'
  cases e2:cI ds with
  | none=>rw [e2] at hr2;exact hr2.elim
  | some ns=>
   rw [e2] at hr2
   obtain⟨p,vs,rfl,hq,rq⟩:=q.items hG e
   have hq':SqL X.K H p vs\/SqT X.K H p vs:=hq.elim (fun z=> .inr z.2) fun z=> .inl z.2
   cases (show u=Value.ref p from ru)
   have ev:=j6 e2 rq
   subst ev
   refine call_sum_walkAnyS (mY (A:=X.A.in1) hh I hq' fun its s2 I' fp wr Stt rv W st hfp h1 h2 h3 h4 h5=> ?_)
   refine⟨I',fp,wr,_,its.length,_,_,fun i=>ns.getD i 0,rfl,W.toS,st,hfp,fun i v e=>wT rv e,fun s' t' m=> ?_⟩
   refine⟨.int ns.sum,H,I.moved h5 h4 h1 h2 h3 m,⟨t', ?_⟩,hr2.ok_now hG aN⟩
   rw [preSum_getD, <-rv.length,am,List.take_length]
theorem aLq {ns:List Bool} {its:List Value} (r:aZ (ns.map V.bl) its) {i:Nat} {v:Value} (e:its[i]? =some v):v= .bool (ns.getD i false):=by
 have hl:=r.length
 have hi:i<its.length:=(av.mp e).1
 have hi':i<ns.length:=by rw [am] at hl;omega
 have e1:(ns.map V.bl)[i]? =some (V.bl ns[i]):=by simp [hi']
 obtain⟨u,e2,e3⟩:=r.get e1
 rw [e] at e2
 cases e2
 have e4:v= .bool ns[i]:=e3
 rw [e4]
 simp [List.getD,hi']
theorem wU (ns:List Bool):(List.range ns.length).all (fun i=>ns.getD i false)=ns.all id:=by
 induction ns with
 | nil=>rfl
 | cons x xs ih=>
  rw [bn,List.range_succ_eq_map,List.all_cons,List.all_map,List.all_cons]
  have:(List.range xs.length).all ((fun i=>(x::xs).getD i false) ∘ Nat.succ)=xs.all id:=by
   rw [<-ih]
   rfl
  rw [this]
  rfl
theorem aEo (hh:X.A.handled=none):BOp X ad (.builtin "all") aGy:=by
 intro pins s σ H G x v u Q E I hG q ru hr
 have hr':RK X.K ad G H (match(items x).bind gR with | some xs=> .ok (.bl (xs.all id)) | none=> .bad) Q E:=hr
 cases e:items x with
 | none=>rw [e] at hr';exact hr'.elim
 | some ds=>
  rw [e] at hr'
  have hr2:RK X.K ad G H (match gR ds with | some xs=> .ok (.bl (xs.all id)) | none=> .bad) Q E:=hr'
  cases e2:gR ds with
  | none=>rw [e2] at hr2;exact hr2.elim
  | some ns=>
   rw [e2] at hr2
   obtain⟨p,vs,rfl,hq,rq⟩:=q.items hG e
   have hq':SqL X.K H p vs\/SqT X.K H p vs:=hq.elim (fun z=> .inr z.2) fun z=> .inl z.2
   cases (show u=Value.ref p from ru)
   have ev:=lT e2 rq
   subst ev
   refine call_all_walkS (mY (A:=X.A.in1) hh I hq' fun its s2 I' fp wr Stt rv W st hfp h1 h2 h3 h4 h5=> ?_)
   refine⟨I',fp,wr,_,its.length,_,_,fun i=>ns.getD i false,rfl,W.toS,st, ?_,fun s' m=> ?_⟩
   ·intro i v s' Q' E' e3 hQ
    rw [aLq rv e3]
    exact wpAny_truthy_bool hQ
   ·refine⟨.bl _,H,I.moved h5 h4 h1 h2 h3 m, ?_,hr2.ok_now hG bB⟩
    rw [<-rv.length,am,wU]
    rfl
theorem aEp {α:Type} {ds:List α} (h:ds.length=2): ∃ d e,ds=[d,e]:=by
 cases ds with
 | nil=>cases h
 | cons d r=>
  cases r with
  | nil=>cases h
  | cons e r=>
   cases r with
   | nil=>exact⟨d,e,rfl⟩
   | cons _ _=>simp at h
theorem uZ {x:Str} {id:String} {r:Fn} {op:Int->Int->Int} (hd: ∀ i j,r [.int i, .int j]= .ok (.int (op i j))) (hb0: ∀ x y Q E G H,RK X.K ad G H (r [x,y]) Q E-> ∃ i j,x= .int i/\y= .int j)
  (ho:k8 X (.builtin id) (fun xs H Q=> ∃ i j,xs=[.int i, .int j]/\Q (.int (op i j)) H)) (hg:L2.Gl X x) (hm:X.mg x=none) (hv:bootBuiltins x=some (.builtin id)) (ha:ME X ad a f) (hb:ME X ad b g) (hn:x≠"__name__")
  (hdb:(x==("__debug__":Str))=false) (he:starEach [a,b] X.env=(false,eval a X.env)::starEach [b] X.env) (he2:starEach [b] X.env=(false,eval b X.env)::starEach [] X.env):ME X ad (.Call (.Name x p) [a,b] [] pos) (aA r [f,g]):=by
 refine PE.imp (aAd (id:=id) ho hg hm hv (q8 ha (q8 hb aCp he2) he) hn hdb he (by rw [he2];rfl)) ?_
 rintro σ H Q ⟨G,ρ,E,hG,hS,hx,hr⟩
 refine q9 hG hS hx hr fun vs ds G1 H1 st rq hl k=> ?_
 obtain⟨d,e,rfl⟩:=aEp hl
 obtain⟨i,j,rfl,rfl⟩:=hb0 d e Q E G1 H1 k
 unfold aE at rq
 obtain⟨v,r',rfl,r1,r2⟩:=rq
 unfold aE at r2
 obtain⟨v',r'',rfl,r3,r4⟩:=r2
 unfold aE at r4
 subst r4
 unfold Rep at r1 r3
 subst r1;subst r3
 rw [hd] at k
 exact⟨i,j,rfl,k.ok_now st.gh aN⟩
noncomputable def zT (K:PySem.W.Frag) (ad:Ad) (n:Nat) (F:Fn):Sp:=fun vs H Q E=> ∃ G ds,Same G H/\aE K ad G ds vs/\ds.length=n/\RK K ad G H (F ds) Q (fun c H'=>E (.ref (ad.cls c)) none H')
theorem rC {CX:CXT} {k:Nat} {f:Addr} {fd:FuncData} {ps:List Str} {sp:Sp} {E:XK} {us:List Value} {vs:List V} (F:FnOk X.prog X.w X.K X.mg X.base CX k f fd ps sp) (hr:Room k X.A) (hb:gA X.K fd ps [])
  (I:Inv X pins σ H s) (r:aZ vs us) (h:sp vs H Q E) (hx: ∀ e s',CX X.stack H s E e s'->X.xe e s'):wpAny (model X.prog X.w) X.A (call (.ref f) us) (EP X pins σ Q) X.xe s:=by
 have hl:(us++[]).length=ps.length:=by rw [List.append_nil, <-r.length];exact F.len _ _ _ _ h
 refine wpAny_call (codeAny_mono (F.run X.A X.stack s H ⟨us,[]⟩ us vs Q E hr I.env0 (by have:=hb s us I.kIn hl;rwa [List.append_nil] at this) r h) fun r s' hq=> ?_)
 cases r with
 | error e=>exact hx e s' hq
 | ok fl=>
  cases fl with
  | ret u=>exact I.after hq
  | next=>exact ax hq
  | brk=>exact ax hq
  | cont=>exact ax hq
structure FnGood (X:Cx) (ad:Ad) (k:Nat) (x:Str) (n:Nat) (F:Fn) (f:Addr):Prop where
 mg:X.mg x=some (.ref f)
 kp:PySem.W.keepIn X.K (.ref f)=true
 ok: ∃ fd ps,FnOk X.prog X.w X.K X.mg X.base (CXe X.prog X.w) k f fd ps (zT X.K ad n F)/\gA X.K fd ps []
theorem wV {k n:Nat} {x:Str} {F:Fn} {f:Addr} {us:List Value} {vs:List V} {ds:List D} (T:FnGood X ad k x n F f) (hr:Room k X.A) (I:Inv X pins σ H s) (hG:Same G H) (hx:XP X ad σ E) (r:aZ vs us) (rq:aE X.K ad G ds vs) (hl:ds.length=n)
  (h:RK X.K ad G H (F ds) Q E):wpAny (model X.prog X.w) X.A (call (.ref f) us) (EP X pins σ Q) X.xe s:=by
 obtain⟨fd,ps,F',hb⟩:=T.ok
 exact rC (E:=xk ad E) F' hr hb I r ⟨G,ds,hG,rq,hl,h.impE fun c H' e=>⟨c,rfl,e⟩⟩ fun e s' hc=>hx pins H s e s' I hc
theorem aEq {k n:Nat} {x:Str} {F:Fn} {f:Addr} {es:List Expr} {fs:List SK.F} (T:FnGood X ad k x n F f) (hr:Room k X.A) (hg:L2.Gl X x) (hdb:(x==("__debug__":Str))=false) (ha:MA X ad (a::es) fs) (hn:fs.length=n)
  (he:starEach (a::es) X.env=(false,eval a X.env)::starEach es X.env) (hpl:(backTo pos (starEach es X.env)).any (·.1)=false):ME X ad (.Call (.Name x p) (a::es) [] pos) (aA F fs):=by
 intro pins s σ H Q I ⟨G,ρ,E,hG,hS,hx,hr'⟩
 refine wpAny_Call_Name_kw (jQ I hg T.mg ?_ hdb)
 refine PySem.W.callWith_K (h₀:=X.base) I.ok.mod.kin T.kp (L2.thn (ha pos pins s σ H (fun vs H1=> ∃ ds G1,Step G H G1 H1/\aE X.K ad G1 ds vs/\ds.length=fs.length/\RK X.K ad G1 H1 (F ds) Q E) I
  (q9 hG hS hx hr' fun vs ds G1 H1 st rq hl k=>⟨ds,G1,st,rq,hl,k⟩)) fun us s1 ⟨vs,H1,I1,r,ds,G1,st,rq,hl,k⟩=>⟨I1.kIn, ?_⟩) he hpl
 exact wV T hr I1 st.gh hx r rq (hl.trans hn) k
structure FnAt (X:Cx) (ad:Ad) (k:Nat) (n:Nat) (F:Fn) (f:Addr):Prop where
 kp:PySem.W.keepIn X.K (.ref f)=true
 ok: ∃ fd ps,FnOk X.prog X.w X.K X.mg X.base (CXe X.prog X.w) k f fd ps (zT X.K ad n F)/\gA X.K fd ps []
theorem aEr {k n:Nat} {F:Fn} {f:Addr} {us:List Value} {vs:List V} {ds:List D} (T:FnAt X ad k n F f) (hr:Room k X.A) (I:Inv X pins σ H s) (hG:Same G H) (hx:XP X ad σ E) (r:aZ vs us) (rq:aE X.K ad G ds vs) (hl:ds.length=n)
  (h:RK X.K ad G H (F ds) Q E):wpAny (model X.prog X.w) X.A (call (.ref f) us) (EP X pins σ Q) X.xe s:=by
 obtain⟨fd,ps,F',hb⟩:=T.ok
 exact rC (E:=xk ad E) F' hr hb I r ⟨G,ds,hG,rq,hl,h.impE fun c H' e=>⟨c,rfl,e⟩⟩ fun e s' hc=>hx pins H s e s' I hc
theorem sQ {tab:List (Nat×Fn)} {e:Expr} {g:SK.F} {es:List Expr} {fs:List SK.F} (T: ∀ j n F,tab[j]? =some (n,F)-> ∃ r,FnAt X ad r n F (ad.fnA j)/\Room r X.A) (hg:ME X ad e g) (ha:MA X ad (a::es) fs)
  (he:starEach (a::es) X.env=(false,eval a X.env)::starEach es X.env) (hpl:(backTo pos (starEach es X.env)).any (·.1)=false)
  (hev:eval (.Call e (a::es) [] pos) X.env=(do callWith pos (<-eval e X.env) [] (backTo pos (starEach (a::es) X.env)) (backToKw pos (keywordEach [] X.env)))):ME X ad (.Call e (a::es) [] pos) (sH tab g fs):=by
 intro pins s σ H Q I ⟨G,ρ,E,hG,hS,hx,hr⟩
 refine Call_ (L2.thn (hg.thn I hG hS hx hr) fun u s1 ⟨v,d,G1,H1,I1,r1,st,q,k1⟩=> ?_) hev
 cases d<;>try exact ax k1
 rename_i j
 have k2:RK X.K ad G1 H1 (match tab[j]? with | some (n,f)=>if n=fs.length then mM fs ρ f else .bad | none=> .bad) Q E:=k1
 cases e1:tab[j]? with
 | none=>rw [e1] at k2;exact k2.elim
 | some nf=>
  obtain⟨n,F⟩:=nf
  rw [e1] at k2
  have k3:RK X.K ad G1 H1 (if n=fs.length then mM fs ρ F else .bad) Q E:=k2
  by_cases hn:n=fs.length
  ·rw [if_pos hn] at k3
   unfold Rep at q
   subst q
   cases (show u=Value.ref (ad.fnA j) from r1)
   obtain⟨r,FA,hro⟩:=T j n F e1
   refine PySem.W.callWith_K (h₀:=X.base) I1.ok.mod.kin FA.kp (L2.thn (ha pos pins s1 σ H1 (fun vs H2=> ∃ ds G2,Step G1 H1 G2 H2/\aE X.K ad G2 ds vs/\ds.length=fs.length/\RK X.K ad G2 H2 (F ds) Q E) I1
    (q9 st.gh (hS.step st) hx k3 fun vs ds G2 H2 st2 rq hl k=>⟨ds,G2,st2,rq,hl,k⟩)) fun us s2 ⟨vs,H2,I2,r2,ds,G2,st2,rq,hl,k⟩=>⟨I2.kIn, ?_⟩) he hpl
   exact aEr FA hro I2 st2.gh hx r2 rq (hl.trans hn.symm) k
  ·rw [if_neg hn] at k3
   exact k3.elim
end
noncomputable def qK (cells:List (Str×Addr)):List (Str×NameKind)->List (Str×Addr)->List (Str×Addr)
 | [],acc=>acc
 | (x,k)::r,acc=>qK cells r (if k== .free then(x,(cells.lookup x).getD 0)::acc else acc)
theorem mZ {cells:List (Str×Addr)}: ∀ {ns:List (Str×NameKind)} {acc:List (Str×Addr)} {x:Str} {c:Addr},(qK cells ns acc).lookup x=some c->(∃ k,(x,k)∈ns/\k= .free/\c=(cells.lookup x).getD 0)\/acc.lookup x=some c
 | [],acc,x,c,h=> .inr h
 | (y,k)::r,acc,x,c,h=>by
  rcases mZ (ns:=r) h with ⟨k',h1,h2,h3⟩ | h
  ·exact .inl ⟨k', .tail _ h1,h2,h3⟩
  ·by_cases hk:(k==NameKind.free)=true
   ·rw [if_pos hk,List.lookup_cons] at h
    cases hx:x==y with
    | true=>
     rw [hx] at h
     have e:x=y:=eq_of_beq hx
     subst e
     exact .inl ⟨k, .head _,eq_of_beq hk,(Option.some.inj h).symm⟩
    | false=>
     rw [hx] at h
     exact .inr h
   ·rw [if_neg hk] at h
    exact .inr h
theorem sR {cells:List (Str×Addr)}: ∀ {ns:List (Str×NameKind)} {acc:List (Str×Addr)} {x:Str},(acc.lookup x).isSome=true->((qK cells ns acc).lookup x).isSome=true
 | [],_,_,h=>h
 | (y,k)::r,acc,x,h=>by
  refine sR (ns:=r) ?_
  by_cases hk:(k==NameKind.free)=true
  ·rw [if_pos hk,List.lookup_cons]
   cases x==y with
   | true=>rfl
   | false=>exact h
  ·rw [if_neg hk]
   exact h
theorem m6 {cells:List (Str×Addr)}: ∀ {ns:List (Str×NameKind)} {acc:List (Str×Addr)} {x:Str},(x,NameKind.free)∈ns->((qK cells ns acc).lookup x).isSome=true
 | [],_,_,h=>nomatch h
 | (y,k)::r,acc,x,h=>by
  rcases aq.mp h with e | h
  ·cases e
   refine sR (ns:=r) ?_
   rw [if_pos (by rfl),List.lookup_cons,beq_self_eq_true]
   rfl
  ·exact m6 (ns:=r) h
theorem lU {sc:Scope} {env:PySem.Env} (h: ∀ x,(x,NameKind.free)∈sc.names->(env.cells.lookup x).isSome=true):closureFor sc env=pure (qK env.cells sc.names []):=by
 have go: ∀ (ns:List (Str×NameKind)) (acc:List (Str×Addr)),(∀ x,(x,NameKind.free)∈ns->(env.cells.lookup x).isSome=true)->
   (forIn ns acc (fun(p:Str×NameKind) (cs:List (Str×Addr))=>if p.2== .free then do let c<-cellOf env p.1;pure (ForInStep.yield ((p.1,c)::cs)) else pure (ForInStep.yield cs)):Sem (List (Str×Addr)))=pure (qK env.cells ns acc):=by
  intro ns
  induction ns with
  | nil=>intro acc _;rfl
  | cons p r ih=>
   intro acc hp
   obtain⟨x,k⟩:=p
   rw [List.forIn_cons]
   by_cases hk:(k==NameKind.free)=true
   ·have ek:k= .free:=eq_of_beq hk
    subst ek
    obtain⟨c,hc⟩:=Option.isSome_iff_exists.mp (hp x (.head _))
    have e1:cellOf env x=pure c:=by unfold cellOf;rw [hc]
    have e2:=ih ((x,c)::acc) fun y hy=>hp y (.tail _ hy)
    simp only [beq_self_eq_true,if_true,e1]
    show(forIn r ((x,c)::acc) _:Sem (List (Str×Addr)))=_
    rw [e2]
    show pure _=pure (qK env.cells r (if(NameKind.free==NameKind.free)=true then(x,(env.cells.lookup x).getD 0)::acc else acc))
    rw [if_pos (by rfl),hc]
    rfl
   ·simp only [hk]
    show(forIn r acc _:Sem (List (Str×Addr)))=_
    rw [ih acc fun y hy=>hp y (.tail _ hy)]
    show pure _=pure (qK env.cells r (if(k==NameKind.free)=true then _ else acc))
    rw [if_neg hk]
 have e:=go sc.names [] h
 have e2:closureFor sc env=((forIn sc.names ([]:List (Str×Addr)) (fun(p:Str×NameKind) (cs:List (Str×Addr))=>if p.2== .free then do let c<-cellOf env p.1;pure (ForInStep.yield ((p.1,c)::cs)) else pure (ForInStep.yield cs)):Sem (List (Str×Addr))) >>= fun cs=>pure cs):=rfl
 rw [e2,e]
 rfl
theorem bR {env:PySem.Env} {x:Str}: ∀ {names:List (Str×NameKind)},(names.map fun(n,k)=>if(k==NameKind.free&&env.scope.kind== .function&&env.kindOf n==some .cell) then(n,NameKind.cell) else(n,k)).lookup x=
  (names.lookup x).map fun k=>if(k==NameKind.free&&env.scope.kind== .function&&env.kindOf x==some .cell) then NameKind.cell else k
 | []=>rfl
 | (n,k)::r=>by
  rw [List.map_cons]
  have ih:= @bR env x r
  show List.lookup x ((if(k==NameKind.free&&env.scope.kind== .function&&env.kindOf n==some .cell)=true then(n,NameKind.cell) else(n,k))::_)=_
  by_cases hc:(k==NameKind.free&&env.scope.kind== .function&&env.kindOf n==some .cell)=true
  ·rw [if_pos hc,List.lookup_cons,List.lookup_cons]
   cases hx:x==n with
   | true=>
    have e:x=n:=eq_of_beq hx
    subst e
    simp only [Option.map,hc,if_true]
   | false=>exact ih
  ·rw [if_neg hc,List.lookup_cons,List.lookup_cons]
   cases hx:x==n with
   | true=>
    have e:x=n:=eq_of_beq hx
    subst e
    simp only [Option.map]
    rw [if_neg hc]
   | false=>exact ih
noncomputable def aKj:Nat->Nat->TGs
 | _,0=>aKv
 | j,n+1=>aDk (gO j) (aKj (j+1) n)
noncomputable def fZ:Nat->List V->St->St
 | _,[],σ=>σ
 | j,v::r,σ=>fZ (j+1) r (σ.set j (some v))
theorem wW: ∀ {vs:List V} {j:Nat} {σ:St} {H:Hp} {Q:St->Hp->Prop},Q (fZ j vs σ) H->aKj j vs.length vs σ H Q
 | [],_,_,_,_,h=>⟨rfl,h⟩
 | v::r,j,σ,H,Q,h=>⟨v,r,rfl,wW (vs:=r) (j:=j+1) (σ:=σ.set j (some v)) h⟩
theorem eN: ∀ {vs:List V} {j:Nat} {σ:St},(fZ j vs σ).length=σ.length
 | [],_,_=>rfl
 | v::r,j,σ=>by
  show(fZ (j+1) r (σ.set j (some v))).length=_
  rw [eN (vs:=r),List.length_set]
theorem j7: ∀ {vs:List V} {j i:Nat} {σ:St},j+vs.length<=i\/i<j->(fZ j vs σ)[i]? =σ[i]?
 | [],_,_,_,_=>rfl
 | v::r,j,i,σ,h=>by
  show(fZ (j+1) r (σ.set j (some v)))[i]? =_
  simp only [bn] at h
  rw [j7 (vs:=r) (by omega),ay (by omega)]
theorem oY: ∀ {vs:List V} {j i:Nat} {σ:St} {v:V},vs[i]? =some v->j+vs.length<=σ.length->(fZ j vs σ)[j+i]? =some (some v)
 | [],_,_,_,_,h,_=>by simp at h
 | w::r,j,0,σ,v,h,hl=>by
  simp at h
  subst h
  show(fZ (j+1) r (σ.set j (some w)))[j]? =_
  rw [j7 (vs:=r) (.inr (by omega)),bg (by simp only [bn] at hl;omega)]
 | w::r,j,i+1,σ,v,h,hl=>by
  show(fZ (j+1) r (σ.set j (some w)))[j+(i+1)]? =_
  have e:j+(i+1)=(j+1)+i:=by omega
  rw [e]
  exact oY (vs:=r) (by simpa using h) (by simp only [bn,List.length_set] at hl ⊢;omega)
section
variable {X:Cx} {ad:Ad}
theorem oZ (hN:X.N.Nodup): ∀ {es:List Expr} {xs:List Str} {j:Nat},cS (fun(e:Expr)=>match e with | .Name x _=>some x | _=>none) es=some xs->(∀ (i:Nat) (x:Str),xs[i]? =some x->X.N[j+i]? =some x/\X.env.scope.names.lookup x=some .local)->PGs X es (aKj j xs.length)
 | [],xs,j,e,_=>by
  cases e
  exact vW
 | a::es,xs,j,e,h=>by
  unfold cS at e
  cases a<;>try (cases e)
  rename_i x px
  simp only at e
  obtain⟨r,e1,e2⟩:=zMd e
  subst e2
  obtain⟨h1,h2⟩:=h 0 x rfl
  refine sB (iJ hN (by simpa using h1) (.inl h2) (.inr h2)) (oZ hN e1 fun i y hy=> ?_) rfl
  obtain⟨h3,h4⟩:=h (i+1) y (by simpa using hy)
  exact⟨by rw [<-h3];congr 1;omega,h4⟩
noncomputable def gTg (K:PySem.W.Frag) (k:Nat):TG:=match k with
 | 0=>gO 0
 | n+1=>aHn K (n+1) (aKj 0 (n+1))
theorem aLr {tg:Expr} {xs:List Str} {k:Nat} (hc:X.calm=true) (hN:X.N.Nodup) (e:bU tg=some (xs,k)) (h: ∀ (i:Nat) (x:Str),xs[i]? =some x->X.N[i]? =some x/\X.env.scope.names.lookup x=some .local):PG X tg (gTg X.K k):=by
 cases tg<;>try (cases e)
 ·rename_i x px
  obtain⟨h1,h2⟩:=h 0 x rfl
  exact iJ hN h1 (.inl h2) (.inr h2)
 ·rename_i es j px
  unfold bU at e
  obtain⟨ys,e1,e2⟩:=zBd e
  by_cases hl:2<=ys.length
  ·rw [if_pos hl] at e2
   cases e2
   have P:=oZ (X:=X) hN (j:=0) e1 fun i x hx=>by
    obtain⟨h1,h2⟩:=h i x hx
    exact⟨by rw [Nat.zero_add];exact h1,h2⟩
   have hlen:(assignEach es X.env).length=xs.length/\(assignEach es X.env).findIdx? (·.1)=none:=by
    clear P hl h e
    induction es generalizing xs with
    | nil=>cases e1;exact⟨rfl,rfl⟩
    | cons a r ih=>
     unfold cS at e1
     cases a<;>try (cases e1)
     rename_i z pz
     simp only at e1
     obtain⟨r',e3,e4⟩:=zMd e1
     subst e4
     obtain⟨i1,i2⟩:=ih e3
     have ec:assignEach (Expr.Name z pz::r) X.env=(false,assign (.Name z pz) X.env)::assignEach r X.env:=rfl
     rw [ec]
     refine⟨by simp [i1], ?_⟩
     rw [List.findIdx?_cons]
     simp [i2]
   obtain⟨n,hn⟩: ∃ n,xs.length=n+1:=⟨xs.length - 1,by omega⟩
   rw [hn] at P ⊢
   exact aB6 hc P (by rw [<-hn];exact hlen.1) hlen.2
  ·rw [if_neg hl] at e2
   cases e2
end
structure ItH (X:Cx) (ad:Ad) (J:It) (G H:Hp) (ds:List D):Prop where
 go: ∀ (i:Nat) (G1 H1:Hp) (d:D),Step G H G1 H1->ds[i]? =some d->J.go i H1/\ ∀ x H2,J.yld i H1 x H2-> ∃ G2,Step G1 H1 G2 H2/\Rep X.K ad G2 d x
 stop: ∀ (G1 H1:Hp),Step G H G1 H1->J.stop ds.length H1
 few:ds.length<=sizeLine
def IK (X:Cx) (ad:Ad) (G H:Hp) (r:R) (W:It->Hp->Prop) (E:Nat->Hp->Prop):Prop:=match r with
 | .ok d=> ∃ ds,lN d=some ds/\ ∀ J G' H',Step G H G' H'->ItH X ad J G' H' ds->W J H'
 | .ow xs=> ∀ J G' H',Step G H G' H'->ItH X ad J G' H' xs->W J H'
 | .ex c=> ∀ G' H',Step G H G' H'->E c H'
 | .bad=>False
noncomputable def tI (X:Cx) (ad:Ad) (f:F):TI:=fun σ H W=> ∃ G ρ E,Same G H/\SL X.K ad G H ρ σ/\XP X ad σ E/\IK X ad G H (f ρ) W E
abbrev MI (X:Cx) (ad:Ad) (tg e:Expr) (f:F):Prop:=PI X tg e (tI X ad f)
def Cel (sc:Scope):Prop:=oU sc=[]\/ ∃ x,oU sc=[x]/\sc.names.lookup x=some .cell
theorem cf0: ∀ {ns:List (Str×NameKind)} {a:Nat} {acc:List (Str×Addr)},(ns.filter fun p=>p.2== .cell).map (·.1)=[]->cellsFrom a ns acc=acc/\ ∀ h,pushCells h ns=h
 | [],_,_,_=>⟨rfl,fun _=>rfl⟩
 | (y,k)::r,a,acc,e=>by
  by_cases hk:(k==NameKind.cell)=true
  ·simp [List.filter_cons,hk] at e
  ·have e':(r.filter fun p=>p.2== .cell).map (·.1)=[]:=by simpa [List.filter_cons,hk] using e
   obtain⟨h1,h2⟩:=cf0 (a:=a) (acc:=acc) e'
   unfold cellsFrom pushCells
   exact⟨by rw [if_neg hk];exact h1,fun h=>by rw [if_neg hk];exact h2 h⟩
theorem cf1: ∀ {ns:List (Str×NameKind)} {a:Nat} {acc:List (Str×Addr)} {x:Str},(ns.filter fun p=>p.2== .cell).map (·.1)=[x]->cellsFrom a ns acc=(x,a)::acc/\ ∀ h,pushCells h ns=h.push { cls:= .type "cell",data:= .cell none }
 | [],_,_,_,e=>by simp at e
 | (y,k)::r,a,acc,x,e=>by
  by_cases hk:(k==NameKind.cell)=true
  ·have e':y=x/\(r.filter fun p=>p.2== .cell).map (·.1)=[]:=by simpa [List.filter_cons,hk] using e
   obtain⟨rfl,e'⟩:=e'
   obtain⟨h1,h2⟩:=cf0 (a:=a+1) (acc:=(y,a)::acc) e'
   unfold cellsFrom pushCells
   exact⟨by rw [if_pos hk];exact h1,fun h=>by rw [if_pos hk];exact h2 _⟩
  ·have e':(r.filter fun p=>p.2== .cell).map (·.1)=[x]:=by simpa [List.filter_cons,hk] using e
   obtain⟨h1,h2⟩:=cf1 (a:=a) (acc:=acc) e'
   unfold cellsFrom pushCells
   exact⟨by rw [if_neg hk];exact h1,fun h=>by rw [if_neg hk];exact h2 h⟩
noncomputable def clC (X:Cx) (sc:Scope) (L:Addr):List (Str×Addr):=cellsFrom (L+1) sc.names (qK X.env.cells sc.names [])
theorem eO {X:Cx} {sc:Scope} {L:Addr} {y:Str} {c:Addr} (hc:Cel sc) (h:(clC X sc L).lookup y=some c):(oU sc=[y]/\c=L+1)\/(qK X.env.cells sc.names []).lookup y=some c:=by
 unfold clC at h
 rcases hc with e | ⟨x,e,_⟩
 ·rw [(cf0 e).1] at h;exact .inr h
 ·rw [(cf1 e).1,List.lookup_cons] at h
  cases q:y==x with
  | true=>rw [q] at h;rw [eq_of_beq q];exact .inl ⟨e,(Option.some.inj h).symm⟩
  | false=>rw [q] at h;exact .inr h
theorem wX {X:Cx} {sc:Scope} {L:Addr} {x:Str} (e:oU sc=[x]):(clC X sc L).lookup x=some (L+1):=by
 unfold clC
 rw [(cf1 e).1,List.lookup_cons,beq_self_eq_true]
theorem sS {X:Cx} {sc:Scope} {L:Addr} {y:Str} {c:Addr} (hc:Cel sc) (hy:sc.names.lookup y=some .free) (h:(qK X.env.cells sc.names []).lookup y=some c):(clC X sc L).lookup y=some c:=by
 unfold clC
 rcases hc with e | ⟨x,e,hx⟩
 ·rw [(cf0 e).1];exact h
 ·rw [(cf1 e).1,List.lookup_cons]
  cases q:y==x with
  | true=>rw [eq_of_beq q,hx] at hy;cases hy
  | false=>exact h
noncomputable def cX (X:Cx) (N':List Str) (sc:Scope) (s3:Shared) (H3:Hp) (fp:List Addr) (pins:List (Addr×Obj)):Cx:=
 { X with N:=N',s₀:=s3,H₀:=H3,env:=compEnvC sc (clC X sc s3.heap.objs.size) s3.heap.objs.size X.env,outer:=X.stack,stack:=X.stack,ex:=fp,fn:=fun y=>decide (oU sc=[y]),pn:=X.pn++pins,xe:=fun _ _=>False }
section
variable {X:Cx} {ad:Ad} {pins:List (Addr×Obj)} {s s3:Shared} {σ:St} {H H3 G:Hp} {ρ:Rho} {Q:VK} {E:Nat->Hp->Prop} {pos:Pos} {sc:Scope} {N':List Str} {fp:List Addr}
theorem aAs {Y:Cx} {σ:St} (h:Y.xe=fun _ _=>False):XP Y ad σ (fun _ _=>False):=by
 intro pins H s e s' I hc
 obtain⟨ea,cls,a0,H',B,_,_,_,_,_,_,_,_,_,c,_,z⟩:=hc
 exact z.elim
theorem Un.sameBut {fs ex:List Addr} {H H':Hp} {h h1 h2:Heap} {C:Addr} (u:Un fs ex H H' h h1) (sb:Heap.SameBut C h1 h2) (hC:h.objs.size<=C):Un fs ex H H' h h2:=by
 have ne: ∀ b o,h.get? b=some o->b≠C:=fun b o e z=>by
  subst z
  exact absurd (bd (ah e) hC) (Nat.lt_irrefl _)
 refine⟨fun b o e n hb hx=> ?_,fun b o e n hb hx=> ?_,u.free,fun b o e hx=> ?_,u.tups,u.frzs,u.tbls⟩
 ·exact(sb.2 b (ne b o e)).trans (u.keep b o e n hb hx)
 ·obtain⟨sl,z⟩:=u.slot b o e n hb hx
  exact⟨sl,(sb.2 b (ne b o e)).trans z⟩
 ·obtain⟨o',z⟩:=u.there b o e hx
  exact⟨o',(sb.2 b (ne b o e)).trans z⟩
theorem aAt {fpO: ∀ b∈fp,qN X pins H3 b} {h4:Heap} {m:Str->Option Value} {t':Nat} (I:Inv X pins σ H3 s3) (hk:sc.kind= .function) (hc:Cel sc)
  (hfree: ∀ x,(x,NameKind.free)∈sc.names->X.env.kindOf x=some .cell\/X.env.kindOf x=some .free) (hnd: ∀ x,(x,NameKind.free)∈sc.names->sc.names.lookup x=some .free)
  (hfo: ∀ b∈fp,b<s3.heap.objs.size) (hns:h4.Ns s3.heap.objs.size m) (hkeep: ∀ b o,s3.heap.get? b=some o->h4.get? b=some o) (hnew: ∀ x,oU sc=[x]->h4.IsCell (s3.heap.objs.size+1) none)
  {σc:St} (hl:σc.length=N'.length) (hσ: ∀ (i:Nat) (x:Str) (v:V),N'[i]? =some x->σc[i]? =some (some v)-> ∃ j:Nat,X.N[j]? =some x/\σ[j]? =some (some v)/\(x,NameKind.free)∈sc.names):
  Inv (cX X N' sc s3 H3 fp pins) [] σc H3 { s3 with heap:=h4,toks:=t' }:=by
 have hcl: ∀ x c,(qK X.env.cells sc.names []).lookup x=some c->(x,NameKind.free)∈sc.names/\X.env.cells.lookup x=some c:=fun x c e=>by
  rcases mZ e with ⟨k,h1,h2,h3⟩ | h
  ·subst h2
   refine⟨h1, ?_⟩
   obtain⟨c',hc'⟩:=I.ok.has x (hfree x h1)
   rw [hc'] at h3
   rw [h3]
   exact hc'
  ·cases h
 have hlt: ∀ x c,(qK X.env.cells sc.names []).lookup x=some c->c<s3.heap.objs.size:=fun x c e=>by
  obtain⟨v,o,ho,_⟩:=I.cell x c (hcl x c e).2
  exact ah ho
 have stk: ∀ b,b∈frs X.stack->b=X.env.locals\/b∈X.fs:=fun b hb=>aq.mp (I.stkSub b hb)
 refine⟨⟨I.ok.mod,hk,I.ok.glob,I.ok.blt,aj _,fun x y c h1 h2=> ?_,fun x hx=> ?_,fun x c h1 h2=> ?_,I.ok.hd,I.ok.frames, .inl rfl,fun b hb=> ?_,I.bs,Nat.le_trans I.ok.bsz I.sz,fun b o e hb=> ?_,fun b hb hb'=> ?_,I.stack,I.stkFree⟩,
  rfl,I.bare,Un.kept hkeep,⟨m,hns,fun i x v h1 h2 h3=> ?_⟩,fun x c h=> ?_,I.hok.fresh (aj _),fun x c h=> ?_,fun q hq=> ?_,I.hok.kept hkeep,hl⟩
 ·rcases eO hc h1 with ⟨e1,z1⟩ | z1
  ·rcases eO hc h2 with ⟨e2,z2⟩ | z2
   ·rw [e1] at e2
    exact(List.cons.inj e2).1
   ·have:=hlt y c z2
    rw [z1] at this
    exact absurd this (Nat.not_lt.mpr (Nat.le_succ _))
  ·rcases eO hc h2 with ⟨e2,z2⟩ | z2
   ·have:=hlt x c z1
    rw [z2] at this
    exact absurd this (Nat.not_lt.mpr (Nat.le_succ _))
   ·exact I.ok.inj x y c (hcl x c z1).2 (hcl y c z2).2
 ·-- a name that is a cell here was free in the scope
  have e:(sc.names.lookup x).map (fun k=>if(k==NameKind.free&&X.env.scope.kind== .function&&X.env.kindOf x==some .cell) then NameKind.cell else k)=some .cell\/(sc.names.lookup x).map (fun k=>if(k==NameKind.free&&X.env.scope.kind== .function&&X.env.kindOf x==some .cell) then NameKind.cell else k)=some .free:=by
   rw [<-bR]
   exact hx
  cases q:sc.names.lookup x with
  | none=>rw [q] at e;rcases e with e | e<;>cases e
  | some k=>
   have hm:=PySem.mem_of_lookup q
   by_cases hkk:k= .free
   ·subst hkk
    obtain⟨c,hc'⟩:=Option.isSome_iff_exists.mp (m6 (cells:=X.env.cells) (acc:=[]) hm)
    exact⟨c,sS hc q hc'⟩
   ·have hkf:(k==NameKind.free)=false:=by simpa using hkk
    rw [q] at e
    simp only [Option.map,hkf,Bool.false_and] at e
    rcases e with e | e
    ·have hkc:k= .cell:=by simpa using e
     subst hkc
     have hmem:x∈oU sc:=ao.mpr ⟨(x, .cell),List.mem_filter.mpr ⟨hm,by simp⟩,rfl⟩
     have hx1:oU sc=[x]:=by
      rcases hc with z | ⟨y,z,_⟩
      ·rw [z] at hmem;cases hmem
      ·rw [z] at hmem ⊢
       rw [List.mem_singleton.mp hmem]
     exact⟨_,wX hx1⟩
    ·exact absurd (by simpa using e) hkk
 ·have hx1:oU sc=[x]:=of_decide_eq_true h1
  have:=h2.symm.trans (wX hx1)
  cases this
  exact Nat.le_succ _
 ·obtain⟨f0,f1,f2,f3,f4,f5⟩:=fpO b hb
  refine⟨bf (hfo b hb),fun x c h=> ?_⟩
  rcases eO hc h with ⟨_,z⟩ | z
  ·rw [z];exact(bf (Nat.lt_succ_of_lt (hfo b hb))).symm
  ·exact f4 x c (hcl x c z).2
 ·obtain⟨f0,f1,f2,f3,f4,f5⟩:=fpO b hb
  rcases f3 with z | z
  ·exact I.ok.noex b o e z
  ·exact absurd (bd (ah e) (Nat.le_trans I.ok.bsz z)) (Nat.lt_irrefl _)
 ·obtain⟨f0,f1,f2,f3,f4,f5⟩:=fpO b hb
  rcases stk b hb' with z | z
  ·exact f1 z
  ·exact f2 z
 ·obtain⟨j,j1,j2,j3⟩:=hσ i x v h1 h2
  obtain⟨m0,hn0,hl0⟩:=I.loc
  have hkx:=hfree x j3
  have vis:Vis X.env.scope x:=by
   rcases hkx with z | z
   ·exact .inr (.inl z)
   ·exact .inr (.inr z)
  obtain⟨u,r,l⟩:=hl0 j x v j1 j2 vis
  refine⟨u,r, .inr ?_⟩
  rcases l with ⟨z,_⟩ | ⟨_,c,hcc,hcell'⟩
  ·rcases hkx with z' | z'
   ·have:X.env.kindOf x=some .local:=z
    rw [z'] at this;cases this
   ·have:X.env.kindOf x=some .local:=z
    rw [z'] at this;cases this
  ·refine⟨?_,c, ?_, ?_⟩
   ·have e1:(relabel sc X.env).names.lookup x=(sc.names.lookup x).map (fun k=>if(k==NameKind.free&&X.env.scope.kind== .function&&X.env.kindOf x==some .cell) then NameKind.cell else k):=bR
    have e2:(relabel sc X.env).names.lookup x=some .cell\/(relabel sc X.env).names.lookup x=some .free:=by
     rw [e1,hnd x j3]
     simp only [Option.map]
     split
     ·exact .inl rfl
     ·exact .inr rfl
    exact e2
   ·obtain⟨c',hc'⟩:=Option.isSome_iff_exists.mp (m6 (cells:=X.env.cells) (acc:=[]) j3)
    have:=(hcl x c' hc').2
    rw [hcc] at this
    cases this
    exact sS hc (hnd x j3) hc'
   ·obtain⟨o,ho,hd⟩:=hcell'
    exact⟨o,hkeep _ _ ho,hd⟩
 ·rcases eO hc h with ⟨e,z⟩ | z
  ·rw [z];exact⟨none,hnew x e⟩
  ·obtain⟨v,o,ho,hd⟩:=I.cell x c (hcl x c z).2
   exact⟨v,o,hkeep _ _ ho,hd⟩
 ·rcases eO hc h with ⟨e,z⟩ | z
  ·rw [z];exact I.hok.fresh (Nat.le_succ _)
  ·exact I.freeC x c (hcl x c z).2
 ·have hq':q∈X.pn++pins:=by
   have h2:q∈(X.pn++pins)++[]:=hq
   rwa [List.append_nil] at h2
  obtain⟨e,n,ne,nf,d⟩:=I.pin q hq'
  refine⟨hkeep _ _ e,n,bf (ah e),fun z=> ?_,d⟩
  rcases stk _ z with z | z
  ·exact ne z
  ·exact nf z
theorem aCq {fpO: ∀ b∈fp,qN X pins H3 b} {σc:St} {H':Hp} {s':Shared} {h':Heap} {pn':List (Addr×Obj)} (I:Inv X pins σ H3 s3) (J:Inv (cX X N' sc s3 H3 fp pins) pn' σc H' s') (sb:Heap.SameBut s3.heap.objs.size s'.heap h'):Inv X pins σ H' { s' with heap:=h' }:=by
 have hfree:H' s3.heap.objs.size=none:=J.free
 refine I.call' (ch:=fp) (s':={ s' with heap:=h' }) J.os (Un.sameBut J.base sb (aj _)) (fun b u e=> ?_) J.bare fun b hb=> ?_
 ·refine(J.hok b u e).stay (fun c v hc q=> ?_) (fun _ q=>q) fun _ _ q=>q
  have ne:c≠s3.heap.objs.size:=by
   rintro rfl
   rcases hc with z | z
   ·rw [<-z] at e;rw [hfree] at e;cases e
   ·rw [hfree] at z;cases z
  exact(sb.2 c ne).trans q
 ·obtain⟨f0,f1,f2,f3,f4,f5⟩:=fpO b hb
  exact⟨f3,f1,f4,f5⟩
theorem rD {prog:Program} {w:World} {A:Around} {Rr:Result->Shared->Prop} {s:Shared} {elt target iter:Expr} {ifs:List Expr} {scope:Scope} {pos:Pos} {it acc:Value} {env:PySem.Env} (Iv:Nat->Shared->Prop)
  (turn: ∀ n s,Iv n s->wpAny (model prog w) A (pyNext it) (fun r s₁=>match r with
   | none=>Rr (.ok .next) s₁
   | some v=>wpAny (model prog w) A (letOwnedTupleGo target it v) (fun _ s₁'=>wpAny (model prog w) A (assign target env v) (fun _ s₂=>
     wpAny (model prog w) A (forIn ifs true fun c r=>if r=true then do let ok<-isTrue c env (eval c env);pure (ForInStep.yield ok) else pure (ForInStep.yield r)) (fun ok s₃=>
      if ok=true then wpAny (model prog w) A (eval elt env) (fun x s₄=>
       wpAny (model prog w) A (call (.builtin "list.append") [acc,x]) (fun _ s₅=> ∃ m,m<n/\Iv m s₅) (fun _ _=>False) s₄) (fun _ _=>False) s₃
      else ∃ m,m<n/\Iv m s₃) (fun _ _=>False) s₂) (fun _ _=>False) s₁') (fun _ _=>False) s₁) (fun _ _=>False) s)
  (n:Nat) (h:Iv n s):
  codeAny (model prog w) A (.compLoop (.ListComp elt [⟨target,iter,ifs,0⟩] scope pos) 0 it acc env) Rr s:=by
 refine codeAny_loop rfl Iv (fun n s hI=> ?_) n h
 show wpAny _ A ((compTurn (.ListComp elt [⟨target,iter,ifs,0⟩] scope pos) 0 it acc env).onRaise (fun x=>do noteFrame x env;theTreesLotGoes x)) _ _ s
 refine wpAny_noted (wpAny_noRaise ?_)
 rw [compTurn_list]
 refine aa (wpAny_standAt (aa (wpAny_mono (turn n s hI) (fun r s₁ h₁=> ?_) fun _ _ h'=>h')))
 cases r with
 | none=>exact ae h₁
 | some v=>
  refine aa (wpAny_mono h₁ (fun _ s₁' h₁'=> ?_) fun _ _ h'=>h')
  refine aa (wpAny_mono h₁' (fun _ s₂ h₂=>aa (wpAny_mono h₂ (fun ok s₃ h₃=> ?_) fun _ _ h'=>h')) fun _ _ h'=>h')
  cases ok with
  | false=>exact ae ⟨rfl,h₃⟩
  | true=>
   exact aa (aa (wpAny_mono h₃ (fun x s₄ h₄=>aa (wpAny_mono h₄ (fun _ s₅ h₅=>ae (ae ⟨rfl,h₅⟩)) fun _ _ h'=>h')) fun _ _ h'=>h'))
theorem j8 {f:D->Option (Option D)} {d:D} {r all:List D} (h:bM f (d::r)=some all):(f d=some none/\bM f r=some all)\/ ∃ x all',f d=some (some x)/\bM f r=some all'/\all=x::all':=by
 unfold bM at h
 cases e:f d with
 | none=>rw [e] at h;cases h
 | some o=>
  rw [e] at h
  cases o with
  | none=>exact .inl ⟨rfl,h⟩
  | some x=>
   obtain⟨a,h1,h2⟩:=zMd h
   exact .inr ⟨x,a,rfl,h1,h2.symm⟩
theorem wY {K:PySem.W.Frag} {G H:Hp} {ts cs:List Slot} {σ:St} (h:SL K ad G H (ts++cs) σ):SL K ad G H (ak ts.length .no++cs) σ:=by
 refine⟨by rw [<-h.len];simp,fun i sl e=> ?_⟩
 by_cases hi:i<ts.length
 ·rw [bq (by simpa using hi),List.getElem?_replicate,if_pos hi] at e
  cases e
  have hl:i<σ.length:=by rw [<-h.len,bj];omega
  exact⟨σ[i],by simp [hl],trivial⟩
 ·rw [bh (by simpa using hi),List.length_replicate] at e
  refine h.at_ i sl ?_
  rw [bh (by omega)]
  exact e
theorem aCr {K:PySem.W.Frag} {G H:Hp} {n:Nat} {cs:List Slot} {σ:St} {ds:List D} {vs:List V} (h:SL K ad G H (ak n .no++cs) σ) (r:aE K ad G ds vs) (hn:ds.length=n):SL K ad G H (ds.map Slot.sh++cs) (fZ 0 vs σ):=by
 have hv:=r.length
 have hl:=h.len
 rw [bj,List.length_replicate] at hl
 refine⟨by rw [eN,bj,am];omega,fun i sl e=> ?_⟩
 by_cases hi:i<n
 ·rw [bq (by rw [am];omega),List.getElem?_map] at e
  cases e1:ds[i]? with
  | none=>rw [e1] at e;cases e
  | some d=>
   rw [e1] at e
   cases e
   obtain⟨v,e2,r2⟩:=r.get e1
   refine⟨some v, ?_,v,rfl,r2⟩
   have:=oY (j:=0) (σ:=σ) e2 (by omega)
   rwa [Nat.zero_add] at this
 ·rw [bh (by rw [am];omega),am,hn] at e
  obtain⟨ov,h1,h2⟩:=h.at_ i sl (by rw [bh (by rw [List.length_replicate];omega),List.length_replicate];exact e)
  exact⟨ov,by rw [j7 (.inl (by omega))];exact h1,h2⟩
theorem aI2 {K:PySem.W.Frag} {k:Nat} {d:D} {v:V} {ts cs:List Slot} {n:Nat} {σ:St} {G H Hs:Hp} {W:St->Hp->Prop} (e:tgt k d=some ts) (hn:n=if k=0 then 1 else k) (hG:Same G H) (r:Rep K ad G d v)
  (h:SL K ad G Hs (ak n .no++cs) σ) (q: ∀ σ',σ'.length=σ.length->SL K ad G Hs (ts++cs) σ'->W σ' H):ts.length=n/\gTg K k v σ H W:=by
 cases k with
 | zero=>
  cases e
  subst hn
  refine⟨rfl,q _ (by rw [List.length_set]) ?_⟩
  have:=aCr (ds:=[d]) (vs:=[v]) h (aE.cons r aE.nil) rfl
  exact this
 | succ k=>
  unfold tgt at e
  cases d<;>try (cases e)
  rename_i ds
  simp only at e
  by_cases hl:ds.length=k+1
  ·rw [if_pos hl] at e
   cases e
   rw [if_neg (by omega)] at hn
   subst hn
   unfold Rep at r
   obtain⟨a,vs,rfl,hq,rq⟩:=r
   refine⟨by rw [am];exact hl,a,vs,rfl,hG.seqT hq,by rw [rq.length];exact hl, ?_⟩
   have hvl:vs.length=k+1:=by rw [rq.length];exact hl
   have:=wW (vs:=vs) (j:=0) (σ:=σ) (H:=H) (Q:=W) (q _ eN (aCr h rq hl))
   rwa [hvl] at this
  ·rw [if_neg hl] at e
   cases e
end
section
variable {X:Cx} {ad:Ad} {pins:List (Addr×Obj)} {s s2 s3:Shared} {σ:St} {H H2 H3 G G2:Hp} {ρ:Rho} {Q:VK} {E:Nat->Hp->Prop} {pos:Pos} {sc:Scope} {N':List Str} {fp:List Addr}
 {tg it elt:Expr} {ifs:List Expr} {k nt:Nat} {xs:List Str} {cs:List Slot} {fc:Option F} {fe:F}
theorem j9 {x:Str}: ∀ {N:List Str} {i:Nat},idx x N=some i->N[i]? =some x
 | [],_,e=>by cases e
 | y::r,i,e=>by
  unfold idx at e
  by_cases h:x=y
  ·rw [if_pos h] at e
   cases e
   subst h
   rfl
  ·rw [if_neg h] at e
   obtain⟨j,e1,e2⟩:=zMd e
   subst e2
   simpa using j9 e1
def MTs (X:Cx) (ad:Ad) (ifs:List Expr) (fc:Option F):Prop:=match ifs,fc with
 | [],none=>True
 | [c],some f=>MT X ad c f
 | _,_=>False
def aEs (K:PySem.W.Frag) (ad:Ad) (H G':Hp) (d:SK.D) (v:V):Prop:= ∃ l q ws,d= .lst l/\v= .ref q/\H q=none/\G' q=some (.lst ws)/\aE K ad G' l ws
noncomputable def RN (K:PySem.W.Frag) (ad:Ad) (H G':Hp):List SK.D->List V->Prop:=Paired (aEs K ad H G')
theorem aEs.up {K:PySem.W.Frag} {H H1 G' G2:Hp} {d:SK.D} {v:V} (h:aEs K ad H1 G' d v) (s:Same H H1) (t:Same G' G2):aEs K ad H G2 d v:=by
 obtain⟨l,q,ws,h1,h2,h3,h4,h5⟩:=h
 exact⟨l,q,ws,h1,h2,s.free h3,t _ _ h4,h5.mono t⟩
theorem RN.mono {K:PySem.W.Frag} {H G' G2:Hp} {ds:List SK.D} {vs:List V} (h:RN K ad H G' ds vs) (t:Same G' G2):RN K ad H G2 ds vs:=Paired.mapP h fun _ _ z=>z.up (Same.refl _) t
theorem RN.snoc {K:PySem.W.Frag} {H G':Hp} {d:SK.D} {v:V} (h:aEs K ad H G' d v): ∀ {ds:List SK.D} {vs:List V},RN K ad H G' ds vs->RN K ad H G' (ds++[d]) (vs++[v])
 | _,_, .nil=> .cons h .nil
 | _,_, .cons a r=> .cons a (RN.snoc h r)
theorem ME.val {a:Expr} {f:F} {x:SK.D} (ha:ME X ad a f) (I:Inv X pins σ H s) (hG:Same G H) (hS:SL X.K ad G H ρ σ) (hx:XP X ad σ E) (hf:f ρ= .ok x\/ ∃ l,f ρ= .ow l/\x= .lst l):
  wpAny (model X.prog X.w) X.A (eval a X.env) (fun u s1=> ∃ v G1 H1,Inv X pins σ H1 s1/\bF v u/\Step G H G1 H1/\Rep X.K ad G1 x v/\((∀ y,f ρ≠ .ok y)->aEs X.K ad H G1 x v)) X.xe s:=by
 rcases hf with e | ⟨l,e,rfl⟩
 ·exact L2.thn (ha pins s σ H (fun v H1=> ∃ G1,Step G H G1 H1/\Rep X.K ad G1 x v) I ⟨G,ρ,E,hG,hS,hx,by rw [e];exact fun v G1 H1 st q=>⟨G1,st,q⟩⟩) fun u s1 ⟨v,H1,I1,r1,G1,st,q⟩=>⟨v,G1,H1,I1,r1,st,q,fun z=>absurd e (z x)⟩
 ·exact L2.thn (ha pins s σ H (fun v H1=> ∃ G1,Step G H G1 H1/\Rep X.K ad G1 (.lst l) v/\aEs X.K ad H G1 (.lst l) v) I ⟨G,ρ,E,hG,hS,hx,by
   rw [e]
   intro p vs G1 H1 st n m e' q
   have q':=q.mono (Same.upd_new (o:= .lst vs) m)
   exact⟨upd G1 p (.lst vs),st.share n m e',by unfold Rep;exact⟨p,vs,rfl,SqL.of aM,q'⟩,l,p,vs,rfl,rfl,n,aM,q'⟩⟩) fun u s1 ⟨v,H1,I1,r1,G1,st,q,nw⟩=>⟨v,G1,H1,I1,r1,st,q,fun _=>nw⟩
theorem MT.val {a:Expr} {f:F} {k:Bool} (ha:MT X ad a f) (I:Inv X pins σ H s) (hG:Same G H) (hS:SL X.K ad G H ρ σ) (hx:XP X ad σ E) (hf:f ρ= .ok (.bl k)):
  wpAny (model X.prog X.w) X.A (isTrue a X.env (eval a X.env)) (fun b s1=>b=k/\ ∃ G1 H1,Inv X pins σ H1 s1/\Step G H G1 H1) X.xe s:=by
 exact L2.thn (ha pins s σ H (fun b H1=>b=k/\ ∃ G1,Step G H G1 H1) I ⟨G,ρ,E,hG,hS,hx, .inl ⟨k,hf⟩,by rw [hf];exact fun v G1 H1 st q=>⟨k,by unfold Rep at q;exact q,rfl,G1,st⟩⟩) fun b s1 ⟨H1,I1,e,G1,st⟩=>⟨e,G1,H1,I1,st⟩
theorem cW {G1 H1 G2 H2:Hp} {D:Addr} {vs:List V} (st:Step G1 H1 G2 H2) (g:G1 D=none) (h:H1 D=some (.lst vs)):G2 D=none/\H2 D=some (.lst vs):=by
 refine⟨?_,st.sh _ _ h⟩
 cases z:G2 D with
 | none=>rfl
 | some o=>
  have:=st.nw D g (by rw [z];exact fun z=>nomatch z)
  rw [h] at this
  cases this
theorem gW {G1 H1 G2 H2:Hp} {D:Addr} {o:HO} (st:Step G1 H1 G2 H2) (n:H1 D=none) (g:G2 D=none):Step G1 H1 G2 (upd H2 D o):=by
 refine⟨st.sg,fun b u e=> ?_,fun b u e=> ?_,st.nw⟩
 ·have ne:b≠D:=fun z=>by subst z;rw [g] at e;cases e
  rw [aO ne]
  exact st.gh b u e
 ·have ne:b≠D:=fun z=>by subst z;rw [n] at e;cases e
  rw [aO ne]
  exact st.sh b u e
noncomputable def hid (D:Addr) (H:Hp):Hp:=fun b=>if b=D then none else H b
theorem kC {D b:Addr} {H:Hp} (h:b≠D):hid D H b=H b:=by unfold hid;rw [if_neg h]
theorem fP {D:Addr} {H:Hp}:hid D H D=none:=by unfold hid;rw [if_pos rfl]
theorem wZ {D:Addr} {H:Hp}:Same (hid D H) H:=fun b o e=>by
 by_cases z:b=D
 ·subst z;rw [fP] at e;cases e
 ·rwa [kC z] at e
theorem w6 {D:Addr} {H:Hp} {o:HO}:hid D (upd H D o)=hid D H:=by
 funext b
 by_cases z:b=D
 ·subst z;rw [fP,fP]
 ·rw [kC z,kC z,aO z]
theorem aI3 {D:Addr} {H:Hp} (h:H D=none):hid D H=H:=by
 funext b
 by_cases z:b=D
 ·subst z;rw [fP,h]
 ·rw [kC z]
theorem jK {G1 H1 G2 H2:Hp} {D:Addr} (st:Step G1 H1 G2 H2) (g:G2 D=none):Step G1 (hid D H1) G2 (hid D H2):=by
 refine⟨st.sg,fun b u e=> ?_,fun b u e=> ?_,fun b h1 h2=> ?_⟩
 ·have ne:b≠D:=fun z=>by subst z;rw [g] at e;cases e
  rw [kC ne]
  exact st.gh b u e
 ·have ne:b≠D:=fun z=>by subst z;rw [fP] at e;cases e
  rw [kC ne] at e ⊢
  exact st.sh b u e
 ·by_cases z:b=D
  ·subst z;exact fP
  ·rw [kC z];exact st.nw b h1 h2
theorem SL.up {K:PySem.W.Frag} {G H H':Hp} {ρ:Rho} {σ:St} (h:SL K ad G H ρ σ) (s:Same H H'):SL K ad G H' ρ σ:=by
 refine⟨h.len,fun i sl e=> ?_⟩
 obtain⟨ov,h1,h2⟩:=h.at_ i sl e
 refine⟨ov,h1, ?_⟩
 cases sl with
 | no=>trivial
 | sh d=>exact h2
 | ow xs=>
  obtain⟨a,vs,e1,e2,e3,e4⟩:=h2
  exact⟨a,vs,e1,e2,s _ _ e3,e4⟩
theorem aAu {M:Model} {A:Around} {Ex:Value->Shared->Prop} {s:Shared} {sc:Scope} {gl:Addr} {cl:List (Str×Addr)} {q:Str} {o:PySem.Env} {Q:PySem.Env->Shared->Prop} (hc:Cel sc)
  (h: ∀ h4:Heap,h4.Ns s.heap.objs.size (fun _=>none)->(∀ b ob,s.heap.get? b=some ob->h4.get? b=some ob)->(∀ x,oU sc=[x]->h4.IsCell (s.heap.objs.size+1) none)->
   Q (newEnv sc s.heap.objs.size gl (cellsFrom (s.heap.objs.size+1) sc.names cl) q none .none (some o) builtinsNs) { s with heap:=h4 }):
  wpAny M A (newFunctionEnv sc gl cl [] q none .none (some o)) Q Ex s:=by
 simp only [newFunctionEnv,Option.isSome_some,if_true]
 refine aa (wpAny_alloc ?_)
 refine aa (wpAny_layCells _ (fun name kind cells=>by cases hkc:kind==NameKind.cell<;>simp [hkc]) _ _ _ _ ?_)
 have hns:(s.heap.push { cls:= .type "dict",data:= .dict #[] }).Ns s.heap.objs.size (fun _=>none):=Heap.Ns.new s.heap (.type "dict")
 have hkp: ∀ b ob,s.heap.get? b=some ob->(pushCells (s.heap.push { cls:= .type "dict",data:= .dict #[] }) sc.names).get? b=some ob:=fun b ob e=>pushCells_keeps _ _ b ob (af _ e)
 have hz:(s.heap.push { cls:= .type "dict",data:= .dict #[] }:Heap).objs.size=s.heap.objs.size+1:=ai ..
 rw [List.forIn_nil]
 refine aa (ae (ae ?_))
 have:=h _ (hns.keeps (pushCells_keeps _ _)) hkp fun x e=>by
  rw [(cf1 (a:=0) (acc:=[]) e).2]
  refine⟨{ cls:= .type "cell",data:= .cell none }, ?_,rfl⟩
  rw [<-hz]
  exact ag _ rfl
 rw [<-hz] at this
 exact this
theorem o0 {W:Prop} (hw:W-> ∀ ρ y,fe ρ≠ .ok y) {J:It} {ds all:List D} {itA:Addr} {tn:Nat->Heap->Prop} {RR:Value->Addr->Result->Shared->Prop} {Ex:Value->Shared->Prop} (hc:X.calm=true) (I2:Inv X pins σ H2 s2) (T:Turn X.prog X.w X.K tg J fp itA tn) (st2:tn 0 s2.heap)
  (f2: ∀ b∈fp,qN X pins H2 b) (hit:ItH X ad J G2 H2 ds) (hgo:bM (dI k cs fc fe) ds=some all) (hG2:Same G2 H2)
  (hk:sc.kind= .function) (hC:Cel sc)
  (hfree: ∀ x,(x,NameKind.free)∈sc.names->X.env.kindOf x=some .cell\/X.env.kindOf x=some .free) (hnd: ∀ x,(x,NameKind.free)∈sc.names->sc.names.lookup x=some .free)
  {σc:St} (hl:σc.length=N'.length) (hσ: ∀ (i:Nat) (x:Str) (v:V),N'[i]? =some x->σc[i]? =some (some v)-> ∃ j:Nat,X.N[j]? =some x/\σ[j]? =some (some v)/\(x,NameKind.free)∈sc.names)
  (hnt:nt=if k=0 then 1 else k) (hsl:SL X.K ad G2 H2 (ak nt .no++cs) σc)
  (hg: ∀ s3 H3 pins',PG (cX X N' sc s3 H3 fp pins') tg (gTg X.K k)) (hts: ∀ s3 H3 pins',MTs (cX X N' sc s3 H3 fp pins') ad ifs fc) (he: ∀ s3 H3 pins',ME (cX X N' sc s3 H3 fp pins') ad elt fe)
  (hEnd: ∀ (s3 s':Shared) (H3 H' G':Hp) (σ':St) (D:Addr) (vs:List V),Inv X pins σ H3 s3->(∀ b∈fp,qN X pins H3 b)->Inv (cX X N' sc s3 H3 fp pins) [] σ' H' s'->Step G2 H2 G' H'->H2 D=none->G' D=none->H' D=some (.lst vs)->aE X.K ad G' all vs->(W->RN X.K ad H2 G' all vs)->RR (.ref D) s3.heap.objs.size (.ok .next) s'):
  wpAny (model X.prog X.w) X.A (newList []) (fun acc s₃=>wpAny (model X.prog X.w) X.A (newFunctionEnv sc X.env.globals (qK X.env.cells sc.names []) [] X.env.qual none .none (some X.env)) (fun cenv s₄=>
   codeAny (model X.prog X.w) X.A (.compStart (.ListComp elt [⟨tg,it,ifs,0⟩] sc pos) 0 (.ref itA) acc { cenv with scope:=relabel sc X.env }) (RR acc cenv.locals) s₄) Ex s₃) Ex s2:=by
 refine wpAny_newObj_type ?_
 have hD:H2 s2.heap.objs.size=none:=I2.fresh
 have I3:Inv X pins σ (upd H2 s2.heap.objs.size (.lst [])) { s2 with heap:=s2.heap.push { cls:= .type "list",data:= .seq ([]:List Value).toArray } }:=I2.lnew (t':=s2.toks) .nil (bp _)
 generalize e3:({ s2 with heap:=s2.heap.push { cls:= .type "list",data:= .seq ([]:List Value).toArray } }:Shared)=s3 at I3
 have hsz:s3.heap.objs.size=s2.heap.objs.size+1:=by rw [<-e3];exact ai ..
 have hk3: ∀ b o,s2.heap.get? b=some o->s3.heap.get? b=some o:=fun b o e=>by rw [<-e3];exact af _ e
 generalize eD:s2.heap.objs.size=D at hD I3 hsz ⊢
 generalize eH:upd H2 D (.lst [])=H3 at I3
 have hH3D:H3 D=some (.lst []):=by rw [<-eH];exact aM
 have hstep3:Step G2 H2 G2 H3:=by rw [<-eH];exact Step.own hG2 hD
 have hfo: ∀ b∈fp,b<D:=fun b hb=>by
  obtain⟨o,e,_⟩:=T.obj 0 _ st2 b hb
  rw [<-eD]
  exact ah e
 have f3: ∀ b∈fp,qN X pins H3 b:=fun b hb=>by
  obtain⟨f0,fr⟩:=f2 b hb
  refine⟨?_,fr⟩
  rw [<-eH,aO (bf (hfo b hb))]
  exact f0
 refine aAu hC fun h4 hns hkeep4 hnew4=> ?_
 have I4:Inv (cX X N' sc s3 H3 fp pins) [] σc H3 { s3 with heap:=h4 }:=
  aAt (t':=s3.toks) (fpO:=f3) I3 hk hC hfree hnd (fun b hb=>bd (hfo b hb) (by rw [hsz];exact Nat.le_succ _)) hns hkeep4 hnew4 hl hσ
 have st4:tn 0 h4:=T.keep _ _ _ st2 fun b hb o e=>hkeep4 b o (hk3 b o e)
 have few:=hit.few
 -- what holds of the iterator's objects in the block
 have stat: ∀ {H':Hp},(∀ b∈fp,H' b=none)-> ∀ b∈fp,qN (cX X N' sc s3 H3 fp pins) [] H' b:=fun {H'} hn b hb=>by
  obtain⟨f0,f1,f2',f3',f4,f5⟩:=f3 b hb
  refine⟨hn b hb, ?_,fun z=> ?_, .inl hb,fun x c h=> ?_,fun q hq=> ?_⟩
  ·have hle:D<=s3.heap.objs.size:=by rw [hsz];exact Nat.le_succ _
   exact bf (bd (hfo b hb) hle)
  ·rcases aq.mp (I3.stkSub b z) with z | z
   ·exact f1 z
   ·exact f2' z
  ·rcases eO hC h with ⟨_,z⟩ | h'
   ·have hle:D<=s3.heap.objs.size:=by rw [hsz];exact Nat.le_succ _
    rw [z]
    exact(bf (Nat.lt_succ_of_lt (bd (hfo b hb) hle))).symm
   rcases mZ h' with ⟨kk,h1,h2,h3⟩ | h
   ·subst h2
    obtain⟨c',hc'⟩:=I3.ok.has x (hfree x h1)
    rw [hc'] at h3
    have e:c=c':=h3
    rw [e]
    exact f4 x c' hc'
   ·cases h
  ·have h2:q∈(X.pn++pins)++[]:=hq
   rw [List.append_nil] at h2
   exact f5 q h2
 have loop: ∀ s4:Shared,s4={ s3 with heap:=h4 }->
   codeAny (model X.prog X.w) X.A (.compLoop (.ListComp elt [⟨tg,it,ifs,0⟩] sc pos) 0 (.ref itA) (.ref D) (cX X N' sc s3 H3 fp pins).env) (RR (.ref D) s3.heap.objs.size) s4:=by
  rintro s4 rfl
  obtain⟨Iv,hIv⟩: ∃ Iv:Nat->Shared->Prop, ∀ n s',Iv n s'↔ ∃ (i:Nat) (σ':St) (H' G':Hp) (ys cR:List SK.D) (vs:List V),Inv (cX X N' sc s3 H3 fp pins) [] σ' H' s'/\tn i s'.heap/\(∀ b∈fp,H' b=none)/\Step G2 H2 G' H'/\G' D=none/\H' D=some (.lst vs)/\aE X.K ad G' ys vs/\
   bM (dI k cs fc fe) (ds.drop i)=some cR/\ys++cR=all/\i<=ds.length/\n=ds.length - i/\ys.length<=i/\SL X.K ad G' (hid D H') (ak nt .no++cs) σ'/\(W->RN X.K ad H2 G' ys vs):=⟨_,fun _ _=>Iff.rfl⟩
  refine rD Iv ?_ ds.length
   ((hIv _ _).mpr ⟨0,σc,H3,G2,[],all,[],I4,st4,fun b hb=>(f3 b hb).1,hstep3,oV hG2 hD,hH3D,aE.nil,hgo,rfl,bp _,rfl,aj _,by rw [<-eH,w6,aI3 hD];exact hsl,fun _=> .nil⟩)
  intro n s5 hI5
  obtain⟨i,σ5,H5,G5,ys,cR,vs,I5,st5,fr5,sp5,gD5,hD5,r5,go5,eq5,hi5,rfl,hy5,sl5,rn5⟩:=(hIv _ _).mp hI5
  by_cases hlt:i<ds.length
  ·-- a turn
   have ed:ds[i]? =some ds[i]:=by simp [hlt]
   generalize ds[i]=d at ed
   have edrop:ds.drop i=d::ds.drop (i+1):=by
    rw [List.drop_eq_getElem_cons hlt]
    congr 1
    have:=av.mp ed
    exact this.2
   rw [edrop] at go5
   obtain⟨go,yl⟩:=hit.go i G5 H5 d sp5 ed
   refine L2.thn (T.item (cX X N' sc s3 H3 fp pins) rfl rfl rfl hc i [] s5 σ5 H5 (fun _ _=>False) I5 (stat fr5) st5 go) fun r s6 hz_=> ?_
   obtain⟨u,hr,h6⟩:=hz_
   subst hr
   refine L2.thn h6 fun _ s7 hz_=> ?_
   obtain⟨x,H7,I7,r7,y7,st7,fr7⟩:=hz_
   obtain⟨G7,sp7,rx7⟩:=yl x H7 y7
   have I7':=I7.pinned (stat fr7) (T.obj _ _ st7)
   obtain⟨gD7,hD7⟩:=cW sp7 gD5 hD5
   have sl7:=sl5.step (jK sp7 gD7)
   -- the target
   have hcomp: ∃ ts,tgt k d=some ts:=by
    cases z:tgt k d with
    | some ts=>exact⟨ts,rfl⟩
    | none=>
     exfalso
     rcases j8 go5 with ⟨e,_⟩ | ⟨x',_,e,_,_⟩<;>(unfold dI at e;rw [z] at e;cases e)
   obtain⟨ts,ets⟩:=hcomp
   obtain⟨htl,gt⟩:=aI2 (W:=fun σ' H'=>H'=H7/\SL X.K ad G7 (hid D H7) (ts++cs) σ') ets hnt sp7.gh rx7 sl7 (fun σ' _ q=>⟨rfl,q⟩)
   refine L2.thn (hg s3 H3 pins _ s7 σ5 H7 x u _ I7' r7 gt) fun _ s8 hz_=> ?_
   obtain⟨σ8,H8,I8,e8,sl8⟩:=hz_
   subst e8
   -- again, at the turn's end
   have again: ∀ {s9:Shared} {H9 G9:Hp} {ys9 rest9:List SK.D} {vs9:List V},Inv (cX X N' sc s3 H3 fp pins) ([]++lL fp s7.heap) σ8 H9 s9->Step G2 H2 G9 H9->G9 D=none->H9 D=some (.lst vs9)->aE X.K ad G9 ys9 vs9->bM (dI k cs fc fe) (ds.drop (i+1))=some rest9->ys9++rest9=all->ys9.length<=i+1->
     SL X.K ad G9 (hid D H9) (ts++cs) σ8->(W->RN X.K ad H2 G9 ys9 vs9)-> ∃ m,m<ds.length - i/\Iv m s9:=by
    intro s9 H9 G9 ys9 rest9 vs9 I9 sp9 gD9 hD9 r9 go9 eq9 hy9 sl9 rn9
    refine⟨ds.length - (i+1),by omega,(hIv _ _).mpr ⟨i+1,σ8,H9,G9,ys9,rest9,vs9,I9.unpinned,T.keep _ _ _ st7 fun b hb o e=>(I9.pin (b,o) (bo _ (bo _ (fO hb e)))).1,fun b hb=> ?_,sp9,gD9,hD9,r9,go9,eq9,by omega,rfl,hy9, ?_,rn9⟩⟩
    ·obtain⟨o,e,d'⟩:=T.obj _ _ st7 b hb
     exact(I9.pin (b,o) (bo _ (bo _ (fO hb e)))).2.1
    ·have:=wY sl9
     rwa [htl] at this
   have xpF:XP (cX X N' sc s3 H3 fp pins) ad σ8 (fun _ _=>False):=aAs rfl
   have sp8:Step G2 H2 G7 H8:=sp5.trans sp7
   -- the element
   have elem: ∀ {s9:Shared} {H9 G9:Hp} (x':SK.D) (all':List SK.D),Inv (cX X N' sc s3 H3 fp pins) ([]++lL fp s7.heap) σ8 H9 s9->Step G7 H8 G9 H9->(fe (ts++cs)= .ok x'\/ ∃ l,fe (ts++cs)= .ow l/\x'= .lst l)->bM (dI k cs fc fe) (ds.drop (i+1))=some all'->cR=x'::all'->
     wpAny (model X.prog X.w) X.A (eval elt (cX X N' sc s3 H3 fp pins).env) (fun x s₄=>wpAny (model X.prog X.w) X.A (call (.builtin "list.append") [.ref D,x]) (fun _ s₅=> ∃ m,m<ds.length - i/\Iv m s₅) (fun _ _=>False) s₄) (fun _ _=>False) s9:=by
    intro s9 H9 G9 x' all' I9 sp9 hf hgo' hrest
    obtain⟨gD9,hD9⟩:=cW sp9 gD7 hD7
    have sl9:=sl8.step (jK sp9 gD9)
    refine L2.thn (ME.val (X:=cX X N' sc s3 H3 fp pins) (he s3 H3 pins) I9 sp9.gh (sl9.up wZ) xpF hf) fun u10 s10 hz_=> ?_
    obtain⟨v10,G10,H10,I10,r10,sp10,q10,nw10⟩:=hz_
    obtain⟨gD10,hD10⟩:=cW sp10 gD9 hD9
    have hlen:vs.length<sizeLine:=by
     have:=r5.length
     omega
    refine L2.thn (jW (X:=cX X N' sc s3 H3 fp pins) _ s10 σ8 H10 (.ref D) [v10] (.ref D) [u10] (fun _ H'=>H'=upd H10 D (.lst (vs++[v10]))) I10 rfl (.cons r10 .nil) ⟨D,vs,v10,rfl,rfl,hD10,hlen,rfl⟩) fun _ s11 hz_=> ?_
    obtain⟨_,H11,I11,_,e11⟩:=hz_
    subst e11
    have spT:Step G2 H2 G10 H10:=(sp8.trans sp9).trans sp10
    have spA:Step G2 H2 G10 (upd H10 D (.lst (vs++[v10]))):=gW spT hD gD10
    have rA:aE X.K ad G10 (ys++[x']) (vs++[v10]):=((r5.mono sp7.sg).mono sp9.sg).mono sp10.sg |>.append (aE.cons q10 aE.nil)
    have slA:SL X.K ad G10 (hid D (upd H10 D (.lst (vs++[v10])))) (ts++cs) σ8:=by
     rw [w6]
     exact sl9.step (jK sp10 gD10)
    refine again I11 spA gD10 aM rA hgo' ?_ (by simp;omega) slA fun w=>((((rn5 w).mono sp7.sg).mono sp9.sg).mono sp10.sg).snoc ((nw10 (hw w _)).up (sp8.trans sp9).sh (Same.refl _))
    rw [List.append_assoc]
    rw [hrest] at eq5
    exact eq5
   rcases j8 go5 with ⟨e,hgo'⟩ | ⟨x',all',e,hgo',hrest⟩
   ·-- left out
    unfold dI at e
    rw [ets] at e
    cases fc with
    | none=>
     exfalso
     simp only at e
     cases z:fe (ts++cs)<;>rw [z] at e<;>cases e
    | some f0=>
     simp only at e
     have hT:=hts s3 H3 pins
     match ifs,hT with
     | [c0],hT=>
      have hv:f0 (ts++cs)= .ok (.bl false):=by
       cases z:f0 (ts++cs) with
       | ok dd=>
        rw [z] at e
        cases dd<;>try (cases e)
        rename_i bb
        cases bb with
        | false=>rfl
        | true=>
         exfalso
         simp only at e
         cases z':fe (ts++cs)<;>rw [z'] at e<;>cases e
       | ow _=>rw [z] at e;cases e
       | ex _=>rw [z] at e;cases e
       | bad=>rw [z] at e;cases e
      refine wpAny_tests_one (L2.thn (MT.val (X:=cX X N' sc s3 H3 fp pins) hT I8 sp7.gh (sl8.up wZ) xpF hv) fun ok s9 hz_=> ?_)
      obtain⟨eb,G9,H9,I9,sp9⟩:=hz_
      subst eb
      obtain⟨gD9,hD9⟩:=cW sp9 gD7 hD7
      exact aCd (again I9 (sp8.trans sp9) gD9 hD9 ((r5.mono sp7.sg).mono sp9.sg) hgo' eq5 (by omega) (sl8.step (jK sp9 gD9)) fun w=>((rn5 w).mono sp7.sg).mono sp9.sg)
     | [],hT=>exact hT.elim
     | _::_::_,hT=>exact hT.elim
   ·-- taken
    unfold dI at e
    rw [ets] at e
    cases fc with
    | none=>
     have hT:=hts s3 H3 pins
     match ifs,hT with
     | [],_=>
      refine wpAny_tests_nil (aAg ?_)
      refine elem x' all' I8 (Step.refl sp7.gh) ?_ hgo' hrest
      simp only at e
      cases z:fe (ts++cs) with
      | ok dd=>rw [z] at e;cases e;exact .inl rfl
      | ow l=>rw [z] at e;cases e;exact .inr ⟨l,rfl,rfl⟩
      | ex _=>rw [z] at e;cases e
      | bad=>rw [z] at e;cases e
     | _::r1,hT=>cases r1<;>exact ax hT
    | some f0=>
     simp only at e
     have hT:=hts s3 H3 pins
     match ifs,hT with
     | [c0],hT=>
      have hv:f0 (ts++cs)= .ok (.bl true)/\(fe (ts++cs)= .ok x'\/ ∃ l,fe (ts++cs)= .ow l/\x'= .lst l):=by
       cases z:f0 (ts++cs) with
       | ok dd=>
        rw [z] at e
        cases dd<;>try (cases e)
        rename_i bb
        cases bb with
        | false=>simp only at e;cases e
        | true=>
         simp only at e
         refine⟨rfl, ?_⟩
         cases z':fe (ts++cs) with
         | ok dd=>rw [z'] at e;cases e;exact .inl rfl
         | ow l=>rw [z'] at e;cases e;exact .inr ⟨l,rfl,rfl⟩
         | ex _=>rw [z'] at e;cases e
         | bad=>rw [z'] at e;cases e
       | ow _=>rw [z] at e;cases e
       | ex _=>rw [z] at e;cases e
       | bad=>rw [z] at e;cases e
      refine wpAny_tests_one (L2.thn (MT.val (X:=cX X N' sc s3 H3 fp pins) hT I8 sp7.gh (sl8.up wZ) xpF hv.1) fun ok s9 hz_=> ?_)
      obtain⟨eb,G9,H9,I9,sp9⟩:=hz_
      subst eb
      exact aAg (elem x' all' I9 sp9 hv.2 hgo' hrest)
     | [],hT=>exact hT.elim
     | _::_::_,hT=>exact hT.elim
  ·-- the end
   have ei:i=ds.length:=by omega
   subst ei
   rw [List.drop_length] at go5
   cases go5
   rw [List.append_nil] at eq5
   subst eq5
   refine L2.thn (T.done (cX X N' sc s3 H3 fp pins) rfl rfl rfl hc ds.length [] s5 σ5 H5 (fun _ _=>False) I5 (stat fr5) st5 (hit.stop G5 H5 sp5)) fun r s6 hz_=> ?_
   obtain⟨hr,I6⟩:=hz_
   subst hr
   exact hEnd s3 s6 H3 H5 G5 σ5 D vs I3 f3 I6 sp5 hD gD5 hD5 r5 rn5
 exact codeAny_compStart_list (loop _ rfl) (T.self _ 0 _ _ _ st4 (loop _ rfl))
theorem lV {C:Ctx} {cs:List Nat} {nt:Nat} (hxs:xs.length=nt) (hN:X.N=C.N) (hcs:cS (fun x=>eY C x) (aX sc)=some cs) (hfr: ∀ x∈aX sc,(x,NameKind.free)∈sc.names) (hS:SL X.K ad G H ρ σ) (hlen:σ.length=X.N.length):
  ∃ σc:St,σc.length=(xs++aX sc).length/\(∀ (i:Nat) (x:Str) (v:V),(xs++aX sc)[i]? =some x->σc[i]? =some (some v)-> ∃ j:Nat,X.N[j]? =some x/\σ[j]? =some (some v)/\(x,NameKind.free)∈sc.names)/\
   SL X.K ad G H (ak nt .no++qT cs ρ) σc:=by
 have key: ∀ (ys:List Str) (js:List Nat),cS (fun x=>eY C x) ys=some js->js.length=ys.length/\ ∀ (i:Nat) (y:Str),ys[i]? =some y-> ∃ j,js[i]? =some j/\C.N[j]? =some y:=by
  intro ys
  induction ys with
  | nil=>intro js e;cases e;exact⟨rfl,fun i y h=>by simp at h⟩
  | cons y r ih=>
   intro js e
   unfold cS at e
   cases e1:eY C y with
   | none=>rw [e1] at e;cases e
   | some j=>
    rw [e1] at e
    obtain⟨js',e2,e3⟩:=zMd e
    subst e3
    obtain⟨i1,i2⟩:=ih js' e2
    refine⟨by simp [i1],fun i z h=> ?_⟩
    cases i with
    | zero=>
     simp at h
     subst h
     refine⟨j,rfl, ?_⟩
     have hidx:idx y C.N=some j:=by
      unfold eY at e1
      split at e1
      ·exact e1
      ·exact e1
      ·cases e1
     exact j9 hidx
    | succ i=>
     obtain⟨j',h1,h2⟩:=i2 i z (by simpa using h)
     exact⟨j',by simpa using h1,h2⟩
 obtain⟨k1,k2⟩:=key (aX sc) cs hcs
 refine⟨ak nt none++cs.map (fun j=>(σ[j]?).getD none),by simp [k1,hxs],fun i x v h1 h2=> ?_, ?_,fun i sl e=> ?_⟩
 ·by_cases hi:i<nt
  ·rw [bq (by simpa using hi),List.getElem?_replicate,if_pos hi] at h2
   cases h2
  ·rw [bh (by simpa using hi),List.length_replicate,List.getElem?_map] at h2
   rw [bh (by omega),hxs] at h1
   obtain⟨j,j1,j2⟩:=k2 (i - nt) x h1
   rw [j1] at h2
   have h3:(σ[j]?).getD none=some v:=Option.some.inj h2
   refine⟨j,by rw [hN];exact j2, ?_,hfr x (List.mem_of_getElem? h1)⟩
   cases q:σ[j]? with
   | none=>rw [q] at h3;cases h3
   | some ov=>rw [q] at h3;exact congrArg some h3
 ·simp [qT]
 ·by_cases hi:i<nt
  ·rw [bq (by simpa using hi),List.getElem?_replicate,if_pos hi] at e
   cases e
   refine⟨none, ?_,trivial⟩
   rw [bq (by simpa using hi),List.getElem?_replicate,if_pos hi]
  ·rw [bh (by simpa using hi),List.length_replicate] at e
   unfold qT at e
   rw [List.getElem?_map] at e
   cases q:cs[i - nt]? with
   | none=>rw [q] at e;cases e
   | some j=>
    rw [q] at e
    have e':(ρ[j]?).getD .no=sl:=Option.some.inj e
    refine⟨(σ[j]?).getD none, ?_, ?_⟩
    ·rw [bh (by simpa using hi),List.length_replicate,List.getElem?_map,q]
     rfl
    ·cases q2:ρ[j]? with
     | none=>rw [q2] at e';subst e';trivial
     | some sl'=>
      rw [q2] at e'
      have e'':sl'=sl:=e'
      subst e''
      obtain⟨ov,z1,z2⟩:=hS.at_ j sl' q2
      rw [z1]
      exact z2
end
section
variable {X:Cx} {ad:Ad} {pins:List (Addr×Obj)} {s s2 s3:Shared} {σ:St} {H H2 H3 G G2:Hp} {ρ:Rho} {Q:VK} {E:Nat->Hp->Prop} {pos:Pos} {sc:Scope} {N':List Str} {fp:List Addr}
 {tg it elt:Expr} {ifs:List Expr} {k nt:Nat} {xs:List Str} {cs:List Nat} {fc:Option F} {fi fe:F}
theorem aEt (h: ∀ a b c,it≠ .Set a b c): ∀ x,foldedSetIterable it X.env x=pure x:=by
 intro x
 cases it<;>first | rfl | exact absurd rfl (h _ _ _)
structure CompSc (X:Cx) (C:Ctx) (sc:Scope) (xs:List Str) (cs:List Nat):Prop where
 kind:sc.kind= .function
 cell:Cel sc
 names: ∀ y∈sc.names,y.2= .local->sc.names.lookup y.1=some .local
 fre: ∀ x,(x,NameKind.free)∈sc.names->X.env.kindOf x=some .cell\/X.env.kindOf x=some .free
 frl: ∀ x,(x,NameKind.free)∈sc.names->sc.names.lookup x=some .free
 N:X.N=C.N
 cs:cS (fun x=>eY C x) (aX sc)=some cs
theorem o7 {x:Str} (h:x∈aX sc):(x,NameKind.free)∈sc.names:=by
 unfold aX at h
 obtain⟨p,hp,rfl⟩:=ao.mp h
 obtain⟨h1,h2⟩:=List.mem_filter.mp hp
 obtain⟨y,kk⟩:=p
 have:kk= .free:=by simpa using h2
 subst this
 exact h1
def RKW (K:PySem.W.Frag) (ad:Ad) (W:Prop) (G H:Hp) (r:R) (Q:VK) (E:Nat->Hp->Prop):Prop:=match r with
 | .ow xs=> ∀ p vs G' H',Step G H G' H'->H p=none->G' p=none->H' p=some (.lst vs)->aE K ad G' xs vs->(W->RN K ad H G' xs vs)->Q (.ref p) H'
 | r=>RK K ad G H r Q E
theorem RK.w {K:PySem.W.Frag} {W:Prop} {r:R} (h:RK K ad G H r Q E):RKW K ad W G H r Q E:=by
 cases r with
 | ow xs=>exact fun p vs G' H' st n m e q _=>h p vs G' H' st n m e q
 | _=>exact h
theorem RKW.step {K:PySem.W.Frag} {W:Prop} {r:R} {G' H':Hp} (h:RKW K ad W G H r Q E) (st:Step G H G' H'):RKW K ad W G' H' r Q E:=by
 cases r with
 | ow xs=>exact fun p vs G2 H2 s2 n m e q w=>h p vs G2 H2 (st.trans s2) (st.sh.free n) m e q fun z=>Paired.mapP (w z) fun _ _ y=>y.up st.sh (Same.refl _)
 | ok d=>exact RK.step (K:=K) (ad:=ad) (r:= .ok d) (E:=E) h st
 | ex c=>exact RK.step (K:=K) (ad:=ad) (r:= .ex c) (Q:=Q) h st
 | bad=>exact h
theorem aI4 {U:Prop} {W:It->Hp->Prop} (hr:RKW X.K ad U G H (aP k cs fi fc fe ρ) Q E)
  (q: ∀ J G2 H2 ds all,Step G H G2 H2->ItH X ad J G2 H2 ds->bM (dI k (qT cs ρ) fc fe) ds=some all->RKW X.K ad U G2 H2 (.ow all) Q E->W J H2):IK X ad G H (fi ρ) W E:=by
 unfold aP at hr
 cases e:fi ρ with
 | ok d=>
  rw [e] at hr
  have hr':RKW X.K ad U G H (match lN d with | some ds=>(match bM (dI k (qT cs ρ) fc fe) ds with | some xs=> .ow xs | none=> .bad) | none=> .bad) Q E:=hr
  cases e2:lN d with
  | none=>rw [e2] at hr';exact hr'.elim
  | some ds=>
   rw [e2] at hr'
   have hr2:RKW X.K ad U G H (match bM (dI k (qT cs ρ) fc fe) ds with | some xs=> .ow xs | none=> .bad) Q E:=hr'
   cases e3:bM (dI k (qT cs ρ) fc fe) ds with
   | none=>rw [e3] at hr2;exact hr2.elim
   | some all=>
    rw [e3] at hr2
    exact⟨ds,e2,fun J G' H' st hi=>q J G' H' ds all st hi e3 (RKW.step hr2 st)⟩
 | ow l=>
  rw [e] at hr
  have hr2:RKW X.K ad U G H (match bM (dI k (qT cs ρ) fc fe) l with | some xs=> .ow xs | none=> .bad) Q E:=hr
  cases e3:bM (dI k (qT cs ρ) fc fe) l with
  | none=>rw [e3] at hr2;exact hr2.elim
  | some all=>
   rw [e3] at hr2
   exact fun J G' H' st hi=>q J G' H' l all st hi e3 (RKW.step hr2 st)
 | ex c=>rw [e] at hr;exact hr
 | bad=>rw [e] at hr;exact hr
noncomputable def tEW (X:Cx) (ad:Ad) (W:Prop) (f:F):TE:=fun σ H Q=> ∃ G ρ E,Same G H/\SL X.K ad G H ρ σ/\XP X ad σ E/\RKW X.K ad W G H (f ρ) Q E
theorem sT {U:Prop} (hw:U-> ∀ ρ y,fe ρ≠ .ok y) {C:Ctx} (hc:X.calm=true) (S:CompSc X C sc xs cs) (hi:MI X ad tg it fi) (hset: ∀ a b c,it≠ .Set a b c) (hxs:xs.length=if k=0 then 1 else k)
  (hg: ∀ fp s3 H3 pins',PG (cX X (xs++aX sc) sc s3 H3 fp pins') tg (gTg X.K k)) (hts: ∀ fp s3 H3 pins',MTs (cX X (xs++aX sc) sc s3 H3 fp pins') ad ifs fc) (he: ∀ fp s3 H3 pins',ME (cX X (xs++aX sc) sc s3 H3 fp pins') ad elt fe):
  PE X (.ListComp elt [⟨tg,it,ifs,0⟩] sc pos) (tEW X ad U (aP k cs fi fc fe)):=by
 intro pins s σ H Q I ⟨G,ρ,E,hG,hS,hx,hr⟩
 rw [eval_ListComp]
 have hcl:closureFor sc X.env=pure (qK X.env.cells sc.names []):=lU fun x hx=>by
  obtain⟨c,h⟩:=I.ok.has x (S.fre x hx)
  rw [h];rfl
 refine wpAny_comprehension_free (use:=none) rfl (aEt hset) hcl S.kind S.names ?_
 show wpAny (model X.prog X.w) X.A (eval it X.env) _ X.xe s
 refine L2.thn (hi pins s σ H _ I ⟨G,ρ,E,hG,hS,hx,aI4 (W:=fun J H2=> ∃ G2 ds all,Step G H G2 H2/\ItH X ad J G2 H2 ds/\bM (dI k (qT cs ρ) fc fe) ds=some all/\RKW X.K ad U G2 H2 (.ow all) Q E) hr fun J G2 H2 ds all a b c d=>⟨G2,ds,all,a,b,c,d⟩⟩) fun v s1 h1=>
  L2.thn h1 fun itv s2 hz_=> ?_
 obtain⟨itA,fp,tn,J,H2,e,I2,T,st2,f2,G2,ds,all,sp,hit,hgo,hr2⟩:=hz_
 subst e
 obtain⟨σc,l1,l2,l3⟩:=lV (xs:=xs) (sc:=sc) (nt:=if k=0 then 1 else k) hxs S.N S.cs (fun x h=>o7 h) (hS.step sp) I2.len
 refine o0 (σc:=σc) hw hc I2 T st2 f2 hit hgo sp.gh S.kind S.cell S.fre S.frl l1 l2 rfl l3 (hg fp) (hts fp) (he fp) fun s3 s' H3 H' G' σ' D vs I3 f3 J' sp' hD gD hD' r' rn'=> ?_
 obtain⟨m,hns,_⟩:=J'.loc
 refine⟨m,hns,fun h' sb=>⟨.ref D,H',aCq (fpO:=f3) I3 J' sb,rfl,hr2 D vs G' H' sp' hD gD hD' r' rn'⟩⟩
theorem aEu {C:Ctx} (hc:X.calm=true) (S:CompSc X C sc xs cs) (hi:MI X ad tg it fi) (hset: ∀ a b c,it≠ .Set a b c) (hxs:xs.length=if k=0 then 1 else k)
  (hg: ∀ fp s3 H3 pins',PG (cX X (xs++aX sc) sc s3 H3 fp pins') tg (gTg X.K k)) (hts: ∀ fp s3 H3 pins',MTs (cX X (xs++aX sc) sc s3 H3 fp pins') ad ifs fc) (he: ∀ fp s3 H3 pins',ME (cX X (xs++aX sc) sc s3 H3 fp pins') ad elt fe):
  ME X ad (.ListComp elt [⟨tg,it,ifs,0⟩] sc pos) (aP k cs fi fc fe):=
 PE.imp (sT (U:=False) ax hc S hi hset hxs hg hts he) fun σ H Q ⟨G,ρ,E,hG,hS,hx,hr⟩=>⟨G,ρ,E,hG,hS,hx,hr.w⟩
theorem aEv {a:Addr} {vs:List V} {ds:List D} (hq:SqT X.K H a vs) (r:aE X.K ad G ds vs) (hG:Same G H) (few:vs.length<=sizeLine):ItH X ad (Itt X.K a) G H ds:=by
 refine⟨fun i G1 H1 d st e=> ?_,fun G1 H1 st=>⟨vs,st.sh.seqT hq,by rw [r.length];exact aj _⟩,by rw [<-r.length];exact few⟩
 obtain⟨v,e1,r1⟩:=r.get e
 refine⟨⟨vs,v,st.sh.seqT hq,e1⟩, ?_⟩
 rintro x H2 ⟨rfl,y⟩
 have:=y vs (st.sh.seqT hq)
 rw [e1] at this
 cases this
 exact⟨G1,Step.refl st.gh,r1.mono st.sg⟩
theorem aEw {a:Addr} {vs:List V} {ds:List D} (hq:SqL X.K H a vs) (r:aE X.K ad G ds vs) (hG:Same G H) (few:vs.length<=sizeLine):ItH X ad (Itl X.K a) G H ds:=by
 refine⟨fun i G1 H1 d st e=> ?_,fun G1 H1 st=>⟨vs,st.sh.seq hq,by rw [r.length];exact aj _⟩,by rw [<-r.length];exact few⟩
 obtain⟨v,e1,r1⟩:=r.get e
 refine⟨⟨vs,v,st.sh.seq hq,e1⟩, ?_⟩
 rintro x H2 ⟨rfl,y⟩
 have:=y vs (st.sh.seq hq)
 rw [e1] at this
 cases this
 exact⟨G1,Step.refl st.gh,r1.mono st.sg⟩
theorem w8 {a:Expr} {f:F} (ha:ML X ad a f):MI X ad tg a f:=by
 intro pins s σ H W I ⟨G,ρ,E,hG,hS,hx,hr⟩
 -- the value, then its iterator
 have key0: ∀ (d:D) (ds:List D),items d=some ds->(∀ J G' H',Step G H G' H'->ItH X ad J G' H' ds->W J H')-> ∀ u s1 v H1 G1,Inv X pins σ H1 s1->bF v u->Step G H G1 H1->Seq X ad G1 H1 d v->wpAny (model X.prog X.w) X.A (pyIter u) (PIE X pins σ tg W) X.xe s1:=by
  intro d ds e hw u s1 v H1 G1 I1 r1 st q
  obtain⟨p,vs,rfl,hq,rq⟩:=q.items st.gh e
  cases (show u=Value.ref p from r1)
  rcases hq with ⟨_,hq⟩ | ⟨_,hq⟩
  ·obtain⟨its,rv,pt,hz⟩:=I1.tuple hq
   refine wpAny_pyIter_tuple (show s1.heap.IsTuple p its.toArray from pt) ?_
   refine⟨s1.heap.objs.size,[s1.heap.objs.size],_,_,H1,rfl,I1.kept (t':=s1.toks) fun b o e=>af _ e,lK p _,⟨_,ag _ rfl,rfl,rfl⟩,fun b hb=> ?_,hw _ G1 H1 st (aEv hq rq st.gh hz)⟩
   have e:b=s1.heap.objs.size:=by simpa using hb
   subst e
   exact I1.fpOk (aj _) (I1.hok.fresh (aj _))
  ·obtain⟨its,rv,pt,hz⟩:=I1.list hq
   refine wpAny_pyIter_list pt.isList ?_
   refine⟨s1.heap.objs.size,[s1.heap.objs.size],_,_,H1,rfl,I1.kept (t':=s1.toks) fun b o e=>af _ e,jS p _,⟨_,ag _ rfl,rfl,rfl⟩,fun b hb=> ?_,hw _ G1 H1 st (aEw hq rq st.gh hz)⟩
   have e:b=s1.heap.objs.size:=by simpa using hb
   subst e
   exact I1.fpOk (aj _) (I1.hok.fresh (aj _))
 have key: ∀ (d:D) (ds:List D),lN d=some ds->(∀ J G' H',Step G H G' H'->ItH X ad J G' H' ds->W J H')-> ∀ u s1 v H1 G1,Inv X pins σ H1 s1->bF v u->Step G H G1 H1->Seq X ad G1 H1 d v->wpAny (model X.prog X.w) X.A (pyIter u) (PIE X pins σ tg W) X.xe s1:=by
  intro d ds e hw u s1 v H1 G1 I1 r1 st q
  cases d with
  | tup xs=>exact key0 (.tup xs) ds (show items (.tup xs)=some ds from e) hw u s1 v H1 G1 I1 r1 st q
  | lst xs=>exact key0 (.lst xs) ds (show items (.lst xs)=some ds from e) hw u s1 v H1 G1 I1 r1 st q
  | _=>cases e
 cases e:f ρ with
 | ok d=>
  rw [e] at hr
  obtain⟨ds,e2,hw⟩:=hr
  exact L2.thn (ha pins s σ H (fun v H1=> ∃ G1,Step G H G1 H1/\Seq X ad G1 H1 d v) I ⟨G,ρ,E,hG,hS,hx,by rw [e];exact fun v G1 H1 st q=>⟨G1,st,q⟩⟩) fun u s1 ⟨v,H1,I1,r1,G1,st,q⟩=>key d ds e2 hw u s1 v H1 G1 I1 r1 st q
 | ow l=>
  rw [e] at hr
  exact L2.thn (ha pins s σ H (fun v H1=> ∃ G1,Step G H G1 H1/\Rep X.K ad G1 (.lst l) v) I ⟨G,ρ,E,hG,hS,hx,by rw [e];exact fun p vs G1 H1 st n m e' q=>cO st n m e' q⟩) fun u s1 ⟨v,H1,I1,r1,G1,st,q⟩=>key (.lst l) l rfl hr u s1 v H1 G1 I1 r1 st (.inl q)
 | ex c=>
  rw [e] at hr
  exact L2.thn (ha pins s σ H (fun v H1=>False) I ⟨G,ρ,E,hG,hS,hx,by rw [e];exact hr⟩) fun u s1 ⟨v,H1,I1,r1,q⟩=>q.elim
 | bad=>
  rw [e] at hr
  exact ax hr
theorem aEx {lo:Int} {n:Nat} (hG:Same G H) (few:n<=sizeLine):ItH X ad (Itr lo n) G H ((List.range n).map fun(i:Nat)=>D.int (lo+(i:Int))):=by
 refine⟨fun i G1 H1 d st e=> ?_,fun G1 H1 st=>by simp [Itr],by simpa using few⟩
 rw [List.getElem?_map] at e
 cases q:(List.range n)[i]? with
 | none=>rw [q] at e;cases e
 | some j=>
  rw [q] at e
  obtain⟨hi,hj⟩:=av.mp q
  rw [List.length_range] at hi
  rw [List.getElem_range] at hj
  subst hj
  cases e
  refine⟨hi, ?_⟩
  rintro x H2 ⟨rfl,rfl⟩
  exact⟨G1,Step.refl st.gh,aN⟩
theorem w9 (n:Nat):mO n=(List.range n).map fun(i:Nat)=>D.int (0+(i:Int)):=by
 unfold mO
 congr 1
 funext i
 rw [Int.zero_add]
theorem m7 {f:F} {k:D->R} {W:It->Hp->Prop} {Q':VK} (hG:Same G H) (hS:SL X.K ad G H ρ σ) (hx:XP X ad σ E) (hr:IK X ad G H ((f ρ).bind k) W E)
  (q: ∀ v d G1 H1,Step G H G1 H1->Rep X.K ad G1 d v->IK X ad G1 H1 (k d) W E->Q' v H1):tE X ad f σ H Q':=by
 have ikst: ∀ {r:R} {G1 H1:Hp},IK X ad G H r W E->Step G H G1 H1->IK X ad G1 H1 r W E:=fun {r G1 H1} h st=>by
  cases r with
  | ok d=>obtain⟨ds,e,h⟩:=h;exact⟨ds,e,fun J G' H' st' hi=>h J G' H' (st.trans st') hi⟩
  | ow l=>exact fun J G' H' st' hi=>h J G' H' (st.trans st') hi
  | ex c=>exact fun G' H' st'=>h G' H' (st.trans st')
  | bad=>exact h
 refine⟨G,ρ,E,hG,hS,hx, ?_⟩
 cases e:f ρ with
 | ok d=>
  rw [e] at hr
  exact fun v G1 H1 st r=>q v d G1 H1 st r (ikst hr st)
 | ow xs=>
  rw [e] at hr
  intro p vs G1 H1 st n m e' r
  obtain⟨G2,st2,r2⟩:=cO (X:=X) (ad:=ad) st n m e' r
  exact q _ _ G2 H1 st2 r2 (ikst hr st2)
 | ex c=>
  rw [e] at hr
  exact hr
 | bad=>
  rw [e] at hr
  exact hr
theorem aAv {a:Expr} {f:F} {p:Pos} (hg:L2.Gl X "range") (hm:X.mg "range"=none) (ha:ME X ad a f) (hs:starEach [a] X.env=(false,eval a X.env)::starEach [] X.env):MI X ad tg (.Call (.Name "range" p) [a] [] pos) (aT f):=by
 intro pins s σ H W I ⟨G,ρ,E,hG,hS,hx,hr⟩
 refine n9 (ta:=jU (tE X ad f) aCb) hg hm (bS ha dB hs) hs pins s σ H W I ?_
 show tE X ad f σ H fun v H1=> ∃ j:Int,[v]=[.int j]/\ -(2 ^ 62)<=j/\j<2 ^ 62/\W (Itr 0 j.toNat) H1
 refine m7 hG hS hx hr fun v d G1 H1 st r k=> ?_
 cases d<;>try exact ax k
 rename_i i
 unfold Rep at r;subst r
 have k':IK X ad G1 H1 (if -100000<=i/\i<=100000 then .ok (.lst (mO i.toNat)) else .bad) W E:=k
 by_cases hc: -100000<=i/\i<=100000
 ·rw [if_pos hc] at k'
  obtain⟨ds,e,hw⟩:=k'
  cases e
  refine⟨i,rfl,by omega,by omega,hw _ G1 H1 (Step.refl st.gh) ?_⟩
  rw [w9]
  exact aEx st.gh (by rw [sizeLine_eq];omega)
 ·rw [if_neg hc] at k'
  exact k'.elim
end
structure SS (X:Cx) (ad:Ad) (G₀ G H:Hp) (ρ:Rho) (σ:St):Prop where
 st:Step G₀ X.H₀ G H
 sl:SL X.K ad G H ρ σ
 ow: ∀ (i:Nat) (sl:Slot) (a:Addr),ρ[i]? =some sl->sl.owns=true->σ[i]? =some (some (.ref a))->X.H₀ a=none
 dj: ∀ (i j:Nat) (sl sl':Slot) (a:Addr),ρ[i]? =some sl->ρ[j]? =some sl'->sl.owns=true->sl'.owns=true->σ[i]? =some (some (.ref a))->σ[j]? =some (some (.ref a))->i=j
def OKo (X:Cx) (ad:Ad) (G₀:Hp) (o:Out) (D':Ends) (E:St->Nat->Hp->Prop):Prop:=match o with
 | .nx ρ=> ∀ σ G H,SS X ad G₀ G H ρ σ->D'.nx σ H
 | .bk ρ=> ∀ σ G H,SS X ad G₀ G H ρ σ->D'.bk σ H
 | .ct ρ=> ∀ σ G H,SS X ad G₀ G H ρ σ->D'.ct σ H
 | .ex c ρ=> ∀ σ G H,SS X ad G₀ G H ρ σ->E σ c H
 | .rt (.ok d)=> ∀ v G H,Step G₀ X.H₀ G H->Rep X.K ad G d v->D'.rt v H
 | .rt (.ow xs)=> ∀ p vs G H,Step G₀ X.H₀ G H->X.H₀ p=none->G p=none->H p=some (.lst vs)->aE X.K ad G xs vs->D'.rt (.ref p) H
 | .rt _=>False
def XA (X:Cx) (ad:Ad) (Z:(St->Nat->Hp->Prop)->Prop) (E:St->Nat->Hp->Prop):Prop:=(∀ σ,XP X ad σ (E σ))/\Z E
noncomputable def tS (X:Cx) (ad:Ad) (Z:(St->Nat->Hp->Prop)->Prop) (g:FS):TS:=fun D' σ H=> ∃ G₀ G ρ E,SS X ad G₀ G H ρ σ/\XA X ad Z E/\OKo X ad G₀ (g ρ) D' E
abbrev MS (X:Cx) (ad:Ad) (Z:(St->Nat->Hp->Prop)->Prop) (st:Stmt) (g:FS):Prop:=PS X st (tS X ad Z g)
abbrev MSs (X:Cx) (ad:Ad) (Z:(St->Nat->Hp->Prop)->Prop) (st:List Stmt) (g:FS):Prop:=PSs X st (tS X ad Z g)
section
variable {X:Cx} {ad:Ad} {Z:(St->Nat->Hp->Prop)->Prop} {pins:List (Addr×Obj)} {s:Shared} {σ:St} {H G G₀:Hp} {ρ:Rho} {D':Ends} {E:St->Nat->Hp->Prop} {pos pos':Pos} {e:Expr} {f:F} {g h:FS} {st:Stmt} {sts:List Stmt}
theorem SS.step {G1 H1:Hp} (S:SS X ad G₀ G H ρ σ) (t:Step G H G1 H1):SS X ad G₀ G1 H1 ρ σ:=⟨S.st.trans t,S.sl.step t,S.ow,S.dj⟩
theorem iP {G₀ Gs G H H₀ Hs:Hp} (a:Step G₀ H₀ Gs Hs) (b:Step Gs H₀ G H):Step G₀ H₀ G H:=
 ⟨a.sg.trans b.sg,b.gh,b.sh,fun x h1 h2=>by
  cases q:Gs x with
  | none=>exact b.nw x q h2
  | some o=>exact a.nw x h1 (by rw [q];exact fun z=>nomatch z)⟩
theorem SS.up {Gs Hs:Hp} (a:Step G₀ X.H₀ Gs Hs) (S:SS X ad Gs G H ρ σ):SS X ad G₀ G H ρ σ:=⟨iP a S.st,S.sl,S.ow,S.dj⟩
theorem SS.here (S:SS X ad G₀ G H ρ σ):SS X ad G G H ρ σ:=⟨⟨Same.refl _,S.st.gh,S.st.sh,fun b h1 h2=>absurd h1 h2⟩,S.sl,S.ow,S.dj⟩
theorem OKo.rebase {o:Out} {Gs Hs:Hp} (h:OKo X ad G₀ o D' E) (a:Step G₀ X.H₀ Gs Hs):OKo X ad Gs o D' E:=by
 cases o with
 | nx ρ=>exact fun σ G H S=>h σ G H (S.up a)
 | bk ρ=>exact fun σ G H S=>h σ G H (S.up a)
 | ct ρ=>exact fun σ G H S=>h σ G H (S.up a)
 | ex c ρ=>exact fun σ G H S=>h σ G H (S.up a)
 | rt r=>
  cases r with
  | ok d=>exact fun v G H st q=>h v G H (iP a st) q
  | ow xs=>exact fun p vs G H st n m e q=>h p vs G H (iP a st) n m e q
  | ex c=>exact h
  | bad=>exact h
theorem d9 {k:D->Out} {Q':VK} (S:SS X ad G₀ G H ρ σ) (hx:XA X ad Z E) (hr:OKo X ad G₀ (jC ρ (f ρ) k) D' E)
  (q: ∀ v d G1 H1,Step G H G1 H1->Rep X.K ad G1 d v->OKo X ad G₀ (k d) D' E->Q' v H1):tE X ad f σ H Q':=by
 refine⟨G,ρ,E σ,S.st.gh,S.sl,hx.1 σ, ?_⟩
 unfold jC at hr
 cases e:f ρ with
 | ok d=>rw [e] at hr;exact fun v G1 H1 st r=>q v d G1 H1 st r hr
 | ow xs=>
  rw [e] at hr
  intro p vs G1 H1 st n m e' r
  obtain⟨G2,st2,r2⟩:=cO (X:=X) (ad:=ad) st n m e' r
  exact q _ _ G2 H1 st2 r2 hr
 | ex c=>rw [e] at hr;exact fun G1 H1 st=>hr σ G1 H1 (S.step st)
 | bad=>rw [e] at hr;exact hr
theorem aEy:MS X ad Z (.Pass pos) a9:=PS.imp aDi fun D' σ H ⟨G₀,G,ρ,E,S,hx,hr⟩=>hr σ G H S
theorem aAw:MS X ad Z (.Break pos) aMp:=PS.imp zY fun D' σ H ⟨G₀,G,ρ,E,S,hx,hr⟩=>hr σ G H S
theorem rE:MS X ad Z (.Continue pos) aIi:=PS.imp qM fun D' σ H ⟨G₀,G,ρ,E,S,hx,hr⟩=>hr σ G H S
theorem aEz:MSs X ad Z [] a9:=PSs.imp aDh fun D' σ H ⟨G₀,G,ρ,E,S,hx,hr⟩=>hr σ G H S
theorem aE0 (h1:MS X ad Z st g):MSs X ad Z [st] g:=qL h1
theorem jL (h1:MS X ad Z st g) (h2:MSs X ad Z sts h):MSs X ad Z (st::sts) (aI g h):=by
 refine PSs.imp (fN h1 h2) ?_
 rintro D' σ H ⟨G₀,G,ρ,E,S,hx,hr⟩
 refine⟨G₀,G,ρ,E,S,hx, ?_⟩
 unfold aI at hr
 cases e:g ρ with
 | nx ρ'=>rw [e] at hr;exact fun σ' G' H' S'=>⟨G₀,G',ρ',E,S',hx,hr⟩
 | bk ρ'=>rw [e] at hr;exact hr
 | ct ρ'=>rw [e] at hr;exact hr
 | ex c ρ'=>rw [e] at hr;exact hr
 | rt r=>
  rw [e] at hr
  cases r<;>exact hr
theorem xA (he:ME X ad e f):MS X ad Z (.Return (some e) pos) (bA f):=by
 refine PS.imp (vV he) ?_
 rintro D' σ H ⟨G₀,G,ρ,E,S,hx,hr⟩
 refine⟨G,ρ,E σ,S.st.gh,S.sl,hx.1 σ, ?_⟩
 unfold bA at hr
 cases e:f ρ with
 | ok d=>rw [e] at hr;exact fun v G1 H1 st r=>hr v G1 H1 (S.st.trans st) r
 | ow xs=>rw [e] at hr;exact fun p vs G1 H1 st n m e' r=>hr p vs G1 H1 (S.st.trans st) (S.st.sh.free n) m e' r
 | ex c=>rw [e] at hr;exact fun G1 H1 st=>hr σ G1 H1 (S.step st)
 | bad=>rw [e] at hr;exact hr
theorem aE1:MS X ad Z (.Return none pos) aIh:=PS.imp aDj fun D' σ H ⟨G₀,G,ρ,E,S,hx,hr⟩=>hr .non G H S.st (by unfold Rep;rfl)
theorem aE2 {i:Nat} {x:Str} {p:Pos} (hN:X.N[i]? =some x) (hv:Vis X.env.scope x) (hd:(x==("__debug__":Str))=false) (hcd:(x==("__classdict__":Str))=false):MS X ad Z (.Return (some (.Name x p)) pos) (bA (qS i)):=by
 refine PS.imp (vV (d6 hN hv hd hcd)) ?_
 rintro D' σ H ⟨G₀,G,ρ,E,S,hx,hr⟩
 unfold bA qS at hr
 cases e:ρ[i]? with
 | none=>rw [e] at hr;exact hr.elim
 | some sl=>
  rw [e] at hr
  cases sl with
  | no=>exact hr.elim
  | sh d=>
   obtain⟨v,h1,h2⟩:=S.sl.sh e
   exact⟨v,h1,hr v G H S.st h2⟩
  | ow xs=>
   obtain⟨a,vs,h1,h2,h3,h4⟩:=S.sl.ow e
   exact⟨.ref a,h1,hr a vs G H S.st (S.ow i _ a e rfl h1) h2 h3 h4⟩
theorem aE3 (he:ME X ad e f) (hs:swapsWith e none pos.line X.env=pure false):MS X ad Z (.Expr e pos) (bN f):=by
 refine PS.imp (jR he hs) ?_
 rintro D' σ H ⟨G₀,G,ρ,E,S,hx,hr⟩
 exact d9 S hx hr fun v d G1 H1 st r k=>k σ G1 H1 (S.step st)
theorem SS.set {i:Nat} {d:D} {v:V} (S:SS X ad G₀ G H ρ σ) (r:Rep X.K ad G d v):SS X ad G₀ G H (ρ.set i (.sh d)) (σ.set i (some v)):=by
 have key: ∀ (j:Nat) (sl:Slot),(ρ.set i (.sh d))[j]? =some sl->(j=i/\sl= .sh d/\i<ρ.length)\/(j≠i/\ρ[j]? =some sl):=fun j sl e=>by
  by_cases z:j=i
  ·subst z
   have hl:j<ρ.length:=by have:=(av.mp e).1;rwa [List.length_set] at this
   rw [bg hl] at e
   cases e
   exact .inl ⟨rfl,rfl,hl⟩
  ·rw [ay (Ne.symm z)] at e
   exact .inr ⟨z,e⟩
 refine⟨S.st,⟨by rw [List.length_set,List.length_set];exact S.sl.len,fun j sl e=> ?_⟩,fun j xs a e w h=> ?_,fun j j' xs ys a e e' w w' h h'=> ?_⟩
 ·rcases key j sl e with ⟨rfl,rfl,hl⟩ | ⟨z,e⟩
  ·exact⟨some v,bg (by rw [<-S.sl.len];exact hl),v,rfl,r⟩
  ·obtain⟨ov,h1,h2⟩:=S.sl.at_ j sl e
   exact⟨ov,by rw [ay (Ne.symm z)];exact h1,h2⟩
 ·rcases key j _ e with ⟨_,z,_⟩ | ⟨z,e⟩
  ·subst z;exact(ba w).elim
  ·rw [ay (Ne.symm z)] at h
   exact S.ow j xs a e w h
 ·rcases key j _ e with ⟨_,z,_⟩ | ⟨z,e⟩
  ·subst z;exact(ba w).elim
  ·rcases key j' _ e' with ⟨_,z',_⟩ | ⟨z',e'⟩
   ·subst z';exact(ba w').elim
   ·rw [ay (Ne.symm z)] at h
    rw [ay (Ne.symm z')] at h'
    exact S.dj j j' xs ys a e e' w w' h h'
theorem SL.own_at {K:PySem.W.Frag} {j:Nat} {sl:Slot} {p:Addr} (h:SL K ad G H ρ σ) (e:ρ[j]? =some sl) (w:sl.owns=true) (hj:σ[j]? =some (some (.ref p))):G p=none/\H p≠none:=by
 obtain⟨ov,h1,h2⟩:=h.at_ j sl e
 rw [hj] at h1
 cases h1
 cases sl with
 | no=>exact(ba w).elim
 | sh d=>exact(ba w).elim
 | ow xs=>obtain⟨a,vs,k1,k2,k3,_⟩:=h2;cases k1;exact⟨k2,by rw [k3];exact fun z=>nomatch z⟩
theorem SS.setNew {i:Nat} {sn:Slot} {p:Addr} {G1 H1:Hp} (S:SS X ad G₀ G H ρ σ) (st:Step G H G1 H1) (n:H p=none) (r:SLi X.K ad G1 H1 sn (some (.ref p))):
  SS X ad G₀ G1 H1 (ρ.set i sn) (σ.set i (some (.ref p))):=by
 have S1:=S.step st
 have key: ∀ (j:Nat) (sl:Slot),(ρ.set i sn)[j]? =some sl->(j=i/\sl=sn/\i<ρ.length)\/(j≠i/\ρ[j]? =some sl):=fun j sl e=>by
  by_cases z:j=i
  ·subst z
   have hl:j<ρ.length:=by have:=(av.mp e).1;rwa [List.length_set] at this
   rw [bg hl] at e
   cases e
   exact .inl ⟨rfl,rfl,hl⟩
  ·rw [ay (Ne.symm z)] at e
   exact .inr ⟨z,e⟩
 -- no other slot holds the new list
 have other: ∀ (j:Nat) (sl:Slot),ρ[j]? =some sl->sl.owns=true->σ[j]? ≠some (some (.ref p)):=fun j sl ej w hj=>(S.sl.own_at ej w hj).2 n
 refine⟨S1.st,⟨by rw [List.length_set,List.length_set];exact S.sl.len,fun j sl e'=> ?_⟩,fun j ys a e' w h=> ?_,fun j j' ys zs a e1 e2 w1 w2 h1 h2=> ?_⟩
 ·rcases key j sl e' with ⟨q1,q2,hl⟩ | ⟨z,e'⟩
  ·rw [q1,q2]
   exact⟨some (.ref p),bg (by rw [<-S.sl.len];exact hl),r⟩
  ·obtain⟨ov,h1,h2⟩:=S1.sl.at_ j sl e'
   exact⟨ov,by rw [ay (Ne.symm z)];exact h1,h2⟩
 ·rcases key j _ e' with ⟨q1,_,hl⟩ | ⟨z,e'⟩
  ·rw [q1,bg (by rw [<-S.sl.len];exact hl)] at h
   cases h
   exact S.st.sh.free n
  ·rw [ay (Ne.symm z)] at h
   exact S.ow j ys a e' w h
 ·rcases key j _ e1 with ⟨q1,_,hl⟩ | ⟨z,f1⟩
  ·rcases key j' _ e2 with ⟨q2,_,_⟩ | ⟨z',f2⟩
   ·rw [q1,q2]
   ·rw [q1,bg (by rw [<-S.sl.len];exact hl)] at h1
    cases h1
    rw [ay (Ne.symm z')] at h2
    exact absurd h2 (other j' zs f2 w2)
  ·rcases key j' _ e2 with ⟨q2,_,hl⟩ | ⟨z',f2⟩
   ·rw [q2,bg (by rw [<-S.sl.len];exact hl)] at h2
    cases h2
    rw [ay (Ne.symm z)] at h1
    exact absurd h1 (other j ys f1 w1)
   ·rw [ay (Ne.symm z)] at h1
    rw [ay (Ne.symm z')] at h2
    exact S.dj j j' ys zs a f1 f2 w1 w2 h1 h2
theorem SS.setOw {i:Nat} {xs:List D} {p:Addr} {vs:List V} {G1 H1:Hp} (S:SS X ad G₀ G H ρ σ) (st:Step G H G1 H1) (n:H p=none) (m:G1 p=none) (e:H1 p=some (.lst vs)) (r:aE X.K ad G1 xs vs):
  SS X ad G₀ G1 H1 (ρ.set i (.ow xs)) (σ.set i (some (.ref p))):=S.setNew st n ⟨p,vs,rfl,m,e,r⟩
theorem aI5 {i:Nat} (S:SS X ad G₀ G H ρ σ) (hx:XA X ad Z E) (hr:OKo X ad G₀ (jH i f ρ) D' E):tE X ad f σ H fun v H1=>D'.nx (σ.set i (some v)) H1:=by
 refine⟨G,ρ,E σ,S.st.gh,S.sl,hx.1 σ, ?_⟩
 unfold jH at hr
 cases e:f ρ with
 | ok d=>rw [e] at hr;exact fun v G1 H1 st r=>hr _ G1 H1 ((S.step st).set r)
 | ow xs=>rw [e] at hr;exact fun p vs G1 H1 st n m e' r=>hr _ G1 H1 (S.setOw st n m e' r)
 | ex c=>rw [e] at hr;exact fun G1 H1 st=>hr σ G1 H1 (S.step st)
 | bad=>rw [e] at hr;exact hr
theorem aLs {c:Expr} {a b:List Stmt} (hc:MT X ad c f) (ha:MSs X ad Z a g) (hb:MSs X ad Z b h):MS X ad Z (.If c a b pos) (sIf f g h):=by
 refine PS.imp (aKt hc ha hb) ?_
 rintro D' σ H ⟨G₀,G,ρ,E,S,hx,hr⟩
 unfold sIf at hr
 cases e:f ρ with
 | ok d=>
  rw [e] at hr
  cases d<;>try exact hr.elim
  rename_i k
  refine⟨G,ρ,E σ,S.st.gh,S.sl,hx.1 σ, .inl ⟨k,e⟩, ?_⟩
  rw [e]
  intro v G1 H1 st r
  unfold Rep at r;subst r
  refine⟨k,rfl, ?_⟩
  cases k with
  | true=>exact aAg ⟨G₀,G1,ρ,E,S.step st,hx,hr⟩
  | false=>exact aCd ⟨G₀,G1,ρ,E,S.step st,hx,hr⟩
 | ow xs=>rw [e] at hr;exact hr.elim
 | ex k=>
  rw [e] at hr
  refine⟨G,ρ,E σ,S.st.gh,S.sl,hx.1 σ, .inr ⟨k,e⟩, ?_⟩
  rw [e]
  exact fun G1 H1 st=>hr σ G1 H1 (S.step st)
 | bad=>rw [e] at hr;exact hr.elim
theorem SS.shareG {i:Nat} {sl₀ sn:Slot} {a:Addr} {o:HO} (S:SS X ad G₀ G H ρ σ) (e:ρ[i]? =some sl₀) (w₀:sl₀.owns=true) (h1:σ[i]? =some (some (.ref a))) (h3:H a=some o) (hst:Step G₀ X.H₀ (upd G a o) H) (wn:sn.owns=false)
  (r:SLi X.K ad (upd G a o) H sn (some (.ref a))):SS X ad G₀ (upd G a o) H (ρ.set i sn) σ:=by
 have h2:G a=none:=(S.sl.own_at e w₀ h1).1
 have le:Same G (upd G a o):=Same.upd_new h2
 have hl:i<ρ.length:=(av.mp e).1
 have key: ∀ (j:Nat) (sl:Slot),(ρ.set i sn)[j]? =some sl->(j=i/\sl=sn)\/(j≠i/\ρ[j]? =some sl):=fun j sl e=>by
  by_cases z:j=i
  ·subst z
   rw [bg hl] at e
   cases e
   exact .inl ⟨rfl,rfl⟩
  ·rw [ay (Ne.symm z)] at e
   exact .inr ⟨z,e⟩
 refine⟨hst,⟨by show(ρ.set i _).length=_;rw [List.length_set];exact S.sl.len,fun j sl e'=> ?_⟩,fun j ys b e' w h=> ?_,fun j j' ys zs b e1 e2 w1 w2 k1 k2=> ?_⟩
 ·rcases key j sl e' with ⟨q1,q2⟩ | ⟨z,e'⟩
  ·rw [q1,q2]
   exact⟨some (.ref a),h1,r⟩
  ·obtain⟨ov,k1,k2⟩:=S.sl.at_ j sl e'
   refine⟨ov,k1, ?_⟩
   cases sl with
   | no=>trivial
   | sh d=>obtain⟨v,k3,k4⟩:=k2;exact⟨v,k3,k4.mono le⟩
   | ow ys=>
    obtain⟨b,ws,k3,k4,k5,k6⟩:=k2
    have ne:b≠a:=fun q=>by
     subst q
     subst k3
     exact z (S.dj j i _ _ b e' e rfl w₀ k1 h1)
    exact⟨b,ws,k3,by rw [aO ne];exact k4,k5,k6.mono le⟩
 ·rcases key j _ e' with ⟨_,z⟩ | ⟨z,e'⟩
  ·rw [z,wn] at w;exact(ba w).elim
  ·exact S.ow j ys b e' w h
 ·rcases key j _ e1 with ⟨_,z⟩ | ⟨z,e1⟩
  ·rw [z,wn] at w1;exact(ba w1).elim
  ·rcases key j' _ e2 with ⟨_,z'⟩ | ⟨z',e2⟩
   ·rw [z',wn] at w2;exact(ba w2).elim
   ·exact S.dj j j' ys zs b e1 e2 w1 w2 k1 k2
theorem SS.frz1 {i:Nat} (S:SS X ad G₀ G H ρ σ): ∃ G',SS X ad G₀ G' H (SK.frz1 i ρ) σ/\Same G G':=by
 unfold SK.frz1
 cases e:ρ[i]? with
 | none=>exact⟨G,S,Same.refl _⟩
 | some sl=>
  cases sl with
  | no=>exact⟨G,S,Same.refl _⟩
  | sh d=>exact⟨G,S,Same.refl _⟩
  | ow xs=>
   obtain⟨a,vs,h1,h2,h3,h4⟩:=S.sl.ow e
   have le:Same G (upd G a (.lst vs)):=Same.upd_new h2
   exact⟨_,S.shareG e rfl h1 h3 (S.st.share (S.ow i _ a e rfl h1) h2 h3) rfl ⟨.ref a,rfl,by unfold Rep;exact⟨a,vs,rfl,SqL.of aM,h4.mono le⟩⟩,le⟩
theorem SS.frz {is:List Nat}: ∀ {ρ:Rho} {G:Hp},SS X ad G₀ G H ρ σ-> ∃ G',SS X ad G₀ G' H (SK.frz is ρ) σ/\Same G G':=by
 induction is with
 | nil=>intro ρ G S;exact⟨G,S,Same.refl _⟩
 | cons i is ih=>
  intro ρ G S
  obtain⟨G1,S1,l1⟩:=S.frz1 (i:=i)
  obtain⟨G2,S2,l2⟩:=ih S1
  exact⟨G2,S2,l1.trans l2⟩
theorem dO {is:List Nat} (h1:MS X ad Z st g):MS X ad Z st (b3 is g):=by
 cases is with
 | nil=>exact h1
 | cons i is=>
  refine PS.imp h1 ?_
  rintro D' σ H ⟨G₀,G,ρ,E,S,hx,hr⟩
  obtain⟨G',S',_⟩:=S.frz (is:=i::is)
  exact⟨G₀,G',_,E,S',hx,hr⟩
end
section
variable {X:Cx} {ad:Ad} {Z:(St->Nat->Hp->Prop)->Prop} {pins:List (Addr×Obj)} {s:Shared} {σ:St} {H G G₀:Hp} {ρ:Rho} {D':Ends} {E:St->Nat->Hp->Prop} {pos pos':Pos} {e:Expr} {f:F} {g h:FS} {st:Stmt} {sts:List Stmt}
theorem SS.updG {i:Nat} {sl₀ sn:Slot} {a:Addr} {o:HO} (S:SS X ad G₀ G H ρ σ) (e:ρ[i]? =some sl₀) (w₀:sl₀.owns=true) (h1:σ[i]? =some (some (.ref a))) (r:SLi X.K ad G (upd H a o) sn (some (.ref a))):SS X ad G₀ G (upd H a o) (ρ.set i sn) σ:=by
 have n0:X.H₀ a=none:=S.ow i sl₀ a e w₀ h1
 have h2:G a=none:=(S.sl.own_at e w₀ h1).1
 have hl:i<ρ.length:=(av.mp e).1
 have key: ∀ (j:Nat) (sl:Slot),(ρ.set i sn)[j]? =some sl->(j=i/\sl=sn)\/(j≠i/\ρ[j]? =some sl):=fun j sl e=>by
  by_cases z:j=i
  ·subst z
   rw [bg hl] at e
   cases e
   exact .inl ⟨rfl,rfl⟩
  ·rw [ay (Ne.symm z)] at e
   exact .inr ⟨z,e⟩
 refine⟨gW S.st n0 h2,⟨by rw [List.length_set];exact S.sl.len,fun j sl e'=> ?_⟩,fun j zs b e' w h=> ?_,fun j j' zs zs' b e1 e2 w1 w2 k1 k2=> ?_⟩
 ·rcases key j sl e' with ⟨q1,q2⟩ | ⟨z,f1⟩
  ·rw [q1,q2]
   exact⟨some (.ref a),h1,r⟩
  ·obtain⟨ov,k1,k2⟩:=S.sl.at_ j sl f1
   refine⟨ov,k1, ?_⟩
   cases sl with
   | no=>trivial
   | sh d=>exact k2
   | ow zs=>
    obtain⟨b,vs',k3,k4,k5,k6⟩:=k2
    have ne:b≠a:=fun q=>by
     subst q
     subst k3
     exact z (S.dj j i _ _ b f1 e rfl w₀ k1 h1)
    exact⟨b,vs',k3,k4,by rw [aO ne];exact k5,k6⟩
 ·rcases key j _ e' with ⟨q1,q2⟩ | ⟨z,f1⟩
  ·rw [q1,h1] at h
   cases h
   exact n0
  ·exact S.ow j zs b f1 w h
 ·rcases key j _ e1 with ⟨q1,_⟩ | ⟨z,f1⟩
  ·rcases key j' _ e2 with ⟨q2,_⟩ | ⟨z',f2⟩
   ·rw [q1,q2]
   ·rw [q1] at k1 ⊢
    exact S.dj i j' _ zs' b e f2 w₀ w2 k1 k2
  ·rcases key j' _ e2 with ⟨q2,_⟩ | ⟨z',f2⟩
   ·rw [q2] at k2 ⊢
    exact S.dj j i zs _ b f1 e w1 w₀ k1 k2
   ·exact S.dj j j' zs zs' b f1 f2 w1 w2 k1 k2
theorem SS.upd {i:Nat} {xs ys:List D} {a:Addr} {ws:List V} (S:SS X ad G₀ G H ρ σ) (e:ρ[i]? =some (.ow xs)) (h1:σ[i]? =some (some (.ref a))) (h2:G a=none) (r:aE X.K ad G ys ws):SS X ad G₀ G (L2.upd H a (.lst ws)) (ρ.set i (.ow ys)) σ:=
 S.updG e rfl h1 ⟨a,ws,rfl,h2,aM,r⟩
theorem m8 {cpos:Pos} (hs:starEach [e] X.env=(false,eval e X.env)::starEach [] X.env):((backTo cpos (starEach [e] X.env)).all (fun x=> !x.1)&&(backToKw cpos (keywordEach [] X.env)).all (fun x=>x.1.isSome)
   &&decide ([e].length+([]:List Keyword).length+(if([]:List Keyword).isEmpty then 0 else 1)<30))=true:=by
 rw [hs]
 rfl
theorem aI6 {i:Nat} {x:Str} {p ap cp:Pos} (hN:X.N[i]? =some x) (hv:Vis X.env.scope x) (hd:(x==("__debug__":Str))=false) (hcd:(x==("__classdict__":Str))=false) (he:ME X ad e f) (hs:starEach [e] X.env=(false,eval e X.env)::starEach [] X.env)
  (hline:(ap.endLine==cp.line)=true):MS X ad Z (.Expr (.Call (.Attribute (.Name x p) "append" ap) [e] [] cp) pos) (aAk i f):=by
 refine PS.imp (jR (aDu (T:="list") PySem.F.plainAttrs_list PySem.F.slot_list_append PySem.F.type_list_append jW (d6 hN hv hd hcd) (bS he dB hs) rfl (m8 hs) hline hs rfl) rfl) ?_
 rintro D' σ H ⟨G₀,G,ρ,E,S,hx,hr⟩
 unfold aAk at hr
 cases q:ρ[i]? with
 | none=>rw [q] at hr;exact hr.elim
 | some sl=>
  rw [q] at hr
  cases sl with
  | no=>exact hr.elim
  | sh d=>exact hr.elim
  | ow xs=>
   obtain⟨a,vs,h1,h2,h3,h4⟩:=S.sl.ow q
   refine⟨.ref a,h1, .inl ⟨rfl,vs,SqL.of h3⟩, ?_⟩
   refine d9 S hx hr fun v d G1 H1 st r k=> ?_
   obtain⟨g1,h1'⟩:=cW st h2 h3
   have k':OKo X ad G₀ (if xs.length<LIM then .nx (ρ.set i (.ow (xs++[d]))) else .rt .bad) D' E:=k
   by_cases hc:xs.length<LIM
   ·rw [if_pos hc] at k'
    have r4:=h4.mono st.sg
    refine⟨a,vs,v,rfl,rfl,h1', ?_,k' σ G1 _ ((S.step st).upd q h1 g1 (r4.append (aE.cons r aE.nil)))⟩
    rw [h4.length]
    exact bd hc (by decide)
   ·rw [if_neg hc] at k'
    exact k'.elim
noncomputable def aN0 (K:PySem.W.Frag):V->List V->Hp->VK->Prop:=fun x vs H Q=> ∃ l b xs zs,x= .ref l/\vs=[.ref b]/\H l=some (.lst xs)/\SqL K H b zs/\xs.length+zs.length<=sizeLine/\Q .non (upd H l (.lst (xs++zs)))
theorem aI7:MtM X "list.extend" (aN0 X.K):=by
 intro pins s σ H x vs v us Q I rx rv h
 obtain⟨l,b,xs,zs,rfl,rfl,hH,hB,hz,q⟩:=h
 cases rx
 obtain⟨u,rfl,ru⟩:=rv.one
 cases ru
 obtain⟨z,its,n,r,hl,e⟩:=I.lstM hH
 obtain⟨its2,r2,⟨⟨cls2,dd2,data2,sl2⟩,n2,e2,hc2,hdd2,hd2⟩,_⟩:=I.list hB
 simp only at hc2 hd2 hdd2
 subst hc2 hd2
 have hl2:=r2.length
 have hsz:its.toArray.size+its2.toArray.size<=sizeLine:=by rw [au,au];omega
 have hlong: ¬ (!its.toArray.isEmpty&&Builtin.List.listTooLong (its.toArray.size+its2.toArray.size))=true:=by
  rw [sF hsz,Bool.and_false]
  exact ba
 refine call_meets F.slot_list_extend ⟨_,e,rfl⟩ F.entry_list_extend (F.args_list_extend_2 _ _)
  (oO l its.toArray n b its2.toArray n2 dd2 sl2 hlong (by rw [au];omega) (by omega)) ⟨e,e2, ?_⟩
 refine⟨.non,_,I.lset (its':=its++its2) hH e (by simp) (r.append r2) ?_,rfl,q⟩
 rw [bj]
 omega
theorem aI8 {i:Nat} {x:Str} {p ap cp:Pos} (hN:X.N[i]? =some x) (hv:Vis X.env.scope x) (hd:(x==("__debug__":Str))=false) (hcd:(x==("__classdict__":Str))=false) (he:ME X ad e f) (hs:starEach [e] X.env=(false,eval e X.env)::starEach [] X.env)
  (hline:(ap.endLine==cp.line)=true):MS X ad Z (.Expr (.Call (.Attribute (.Name x p) "extend" ap) [e] [] cp) pos) (aD0 i f):=by
 refine PS.imp (jR (aDu (T:="list") PySem.F.plainAttrs_list PySem.F.slot_list_extend PySem.F.type_list_extend aI7 (d6 hN hv hd hcd) (bS he dB hs) rfl (m8 hs) hline hs rfl) rfl) ?_
 rintro D' σ H ⟨G₀,G,ρ,E,S,hx,hr⟩
 unfold aD0 at hr
 cases q:ρ[i]? with
 | none=>rw [q] at hr;exact hr.elim
 | some sl=>
  rw [q] at hr
  cases sl with
  | no=>exact hr.elim
  | sh d=>exact hr.elim
  | ow xs=>
   obtain⟨a,vs,h1,h2,h3,h4⟩:=S.sl.ow q
   refine⟨.ref a,h1, .inl ⟨rfl,vs,SqL.of h3⟩, ?_⟩
   refine d9 S hx hr fun v d G1 H1 st r k=> ?_
   obtain⟨g1,h1'⟩:=cW st h2 h3
   cases d<;>try exact ax k
   rename_i ys
   have k':OKo X ad G₀ (if xs.length+ys.length<=LIM then .nx (ρ.set i (.ow (xs++ys))) else .rt .bad) D' E:=k
   by_cases hc:xs.length+ys.length<=LIM
   ·rw [if_pos hc] at k'
    have r4:=h4.mono st.sg
    unfold Rep at r
    obtain⟨b,ws,rfl,hq,rq⟩:=r
    refine⟨a,b,vs,ws,rfl,rfl,h1',st.gh.seq hq, ?_,k' σ G1 _ ((S.step st).upd q h1 g1 (r4.append rq))⟩
    rw [h4.length,rq.length]
    exact Nat.le_trans hc (by decide)
   ·rw [if_neg hc] at k'
    exact k'.elim
structure ItG (X:Cx) (ad:Ad) (J:It) (G:Hp) (ds:List D):Prop where
 go: ∀ (i:Nat) (G1 H1:Hp) (d:D),Same G G1->Same G1 H1->ds[i]? =some d->J.go i H1/\ ∀ x H2,J.yld i H1 x H2-> ∃ G2,Step G1 H1 G2 H2/\Rep X.K ad G2 d x
 stop: ∀ (G1 H1:Hp),Same G G1->Same G1 H1->J.stop ds.length H1
def IGK (X:Cx) (ad:Ad) (G H:Hp) (r:R) (W:It->Hp->Prop) (E:Nat->Hp->Prop):Prop:=match r with
 | .ok d=> ∃ ds,items d=some ds/\ ∀ J G' H',Step G H G' H'->ItG X ad J G' ds->W J H'
 | .ow xs=> ∀ J G' H',Step G H G' H'->ItG X ad J G' xs->W J H'
 | .ex c=> ∀ G' H',Step G H G' H'->E c H'
 | .bad=>False
noncomputable def tIG (X:Cx) (ad:Ad) (f:F):TI:=fun σ H W=> ∃ G ρ E,Same G H/\SL X.K ad G H ρ σ/\XP X ad σ E/\IGK X ad G H (f ρ) W E
abbrev MIG (X:Cx) (ad:Ad) (tg e:Expr) (f:F):Prop:=PI X tg e (tIG X ad f)
theorem aE4 {a:Addr} {vs:List V} {ds:List D} (hq:SqT X.K G a vs) (r:aE X.K ad G ds vs):ItG X ad (Itt X.K a) G ds:=by
 refine⟨fun i G1 H1 d s1 s2 e=> ?_,fun G1 H1 s1 s2=>⟨vs,s2.seqT (s1.seqT hq),by rw [r.length];exact aj _⟩⟩
 obtain⟨v,e1,r1⟩:=r.get e
 refine⟨⟨vs,v,s2.seqT (s1.seqT hq),e1⟩, ?_⟩
 rintro x H2 ⟨rfl,y⟩
 have:=y vs (s2.seqT (s1.seqT hq))
 rw [e1] at this
 cases this
 exact⟨G1,Step.refl s2,r1.mono s1⟩
theorem aE5 {a:Addr} {vs:List V} {ds:List D} (hq:SqL X.K G a vs) (r:aE X.K ad G ds vs):ItG X ad (Itl X.K a) G ds:=by
 refine⟨fun i G1 H1 d s1 s2 e=> ?_,fun G1 H1 s1 s2=>⟨vs,s2.seq (s1.seq hq),by rw [r.length];exact aj _⟩⟩
 obtain⟨v,e1,r1⟩:=r.get e
 refine⟨⟨vs,v,s2.seq (s1.seq hq),e1⟩, ?_⟩
 rintro x H2 ⟨rfl,y⟩
 have:=y vs (s2.seq (s1.seq hq))
 rw [e1] at this
 cases this
 exact⟨G1,Step.refl s2,r1.mono s1⟩
theorem aE6 {lo:Int} {n:Nat}:ItG X ad (Itr lo n) G ((List.range n).map fun(i:Nat)=>D.int (lo+(i:Int))):=by
 refine⟨fun i G1 H1 d s1 s2 e=> ?_,fun G1 H1 s1 s2=>by simp [Itr]⟩
 rw [List.getElem?_map] at e
 cases q:(List.range n)[i]? with
 | none=>rw [q] at e;cases e
 | some j=>
  rw [q] at e
  obtain⟨hi,hj⟩:=av.mp q
  rw [List.length_range] at hi
  rw [List.getElem_range] at hj
  subst hj
  cases e
  refine⟨hi, ?_⟩
  rintro x H2 ⟨rfl,rfl⟩
  exact⟨G1,Step.refl s2,aN⟩
theorem m9 {tg a:Expr} {f:F} (ha:ME X ad a f):MIG X ad tg a f:=by
 intro pins s σ H W I ⟨G,ρ,E,hG,hS,hx,hr⟩
 have key: ∀ (d:D) (ds:List D),items d=some ds->(∀ J G' H',Step G H G' H'->ItG X ad J G' ds->W J H')-> ∀ u s1 v H1 G1,Inv X pins σ H1 s1->bF v u->Step G H G1 H1->Rep X.K ad G1 d v->wpAny (model X.prog X.w) X.A (pyIter u) (PIE X pins σ tg W) X.xe s1:=by
  intro d ds e hw u s1 v H1 G1 I1 r1 st q
  obtain⟨p,vs,rfl,hq,rq⟩:=j4 e q
  cases (show u=Value.ref p from r1)
  rcases hq with hq | hq
  ·obtain⟨its,rv,pt,hz⟩:=I1.tuple (st.gh.seqT hq)
   refine wpAny_pyIter_tuple (show s1.heap.IsTuple p its.toArray from pt) ?_
   refine⟨s1.heap.objs.size,[s1.heap.objs.size],_,_,H1,rfl,I1.kept (t':=s1.toks) fun b o e=>af _ e,lK p _,⟨_,ag _ rfl,rfl,rfl⟩,fun b hb=> ?_,hw _ G1 H1 st (aE4 hq rq)⟩
   have e:b=s1.heap.objs.size:=by simpa using hb
   subst e
   exact I1.fpOk (aj _) (I1.hok.fresh (aj _))
  ·obtain⟨its,rv,pt,hz⟩:=I1.list (st.gh.seq hq)
   refine wpAny_pyIter_list pt.isList ?_
   refine⟨s1.heap.objs.size,[s1.heap.objs.size],_,_,H1,rfl,I1.kept (t':=s1.toks) fun b o e=>af _ e,jS p _,⟨_,ag _ rfl,rfl,rfl⟩,fun b hb=> ?_,hw _ G1 H1 st (aE5 hq rq)⟩
   have e:b=s1.heap.objs.size:=by simpa using hb
   subst e
   exact I1.fpOk (aj _) (I1.hok.fresh (aj _))
 cases e:f ρ with
 | ok d=>
  rw [e] at hr
  obtain⟨ds,e2,hw⟩:=hr
  exact L2.thn (ha pins s σ H (fun v H1=> ∃ G1,Step G H G1 H1/\Rep X.K ad G1 d v) I ⟨G,ρ,E,hG,hS,hx,by rw [e];exact fun v G1 H1 st q=>⟨G1,st,q⟩⟩) fun u s1 ⟨v,H1,I1,r1,G1,st,q⟩=>key d ds e2 hw u s1 v H1 G1 I1 r1 st q
 | ow l=>
  rw [e] at hr
  exact L2.thn (ha pins s σ H (fun v H1=> ∃ G1,Step G H G1 H1/\Rep X.K ad G1 (.lst l) v) I ⟨G,ρ,E,hG,hS,hx,by rw [e];exact fun p vs G1 H1 st n m e' q=>cO st n m e' q⟩) fun u s1 ⟨v,H1,I1,r1,G1,st,q⟩=>key (.lst l) l rfl hr u s1 v H1 G1 I1 r1 st q
 | ex c=>
  rw [e] at hr
  exact L2.thn (ha pins s σ H (fun v H1=>False) I ⟨G,ρ,E,hG,hS,hx,by rw [e];exact hr⟩) fun u s1 ⟨v,H1,I1,r1,q⟩=>q.elim
 | bad=>
  rw [e] at hr
  exact ax hr
theorem xB {tg a:Expr} {f:F} {p:Pos} (hg:L2.Gl X "range") (hm:X.mg "range"=none) (ha:ME X ad a f) (hs:starEach [a] X.env=(false,eval a X.env)::starEach [] X.env):MIG X ad tg (.Call (.Name "range" p) [a] [] pos) (aT f):=by
 intro pins s σ H W I ⟨G,ρ,E,hG,hS,hx,hr⟩
 refine n9 (ta:=jU (tE X ad f) aCb) hg hm (bS ha dB hs) hs pins s σ H W I ?_
 show tE X ad f σ H fun v H1=> ∃ j:Int,[v]=[.int j]/\ -(2 ^ 62)<=j/\j<2 ^ 62/\W (Itr 0 j.toNat) H1
 refine⟨G,ρ,E,hG,hS,hx, ?_⟩
 unfold aT at hr
 cases e:f ρ with
 | ok d=>
  rw [e] at hr
  cases d<;>try exact ax hr
  rename_i i
  have k':IGK X ad G H (if -100000<=i/\i<=100000 then .ok (.lst (mO i.toNat)) else .bad) W E:=hr
  by_cases hc: -100000<=i/\i<=100000
  ·rw [if_pos hc] at k'
   obtain⟨ds,e,hw⟩:=k'
   cases e
   intro v G1 H1 st r
   unfold Rep at r;subst r
   refine⟨i,rfl,by omega,by omega,hw _ G1 H1 st ?_⟩
   rw [w9]
   exact aE6
  ·rw [if_neg hc] at k'
   exact k'.elim
 | ow l=>rw [e] at hr;exact ax hr
 | ex c=>rw [e] at hr;exact hr
 | bad=>rw [e] at hr;exact hr
end
noncomputable def gIs:List Nat->TGs
 | []=>aKv
 | i::is=>aDk (gO i) (gIs is)
noncomputable def aAx:List Nat->List V->St->St
 | i::is,v::vs,σ=>aAx is vs (σ.set i (some v))
 | _,_,σ=>σ
theorem xC: ∀ {is:List Nat} {vs:List V} {σ:St} {H:Hp} {Q:St->Hp->Prop},vs.length=is.length->Q (aAx is vs σ) H->gIs is vs σ H Q
 | [],[],_,_,_,_,h=>⟨rfl,h⟩
 | i::is,v::vs,σ,H,Q,e,h=>⟨v,vs,rfl,xC (is:=is) (vs:=vs) (by simpa using e) h⟩
 | [],_::_,_,_,_,e,_=>by simp at e
 | _::_,[],_,_,_,e,_=>by simp at e
noncomputable def gTs (K:PySem.W.Frag) (k:Nat) (is:List Nat):TG:=match k,is with
 | 0,[i]=>gO i
 | k,is=>aHn K is.length (gIs is)
def aCs (X:Cx) (x:Str) (i:Nat):Prop:=X.N[i]? =some x/\Loc X.env.scope x/\(X.fn x=true\/X.env.scope.names.lookup x=some .local)
inductive NmsOk (X:Cx):List Str->List Nat->Prop
 | nil:NmsOk X [] []
 | cons {x:Str} {i:Nat} {xs:List Str} {is:List Nat}:aCs X x i->NmsOk X xs is->NmsOk X (x::xs) (i::is)
section
variable {X:Cx} {ad:Ad} {Z:(St->Nat->Hp->Prop)->Prop} {pins:List (Addr×Obj)} {s:Shared} {σ:St} {H G G₀:Hp} {ρ:Rho} {D':Ends} {E:St->Nat->Hp->Prop} {pos pos':Pos} {e it tg:Expr} {f:F} {g h:FS} {st:Stmt} {body:List Stmt}
theorem NmsOk.len: ∀ {xs:List Str} {is:List Nat},NmsOk X xs is->is.length=xs.length
 | _,_, .nil=>rfl
 | _,_, .cons _ h=>by simp [NmsOk.len h]
theorem xD (hN:X.N.Nodup): ∀ {es:List Expr} {xs:List Str} {is:List Nat},cS (fun(e:Expr)=>match e with | .Name x _=>some x | _=>none) es=some xs->NmsOk X xs is->PGs X es (gIs is)
 | [],xs,is,e,h=>by
  cases e
  cases h
  exact vW
 | a::es,xs,is,e,h=>by
  unfold cS at e
  cases a<;>try (cases e)
  rename_i x px
  simp only at e
  obtain⟨r,e1,e2⟩:=zMd e
  subst e2
  cases h with
  | cons h1 h2=>exact sB (iJ hN h1.1 h1.2.1 h1.2.2) (xD hN e1 h2) rfl
theorem iQ: ∀ {es:List Expr} {xs:List Str},cS (fun(e:Expr)=>match e with | .Name x _=>some x | _=>none) es=some xs->(assignEach es X.env).length=xs.length/\(assignEach es X.env).findIdx? (·.1)=none
 | [],xs,e=>by cases e;exact⟨rfl,rfl⟩
 | a::es,xs,e=>by
  unfold cS at e
  cases a<;>try (cases e)
  rename_i x px
  simp only at e
  obtain⟨r,e1,e2⟩:=zMd e
  subst e2
  obtain⟨h1,h2⟩:=iQ e1
  have q:assignEach (.Name x px::es) X.env=(false,assign (.Name x px) X.env)::assignEach es X.env:=rfl
  rw [q]
  refine⟨by simp [h1], ?_⟩
  rw [List.findIdx?_cons]
  simp [h2]
theorem aI9 {xs:List Str} {k:Nat} {is:List Nat} (hc:X.calm=true) (hN:X.N.Nodup) (e:bU tg=some (xs,k)) (h:NmsOk X xs is):PG X tg (gTs X.K k is)/\(k=0/\is.length=1\/k≠0/\k=is.length):=by
 cases tg<;>try (cases e)
 ·rename_i x px
  cases h with
  | cons h1 h2=>
   cases h2
   exact⟨iJ hN h1.1 h1.2.1 h1.2.2, .inl ⟨rfl,rfl⟩⟩
 ·rename_i es j px
  unfold bU at e
  obtain⟨ys,e1,e2⟩:=zBd e
  by_cases hl:2<=ys.length
  ·rw [if_pos hl] at e2
   cases e2
   obtain⟨q1,q2⟩:=iQ (X:=X) e1
   have hk:=h.len
   refine⟨?_, .inr ⟨by omega,hk.symm⟩⟩
   have P:=aB6 (pos:=px) (k:=j) (n:=is.length) hc (xD hN e1 h) (by rw [q1,hk]) q2
   have:gTs X.K xs.length is=aHn X.K is.length (gIs is):=by
    unfold gTs
    cases is with
    | nil=>simp at hk;omega
    | cons i is=>
     cases hx:xs.length with
     | zero=>omega
     | succ n=>rfl
   rw [this]
   exact P
  ·rw [if_neg hl] at e2
   cases e2
theorem SS.setN: ∀ {is:List Nat} {ds:List D} {vs:List V} {ρ:Rho} {σ:St},SS X ad G₀ G H ρ σ->aE X.K ad G ds vs->SS X ad G₀ G H (SK.setN is ds ρ) (aAx is vs σ)
 | [],ds,vs,ρ,σ,S,r=>by
  have e1:SK.setN [] ds ρ=ρ:=by cases ds<;>rfl
  have e2:aAx [] vs σ=σ:=by cases vs<;>rfl
  rw [e1,e2]
  exact S
 | i::is,[],vs,ρ,σ,S,r=>by
  unfold aE at r
  subst r
  exact S
 | i::is,d::ds,vs,ρ,σ,S,r=>by
  unfold aE at r
  obtain⟨v,vr,rfl,r1,r2⟩:=r
  exact SS.setN (is:=is) (ds:=ds) (vs:=vr) (ρ:=ρ.set i (.sh d)) (σ:=σ.set i (some v)) (S.set r1) r2
theorem aCt {k:Nat} {is:List Nat} {d:D} {v:V} {ρ1:Rho} {Q:St->Hp->Prop} (hk:k=0/\is.length=1\/k≠0/\k=is.length) (e:wF is (k==0) d ρ=some ρ1) (S:SS X ad G₀ G H ρ σ) (r:Rep X.K ad G d v) (q: ∀ σ1,SS X ad G₀ G H ρ1 σ1->Q σ1 H):gTs X.K k is v σ H Q:=by
 rcases hk with ⟨rfl,h1⟩ | ⟨h1,h2⟩
 ·obtain⟨i,rfl⟩:=List.length_eq_one_iff.mp h1
  cases e
  exact q _ (S.set r)
 ·have hb:(k==0)=false:=by simpa using h1
  rw [hb] at e
  have e0:wF is false d ρ=match(generalizing:=false) d with | .tup ds=>if ds.length=is.length then some (SK.setN is ds ρ) else none | _=>none:=by
   cases is with
   | nil=>rfl
   | cons _ _=>rfl
  have e':=e0.symm.trans e
  have hg:gTs X.K k is=aHn X.K is.length (gIs is):=by
   unfold gTs
   cases k with
   | zero=>exact absurd rfl h1
   | succ k=>rfl
  rw [hg]
  cases d<;>try (cases e')
  rename_i ds
  simp only at e'
  by_cases hl:ds.length=is.length
  ·rw [if_pos hl] at e'
   cases e'
   unfold Rep at r
   obtain⟨a,vs,rfl,hq,rq⟩:=r
   exact⟨a,vs,rfl,S.st.gh.seqT hq,by rw [rq.length,hl],xC (by rw [rq.length,hl]) (q _ (S.setN rq))⟩
  ·rw [if_neg hl] at e'
   cases e'
theorem aE7 {α:Type} {ds:List α} {i:Nat} {d:α} (e:ds[i]? =some d):ds.drop i=d::ds.drop (i+1):=by
 obtain⟨h,rfl⟩:=av.mp e
 exact List.drop_eq_getElem_cons h
theorem sU {J:It} {G' H':Hp} {ds:List D} {k:Nat} {is:List Nat} (hk:k=0/\is.length=1\/k≠0/\k=is.length) (S:SS X ad G₀ G' H' ρ σ) (hx:XA X ad Z E) (it:ItG X ad J G' ds) (hr:OKo X ad G₀ (lD (wF is (k==0)) g ds ρ) D' E):
  ∃ W:Nat->Nat->St->Hp->Prop,(∃ m,W 0 m σ H')/\ ∀ i m σ H,W i m σ H->
   (J.stop i H/\D'.nx σ H)\/(J.go i H/\ ∃ N:St->Hp->Prop,(∀ σ' H',N σ' H'-> ∃ m',m'<m/\W (i+1) m' σ' H')/\ ∀ x H',J.yld i H x H'->gTs X.K k is x σ H' fun σ2 H2=>tS X ad Z g { D' with nx:=N,ct:=N,bk:=D'.nx } σ2 H2):=by
 refine⟨fun i m σ H=>m=ds.length - i/\i<=ds.length/\ ∃ G ρ,SS X ad G₀ G H ρ σ/\Same G' G/\OKo X ad G₀ (lD (wF is (k==0)) g (ds.drop i) ρ) D' E,⟨_,rfl,bp _,G',ρ,S,Same.refl _,hr⟩, ?_⟩
 rintro i m σ1 H1 ⟨rfl,hi,G1,ρ1,S1,sm,hr1⟩
 cases q:ds[i]? with
 | none=>
  have hl:ds.length<=i:=List.getElem?_eq_none_iff.mp q
  have:i=ds.length:=by omega
  subst this
  refine .inl ⟨it.stop G1 H1 sm S1.st.gh, ?_⟩
  rw [List.drop_length] at hr1
  exact hr1 σ1 G1 H1 S1
 | some d=>
  have hlt:i<ds.length:=(av.mp q).1
  obtain⟨go,yl⟩:=it.go i G1 H1 d sm S1.st.gh q
  refine .inr ⟨go,fun σ' H'=> ∃ G ρ,SS X ad G₀ G H' ρ σ'/\Same G' G/\OKo X ad G₀ (lD (wF is (k==0)) g (ds.drop (i+1)) ρ) D' E,fun σ' H' ⟨Ga,ρa,Sa,sa,ra⟩=>⟨_,by omega,rfl,hlt,Ga,ρa,Sa,sa,ra⟩,fun x H2 y=> ?_⟩
  obtain⟨G2,st,r2⟩:=yl x H2 y
  rw [aE7 q] at hr1
  unfold lD at hr1
  cases et:wF is (k==0) d ρ1 with
  | none=>rw [et] at hr1;exact hr1.elim
  | some ρ2=>
   rw [et] at hr1
   have S2:=S1.step st
   refine aCt hk et S2 r2 fun σ2 S3=> ?_
   refine⟨G2,G2,ρ2,E,S3.here,hx, ?_⟩
   have hr2:OKo X ad G₀ (match g ρ2 with
    | .nx ρ2=>lD (wF is (k==0)) g (ds.drop (i+1)) ρ2
    | .ct ρ2=>lD (wF is (k==0)) g (ds.drop (i+1)) ρ2
    | .bk ρ2=> .nx ρ2
    | .rt r=> .rt r
    | .ex c ρ2=> .ex c ρ2) D' E:=hr1
   cases eo:g ρ2 with
   | nx ρ3=>
    rw [eo] at hr2
    exact fun σ G H S4=>⟨G,ρ3,S4.up S3.st,(sm.trans st.sg).trans S4.st.sg,hr2⟩
   | ct ρ3=>
    rw [eo] at hr2
    exact fun σ G H S4=>⟨G,ρ3,S4.up S3.st,(sm.trans st.sg).trans S4.st.sg,hr2⟩
   | bk ρ3=>
    rw [eo] at hr2
    exact fun σ G H S4=>hr2 σ G H (S4.up S3.st)
   | ex c ρ3=>
    rw [eo] at hr2
    exact fun σ G H S4=>hr2 σ G H (S4.up S3.st)
   | rt r=>
    rw [eo] at hr2
    have:=hr2.rebase S3.st
    cases r<;>exact this
theorem aJa {k:Nat} {is:List Nat} {xs:List Str} (hp:PassesOwn (model X.prog X.w) X.A X.env X.xe) (hc:X.calm=true) (hN:X.N.Nodup) (hi:MIG X ad tg it f) (ht:bU tg=some (xs,k)) (hn:NmsOk X xs is) (hb:MSs X ad Z body g)
  (hs: ∀ x,foldedSetIterable it X.env x=pure x):MS X ad Z (.For tg it body [] pos) (oT is (k==0) f g):=by
 obtain⟨P,hk⟩:=aI9 hc hN ht hn
 refine PS.imp (aCa hp hc hi P hb hs) ?_
 rintro D' σ H ⟨G₀,G,ρ,E,S,hx,hr⟩
 refine⟨G,ρ,E σ,S.st.gh,S.sl,hx.1 σ, ?_⟩
 unfold oT jC at hr
 cases e:f ρ with
 | ok d=>
  rw [e] at hr
  have hr':OKo X ad G₀ (match items d with | some ds=>lD (wF is (k==0)) g ds ρ | none=> .rt .bad) D' E:=hr
  cases e2:items d with
  | none=>rw [e2] at hr';exact hr'.elim
  | some ds=>
   rw [e2] at hr'
   exact⟨ds,e2,fun J G' H' st it=>sU hk (S.step st) hx it hr'⟩
 | ow xs=>
  rw [e] at hr
  exact fun J G' H' st it=>sU hk (S.step st) hx it hr
 | ex c=>rw [e] at hr;exact fun G1 H1 st=>hr σ G1 H1 (S.step st)
 | bad=>rw [e] at hr;exact hr
theorem aAy {c:Expr} (hp:PassesOwn (model X.prog X.w) X.A X.env X.xe) (hc:MT X ad c f) (hb:MSs X ad Z body g):MS X ad Z (.While c body [] pos) (wG f g):=by
 refine PS.imp (z9 hp hc hb) ?_
 rintro D' σ H ⟨G₀,G,ρ,E,S,hx,hr⟩
 refine⟨fun m σ H=> ∃ G ρ,SS X ad G₀ G H ρ σ/\OKo X ad G₀ (fC f g m ρ) D' E,⟨_,G,ρ,S,hr⟩, ?_⟩
 rintro m σ1 H1 ⟨G1,ρ1,S1,hr1⟩
 cases m with
 | zero=>exact hr1.elim
 | succ m=>
  unfold fC at hr1
  cases e:f ρ1 with
  | ok d=>
   rw [e] at hr1
   cases d<;>try exact hr1.elim
   rename_i k
   refine⟨G1,ρ1,E σ1,S1.st.gh,S1.sl,hx.1 σ1, .inl ⟨k,e⟩, ?_⟩
   rw [e]
   intro v G2 H2 st r
   unfold Rep at r;subst r
   refine⟨k,rfl, ?_⟩
   have S2:=S1.step st
   cases k with
   | false=>exact aCd (hr1 σ1 G2 H2 S2)
   | true=>
    refine aAg ⟨fun σ' H'=> ∃ G ρ,SS X ad G₀ G H' ρ σ'/\OKo X ad G₀ (fC f g m ρ) D' E,fun σ' H' ⟨Ga,ρa,Sa,ra⟩=>⟨m,Nat.lt_succ_self _,Ga,ρa,Sa,ra⟩,G2,G2,ρ1,E,S2.here,hx, ?_⟩
    have hr2:OKo X ad G₀ (match g ρ1 with
     | .nx ρ'=>fC f g m ρ'
     | .ct ρ'=>fC f g m ρ'
     | .bk ρ'=> .nx ρ'
     | .rt r=> .rt r
     | .ex k ρ'=> .ex k ρ') D' E:=hr1
    cases eo:g ρ1 with
    | nx ρ3=>rw [eo] at hr2;exact fun σ G H S4=>⟨G,ρ3,S4.up S2.st,hr2⟩
    | ct ρ3=>rw [eo] at hr2;exact fun σ G H S4=>⟨G,ρ3,S4.up S2.st,hr2⟩
    | bk ρ3=>rw [eo] at hr2;exact fun σ G H S4=>hr2 σ G H (S4.up S2.st)
    | ex c ρ3=>rw [eo] at hr2;exact fun σ G H S4=>hr2 σ G H (S4.up S2.st)
    | rt r=>
     rw [eo] at hr2
     have:=hr2.rebase S2.st
     cases r<;>exact this
  | ow xs=>rw [e] at hr1;exact hr1.elim
  | ex k=>
   rw [e] at hr1
   refine⟨G1,ρ1,E σ1,S1.st.gh,S1.sl,hx.1 σ1, .inr ⟨k,e⟩, ?_⟩
   rw [e]
   exact fun G2 H2 st=>hr1 σ1 G2 H2 (S1.step st)
  | bad=>rw [e] at hr1;exact hr1.elim
theorem aJb {st:Stmt}:MS X ad Z st aKh:=fun _ _ _ _ _ _ ⟨_,_,_,_,_,_,hr⟩=>ax hr
theorem aJc {i:Nat} {x:Str} {op:Operator} (hN:X.N.Nodup) (hi:aCs X x i) (he:ME X ad e f) (ho:op= .Add\/op= .Sub):MS X ad Z (.AugAssign (.Name x pos') op e pos) (aKg i op f):=by
 rcases ho with rfl | rfl
 ·refine PS.imp (aB8 hN hi.1 hi.2.1 he aB9 hi.2.2) ?_
  rintro D' σ H ⟨G₀,G,ρ,E,S,hx,hr⟩
  unfold aKg at hr
  cases q:ρ[i]? with
  | none=>rw [q] at hr;exact hr.elim
  | some sl=>
   rw [q] at hr
   cases sl with
   | no=>exact hr.elim
   | ow _=>exact hr.elim
   | sh d=>
    cases d<;>try exact hr.elim
    rename_i a
    obtain⟨v,h1,h2⟩:=S.sl.sh q
    unfold Rep at h2;subst h2
    refine⟨_,h1,d9 S hx hr fun v d G1 H1 st r k=> ?_⟩
    cases d<;>try exact ax k
    unfold Rep at r;subst r
    exact⟨a,_,rfl,rfl,k _ G1 H1 ((S.step st).set aN)⟩
 ·refine PS.imp (aB8 hN hi.1 hi.2.1 he aHq hi.2.2) ?_
  rintro D' σ H ⟨G₀,G,ρ,E,S,hx,hr⟩
  unfold aKg at hr
  cases q:ρ[i]? with
  | none=>rw [q] at hr;exact hr.elim
  | some sl=>
   rw [q] at hr
   cases sl with
   | no=>exact hr.elim
   | ow _=>exact hr.elim
   | sh d=>
    cases d<;>try exact hr.elim
    rename_i a
    obtain⟨v,h1,h2⟩:=S.sl.sh q
    unfold Rep at h2;subst h2
    refine⟨_,h1,d9 S hx hr fun v d G1 H1 st r k=> ?_⟩
    cases d<;>try exact ax k
    unfold Rep at r;subst r
    exact⟨a,_,rfl,rfl,k _ G1 H1 ((S.step st).set aN)⟩
theorem aAz:aMg X (aK8 X.K):=by
 intro pins s σ H x y v u Q I rx ry h
 obtain⟨p,xs,i,z,rfl,rfl,hq,he,q⟩:=h
 cases rx
 obtain⟨t,rfl⟩:=ry
 obtain⟨its,r,pl,hz⟩:=I.list hq
 obtain⟨j,h1,h2,h3,h4,h5⟩:=mJ he
 obtain⟨w,ew,rw'⟩:=r.get h2
 have hl:=r.length
 have hn:=jT
 have fin:EP X pins σ Q w s:=⟨z,H,I,rw',q⟩
 by_cases h0:0<=i
 ·have hj:i.toNat=j:=by
   rw [seqIndex_of h0 h5] at h1
   exact Option.some.inj h1
  exact wpAny_getItem_list pl.isList h0 (by omega) (by rw [hj];simpa using ew) fin
 ·have hj:(i+(its.toArray.size:Int)).toNat=j:=by
   rw [seqIndex_neg (by omega) h4] at h1
   rw [au, <-hl]
   exact Option.some.inj h1
  exact wpAny_getItem_list_neg pl.isList (by omega) (by rw [au]<;>omega) (by omega) (by rw [hj];simpa using ew) fin
theorem aE8 {i:Nat} {x:Str} {p tp:Pos} {kx:Expr} {fk:F} (hN:X.N[i]? =some x) (hv:Vis X.env.scope x) (hd:(x==("__debug__":Str))=false) (hcd:(x==("__classdict__":Str))=false) (he:ME X ad e f) (hk:ME X ad kx fk)
  (ha: ∀ ov iv new,augStore kx ov iv new=(do holding [new,ov,iv] (setItem ov iv new);release [new,ov,iv] [];pure .next)):
  MS X ad Z (.AugAssign (.Subscript (.Name x p) kx tp) .Add e pos) (aAm i fk f):=by
 refine PS.imp (aDl (d6 hN hv hd hcd) hk aAz he aB9 sE ha) ?_
 rintro D' σ H ⟨G₀,G,ρ,E,S,hx,hr⟩
 unfold aAm at hr
 cases q:ρ[i]? with
 | none=>rw [q] at hr;exact hr.elim
 | some sl=>
  rw [q] at hr
  cases sl with
  | no=>exact hr.elim
  | sh d=>exact hr.elim
  | ow xs=>
   obtain⟨a,vs,h1,h2,h3,h4⟩:=S.sl.ow q
   refine⟨.ref a,h1, ?_⟩
   refine d9 S hx hr fun v2 y G2 H2 st2 r2 k2=> ?_
   obtain⟨g2,h2'⟩:=cW st2 h2 h3
   cases y<;>try exact ax k2
   rename_i j
   unfold Rep at r2;subst r2
   have k':OKo X ad G₀ (match ixD xs.length j with | some m=>(match xs[m]? with | some (.int a)=>jC ρ (f ρ) fun d=>(match d with | .int b=> .nx (ρ.set i (.ow (xs.set m (.int (a+b))))) | _=> .rt .bad) | _=> .rt .bad) | none=> .rt .bad) D' E:=k2
   cases q2:ixD xs.length j with
   | none=>rw [q2] at k';exact k'.elim
   | some m=>
    rw [q2] at k'
    dsimp only at k'
    cases q3:xs[m]? with
    | none=>rw [q3] at k';exact k'.elim
    | some d0=>
     rw [q3] at k'
     cases d0<;>try exact ax k'
     rename_i a0
     dsimp only at k'
     have r4:=h4.mono st2.sg
     obtain⟨v0,e0,r0⟩:=r4.get q3
     unfold Rep at r0;subst r0
     have hat:atI vs j=some (.int a0):=by
      unfold atI
      rw [h4.length, <-sN,q2]
      exact e0
     refine⟨a,vs,j, .int a0,rfl,rfl,SqL.of h2',hat, ?_⟩
     refine d9 (S.step st2) hx k' fun v3 d3 G3 H3 st3 r3 k3=> ?_
     obtain⟨g3,h3'⟩:=cW st3 g2 h2'
     cases d3<;>try exact ax k3
     rename_i b0
     unfold Rep at r3;subst r3
     refine⟨a0,b0,rfl,rfl,a,vs,j,m,rfl,rfl,h3',by rw [h4.length, <-sN];exact q2, ?_⟩
     exact k3 σ G3 _ (((S.step st2).step st3).upd q h1 g3 (aE.set aN m (r4.mono st3.sg)))
end
section
variable {X:Cx} {ad:Ad} {pins:List (Addr×Obj)} {s s3:Shared} {σ σ2:St} {H G G₀ H3 H':Hp} {ρ:Rho} {Q:VK} {D':Ends} {E:St->Nat->Hp->Prop} {pos pos' cpos:Pos} {elt it tg:Expr} {ifs:List Expr} {f fi fe:F} {fc:Option F} {sc:Scope} {k:Nat} {cs:List Nat} {xs:List Str}
theorem rF {s2:Shared} {h':Heap} (I3:Inv X pins σ H3 s3) (I2:Inv X pins σ2 H' s2) (hf:H' s3.heap.objs.size=none) (sb:Heap.SameBut s3.heap.objs.size s2.heap h'):Inv X pins σ2 H' { s2 with heap:=h' }:=by
 refine I2.turned (t':=s2.toks) (it:=s3.heap.objs.size) (fun b o ne e=>(sb.2 b ne).trans e) hf ?_ (.inr I3.sz) (fun x c h z=> ?_) fun p hp z=> ?_
 ·intro z
  obtain⟨m,hn,_⟩:=I3.loc
  obtain⟨o,_,_,ho,_⟩:=hn
  exact absurd (ah ho) (by rw [<-z];exact Nat.lt_irrefl _)
 ·obtain⟨v,o,ho,_⟩:=I3.cell x c h
  exact absurd (ah ho) (by rw [z];exact Nat.lt_irrefl _)
 ·obtain⟨ho,_⟩:=I3.pin p hp
  exact absurd (ah ho) (by rw [z];exact Nat.lt_irrefl _)
theorem aA0 {h h':Heap} {a C:Addr} {m:Str->Option Value} (n:h.Ns C m) (sb:Heap.SameBut a h h') (ne:C≠a):h'.Ns C m:=by
 obtain⟨o,es,ep,ho,r⟩:=n
 exact⟨o,es,ep,(sb.2 C ne).trans ho,r⟩
theorem sV {U:Prop} (hw:U-> ∀ ρ y,fe ρ≠ .ok y) {C:Ctx} {i:Nat} {x:Str} (hN:X.N.Nodup) (hi:aCs X x i) (hc:X.calm=true) (S:CompSc X C sc xs cs) (hit:MI X ad tg it fi) (hset: ∀ a b c,it≠ .Set a b c) (hxs:xs.length=if k=0 then 1 else k)
  (hg: ∀ fp s3 H3 pins',PG (cX X (xs++aX sc) sc s3 H3 fp pins') tg (gTg X.K k)) (hts: ∀ fp s3 H3 pins',MTs (cX X (xs++aX sc) sc s3 H3 fp pins') ad ifs fc) (he: ∀ fp s3 H3 pins',ME (cX X (xs++aX sc) sc s3 H3 fp pins') ad elt fe)
  (hs:swapsWith (.ListComp elt [⟨tg,it,ifs,0⟩] sc cpos) (some (.Name x pos')) pos.line X.env=pure true):
  PS X (.Assign [.Name x pos'] (.ListComp elt [⟨tg,it,ifs,0⟩] sc cpos) pos) (zZ (tEW X ad U (aP k cs fi fc fe)) (gO i)):=by
 intro pins s σ H D' I ⟨G,ρ,E,hG,hS,hx,hr⟩
 rw [exec_Assign_Name_used _ _ _ _ hs]
 have hcl:closureFor sc X.env=pure (qK X.env.cells sc.names []):=lU fun x hx=>by
  obtain⟨c,h⟩:=I.ok.has x (S.fre x hx)
  rw [h];rfl
 refine aa (wpAny_standAt (aa ?_))
 show wpAny _ X.A (do let _<-comprehension (.ListComp elt [⟨tg,it,ifs,0⟩] sc cpos) sc X.env _ (newList []) false (eval it X.env) (some (assign (.Name x pos') X.env))) _ _ s
 refine aa (wpAny_mono (wpAny_comprehension_free (use:=some (assign (.Name x pos') X.env)) (Q:=fun _ s'=>SP X pins D' .next s') rfl (aEt hset) hcl S.kind S.names ?_) (fun _ s' hq=>ae (ae hq)) fun _ _ e=>e)
 refine L2.thn (hit pins s σ H _ I ⟨G,ρ,E,hG,hS,hx,aI4 (W:=fun J H2=> ∃ G2 ds all,Step G H G2 H2/\ItH X ad J G2 H2 ds/\bM (dI k (qT cs ρ) fc fe) ds=some all/\RKW X.K ad U G2 H2 (.ow all) (fun v H1=>gO i v σ H1 D'.nx) E) hr fun J G2 H2 ds all a b c d=>⟨G2,ds,all,a,b,c,d⟩⟩) fun v s1 h1=>
  L2.thn h1 fun itv s2 hz_=> ?_
 obtain⟨itA,fp,tn,J,H2,e,I2,T,st2,f2,G2,ds,all,sp,hit,hgo,hr2⟩:=hz_
 subst e
 obtain⟨σc,l1,l2,l3⟩:=lV (xs:=xs) (sc:=sc) (nt:=if k=0 then 1 else k) hxs S.N S.cs (fun x h=>o7 h) (hS.step sp) I2.len
 refine o0 (σc:=σc) hw hc I2 T st2 f2 hit hgo sp.gh S.kind S.cell S.fre S.frl l1 l2 rfl l3 (hg fp) (hts fp) (he fp) fun s3 s' H3 H' G' σ' D vs I3 f3 J' sp' hD gD hD' r' rn'=> ?_
 obtain⟨m,hns,_⟩:=J'.loc
 have I4:Inv X pins σ H' s':=aCq (fpO:=f3) I3 J' ⟨rfl,fun _ _=>rfl⟩
 show wpAny _ X.A (assign (.Name x pos') X.env (.ref D)) _ _ _
 refine wpAny_assign_Name (n6 I4 hN hi.1 hi.2.1 (v:= .ref D) rfl (fun s'' I5 ⟨a,sb,ha⟩=> ?_) hi.2.2)
 have ne:s3.heap.objs.size≠a:=by
  rcases ha with rfl | ha
  ·intro z
   obtain⟨m',hn,_⟩:=I3.loc
   obtain⟨o,_,_,ho,_⟩:=hn
   exact absurd (ah ho) (by rw [<-z];exact Nat.lt_irrefl _)
  ·intro z
   obtain⟨v,o,ho,_⟩:=I3.cell x a ha
   exact absurd (ah ho) (by rw [<-z];exact Nat.lt_irrefl _)
 refine⟨m,aA0 hns sb ne,fun h' sb'=> ?_⟩
 exact⟨σ.set i (some (.ref D)),H',rF I3 I5 J'.free sb',hr2 D vs G' H' sp' hD gD hD' r' rn'⟩
theorem aE9 {C:Ctx} {i:Nat} {x:Str} (hN:X.N.Nodup) (hi:aCs X x i) (hc:X.calm=true) (S:CompSc X C sc xs cs) (hit:MI X ad tg it fi) (hset: ∀ a b c,it≠ .Set a b c) (hxs:xs.length=if k=0 then 1 else k)
  (hg: ∀ fp s3 H3 pins',PG (cX X (xs++aX sc) sc s3 H3 fp pins') tg (gTg X.K k)) (hts: ∀ fp s3 H3 pins',MTs (cX X (xs++aX sc) sc s3 H3 fp pins') ad ifs fc) (he: ∀ fp s3 H3 pins',ME (cX X (xs++aX sc) sc s3 H3 fp pins') ad elt fe)
  (hs:swapsWith (.ListComp elt [⟨tg,it,ifs,0⟩] sc cpos) (some (.Name x pos')) pos.line X.env=pure true):
  PS X (.Assign [.Name x pos'] (.ListComp elt [⟨tg,it,ifs,0⟩] sc cpos) pos) (zZ (tE X ad (aP k cs fi fc fe)) (gO i)):=
 PS.imp (sV (U:=False) ax hN hi hc S hit hset hxs hg hts he hs) fun D' σ H ⟨G,ρ,E,hG,hS,hx,hr⟩=>⟨G,ρ,E,hG,hS,hx,RK.w hr⟩
end
section
variable {X:Cx} {ad:Ad} {Z:(St->Nat->Hp->Prop)->Prop} {e:Expr} {f:F}
end
open PySem.W PySem.Calls Builtin Builtin.ObjectAttr Builtin.Getset_descriptor
section
variable {prog:Program} {w:World} {A:Around} {E:Value->Shared->Prop} {s:Shared} {K:Frag} {x C:Addr} {R:Result->Shared->Prop}
theorem mT.ty {M:Model} {h:Heap} (I:mT h x C):Looks M h (typeOf (.ref x)) (.ref C):=by
 obtain⟨o,vs,h1,h2,h3⟩:=I
 exact h2▸(Looks.ld h1).andThen .now
theorem aFa {tp:Value} (X:K.In s.heap) (I:mT s.heap x C) (hm:mroIn K C (.type "object")=some true) (h:R (.ok (.ret (.ref C))) s):
  codeAny (model prog w) A (.call (.builtin "getset_descriptor.__get__") ⟨[.builtin "object.__class__", .ref x,tp],[]⟩) R s:=by
 obtain⟨hh,g,dr,t,os⟩:=s
 have L0:=I.ty (M:=model prog w)
 have L1:=looks_mroIn (M:=model prog w) X hm
 refine codeAny_call_builtin KF.slot_gs.plain KF.entry_gs (KF.slot_gs.check _ _ _ _ _ _ _ _ KF.type_class (KF.args_gs _ _ _) ?_)
 unfold Builtin.«getset_descriptor.__get__» descrGet
 rw [dga_obj]
 refine aa (ae ?_)
 unfold descrGetter descrCheckInstance descrNameAndClass isInstance
 simp only [KF.owner_class]
 repeat lk
 refine⟨Code.quiet_builtin _ (by decide+kernel),codeAny_builtin KF.entry_class ?_⟩
 unfold Builtin.«object.__class__» shownTypeOf
 repeat lk
 exact h
theorem xE {M:Model} {nameV:Value} {Q:Unit->Shared->Prop} (X:K.In s.heap) (I:mT s.heap x C) (hm:mroIn K C (.type "BaseException")=some true) (hq:Q () s):wpAny M A (checkBuiltinCall "BaseException.__getattribute__" ⟨[.ref x,nameV],[]⟩) Q E s:=by
 obtain⟨hh,g,dr,t,os⟩:=s
 have hk:builtinKind "BaseException.__getattribute__"=some .slot:=by decide+kernel
 have hsplit:splitId "BaseException.__getattribute__"=some ("BaseException","__getattribute__"):=by decide+kernel
 have L0:=I.ty (M:=M)
 have L1:=looks_mroIn (M:=M) X hm
 have ha:=F.args_bexc_ga (.ref x) nameV
 simp only [checkBuiltinCall,hk,hsplit]
 refine aa ?_
 unfold isInstance
 refine aa (L0.at (L1.at ?_))
 repeat (any_goals (first | assumption | wp_step))
theorem xF {tk:Tok} {Q:PySem.Fin->Shared->Prop} (X:K.In s.heap) (I:mT s.heap x C) (hm:mroIn K C (.type "object")=some true) (ha:findIn K (.ref C) "__class__"=some (some (.builtin "object.__class__"))) (hq:Q (.done (.ret (.ref C))) s):
  wpAny (model prog w) A (Builtin.«object.__getattribute__» ⟨[.ref x, .str "__class__" tk],[]⟩) Q E s:=by
 obtain⟨hh,g,d,t,os⟩:=s
 have hT5:(⟨hh,g,d,t,os⟩:Shared).TypeIs (.builtin "object.__class__") "getset_descriptor":=F.typeOf_object_class
 have f5:=F.typeOf_object_class
 have f6:=F.slot_gs_get.lookup
 have f7:=F.slot_gs_set.lookup
 have L0:=I.ty (M:=model prog w)
 have L1:=looks_findIn (M:=model prog w) X ha
 obtain⟨o,vs,hx,hc,hd⟩:=id I
 repeat (any_goals (first | assumption | (with_reducible refine wpAny_loadPart_at hx ?_;rw [hc]) | with_reducible refine L1.at ?_ | wp_step))
 refine aFa X I hm ?_
 repeat (any_goals (first | assumption | wp_step))
theorem xG {Q:Option Value->Shared->Prop} (X:K.In s.heap) (I:mT s.heap x C) (hm:mroIn K C (.type "object")=some true) (hb:mroIn K C (.type "BaseException")=some true) (ha:findIn K (.ref C) "__class__"=some (some (.builtin "object.__class__")))
  (hg:findIn K (.ref C) "__getattribute__"=some (some (.builtin "BaseException.__getattribute__"))) (hn:findIn K (.ref C) "__getattr__"=some none) (h:Q (some (.ref C)) { s with toks:=s.toks+1 }):
  wpAny (model prog w) A (getAttr? (.ref x) "__class__") Q E s:=by
 obtain⟨hh,g,d,t,os⟩:=s
 have L0:=I.ty (M:=model prog w)
 have L1:=looks_findIn (M:=model prog w) X hg
 have L2:=looks_findIn (M:=model prog w) X hn
 have f3:=PySem.F.excAttr_ValueError.ga.bind (.ref x)
 have hx2:(Value.builtin "BaseException.__getattribute__"==Value.builtin "object.__getattribute__")=false:=by decide+kernel
 have hx1:(onTheHeap (Value.ref C)&&Value.builtin "BaseException.__getattribute__"==Value.builtin "object.__getattribute__")=false:=by rw [hx2];rfl
 obtain⟨o,vs,hx,hc,hd⟩:=id I
 unfold getAttr? getAttrBy? getAttrBy
 repeat (any_goals (first | assumption | (with_reducible refine wpAny_loadPart_at hx ?_;rw [hc]) | with_reducible refine L1.at ?_ | with_reducible refine L2.at ?_ | wp_step))
 refine codeAny_call_builtin PySem.F.excAttr_ValueError.ga.plain F.entry_bexc_ga (xE X I hb (xF X I hm ha ?_))
 repeat (any_goals (first | assumption | wp_step))
end
theorem _root_.L2.ObjOk.there {P:Program} {w:World} {H:Hp} {h:Heap} {a:Addr} {o:HO} (x:ObjOk P w H h a o): ∃ ob,h.get? a=some ob:=by
 cases o with
 | lst xs=>obtain⟨_,_,_,_,e⟩:=x;exact⟨_,e⟩
 | tup xs=>obtain⟨_,_,_,⟨ob,e,_⟩,_⟩:=x;exact⟨_,e⟩
 | dK kvs=>obtain⟨_,_,_,_,o,_,_,e,_⟩:=x;exact⟨_,e⟩
 | dT kvs=>obtain⟨_,_,_,_,o,_,_,e,_⟩:=x;exact⟨_,e⟩
 | set S n=>obtain⟨o,_,_,_,e,_⟩:=x;exact⟨_,e⟩
 | ins C dx fs=>obtain⟨_,_,_,e,_⟩:=x;exact⟨_,e⟩
 | own y=>exact x
 | xd fs=>obtain⟨_,⟨_,_,_,e,_⟩,_⟩:=x;exact⟨_,e⟩
 | rng lo hi=>obtain⟨_,_,_,e⟩:=x;exact⟨_,e⟩
 | frz ob u=>obtain⟨e,_⟩:=x;exact⟨_,e⟩
 | tbl ps=>exact⟨_,(show h.get? a=some _ from x)⟩
 | met f y=>exact⟨_,(show h.get? a=some _ from x)⟩
 | ext φ=>obtain⟨_,e,_⟩:=x;exact e
section
variable {X:Cx} {ad:Ad} {pins:List (Addr×Obj)} {s:Shared} {σ:St} {H H':Hp} {B h':Heap} {ea:Addr} {cls a0:Value} {E₀:XK} {E:Nat->Hp->Prop}
structure DefX (X:Cx) (E₀:XK):Prop where
 ex:X.ex=[]
 stk:X.stack=X.env::X.outer
 fr:X.env.frame=some X.env.locals
 xe: ∀ e s',wpAny (model X.prog X.w) X.A (leaving X.env e) (fun _ s''=>CXe X.prog X.w X.outer X.H₀ X.s₀ E₀ e s'') (fun e' s''=>CXe X.prog X.w X.outer X.H₀ X.s₀ E₀ e' s'') s'->X.xe e s'
theorem sW (J:Inv X pins σ H s) {b:Addr} {o:Obj} (e:X.s₀.heap.get? b=some o):b≠X.env.locals:=fun z=>by
 have:=ah e
 rw [z] at this
 exact absurd (bd this J.ok.above) (Nat.lt_irrefl _)
theorem xH (J:Inv X pins σ H s) {b:Addr} {o:Obj} (e:X.s₀.heap.get? b=some o) (nf:b∉X.fs):b∉frs X.stack:=fun z=>by
 rcases aq.mp (J.stkSub b z) with q | q
 ·exact sW J e q
 ·exact nf q
theorem aCu (T:DefX X E₀) (J:Inv X pins σ H' s) (fly:Heap.FlyingW B X.outer ea cls a0 h') (ff:s.heap.FunFrames B X.stack) (stays:B.StaysIn s.heap) (up:s.heap.UpToSlots h')
  (c8: ∀ b o,X.s₀.heap.get? b=some o->b∉X.fs-> ∃ o',B.get? b=some o') (c9: ∀ b o,H' b=some o-> ∃ o',B.get? b=some o') (ne:H' ea=none) (q:E₀ cls none H'):
  CXe X.prog X.w X.outer X.H₀ X.s₀ E₀ (.ref ea) { s with heap:=h' }:=by
 have nx: ∀ b,b∉X.ex:=fun b=>by rw [T.ex];simp
 have st2:B.StaysIn h':=fly.1
 have inB: ∀ b o,s.heap.get? b=some o->(∃ o',B.get? b=some o')->h'.get? b=some o:=fun b o e ⟨o',e'⟩=>by
  have:=stays b o' e'
  rw [e] at this
  cases this
  exact st2 b o e'
 have frame: ∀ b∈X.fs, ∀ o,s.heap.get? b=some o-> ∃ sl,h'.get? b=some { o with slots:=sl }:=fun b hb o e=>by
  obtain⟨_,o2,e2,nf⟩:=ff.mem (b:=b) (by rw [T.stk];show b∈frs (X.env::X.outer);unfold frs;rw [List.filterMap_cons,T.fr];exact List.mem_cons_of_mem _ hb)
  rw [e] at e2
  cases e2
  exact up b o e nf
 refine⟨ea,cls,a0,H',B,rfl,J.os,J.bare,fly,⟨fun b o e n hf _=> ?_,fun b o e n hf _=> ?_,fun b o e n _=> ?_,fun b o e _=> ?_,J.base.tups,J.base.frzs,J.base.tbls⟩,fun b o e=> ?_,ne,c8,c9,q⟩
 ·exact inB b o (J.base.keep b o e n hf (nx b)) (c8 b o e hf)
 ·obtain⟨sl,e1⟩:=J.base.slot b o e n hf (nx b)
  obtain⟨sl',e2⟩:=frame b hf _ e1
  exact⟨sl',e2⟩
 ·exact J.base.free b o e n (nx b)
 ·obtain⟨o',e1⟩:=J.base.there b o e (nx b)
  by_cases hf:b∈X.fs
  ·obtain⟨sl,e2⟩:=frame b hf _ e1
   exact⟨_,e2⟩
  ·exact⟨o',inB b o' e1 (c8 b o e hf)⟩
 ·refine(J.hok b o e).stay (fun c v hc e1=> ?_) (fun _ z=>z) fun _ _ z=>z
  rcases hc with rfl | hc
  ·exact inB c v e1 (c9 c o e)
  ·exact inB c v e1 (c9 c _ hc)
theorem xI (T:DefX X E₀):XP X ad σ (fun c H'=>E₀ (.ref (ad.cls c)) none H'):=by
 intro pins H s e s' I hc
 obtain⟨ea,cls,a0,H',B,rfl,ho,hg,fly,un,hok,ne,c8,c9,c,rfl,q⟩:=hc
 have J:Inv X pins σ H' s':=I.call' (ch:=[]) ho un hok hg fun b hb=>by simp at hb
 refine T.xe _ _ ?_
 have hfr:X.A.frames=some (X.env::X.outer):=by rw [<-T.stk];exact I.ok.frames
 rw [T.stk] at fly
 refine wpAny_leaves_onW hfr T.fr fly fun h' fly' up=> ?_
 refine aCu T J fly' (by rw [T.stk];exact fly.2.2.1) fly.1 up (fun b o e hf=> ?_) c9 ne q
 obtain⟨o',e1⟩:=I.base.there b o e (by rw [T.ex];simp)
 exact c8 b o' e1 (xH I e hf)
theorem aA1 {x:Str} {C:Addr} {np cpos pos kp:Pos} {msg:Str} {j:Nat} {D':Ends} (T:DefX X E₀) (hc:X.calm=true) (hg:L2.Gl X x) (hm:X.mg x=some (.ref C)) (hd:(x==("__debug__":Str))=false) (hi:excIn X.K C [.type "ValueError", .type "Exception", .type "BaseException", .type "object"] "ValueError.__new__"=true)
  (I:Inv X pins σ H s) (q:E₀ (.ref C) none H):wpAny (model X.prog X.w) X.A (exec (.Raise (some (.Call (.Name x np) [.Constant (.str msg) j kp] [] cpos)) none pos) X.env) (SP X pins D') X.xe s:=by
 have obj: ∀ h₀:Heap,X.K.In h₀-> ∃ bm N nm q bs hdct sn sub ab col dd k0 k1 k2 k3 k5 mN,h₀.get? C=some (excClassObj nm q C N bs bm hdct sn sub ab col dd k0 k1 k2 k3 k5 "ValueError.__new__")/\h₀.Ns N mN/\mN "__init__"=none/\OwnTail h₀ [.type "ValueError", .type "Exception", .type "BaseException", .type "object"] bm:=by
  intro h₀ Z
  have q:=hi
  unfold excIn at q
  split at q
  ·rename_i dd cd sl ho
   split at q
   ·rename_i C' bm k0 k1 k2 k3 n k5 hm hs
    simp only [ar,beq_iff_eq,Bool.not_eq_true'] at q
    obtain⟨⟨⟨⟨⟨rfl,rfl⟩,hdel⟩,ht⟩,hok⟩,hni⟩:=q
    obtain⟨nm,bs,mro,ns,qn,hd,sn,sub,ab,col,del⟩:=cd
    dsimp only at hm hdel hok hni
    subst hm hdel
    have hsl:sl= #[k0,k1,k2,k3,some (.builtin "ValueError.__new__"),k5]:=by
     obtain⟨l⟩:=sl
     simp only at hs
     rw [hs]
    subst hsl
    exact⟨bm,ns,nm,qn,bs,hd,sn,sub,ab,col,dd,k0,k1,k2,k3,k5,_,Z _ _ ho, .of_isNs (isNs_of_in Z hok),nsMap_none_of_in Z hok hni,tail_of_in Z ht⟩
   ·cases q
  ·cases q
 obtain⟨bm,N,nm,qn,bs,hdct,sn,sub,ab,col,dd,k0,k1,k2,k3,k5,mN,hC,hN,hni,hT⟩:=obj X.base I.ok.mod.kin
 refine wpAny_Raise_call_subT (C:=C) (nm:=nm) (q:=qn) (N:=N) (bs:=bs) (bm:=bm) (hdct:=hdct) (sn:=sn) (sub:=sub) (ab:=ab) (col:=col) (dd:=dd) (k0:=k0) (k1:=k1) (k2:=k2) (k3:=k3) (k5:=k5)
  PySem.F.excBase_ValueError (mN:=mN) (hT.hasType PySem.F.excBase_ValueError.hasBase) (I.ok.hd hc) rfl hni (jQ I hg hm ⟨rfl, ?_⟩ hd)
 refine Calls.evalArgs_plain (Calls.spliced_cons (Calls.Constant_str (k:=j) (pos:=kp) (Calls.spliced_nil ⟨rfl,(show 1<=sizeLine from by decide), ?_, ?_, ?_,fun h' e M=> ?_⟩)))
 ·exact I.bk _ _ hC
 ·exact hN.keeps I.bk
 ·exact hT.keeps I.bk
 ·-- the frame is left
  have I1:Inv X pins σ H { s with toks:=s.toks+1 }:=I.tok _
  have J:Inv X pins σ H { s with heap:=h',toks:=s.toks+1 }:=I.kept (t':=s.toks+1) M.keeps
  refine T.xe _ _ ?_
  have hfr:X.A.frames=some (X.env::X.outer):=by rw [<-T.stk];exact I.ok.frames
  have ff:s.heap.FunFrames (hideAll s.heap (frs X.stack)) X.stack:=funFrames_hide I.stack fun env he a ea=>List.mem_filterMap.mpr ⟨env,he,ea⟩
  have fk:h'.FunFrames (hideAll s.heap (frs X.stack)) X.stack:=ff.of_keeps fun b o hb _=>⟨o,M.keeps b o hb,rfl⟩
  have stays:(hideAll s.heap (frs X.stack)).StaysIn s.heap:=fun b o e=>of_hideAll _ e
  have ff0:=ff
  rw [T.stk] at ff0
  have stays':(hideAll s.heap (frs (X.env::X.outer))).StaysIn s.heap:=fun b o e=>of_hideAll _ e
  refine wpAny_leaves_madeW (h:=s.heap) (base:=hideAll s.heap (frs (X.env::X.outer))) hfr T.fr stays' ff0 M fun h2 t fly _ _ up=> ?_
  refine aCu T J fly (by rw [T.stk] at fk ⊢;exact fk) (fun b o e=>M.keeps b o (of_hideAll _ e)) up (fun b o e hf=> ?_) (fun b o e=> ?_) ?_ q
  ·obtain⟨o',e1⟩:=I.base.there b o e (by rw [T.ex];simp)
   exact⟨o',hideAll_get _ e1 (by have:=xH I e hf;rwa [T.stk] at this)⟩
  ·obtain⟨o',e1⟩:=(I.hok b o e).there
   exact⟨o',hideAll_get _ e1 fun z=>by
    have:=I.stkFree b (by rw [T.stk];exact z)
    rw [this] at e
    cases e⟩
  ·cases z:H e with
   | none=>rfl
   | some o=>
    obtain⟨o',e1⟩:=(I.hok e o z).there
    rw [M.new] at e1
    cases e1
end
section
variable {X:Cx} {ad:Ad} {pins:List (Addr×Obj)} {s:Shared} {σ:St} {H H':Hp} {B h':Heap} {ea:Addr} {cls a0:Value} {E₀:XK}
theorem aA2 {M:Model} {A:Around} {E:Value->Shared->Prop} {i:Nat} {x:Str} {v:V} {Q:Unit->Shared->Prop} (I:Inv X pins σ H s) (hN:X.N.Nodup) (hi:X.N[i]? =some x) (hk:X.env.scope.names.lookup x=some .local) (hv:σ[i]? =some (some v))
  (h: ∀ s',Inv X pins (σ.set i none) H s'->Q () s'):wpAny M A (unbindName X.env x) Q E s:=by
 obtain⟨m,hn,hl⟩:=id I.loc
 have hcls:(X.env.scope.kind== .class||(X.env.scope.kind== .module&&X.env.locals != X.env.globals))=false:=by rw [I.ok.kind];rfl
 have cne:=I.cne
 obtain⟨u0,_,l0⟩:=hl i x v hi hv (.inl hk)
 have hm:m x=some u0:=by
  rcases l0 with ⟨_,e⟩ | ⟨k,_⟩
  ·exact e
  ·rcases k with k | k
   ·have:X.env.kindOf x=some .local:=hk
    rw [this] at k;cases k
   ·have:X.env.kindOf x=some .local:=hk
    rw [this] at k;cases k
 refine wpAny_unbindName_local hk hn hm hcls fun h' u hn' hs=> ?_
 obtain⟨oL,_,_,hoL,_⟩:=id hn
 refine h { s with heap:=h' } ⟨I.ok,I.os,I.bare,⟨fun b o e n hb hx=> ?_,fun b o e n hb hx=> ?_,I.base.free,fun b o e hx=> ?_,I.base.tups,I.base.frzs,I.base.tbls⟩,⟨_,hn',fun j y v' e1 e2 e3=> ?_⟩,fun y c e=> ?_,I.free,I.freeC,fun p hp=> ?_,fun b ob e=> ?_,by simpa using I.len⟩
 ·exact(hs.2 b (sW I e)).trans (I.base.keep b o e n hb hx)
 ·obtain⟨sl,e1⟩:=I.base.slot b o e n hb hx
  exact⟨sl,(hs.2 b (sW I e)).trans e1⟩
 ·obtain⟨o',e1⟩:=I.base.there b o e hx
  exact⟨o',(hs.2 b (sW I e)).trans e1⟩
 ·by_cases hj:j=i
  ·subst hj
   have hlt:j<σ.length:=(av.mp hv).1
   rw [bg hlt] at e2
   cases e2
  ·rw [ay (Ne.symm hj)] at e2
   obtain⟨u',r',q⟩:=hl j y v' e1 e2 e3
   refine⟨u',r', ?_⟩
   rcases q with ⟨k,e⟩ | ⟨k,c,e,z⟩
   ·refine .inl ⟨k, ?_⟩
    have:y≠x:=fun e=>hj (mI hN e1 (e▸hi))
    simp [this,e]
   ·exact .inr ⟨k,c,e,z.sameBut hs (cne y c e)⟩
 ·obtain⟨w',z⟩:=I.cell y c e
  exact⟨w',z.sameBut hs (cne y c e)⟩
 ·obtain⟨e,n,ne,nf,d⟩:=I.pin p hp
  exact⟨(hs.2 p.1 ne).trans e,n,ne,nf,d⟩
 ·refine(I.hok b ob e).stay (fun c w' hc q=>(hs.2 c ?_).trans q) (fun _ q=>q) fun _ _ q=>q
  rintro rfl
  rcases hc with rfl | hc
  ·rw [I.free] at e;cases e
  ·rw [I.free] at hc;cases hc
theorem aLt {fs:List Addr} {h h1 h2:Heap} (un:Un fs [] H H' h h1) (stays:B.StaysIn h1) (st2:B.StaysIn h2) (up:h1.UpToSlots h2) (nf: ∀ b∈fs, ∀ o,h1.get? b=some o-> ∀ vs,o.data≠ .fields vs) (c8: ∀ b o,h.get? b=some o->b∉fs-> ∃ o',B.get? b=some o'):Un fs [] H H' h h2:=by
 have inB: ∀ b o,h1.get? b=some o->(∃ o',B.get? b=some o')->h2.get? b=some o:=fun b o e ⟨o',e'⟩=>by
  have:=stays b o' e'
  rw [e] at this
  cases this
  exact st2 b o e'
 refine⟨fun b o e n hf hx=>inB b o (un.keep b o e n hf hx) (c8 b o e hf),fun b o e n hf hx=> ?_,un.free,fun b o e hx=> ?_,un.tups,un.frzs,un.tbls⟩
 ·obtain⟨sl,e1⟩:=un.slot b o e n hf hx
  obtain⟨sl',e2⟩:=up b _ e1 (nf b hf _ e1)
  exact⟨sl',e2⟩
 ·obtain⟨o',e1⟩:=un.there b o e hx
  by_cases hf:b∈fs
  ·obtain⟨sl,e2⟩:=up b _ e1 (nf b hf _ e1)
   exact⟨_,e2⟩
  ·exact⟨o',inB b o' e1 (c8 b o e hf)⟩
theorem aJd {P:Program} {w:World} {h1 h2:Heap} (hok:HOk P w H' h1) (stays:B.StaysIn h1) (st2:B.StaysIn h2) (c9: ∀ b o,H' b=some o-> ∃ o',B.get? b=some o'):HOk P w H' h2:=by
 have inB: ∀ b o,h1.get? b=some o->(∃ o',B.get? b=some o')->h2.get? b=some o:=fun b o e ⟨o',e'⟩=>by
  have:=stays b o' e'
  rw [e] at this
  cases this
  exact st2 b o e'
 intro b o e
 refine(hok b o e).stay (fun c v hc e1=> ?_) (fun _ z=>z) fun _ _ z=>z
 rcases hc with rfl | hc
 ·exact inB c v e1 (c9 c o e)
 ·exact inB c v e1 (c9 c _ hc)
theorem _root_.L2.Inv.track {a:Addr} {o:HO} (J:Inv X pins σ H s) (hn:H a=none) (n0:X.s₀.heap.get? a=none) (hL:a≠X.env.locals) (hC: ∀ x c,X.env.cells.lookup x=some c->c≠a) (hp: ∀ p∈X.pn++pins,p.1≠a)
  (new:ObjOk X.prog X.w (upd H a o) s.heap a o):Inv X pins σ (upd H a o) s:=by
 refine⟨J.ok,J.os,J.bare,⟨J.base.keep,J.base.slot,fun b ob e n hx=> ?_,J.base.there,fun b xs e=> ?_,fun b ob u e=> ?_,fun b ps e=> ?_⟩,J.loc,J.cell, ?_,fun x c e=> ?_,fun p hq=> ?_,fun b u e=> ?_,J.len⟩
 ·have:b≠a:=fun z=>by rw [z,n0] at e;cases e
  rw [aO this]
  exact J.base.free b ob e n hx
 ·have e1:=J.base.tups b xs e
  rw [aO (bC e1 hn)]
  exact e1
 ·have e1:=J.base.frzs b ob u e
  rw [aO (bC e1 hn)]
  exact e1
 ·obtain⟨m,e1⟩:=J.base.tbls b ps e
  exact⟨m,by rw [aO (bC e1 hn)];exact e1⟩
 ·rw [aO (Ne.symm hL)]
  exact J.free
 ·rw [aO (hC x c e)]
  exact J.freeC x c e
 ·obtain⟨e,n,ne,nf,d⟩:=J.pin p hq
  exact⟨e,by rw [aO (hp p hq)];exact n,ne,nf,d⟩
 ·by_cases hb:b=a
  ·subst hb
   rw [aM] at e
   cases e
   exact new
  ·rw [aO hb] at e
   exact(J.hok b u e).stay (fun _ _ _ q=>q) (fun c q=>by rw [aO (bC q hn)];exact q) fun c xs q=>by rw [aO (bC q hn)];exact q
theorem _root_.SK.SS.setNo {G₀ G:Hp} {ρ:Rho} {i:Nat} {ov:Option V} (S:SS X ad G₀ G H ρ σ):SS X ad G₀ G H (ρ.set i .no) (σ.set i ov):=by
 have key: ∀ (j:Nat) (sl:Slot),(ρ.set i .no)[j]? =some sl->(j=i/\sl= .no/\i<ρ.length)\/(j≠i/\ρ[j]? =some sl):=fun j sl e=>by
  by_cases z:j=i
  ·subst z
   have hl:j<ρ.length:=by have:=(av.mp e).1;rwa [List.length_set] at this
   rw [bg hl] at e
   cases e
   exact .inl ⟨rfl,rfl,hl⟩
  ·rw [ay (Ne.symm z)] at e
   exact .inr ⟨z,e⟩
 refine⟨S.st,⟨by rw [List.length_set,List.length_set];exact S.sl.len,fun j sl e=> ?_⟩,fun j xs a e w h=> ?_,fun j j' xs ys a e e' w w' h h'=> ?_⟩
 ·rcases key j sl e with ⟨rfl,rfl,hl⟩ | ⟨z,e⟩
  ·exact⟨ov,bg (by rw [<-S.sl.len];exact hl),trivial⟩
  ·obtain⟨ov',h1,h2⟩:=S.sl.at_ j sl e
   exact⟨ov',by rw [ay (Ne.symm z)];exact h1,h2⟩
 ·rcases key j _ e with ⟨_,z,_⟩ | ⟨z,e⟩
  ·subst z;exact(ba w).elim
  ·rw [ay (Ne.symm z)] at h
   exact S.ow j xs a e w h
 ·rcases key j _ e with ⟨_,z,_⟩ | ⟨z,e⟩
  ·subst z;exact(ba w).elim
  ·rcases key j' _ e' with ⟨_,z',_⟩ | ⟨z',e'⟩
   ·subst z';exact(ba w').elim
   ·rw [ay (Ne.symm z)] at h
    rw [ay (Ne.symm z')] at h'
    exact S.dj j j' xs ys a e e' w w' h h'
end
noncomputable def tX (X:Cx) (pins:List (Addr×Obj)) (D':Ends) (hd:ExceptHandler):Cx:=
 { X with pn:=X.pn++pins,xe:=fun e s₁=>wpAny (model X.prog X.w) X.A (noteFrame e X.env) (fun _ s₂=>wpAny (model X.prog X.w) X.A (setFlight e none) (fun _ s₃=>wpAny (model X.prog X.w) X.A (handleBy e X.env [hd]) (SP X pins D') X.xe s₃) X.xe s₂) X.xe s₁ }
section
variable {X:Cx} {ad:Ad} {pins pins':List (Addr×Obj)} {s:Shared} {σ:St} {H H':Hp} {B h':Heap} {ea:Addr} {cls a0:Value} {D':Ends} {hd:ExceptHandler}
theorem aLu (I:Inv X pins σ H s):Inv (tX X pins D' hd) [] σ H s:=
 ⟨⟨I.ok.mod,I.ok.kind,I.ok.glob,I.ok.blt,I.ok.above,I.ok.inj,I.ok.has,I.ok.cab,I.ok.hd,I.ok.frames,I.ok.stk,I.ok.exf,I.ok.bs,I.ok.bsz,I.ok.noex,I.ok.exfs,I.ok.funs,I.ok.frf⟩,I.os,I.bare,I.base,I.loc,I.cell,I.free,I.freeC,
  fun p hp=>I.pin p (by have:p∈(X.pn++pins)++[]:=hp;rwa [List.append_nil] at this),I.hok,I.len⟩
theorem o8 (I:Inv (tX X pins D' hd) pins' σ H s):Inv X pins σ H s:=
 ⟨⟨I.ok.mod,I.ok.kind,I.ok.glob,I.ok.blt,I.ok.above,I.ok.inj,I.ok.has,I.ok.cab,I.ok.hd,I.ok.frames,I.ok.stk,I.ok.exf,I.ok.bs,I.ok.bsz,I.ok.noex,I.ok.exfs,I.ok.funs,I.ok.frf⟩,I.os,I.bare,I.base,I.loc,I.cell,I.free,I.freeC,
  fun p hp=>I.pin p (List.mem_append_left _ hp),I.hok,I.len⟩
structure Fram (X:Cx):Prop where
 ex:X.ex=[]
 stk:X.stack=X.env::X.outer
 fr:X.env.frame=some X.env.locals
theorem xJ {i j:Nat} {en x cx:Str} {cp xp ep ap hp':Pos} {c:Nat} (F0:Fram X) (hN:X.N.Nodup) (hi:X.N[i]? =some en) (hil:X.env.scope.names.lookup en=some .local) (hj:aCs X x j) (hij:i≠j) (hg:L2.Gl X cx) (hm:X.mg cx=some (.ref (ad.cls 0)))
  (hdb:(cx==("__debug__":Str))=false) (hde:(en==("__debug__":Str))=false) (hx:exmOne X.K (.ref (ad.cls c)) (.ref (ad.cls 0))=some true)
  (I:Inv X pins σ H s) {s':Shared} (ho:s'.os=s.os) (hgn:AllBare s'.gens) (fly:Heap.FlyingW B X.stack ea (.ref (ad.cls c)) a0 s'.heap) (un:Un (frs X.stack) [] H H' s.heap s'.heap) (hok:HOk X.prog X.w H' s'.heap) (ne:H' ea=none)
  (c8: ∀ b o,s.heap.get? b=some o->b∉frs X.stack-> ∃ o',B.get? b=some o') (c9: ∀ b o,H' b=some o-> ∃ o',B.get? b=some o')
  (q:D'.nx ((σ.set i none).set j (some (.ref ea))) (upd H' ea (aG2 (ad.cls c) ea))):
  (tX X pins D' (.ExceptHandler (some (.Name cx cp)) (some en) [.Assign [.Name x xp] (.Name en ep) ap] hp')).xe (.ref ea) s':=by
 have hfr:X.A.frames=some (X.env::X.outer):=by rw [<-F0.stk];exact I.ok.frames
 have nfs: ∀ {h:Heap},h.FunFrames B X.stack-> ∀ b∈frs X.stack, ∀ o,h.get? b=some o-> ∀ vs,o.data≠ .fields vs:=fun ff b hb o e=>by
  obtain⟨_,o2,e2,nf⟩:=ff.mem (b:=b) hb
  rw [e] at e2
  cases e2
  exact nf
 -- the invariant through the stations
 have inv: ∀ h2:Heap,B.StaysIn h2->s'.heap.UpToSlots h2->Inv X pins σ H' { s' with heap:=h2 }:=fun h2 st2 up=>
  I.call' (ch:=[]) (s':={ s' with heap:=h2 }) ho (aLt un fly.1 st2 up (nfs fly.2.2.1) c8) (aJd hok fly.1 st2 c9) hgn fun b hb=>by simp at hb
 have new0:s.heap.get? ea=none:=by
  cases e:s.heap.get? ea with
  | none=>rfl
  | some o=>
   by_cases hf:ea∈frs X.stack
   ·obtain⟨oe,vs,_,_,_,he,_,hd,_⟩:=fly.2.2.2
    exact absurd hd (nfs fly.2.2.1 ea hf oe he vs)
   ·obtain⟨o',e'⟩:=c8 ea o e hf
    rw [fly.2.1] at e'
    cases e'
 show wpAny (model X.prog X.w) X.A (noteFrame (.ref ea) X.env) _ X.xe s'
 have fly0:=fly
 rw [F0.stk] at fly0
 refine wpAny_looks_onW hfr F0.fr fly0 fun h1 hheld up1=> ?_
 refine wpAny_landsW hheld fun h2 fly2 up2=> ?_
 have up12:=up1.trans up2
 have J2:=inv h2 fly2.1 up12
 refine wpAny_handleBy_cons (codeAny_handlers_test ?_) (by intro z;cases z)
 refine Calls.Name_function_global J2.ok.kind hg (Calls.loadGlobal_global (by rw [J2.ok.glob];exact J2.mod.glob.keeps J2.bk) hm ?_) hdb
 have LT:Looks (model X.prog X.w) h2 (typeOf (.ref ea)) (.ref (ad.cls c)):=by
  obtain⟨oe,vs,_,_,_,he,⟨hc,_⟩,hd,_⟩:=fly2.2.2.2
  exact hc▸(Looks.ld he).andThen .now
 refine(exm_one (K:=X.K) J2.kIn LT hx).at ?_
 show codeAny _ _ _ _ _
 refine codeAny_handlers_suite_as ?_
 refine lands_againW fly2 fun h3 fly3 up3=> ?_
 have J3:=inv h3 fly3.1 (up12.trans up3)
 have exat:mT h3 ea (ad.cls c):=by
  obtain⟨oe,vs,_,_,_,he,⟨hc,_⟩,hd,_⟩:=fly3.2.2.2
  exact⟨oe,vs,he,hc,hd⟩
 have J4:Inv X pins σ (upd H' ea (aG2 (ad.cls c) ea)) { s' with heap:=h3 }:=by
  refine J3.track ne ?_ (fun z=> ?_) (fun y d hd z=> ?_) (fun p hp z=> ?_) ?_
  ·cases e:X.s₀.heap.get? ea with
   | none=>rfl
   | some o=>
    obtain⟨o',e1⟩:=I.base.there ea o e (by rw [F0.ex];simp)
    rw [new0] at e1
    cases e1
  ·obtain⟨m,hn,_⟩:=I.loc
   obtain⟨o,_,_,ho',_⟩:=hn
   rw [<-z,new0] at ho'
   cases ho'
  ·obtain⟨v,o,ho',_⟩:=I.cell y d hd
   rw [z,new0] at ho'
   cases ho'
  ·obtain⟨ho',_⟩:=I.pin p hp
   rw [z,new0] at ho'
   cases ho'
  ·obtain⟨oe,vs,he,hc,hd⟩:=exat
   refine⟨⟨oe,vs,he,hc,hd⟩,⟨oe,he⟩, ?_⟩
   rintro ha hb ⟨o1,v1,e1,e2,e3⟩ k
   exact⟨o1,v1,k _ e1,e2,e3⟩
 -- e = the exception
 refine dM J4 hN hi (.inl hil) (v:= .ref ea) rfl (fun s5 J5=> ?_) (.inr hil)
 have hlt:i<σ.length:=by rw [J4.len];exact(av.mp hi).1
 -- x = e
 refine wpAny_execs_cons (wpAny_Assign_Name ?_ rfl)
 obtain⟨m5,hn5,hl5⟩:=J5.loc
 obtain⟨u5,r5,l5⟩:=hl5 i en (.ref ea) hi (bg hlt) (.inl hil)
 cases (show u5=Value.ref ea from r5)
 have hm5:m5 en=some (.ref ea):=by
  have hk:X.env.kindOf en=some .local:=hil
  rcases l5 with ⟨_,e⟩ | ⟨k,_⟩
  ·exact e
  ·rcases k with k | k<;>(rw [hk] at k;cases k)
 refine wpAny_Name (wpAny_loadName_local J5.ok.kind hil hn5 hm5 ?_) hde
 refine dM J5 hN hj.1 hj.2.1 (v:= .ref ea) rfl (fun s6 J6=> ?_) hj.2.2
 refine wpAny_execs_nil ?_
 -- e goes
 show wpAny _ _ (do bindName X.env en .none;unbindBehindTheSuite X.env en hp') _ _ s6
 refine aa (wpAny_bindName (dM J6 hN hi (.inl hil) (v:= .non) rfl (fun s7 J7=> ?_) (.inr hil)))
 unfold unbindBehindTheSuite
 refine wpAny_onRaise (aA2 J7 hN hi hil (v:= .non) (bg (by simpa using hlt)) fun s8 J8=> ?_)
 refine⟨_,_,J8, ?_⟩
 have e1:((((σ.set i (some (.ref ea))).set j (some (.ref ea))).set i (some V.non)).set i none)=(σ.set i none).set j (some (.ref ea)):=by
  rw [List.set_set,List.set_comm _ _ hij.symm,List.set_set]
 rw [e1]
 exact q
theorem aJe {Z:(St->Nat->Hp->Prop)->Prop} {i j:Nat} {en x cx:Str} {cp xp ep ap hp' pos:Pos} {b:List Stmt} {g:FS} (F0:Fram X) (hN:X.N.Nodup) (hi:X.N[i]? =some en) (hil:X.env.scope.names.lookup en=some .local) (hj:aCs X x j) (hij:i≠j) (hg:L2.Gl X cx) (hm:X.mg cx=some (.ref (ad.cls 0)))
  (hdb:(cx==("__debug__":Str))=false) (hde:(en==("__debug__":Str))=false) (hx: ∀ c,exmOne X.K (.ref (ad.cls c)) (.ref (ad.cls 0))=some true)
  (hb: ∀ pins D',MSs (tX X pins D' (.ExceptHandler (some (.Name cx cp)) (some en) [.Assign [.Name x xp] (.Name en ep) ap] hp')) ad (fun _=>True) b g):
  MS X ad Z (.Try b [.ExceptHandler (some (.Name cx cp)) (some en) [.Assign [.Name x xp] (.Name en ep) ap] hp'] [] [] pos) (aKi i j (fun _=>true) g):=by
 intro pins s σ H D' I ⟨G₀,G,ρ,E,S,hx',hr⟩
 refine wpAny_Try_except ?_
 have main:=hb pins D' [] s σ H D' (aLu I) ⟨G₀,G,ρ,fun σ c H=> ∃ ρ' G,SS X ad G₀ G H ρ' σ/\OKo X ad G₀ (.nx ((ρ'.set i .no).set j (.sh (.exc c)))) D' E,⟨S.st,S.sl,S.ow,S.dj⟩,⟨fun σ=> ?_,trivial⟩, ?_⟩
 ·refine wpAny_mono main (fun f s1 hs=> ?_) fun e s1 he=>he
  cases f with
  | next=>obtain⟨σ',H',J,q⟩:=hs;exact wpAny_execs_nil ⟨σ',H',o8 J,q⟩
  | brk=>obtain⟨σ',H',J,q⟩:=hs;exact⟨σ',H',o8 J,q⟩
  | cont=>obtain⟨σ',H',J,q⟩:=hs;exact⟨σ',H',o8 J,q⟩
  | ret u=>obtain⟨v,σ',H',J,r,q⟩:=hs;exact⟨v,σ',H',o8 J,r,q⟩
 ·intro pins2 H2 s2 e s' I2 hc
  obtain⟨ea,cls,a0,H',B,rfl,ho,hgn,fly,un,hok,ne,c8,c9,c,rfl,ρ',G',S',ok⟩:=hc
  refine xJ F0 hN hi hil hj hij hg hm hdb hde (hx c) (o8 I2) ho hgn fly un hok ne c8 c9 ?_
  have st:Step G' H' (upd G' ea (aG2 (ad.cls c) ea)) (upd H' ea (aG2 (ad.cls c) ea)):=Step.new S'.st.gh ne
  refine ok _ _ _ (((S'.step st).setNo (i:=i) (ov:=none)).set ?_)
  unfold Rep
  exact⟨ea,rfl,aM⟩
 ·unfold aKi at hr
  cases e:g ρ with
  | nx ρ'=>rw [e] at hr;exact fun σ G H S=>hr σ G H ⟨S.st,S.sl,S.ow,S.dj⟩
  | bk ρ'=>rw [e] at hr;exact fun σ G H S=>hr σ G H ⟨S.st,S.sl,S.ow,S.dj⟩
  | ct ρ'=>rw [e] at hr;exact fun σ G H S=>hr σ G H ⟨S.st,S.sl,S.ow,S.dj⟩
  | ex c ρ'=>
   rw [e] at hr
   exact fun σ G H S=>⟨ρ',G,⟨S.st,S.sl,S.ow,S.dj⟩,hr⟩
  | rt r=>
   rw [e] at hr
   cases r with
   | ok d=>exact hr
   | ow xs=>exact hr
   | ex c=>exact hr
   | bad=>exact hr
theorem aA3 {E₀:XK} {x:Str} {c:Nat} {np cpos pos kp:Pos} {msg:Str} {j:Nat} (T:DefX X E₀) (hc:X.calm=true) (hg:L2.Gl X x) (hm:X.mg x=some (.ref (ad.cls c))) (hd:(x==("__debug__":Str))=false) (hi:excIn X.K (ad.cls c) [.type "ValueError", .type "Exception", .type "BaseException", .type "object"] "ValueError.__new__"=true):
  MS X ad (fun E=> ∀ σ c H,E σ c H->E₀ (.ref (ad.cls c)) none H) (.Raise (some (.Call (.Name x np) [.Constant (.str msg) j kp] [] cpos)) none pos) (cH c):=by
 intro pins s σ H D' I ⟨G₀,G,ρ,E,S,hx',hr⟩
 exact aA1 T hc hg hm hd hi I (hx'.2 σ c H (hr σ G H S))
end
structure ExcCls (K:Frag) (C:Addr):Prop where
 is:(clsIn K C).isSome=true
 ob:mroIn K C (.type "object")=some true
 be:mroIn K C (.type "BaseException")=some true
 ca:findIn K (.ref C) "__class__"=some (some (.builtin "object.__class__"))
 ga:findIn K (.ref C) "__getattribute__"=some (some (.builtin "BaseException.__getattribute__"))
 gn:findIn K (.ref C) "__getattr__"=some none
theorem aA4 {K:Frag} {x C:Addr} (T:ExcCls K C):KitX K (.ref x) (.ref C) (fun h=>mT h x C) where
 ty:=fun _ _ _ I=>I.ty
 it:=fun _ _ Z _=>by
  obtain⟨cdD,hcD⟩:=Option.isSome_iff_exists.mp T.is
  unfold clsIn at hcD
  split at hcD
  ·rename_i c' d' cd' sl' ho
   intro A' Q' E' s' k q
   unfold isType loadHead
   exact aa (wpAny_loadPart (k _ _ (Z _ _ ho)) (ae q))
  ·cases hcD
 ne:=fun h tp dd its n sl Z htp=>by
  obtain⟨cdD,hcD⟩:=Option.isSome_iff_exists.mp T.is
  refine Bool.eq_false_iff.mpr fun q=> ?_
  have e:C=tp:=Value.ref.inj (beq_iff_eq.mp q)
  subst e
  unfold clsIn at hcD
  split at hcD
  ·rename_i c' d' cd' sl' ho
   have z:=(Z _ _ ho).symm.trans htp
   cases z
  ·cases hcD
 ca:=fun Z I k=>xG Z I T.ob T.be T.ca T.ga T.gn k
noncomputable def tyD (ad:Ad):D->Option Value
 | .non=>some (.type "NoneType")
 | .bl _=>some (.type "bool")
 | .int _=>some (.type "int")
 | .str _=>some (.type "str")
 | .tup _=>some (.type "tuple")
 | .lst _=>some (.type "list")
 | .exc c=>some (.ref (ad.cls c))
 | .fn _=>none
def aM0 (X:Cx) (ad:Ad) (cv:Value) (p:D->Option Bool):Prop:= ∀ d b,p d=some b-> ∃ t,tyD ad d=some t/\kitOne X.K t cv=some b
section
variable {X:Cx} {ad:Ad} {pins:List (Addr×Obj)} {s:Shared} {σ:St} {H G:Hp} {ρ:Rho} {E:Nat->Hp->Prop} {pos p tp:Pos} {a:Expr} {f:F}
theorem xK {A:Around} {Q:Value->Shared->Prop} {Ex:Value->Shared->Prop} {d:D} {v:V} {u t cv:Value} {b:Bool} (hx: ∀ c,ExcCls X.K (ad.cls c)) (I:Inv X pins σ H s) (hG:Same G H) (q:Rep X.K ad G d v) (r:bF v u) (ht:tyD ad d=some t) (e:kitOne X.K t cv=some b)
  (h: ∀ tk,Q (.bool b) { s with toks:=tk }):wpAny (model X.prog X.w) A (call (.builtin "isinstance") [u,cv]) Q Ex s:=by
 cases d with
 | non=>unfold Rep at q;subst q;cases (show u=Value.none from r);cases ht;exact kia_one kitx_none I.kIn True.intro e (by intro z;cases z) h
 | bl k=>unfold Rep at q;subst q;cases (show u=Value.bool k from r);cases ht;exact kia_one kitx_bool I.kIn True.intro e (by intro z;cases z) h
 | int k=>unfold Rep at q;subst q;obtain⟨t',rfl⟩:=r;cases ht;exact kia_one kitx_int I.kIn True.intro e (by intro z;cases z) h
 | str k=>unfold Rep at q;subst q;obtain⟨t',rfl⟩:=r;cases ht;exact kia_one kitx_str I.kIn True.intro e (by intro z;cases z) h
 | tup ds=>
  unfold Rep at q
  obtain⟨p,vs,rfl,hp,_⟩:=q
  cases (show u=Value.ref p from r)
  cases ht
  obtain⟨its,_,⟨o,h1,h2,_⟩,_⟩:=I.tuple (hG.seqT hp)
  exact kia_one kitx_tuple I.kIn ⟨o,h1,h2⟩ e (by intro z;cases z) h
 | lst ds=>
  unfold Rep at q
  obtain⟨p,vs,rfl,hp,_⟩:=q
  cases (show u=Value.ref p from r)
  cases ht
  obtain⟨its,_,⟨o,n,h1,h2,_⟩,_⟩:=I.list (hG.seq hp)
  exact kia_one kitx_list I.kIn ⟨o,h1,h2⟩ e (by intro z;cases z) h
 | exc c=>
  unfold Rep at q
  obtain⟨p,rfl,hp⟩:=q
  cases (show u=Value.ref p from r)
  cases ht
  obtain⟨ex,_,_⟩:=(show ObjOk X.prog X.w H s.heap p (aG2 (ad.cls c) p) from I.hok p _ (hG _ _ hp))
  exact kia_one (aA4 (hx c)) I.kIn ex e (by intro z;cases z) h
 | fn k=>cases ht
inductive ClNm (X:Cx) (t:Str) (cv:Value):Prop
 | blt (T:String):cv= .type T->L2.Gl X t->X.mg t=none->bootBuiltins t=some (.type T)->t≠"__name__"->(t==("__debug__":Str))=false->ClNm X t cv
 | own (C:Addr):cv= .ref C->L2.Gl X t->X.mg t=some (.ref C)->(t==("__debug__":Str))=false->ClNm X t cv
theorem ClNm.ev {t:Str} {cv:Value} {Ex:Value->Shared->Prop} {Q:Value->Shared->Prop} (c:ClNm X t cv) (I:Inv X pins σ H s) (h:Q cv s):wpAny (model X.prog X.w) X.A (eval (.Name t tp) X.env) Q Ex s:=by
 cases c with
 | blt T e g m b n d=>subst e;exact eW I g m b h n d
 | own C e g m d=>subst e;exact jQ I g m h d
theorem xL {t:Str} {cv:Value} {P:D->Option Bool} (hx: ∀ c,ExcCls X.K (ad.cls c)) (hg:L2.Gl X "isinstance") (hm:X.mg "isinstance"=none) (c:ClNm X t cv) (k:aM0 X ad cv P) (ha:ML X ad a f)
  (he:starEach [a, .Name t tp] X.env=(false,eval a X.env)::starEach [.Name t tp] X.env):ME X ad (.Call (.Name "isinstance" p) [a, .Name t tp] [] pos) (rIs P f):=by
 intro pins s σ H Q I ⟨G,ρ,E,hG,hS,hx',hr⟩
 refine wpAny_Call_Name_kw (eW (u:= .builtin "isinstance") I hg hm (by decide+kernel) ?_ (by decide) (by decide))
 refine PyProof.Rows.callWith_builtin1 ?_ he rfl
 rw [he]
 refine Calls.spliced_cons (L2.thn (ha.lk pins s σ H G ρ _ Q E I hG hS hx' hr) fun u s1 hz_=> ?_)
 obtain⟨v,d,G1,H1,I1,r1,st,q,k1⟩:=hz_
 refine Calls.spliced_cons (c.ev I1 (Calls.spliced_nil ?_))
 have k1':RK X.K ad G1 H1 (match P d with | some b=> .ok (.bl b) | none=> .bad) Q E:=k1
 cases e:P d with
 | none=>rw [e] at k1';exact k1'.elim
 | some b=>
  rw [e] at k1'
  obtain⟨ty,e1,e2⟩:=k d b e
  have fin: ∀ tk,EP X pins σ Q (.bool b) { s1 with toks:=tk }:=fun tk=>⟨.bl b,H1,I1.tok tk,rfl,k1'.ok_now st.gh bB⟩
  rcases q with q | ⟨a',vs,ds,rfl,rfl,g1,h1,rp⟩
  ·exact xK hx I1 st.gh q r1 e1 e2 fin
  ·refine xK (G:=upd G1 a' (.lst vs)) hx I1 (fun b o e=> ?_) ?_ r1 e1 e2 fin
   ·by_cases z:b=a'
    ·subst z;rw [aM] at e;rw [h1];exact e
    ·rw [aO z] at e;exact st.gh b o e
   ·unfold Rep
    exact⟨a',vs,rfl,SqL.of aM,rp.mono (Same.upd_new g1)⟩
end
section
variable {X:Cx} {ad:Ad} {pins:List (Addr×Obj)} {s:Shared} {σ:St} {H G:Hp} {ρ:Rho} {Q:VK} {E:Nat->Hp->Prop} {pos p ap cp:Pos} {a b o:Expr} {f g:F}
def aJf (P:Program) (w:World) (K:PySem.W.Frag) (ad:Ad) (A:Addr) (kvs:List (Str×D)):Prop:=
 (A==sysModules)=false/\ ∃ vs:List (Str×Value),(∃ o es ep,K.lookup A=some o/\o.ExactDict/\o.data= .dict es ep/\KeysOf (PySem.strKind P w) es/\Pairs (PySem.strKind P w) es.toList vs/\(vs.map (·.1)).Nodup)/\
  Paired (fun(p:Str×D) (q:Str×Value)=>p.1=q.1/\ ∃ v,bF v q.2/\ ∀ G,Rep K ad G p.2 v) kvs vs
end
noncomputable def o9:Py->Str
 | .len=>"len" | .range=>"range" | .enum=>"enumerate" | .zip=>"zip" | .isin=>"isinstance" | .int=>"int" | .bool=>"bool" | .str=>"str" | .tuple=>"tuple" | .list=>"list"
 | .sum=>"sum" | .all=>"all" | .any=>"any" | .sorted=>"sorted" | .min=>"min" | .max=>"max" | .abs=>"abs" | .set=>"set"
noncomputable def aM1 (X:Cx) (ad:Ad) (x:Str):SK.Gl->Prop
 | .fn k n F=> ∃ r f,FnGood X ad r x n F f/\Room r X.A/\f=ad.fnA k
 | .exc c=>X.mg x=some (.ref (ad.cls c))/\c<ad.nb
 | .verr=>x="ValueError"/\X.mg x=none
 | .val d=> ∃ u v,X.mg x=some u/\bF v u/\ ∀ G,Rep X.K ad G d v
 | .py p=>x=o9 p/\X.mg x=none
 | .tbl kvs=> ∃ A,X.mg x=some (.ref A)/\aJf X.prog X.w X.K ad A kvs
structure CtxOk (X:Cx) (ad:Ad) (C:SK.Ctx):Prop where
 N:X.N=C.N
 nd:X.N.Nodup
 vis: ∀ x i,loc C x=some i->X.N[i]? =some x/\Vis X.env.scope x/\(x==("__debug__":Str))=false/\(x==("__classdict__":Str))=false
 gk: ∀ x,C.sc.names.lookup x=some .globalImplicit->L2.Gl X x
 gt: ∀ x g,C.tab.lookup x=some g->(x==("__debug__":Str))=false/\aM1 X ad x g
 cap: ∀ x i,eY C x=some i->X.env.kindOf x=some .cell\/X.env.kindOf x=some .free
 calm:X.calm=true
 un:X.A.units+62<cLine
 hd:X.A.handled=none
 exc: ∀ c,ExcCls X.K (ad.cls c)
 kin: ∀ c e,c<ad.nb->kitOne X.K (.ref (ad.cls e)) (.ref (ad.cls c))=some (hit c e)
 kve: ∀ e,kitOne X.K (.ref (ad.cls e)) (.type "ValueError")=some true
 fnv: ∀ j n F,C.fns[j]? =some (n,F)-> ∃ r,FnAt X ad r n F (ad.fnA j)/\Room r X.A
section
variable {X:Cx} {ad:Ad} {C:SK.Ctx}
theorem aFb {x:Str} {g:SK.Gl} (h:glo C x=some g):C.sc.names.lookup x=some .globalImplicit/\C.tab.lookup x=some g:=by
 unfold glo at h
 split at h
 ·rename_i e;exact⟨e,h⟩
 ·cases h
theorem CtxOk.gl (O:CtxOk X ad C) {x:Str} {g:SK.Gl} (h:glo C x=some g):L2.Gl X x/\(x==("__debug__":Str))=false/\aM1 X ad x g:=
 let ⟨a,b⟩:=aFb h
 ⟨O.gk x a,(O.gt x g b).1,(O.gt x g b).2⟩
theorem aJg {t:Str} {g:SK.Gl} {P:D->Option Bool} (O:CtxOk X ad C) (h:glo C t=some g) (e:isP g=some P): ∃ cv,ClNm X t cv/\aM0 X ad cv P:=by
 obtain⟨hg,hd,hk⟩:=O.gl h
 cases g with
 | fn _ _ _=>cases e
 | val _=>cases e
 | tbl _=>cases e
 | exc c=>
  cases e
  obtain⟨hm,hc⟩:=hk
  refine⟨.ref (ad.cls c), .own _ rfl hg hm hd,fun d b hb=> ?_⟩
  cases d<;>try (cases hb;done)
  rename_i k
  cases hb
  exact⟨_,rfl,O.kin c k hc⟩
 | verr=>
  cases e
  obtain⟨hx,hm⟩:=hk
  subst hx
  refine⟨.type "ValueError", .blt "ValueError" rfl hg hm (by decide+kernel) (by decide) hd,fun d b hb=> ?_⟩
  cases d<;>try (cases hb;done)
  rename_i k
  cases hb
  refine⟨_,rfl, ?_⟩
  rw [O.kve k]
  congr 1
  unfold hit
  simp
 | py p=>
  obtain⟨hx,hm⟩:=hk
  cases p<;>try (cases e;done)
  all_goals
   cases e
   subst hx
  ·refine⟨.type "int", .blt "int" rfl hg hm (by decide+kernel) (by decide) hd,fun d b hb=> ?_⟩
   cases d<;>first | (cases hb;done) | (cases hb;exact⟨_,rfl,by rfl⟩)
  ·refine⟨.type "bool", .blt "bool" rfl hg hm (by decide+kernel) (by decide) hd,fun d b hb=> ?_⟩
   cases d<;>first | (cases hb;done) | (cases hb;exact⟨_,rfl,by rfl⟩)
  ·refine⟨.type "str", .blt "str" rfl hg hm (by decide+kernel) (by decide) hd,fun d b hb=> ?_⟩
   cases d<;>first | (cases hb;done) | (cases hb;exact⟨_,rfl,by rfl⟩)
  ·refine⟨.type "tuple", .blt "tuple" rfl hg hm (by decide+kernel) (by decide) hd,fun d b hb=> ?_⟩
   cases d<;>first | (cases hb;done) | (cases hb;exact⟨_,rfl,by rfl⟩)
  ·refine⟨.type "list", .blt "list" rfl hg hm (by decide+kernel) (by decide) hd,fun d b hb=> ?_⟩
   cases d<;>first | (cases hb;done) | (cases hb;exact⟨_,rfl,by rfl⟩)
theorem cL {x:Str} {k:NameKind} {l:List (Str×NameKind)} (h:(l.lookup x==some k)=true):l.lookup x=some k:=by simpa using h
theorem iR {sc:Scope} {xs:List Str} (h:jZ sc xs=true):sc.kind= .function/\(oU sc=[]\/(oU sc=xs/\xs.length=1))/\(∀ x∈xs,sc.names.lookup x=some (if(oU sc).isEmpty then .local else .cell))/\(∀ y∈sc.names,y.2= .local->sc.names.lookup y.1=some .local)/\
  (xs++aX sc).Nodup/\(∀ x∈xs++aX sc,(x==("__debug__":Str))=false/\(x==("__classdict__":Str))=false)/\ ∀ x∈aX sc,sc.names.lookup x=some .free:=by
 unfold jZ at h
 simp only [ar] at h
 obtain⟨⟨⟨⟨⟨⟨h1,h2⟩,h3⟩,h4⟩,h5⟩,h6⟩,h7⟩:=h
 refine⟨by simpa using h1,by simpa using h2,fun x hx=> ?_,fun y hy z=> ?_,of_decide_eq_true h5,fun x hx=> ?_,fun x hx=> ?_⟩
 ·exact cL (zAd h3 x hx)
 ·have:=zAd h4 y hy
  rw [z] at this
  simpa using this
 ·have:=zAd h6 x hx
  simpa using this
 ·exact cL (zAd h7 x hx)
theorem xM {x:Str} {N:List Str} {i:Nat} (h:idx x N=some i):x∈N:=List.mem_of_getElem? (j9 h)
theorem xN {x:Str} {i:Nat} (h:loc C x=some i):idx x C.N=some i/\(C.sc.names.lookup x=some .local\/C.sc.names.lookup x=some .cell\/C.sc.names.lookup x=some .free):=by
 unfold loc at h
 split at h
 ·rename_i e;exact⟨h, .inl e⟩
 ·rename_i e;exact⟨h, .inr (.inl e)⟩
 ·rename_i e;exact⟨h, .inr (.inr e)⟩
 ·cases h
theorem lW {x:Str} {i:Nat} (h:eY C x=some i):idx x C.N=some i/\(C.sc.names.lookup x=some .cell\/C.sc.names.lookup x=some .free):=by
 unfold eY at h
 split at h
 ·rename_i e;exact⟨h, .inl e⟩
 ·rename_i e;exact⟨h, .inr e⟩
 ·cases h
theorem sX {α β:Type} {f:α->Option β}: ∀ {l:List α} {r:List β},cS f l=some r-> ∀ a∈l, ∃ b,f a=some b
 | [],_,_,a,ha=>by cases ha
 | x::l,r,h,a,ha=>by
  unfold cS at h
  cases e:f x with
  | none=>rw [e] at h;cases h
  | some y=>
   rw [e] at h
   obtain⟨r',h1,_⟩:=zMd h
   rcases aq.mp ha with rfl | ha
   ·exact⟨y,e⟩
   ·exact sX h1 a ha
theorem lX {x:Str} {k:NameKind} {l:List (Str×NameKind)} (h:l.lookup x=some k):(x,k)∈l:=PySem.mem_of_lookup h
theorem sY {x:Str} {sc:Scope} (h:(x,NameKind.free)∈sc.names):x∈aX sc:=by
 unfold aX
 exact ao.mpr ⟨(x, .free),List.mem_filter.mpr ⟨h,by simp⟩,rfl⟩
theorem xO {sc:Scope} {xs:List Str} {cs:List Nat} (O:CtxOk X ad C) (h:jZ sc xs=true) (hc:cS (fun x=>eY C x) (aX sc)=some cs):CompSc X C sc xs cs:=by
 obtain⟨h1,h2,h3,h4,h5,h6,h7⟩:=iR h
 have hC:Cel sc:=by
  rcases h2 with z | ⟨z,l⟩
  ·exact .inl z
  ·obtain⟨x,rfl⟩:=List.length_eq_one_iff.mp l
   have:=h3 x (.head _)
   rw [z] at this
   exact .inr ⟨x,z,this⟩
 refine⟨h1,hC,h4,fun x hx=> ?_,fun x hx=>h7 x (sY hx),O.N,hc⟩
 obtain⟨i,e⟩:=sX hc x (sY hx)
 exact O.cap x i e
theorem aFc {tg:Expr} {xs:List Str} {k:Nat} {x:Str} (hN:X.N.Nodup) (e:bU tg=some (xs,k)) (hx:xs=[x]) (h1:X.N[0]? =some x) (h2:X.env.scope.names.lookup x=some .cell) (h3:X.fn x=true):PG X tg (gTg X.K k):=by
 subst hx
 cases tg<;>try (cases e)
 ·exact iJ hN h1 (.inr h2) (.inl h3)
 ·rename_i es j px
  unfold bU at e
  obtain⟨ys,e1,e2⟩:=zBd e
  by_cases hl:2<=ys.length
  ·rw [if_pos hl] at e2
   cases e2
   exact absurd hl (by simp)
  ·rw [if_neg hl] at e2
   cases e2
theorem aJh {sc:Scope} {xs:List Str} {cs:List Nat} {s3:Shared} {H3:Hp} {fp:List Addr} {pins:List (Addr×Obj)} (O:CtxOk X ad C) (h:jZ sc xs=true) (hc:cS (fun x=>eY C x) (aX sc)=some cs):
  CtxOk (cX X (xs++aX sc) sc s3 H3 fp pins) ad { C with sc:=sc,N:=xs++aX sc }:=by
 obtain⟨h1,h2,h3,h4,h5,h6,h7⟩:=iR h
 have rl: ∀ x,(relabel sc X.env).names.lookup x=(sc.names.lookup x).map (fun k=>if(k==NameKind.free&&X.env.scope.kind== .function&&X.env.kindOf x==some .cell) then NameKind.cell else k):=fun x=>bR
 have fr: ∀ x,sc.names.lookup x=some .free->(relabel sc X.env).names.lookup x=some .cell\/(relabel sc X.env).names.lookup x=some .free:=fun x e=>by
  rw [rl x,e]
  simp only [Option.map]
  split
  ·exact .inl rfl
  ·exact .inr rfl
 have nc: ∀ x,sc.names.lookup x=some .cell->(relabel sc X.env).names.lookup x=some .cell:=fun x e=>by rw [rl x,e];rfl
 refine⟨rfl,h5,fun x i e=> ?_,fun x e=> ?_,fun x g e=> ?_,fun x i e=> ?_,O.calm,O.un,O.hd,O.exc,O.kin,O.kve,fun j n F e=>let ⟨r,T,hr⟩:=O.fnv j n F e;⟨r,⟨T.kp,T.ok⟩,hr⟩⟩
 ·obtain⟨e1,e2⟩:=xN e
  have hm:=xM e1
  refine⟨j9 e1, ?_,(h6 x hm).1,(h6 x hm).2⟩
  rcases e2 with e2 | e2 | e2
  ·refine .inl ?_
   show(relabel sc X.env).names.lookup x=some .local
   rw [rl x]
   have:sc.names.lookup x=some .local:=e2
   rw [this]
   rfl
  ·exact .inr (.inl (nc x e2))
  ·rcases fr x e2 with z | z
   ·exact .inr (.inl z)
   ·exact .inr (.inr z)
 ·show(relabel sc X.env).names.lookup x=some .globalImplicit
  rw [rl x]
  have:sc.names.lookup x=some .globalImplicit:=e
  rw [this]
  rfl
 ·obtain⟨e1,e2⟩:=O.gt x g e
  refine⟨e1, ?_⟩
  cases g with
  | fn k n F=>
   obtain⟨r,f,T,hr,hf⟩:=e2
   exact⟨r,f,⟨T.mg,T.kp,T.ok⟩,hr,hf⟩
  | exc c=>exact e2
  | verr=>exact e2
  | val d=>exact e2
  | tbl kvs=>exact e2
  | py p=>exact e2
 ·obtain⟨e1,e2⟩:=lW e
  rcases e2 with e2 | e2
  ·exact .inl (nc x e2)
  ·exact fr x e2
end
section
variable {prog:Program} {w:World} {A:Around} {Ex:Value->Shared->Prop} {s:Shared}
theorem u6 {it t:Addr} {i:Nat} {items:Array Value} {x:Value} {Q:Value->Shared->Prop} (hit:s.heap.IsTupleIter it t i) (ht:s.heap.IsTuple t items) (hx:items[i]? =some x)
  (hQ: ∀ h',h'.IsTupleIter it t (i+1)->Heap.SameBut it s.heap h'->Q x { s with heap:=h' }):wpAny (model prog w) A (Builtin.SmallTypes.nextOf (.ref it)) Q Ex s:=by
 obtain⟨o,o1,o2,o3⟩:=id hit
 obtain⟨u,u1,_,nu,u2⟩:=ht
 unfold Builtin.SmallTypes.nextOf
 refine aa (wpAny_callSpecial?_slot (name:=Str.ofString "__next__") hit.typeIs F.slot_tuple_iterator_next (wpAny_call_entry F.slot_tuple_iterator_next hit.typeIs F.entry_tuple_iterator_next ?_ (F.args_tuple_iterator_next_1 _)))
 show wpAny _ _ (field (.ref it) 0 >>= _) _ _ s
 refine aa (wpAny_field o1 o3 (x:= .ref t) rfl ?_)
 show wpAny _ _ (if(Value.ref t==Value.none)=true then _ else _) _ _ s;rw [if_neg (show ¬ ((Value.ref t==Value.none)=true) from ba)]
 show wpAny _ _ (field (.ref it) 1 >>= _) _ _ s
 refine aa (wpAny_field o1 o3 (x:= .int i 0) rfl ?_)
 show wpAny _ _ (seqItems? (.ref t) >>= _) _ _ s
 refine aa (wpAny_seqItems u1 u2 ?_)
 simp only [Int.toNat_natCast,hx]
 refine aa (wpAny_setField o1 o3 (by simp) (ae ⟨x,rfl,ae (hQ _ ?_ (Heap.SameBut.update ..))⟩))
 exact⟨_,Heap.get?_update_self _ o1 (Obj.isFreed_of_fields (Obj.data_mapFields o3 _)),(Obj.cls_mapFields ..).trans o2,by rw [Obj.data_mapFields o3];simp [rawInt]⟩
theorem xP {it t:Addr} {i:Nat} {items:Array Value} {Q:Value->Shared->Prop} (hh:A.handled=none) (hit:s.heap.IsTupleIter it t i) (ht:s.heap.IsTuple t items) (hx:items[i]? =none)
  (hE: ∀ h' e,Heap.ExtBut it s.heap h'->(∃ o,h'.get? e=some o/\o.cls= .type "StopIteration")->Ex (.ref e) { s with heap:=h' }):wpAny (model prog w) A (Builtin.SmallTypes.nextOf (.ref it)) Q Ex s:=by
 obtain⟨o,o1,o2,o3⟩:=id hit
 obtain⟨u,u1,_,nu,u2⟩:=ht
 unfold Builtin.SmallTypes.nextOf
 refine aa (wpAny_callSpecial?_slot (name:=Str.ofString "__next__") hit.typeIs F.slot_tuple_iterator_next (wpAny_call_entry F.slot_tuple_iterator_next hit.typeIs F.entry_tuple_iterator_next ?_ (F.args_tuple_iterator_next_1 _)))
 show wpAny _ _ (field (.ref it) 0 >>= _) _ _ s
 refine aa (wpAny_field o1 o3 (x:= .ref t) rfl ?_)
 show wpAny _ _ (if(Value.ref t==Value.none)=true then _ else _) _ _ s;rw [if_neg (show ¬ ((Value.ref t==Value.none)=true) from ba)]
 show wpAny _ _ (field (.ref it) 1 >>= _) _ _ s
 refine aa (wpAny_field o1 o3 (x:= .int i 0) rfl ?_)
 show wpAny _ _ (seqItems? (.ref t) >>= _) _ _ s
 refine aa (wpAny_seqItems u1 u2 ?_)
 simp only [Int.toNat_natCast,hx]
 refine aa (wpAny_rule (aa (wpAny_setField o1 o3 (by simp) ?_)))
 show wpAny _ _ (newExc (.type "StopIteration") [] >>= _) _ _ _
 refine aa ?_;simp only [newExc,newTuple]
 refine aa (wpAny_newObj_type ?_ (by size_fits));refine aa (m:=firstArgMember _ _) (wpAny_of_eq (a:=Value.none) (by first | rfl | (simp only [firstArgMember];rfl)) ?_)
 refine wpAny_newObj_type ?_ (by size_fits);simp only [raiseNew]
 refine aa (wpAny_handled ?_)
 first | rw [show A.in1.handled=none from hh] | rw [hh]
 refine aa (ae (wpAny_throw ?_))
 refine hE _ _ (fun b ob ne e=> ?_) ⟨_,ag _ rfl,rfl⟩
 exact af _ (af _ ((Heap.get?_update_other _ _ (Ne.symm ne)).trans e))
end
section
variable {prog:Program} {w:World} {A:Around} {Ex:Value->Shared->Prop} {s:Shared}
end
theorem xQ {n l m:Nat} (a:l<n) (b:m<n):ZipApart (n+4) (n+2) (n+3) n (n+1) l m:=by
 constructor<;>(intro h;have h2:(_:Nat)=_:=h;revert h2;omega)
theorem eC {X:Cx} {pins:List (Addr×Obj)} {σ:L2.St} {H:Hp} {s:Shared} {h':Heap} {t':Nat} {fp:List Addr} (I:Inv X pins σ H s) (k: ∀ b o,b∉fp->s.heap.get? b=some o->h'.get? b=some o) (hf: ∀ b∈fp,qN X pins H b):Inv X pins σ H { s with heap:=h',toks:=t' }:=by
 have nit: ∀ b u,H b=some u->b∉fp:=fun b u e z=>by rw [(hf b z).1] at e;cases e
 refine I.step (g':=s.gens) (d':=s.drawn) (ch:=fp) (fun b hb=> ?_) (fun b o _ _ hc e _=>k b o hc e) (fun b o _ _ hc e _=>⟨o.slots,k b o hc e⟩) (fun _ _ _ _ n=>n)
  (fun b o hc e=>⟨o,k b o hc e⟩) (fun _ _ e=>e) (fun _ _ _ e=>e) (fun b ps e=>⟨#[],by rw [e];simp⟩) (fun m hm=> ?_) (fun b u e=> ?_) I.bare
 ·obtain⟨_,f1,_,f3,f4,f5⟩:=hf b hb
  exact⟨f3,f1,f4,f5⟩
 ·obtain⟨o,es,ep,ho,r⟩:=hm
  exact⟨o,es,ep,k _ o (fun z=>(hf _ z).2.1 rfl) ho,r⟩
 ·refine(I.hok b u e).stay (fun c v hc q=>k c v ?_ q) (fun _ q=>q) fun _ _ q=>q
  rcases hc with z | z
  ·rw [z];exact nit b u e
  ·exact nit c _ z
section
variable {prog:Program} {w:World} {A:Around} {Ex:Value->Shared->Prop} {s:Shared}
theorem u7 {It:Heap->Nat->Prop} {e it:Addr} {i:Nat} {x old:Value} {Q:Option Value->Shared->Prop} (he:IsEnum s.heap e it i old) (hne:e≠it)
  (hn: ∀ (A':Around) (E':Value->Shared->Prop) (Q':Value->Shared->Prop),(∀ h',It h' (i+1)->Heap.SameBut it s.heap h'->Q' x { s with heap:=h' })->wpAny (model prog w) A' (Builtin.SmallTypes.nextOf (.ref it)) Q' E' s)
  (hk: ∀ h h',It h (i+1)->(∀ o,h.get? it=some o->h'.get? it=some o)->It h' (i+1))
  (hQ: ∀ h',IsEnumOut h' e it ((i:Int)+1) x s.heap.objs.size->It h' (i+1)->h'.get? s.heap.objs.size=some { cls:= .type "tuple",data:= .seq #[.int i s.toks,x] }->h'.objs.size=s.heap.objs.size+1->
   (∀ b o,b≠e->b≠it->s.heap.get? b=some o->h'.get? b=some o)->Q (some (.ref s.heap.objs.size)) { s with heap:=h',toks:=s.toks+1 }):wpAny (model prog w) A (pyNext (.ref e)) Q Ex s:=by
 have hT:s.TypeIs (.ref e) "enumerate":=⟨_,he,rfl⟩
 unfold pyNext
 refine aa (wpAny_attempt (wpAny_callSpecial?_slot (name:=Str.ofString "__next__") hT F.slot_enumerate_next (wpAny_call_entry F.slot_enumerate_next hT F.entry_enumerate_next ?_ (F.args_enumerate_next_1 _))))
 obtain⟨hp,g,d,tk,os⟩:=s
 show wpAny _ _ (field (.ref e) 2 >>= _) _ _ _
 refine aa (wpAny_field he rfl (x:= .ref it) rfl (aa (hn _ _ _ fun g1 t1 s1=> ?_)))
 replace s1:Heap.SameBut it hp g1:=s1
 have e1:IsEnum g1 e it i old:=(s1.2 e hne).trans he
 show wpAny _ _ (field (.ref e) 3 >>= _) _ _ ⟨g1,g,d,tk,os⟩
 refine aa (wpAny_field e1 rfl (x:=rawInt i) rfl ?_);show wpAny _ _ (field (.ref e) 4 >>= _) _ _ ⟨g1,g,d,tk,os⟩
 refine aa (wpAny_field e1 rfl (x:= .none) rfl ?_);show wpAny _ _ (mkInt i >>= _) _ _ ⟨g1,g,d,tk,os⟩
 refine aa (wpAny_mkInt ?_);show wpAny _ _ (setField (.ref e) 3 (rawInt ((i:Int)+1)) >>= _) _ _ ⟨g1,g,d,tk+1,os⟩
 refine aa (wpAny_setField_rec e1 (by simp) fun g2 e2 s2=> ?_)
 replace s2:Heap.SameBut e g1 g2:=s2
 replace e2:IsEnum g2 e it ((i:Int)+1) old:=e2
 show wpAny _ _ (setField (.ref e) 4 .none >>= _) _ _ ⟨g2,g,d,tk+1,os⟩
 refine aa (wpAny_setField_rec e2 (by simp) fun g3 e3 s3=> ?_)
 replace s3:Heap.SameBut e g2 g3:=s3
 replace e3:IsEnum g3 e it ((i:Int)+1) old:=e3
 show wpAny _ _ (newTuple [.int i tk,x] >>= _) _ _ ⟨g3,g,d,tk+1,os⟩
 refine aa (wpAny_newTuple ?_)
 have e4:IsEnum (g3.push { cls:= .type "tuple",data:= .seq #[.int i tk,x] }) e it ((i:Int)+1) old:=af _ e3
 generalize hg4:g3.push { cls:= .type "tuple",data:= .seq #[.int i tk,x] }=g4 at e4
 have hsz:g3.objs.size=hp.objs.size:=by rw [s3.1,s2.1,s1.1]
 have le:e<hp.objs.size:=ah he
 have t4:g4.get? hp.objs.size=some { cls:= .type "tuple",data:= .seq #[.int i tk,x] }:=by rw [<-hg4, <-hsz];exact ag _ rfl
 have z4:g4.objs.size=hp.objs.size+1:=by rw [<-hg4,ai,hsz]
 have k4: ∀ b o,b≠e->b≠it->hp.get? b=some o->g4.get? b=some o:=fun b o n1 n2 q=>by
  rw [<-hg4];exact af _ ((s3.2 b n1).trans ((s2.2 b n1).trans ((s1.2 b n2).trans q)))
 have i4:It g4 (i+1):=hk g1 g4 t1 fun o q=>by rw [<-hg4];exact af _ ((s3.2 it hne.symm).trans ((s2.2 it hne.symm).trans q))
 show wpAny _ _ (Builtin.SmallTypes.ownedTupleIsFree (.ref e) >>= _) _ _ ⟨g4,g,d,tk+1,os⟩
 rw [hsz]
 refine aa ?_;unfold Builtin.SmallTypes.ownedTupleIsFree
 refine aa (wpAny_field e4 rfl (x:= .none) rfl (ae ?_));simp only [if_true]
 refine aa (wpAny_rule (aa (wpAny_field e4 rfl (x:=old) rfl (aa (wpAny_setField_rec e4 (by simp) fun g5 e5 s5=> ?_)))))
 replace s5:Heap.SameBut e g4 g5:=s5
 replace e5:IsEnum g5 e it ((i:Int)+1) x:=e5
 show wpAny _ _ (Builtin.SmallTypes.ownedTupleHandOut (.ref e) (.ref hp.objs.size) >>= _) _ _ ⟨g5,g,d,tk+1,os⟩
 refine aa ?_;unfold Builtin.SmallTypes.ownedTupleHandOut
 refine aa (wpAny_setField_rec e5 (by simp) fun g6 e6 s6=> ?_)
 replace s6:Heap.SameBut e g5 g6:=s6
 replace e6:IsEnumOut g6 e it ((i:Int)+1) x hp.objs.size:=e6
 refine wpAny_setField_rec e6 (by simp) fun g7 e7 s7=> ?_
 replace s7:Heap.SameBut e g6 g7:=s7
 replace e7:IsEnumOut g7 e it ((i:Int)+1) x hp.objs.size:=e7
 have up: ∀ b o,b≠e->g4.get? b=some o->g7.get? b=some o:=fun b o n q=>(s7.2 b n).trans ((s6.2 b n).trans ((s5.2 b n).trans q))
 refine aa (wpAny_letGo (ae ⟨_,rfl,ae (hQ g7 e7 (hk g4 g7 i4 fun o q=>up it o hne.symm q) (up _ _ (Nat.ne_of_gt le) t4) ?_ fun b o n1 n2 q=>up b o n1 (k4 b o n1 n2 q))⟩))
 rw [s7.1,s6.1,s5.1,z4]
theorem xR {e it:Addr} {i:Nat} {old:Value} {Q:Option Value->Shared->Prop} (he:IsEnum s.heap e it i old)
  (hn: ∀ (A':Around) (E':Value->Shared->Prop) (Q':Value->Shared->Prop),A'.handled=A.handled->(∀ h' x,Heap.ExtBut it s.heap h'->(∃ o,h'.get? x=some o/\o.cls= .type "StopIteration")->E' (.ref x) { s with heap:=h' })->wpAny (model prog w) A' (Builtin.SmallTypes.nextOf (.ref it)) Q' E' s)
  (hQ: ∀ h',Heap.ExtBut it s.heap h'->Q none { s with heap:=h' }):wpAny (model prog w) A (pyNext (.ref e)) Q Ex s:=by
 have hT:s.TypeIs (.ref e) "enumerate":=⟨_,he,rfl⟩
 unfold pyNext
 refine aa (wpAny_attempt (wpAny_callSpecial?_slot (name:=Str.ofString "__next__") hT F.slot_enumerate_next (wpAny_call_entry F.slot_enumerate_next hT F.entry_enumerate_next ?_ (F.args_enumerate_next_1 _))))
 show wpAny _ _ (field (.ref e) 2 >>= _) _ _ _
 refine aa (wpAny_field he rfl (x:= .ref it) rfl (aa (hn _ _ _ rfl fun h' x k q=> ?_)))
 obtain⟨o,ho,hc⟩:=q
 exact aa (wpAny_isInstance (T:="StopIteration") (b:=true) ⟨o,ho,hc⟩ isSubtype_stop (ae (hQ _ k)))
end
noncomputable abbrev eh (h:Heap) (T:String) (l:Addr):Heap:=(h.push { cls:= .type T,data:= .fields #[.ref l, .int 0 0] }).push { cls:= .type "enumerate",data:= .fields #[.none, .bool false, .ref h.objs.size,rawInt 0, .none, .none] }
open AutoSeq1 (wpAny_loadPart') in
theorem xS (l:Addr) (xs:Array Value) (n:Nat) (dd:Option Addr) (sl:Array (Option Value)):Meets (Builtin.«enumerate.__new__» ⟨[.type "enumerate", .ref l],[]⟩) (fun _ R s=>s.heap.get? l=some { cls:= .type "tuple",dict:=dd,data:= .seq xs n,slots:=sl }/\
  R (.ok (.ret (.ref (s.heap.objs.size+1)))) { s with heap:=eh s.heap "tuple_iterator" l }):=
 .of_wp fun prog w A R s h=>by
  obtain⟨hp,g,d,tk,os⟩:=s
  obtain⟨hl,h⟩:=h
  have hsub:=sub_enumerate
  have q1:Heap.IsTuple (Shared.heap ⟨hp,g,d,tk,os⟩) l xs:=⟨_,hl,rfl,n,rfl⟩
  rw [<-show(hp.push { cls:= .type "tuple_iterator",data:= .fields #[.ref l, .int 0 0] }).objs.size=hp.objs.size+1 from ai ..] at h
  wp_walk using wpAny_loadPart' hl
  refine wpAny_stack_any fun st=>ae ?_
  split
  ·rename_i c _ _ _ _ _
   cases (c==Value.type "enumerate")
   ·wp_walk using wpAny_loadPart' hl,wpAny_pyIter_tuple q1
    exact⟨_,rfl,h⟩
   ·wp_walk using wpAny_loadPart' hl,wpAny_pyIter_tuple q1
    exact⟨_,rfl,h⟩
  ·wp_walk using wpAny_loadPart' hl,wpAny_pyIter_tuple q1
   exact⟨_,rfl,h⟩
open AutoSeq1 (wpAny_loadPart') in
theorem xT (l:Addr) (xs:Array Value) (n:Nat) (dd:Option Addr) (sl:Array (Option Value)):Meets (Builtin.«enumerate.__new__» ⟨[.type "enumerate", .ref l],[]⟩) (fun _ R s=>s.heap.get? l=some { cls:= .type "list",dict:=dd,data:= .seq xs n,slots:=sl }/\
  R (.ok (.ret (.ref (s.heap.objs.size+1)))) { s with heap:=eh s.heap "list_iterator" l }):=
 .of_wp fun prog w A R s h=>by
  obtain⟨hp,g,d,tk,os⟩:=s
  obtain⟨hl,h⟩:=h
  have hsub:=sub_enumerate
  have q1:Heap.IsList (Shared.heap ⟨hp,g,d,tk,os⟩) l xs:=⟨_,hl,rfl,n,rfl⟩
  rw [<-show(hp.push { cls:= .type "list_iterator",data:= .fields #[.ref l, .int 0 0] }).objs.size=hp.objs.size+1 from ai ..] at h
  wp_walk using wpAny_loadPart' hl
  refine wpAny_stack_any fun st=>ae ?_
  split
  ·rename_i c _ _ _ _ _
   cases (c==Value.type "enumerate")
   ·wp_walk using wpAny_loadPart' hl,wpAny_pyIter_list q1
    exact⟨_,rfl,h⟩
   ·wp_walk using wpAny_loadPart' hl,wpAny_pyIter_list q1
    exact⟨_,rfl,h⟩
  ·wp_walk using wpAny_loadPart' hl,wpAny_pyIter_list q1
   exact⟨_,rfl,h⟩
section
variable {prog:Program} {w:World} {A:Around} {Ex:Value->Shared->Prop} {s:Shared}
theorem u8 {l:Addr} {xs:Array Value} {Q:Value->Shared->Prop} (hl:s.heap.IsTuple l xs)
  (h: ∀ h',IsEnum h' (s.heap.objs.size+1) s.heap.objs.size 0 .none->h'.IsTupleIter s.heap.objs.size l 0->h'.objs.size=s.heap.objs.size+2->(∀ b o,s.heap.get? b=some o->h'.get? b=some o)->Q (.ref (s.heap.objs.size+1)) { s with heap:=h' }):
  wpAny (model prog w) A (call (.type "enumerate") [.ref l]) Q Ex s:=by
 obtain⟨⟨c,dd,da,sl⟩,e1,e2,n,e3⟩:=hl
 simp only at e2 e3;subst e2 e3
 refine callType_new F.called_enumerate (by decide) (F.typeCall_enumerate_1 _) (F.newCall_enumerate_1 _) (fun obj=>F.args_object_init_2 obj _) F.entry_enumerate_new (xS l xs n dd sl) ⟨e1, ?_⟩
 have hz:(s.heap.push { cls:= .type "tuple_iterator",data:= .fields #[.ref l, .int 0 0] }).objs.size=s.heap.objs.size+1:=ai ..
 have he:IsEnum (eh s.heap "tuple_iterator" l) (s.heap.objs.size+1) s.heap.objs.size 0 .none:=by rw [<-hz];exact ag _ rfl
 exact⟨⟨_,he,rfl⟩,h _ he ⟨_,af _ (ag _ rfl),rfl,rfl⟩ (by rw [ai,hz]) fun b o x=>af _ (af _ x)⟩
theorem u9 {l:Addr} {xs:Array Value} {Q:Value->Shared->Prop} (hl:s.heap.IsList l xs)
  (h: ∀ h',IsEnum h' (s.heap.objs.size+1) s.heap.objs.size 0 .none->h'.IsListIter s.heap.objs.size l 0->h'.objs.size=s.heap.objs.size+2->(∀ b o,s.heap.get? b=some o->h'.get? b=some o)->Q (.ref (s.heap.objs.size+1)) { s with heap:=h' }):
  wpAny (model prog w) A (call (.type "enumerate") [.ref l]) Q Ex s:=by
 obtain⟨⟨c,dd,da,sl⟩,e1,e2,n,e3⟩:=hl
 simp only at e2 e3;subst e2 e3
 refine callType_new F.called_enumerate (by decide) (F.typeCall_enumerate_1 _) (F.newCall_enumerate_1 _) (fun obj=>F.args_object_init_2 obj _) F.entry_enumerate_new (xT l xs n dd sl) ⟨e1, ?_⟩
 have hz:(s.heap.push { cls:= .type "list_iterator",data:= .fields #[.ref l, .int 0 0] }).objs.size=s.heap.objs.size+1:=ai ..
 have he:IsEnum (eh s.heap "list_iterator" l) (s.heap.objs.size+1) s.heap.objs.size 0 .none:=by rw [<-hz];exact ag _ rfl
 exact⟨⟨_,he,rfl⟩,h _ he ⟨_,af _ (ag _ rfl),rfl,rfl⟩ (by rw [ai,hz]) fun b o x=>af _ (af _ x)⟩
end
def SqA (t:Bool) (K:PySem.W.Frag) (H:Hp) (a:Addr) (xs:List V):Prop:=match t with
 | true=>SqT K H a xs
 | false=>SqL K H a xs
def ItA (t:Bool) (h:Heap) (it l:Addr) (i:Nat):Prop:=match t with
 | true=>h.IsTupleIter it l i
 | false=>h.IsListIter it l i
def SeA (t:Bool) (h:Heap) (l:Addr) (xs:Array Value):Prop:=match t with
 | true=>h.IsTuple l xs
 | false=>h.IsList l xs
section
variable {X:Cx} {pins:List (Addr×Obj)} {σ:L2.St} {H:Hp} {s:Shared} {t:Bool}
theorem eP {a:Addr} {xs:List V} (I:Inv X pins σ H s) (h:SqA t X.K H a xs): ∃ its:List Value,aZ xs its/\SeA t s.heap a its.toArray/\xs.length<=sizeLine:=by
 cases t with
 | true=>
  obtain⟨its,r,p,z⟩:=I.tuple h
  exact⟨its,r,p,z⟩
 | false=>
  obtain⟨its,r,p,z⟩:=I.list h
  exact⟨its,r,p.isList,z⟩
theorem gE {a:Addr} {xs ys:List V} (I:Inv X pins σ H s) (h:SqA t X.K H a xs) (h':SqA t X.K H a ys):xs=ys:=by
 cases t with
 | true=>exact I.tuple_inj h h'
 | false=>exact I.list_inj h h'
theorem aH {K:PySem.W.Frag} {H H':Hp} {a:Addr} {xs:List V} (e:Same H H') (h:SqA t K H a xs):SqA t K H' a xs:=by
 cases t with
 | true=>exact e.seqT h
 | false=>exact e.seq h
theorem b7 {h h':Heap} {it l:Addr} {i:Nat} (q:ItA t h it l i) (k: ∀ o,h.get? it=some o->h'.get? it=some o):ItA t h' it l i:=by
 cases t with
 | true=>obtain⟨o,e,r⟩:=q;exact⟨o,k o e,r⟩
 | false=>obtain⟨o,e,r⟩:=q;exact⟨o,k o e,r⟩
theorem xU {h:Heap} {it l:Addr} {i:Nat} (q:ItA t h it l i): ∃ o,h.get? it=some o/\ ∀ v,o.data≠ .cell v:=by
 cases t with
 | true=>obtain⟨o,e,_,d⟩:=q;exact⟨o,e,fun v z=>by rw [d] at z;cases z⟩
 | false=>obtain⟨o,e,_,d⟩:=q;exact⟨o,e,fun v z=>by rw [d] at z;cases z⟩
theorem fQ {prog:Program} {w:World} {A:Around} {Ex:Value->Shared->Prop} {it l:Addr} {i:Nat} {xs:Array Value} {x:Value} {Q:Value->Shared->Prop} (q:ItA t s.heap it l i) (hl:SeA t s.heap l xs) (hx:xs[i]? =some x)
  (hQ: ∀ h',ItA t h' it l (i+1)->Heap.SameBut it s.heap h'->Q x { s with heap:=h' }):wpAny (model prog w) A (Builtin.SmallTypes.nextOf (.ref it)) Q Ex s:=by
 cases t with
 | true=>exact u6 q hl hx hQ
 | false=>exact wpAny_nextOf_list_item q hl hx hQ
theorem kF {prog:Program} {w:World} {A:Around} {Ex:Value->Shared->Prop} {it l:Addr} {i:Nat} {xs:Array Value} {Q:Value->Shared->Prop} (hh:A.handled=none) (q:ItA t s.heap it l i) (hl:SeA t s.heap l xs) (hx:xs[i]? =none)
  (hE: ∀ h' e,Heap.ExtBut it s.heap h'->(∃ o,h'.get? e=some o/\o.cls= .type "StopIteration")->Ex (.ref e) { s with heap:=h' }):wpAny (model prog w) A (Builtin.SmallTypes.nextOf (.ref it)) Q Ex s:=by
 cases t with
 | true=>exact xP hh q hl hx hE
 | false=>exact wpAny_nextOf_list_end hh q hl hx hE
end
noncomputable def Ite (t:Bool) (K:PySem.W.Frag) (l:Addr):It:=
 ⟨fun i H=> ∃ xs x,SqA t K H l xs/\xs[i]? =some x,
  fun i H v H'=> ∃ p x,H p=none/\v= .ref p/\(∀ xs,SqA t K H l xs->xs[i]? =some x)/\H'=upd H p (.tup [.int i,x]),
  fun i H=> ∃ xs,SqA t K H l xs/\xs.length<=i⟩
theorem xV {P:Program} {w:World} {K:PySem.W.Frag} {es:List Expr} {x1} {tp:Pos} {t:Bool} {e it l:Addr} (hne:e≠it):
  Turn P w K (.Tuple es x1 tp) (Ite t K l) [e,it] e (fun i h=>(∃ old,IsEnum h e it i old)/\ItA t h it l i) where
 mem:=by simp
 obj:=fun i h st b hb=>by
  obtain⟨⟨old,z1⟩,z2⟩:=st
  simp only [aq,List.not_mem_nil,or_false] at hb
  rcases hb with rfl | rfl
  ·exact⟨_,z1,fun v e=>by cases e⟩
  ·exact xU z2
 keep:=fun i h h' st k=>by
  obtain⟨⟨old,z1⟩,z2⟩:=st
  exact⟨⟨old,k _ (by simp) _ z1⟩,b7 z2 fun o q=>k _ (by simp) o q⟩
 item:=by
  intro X hP hw hK hc i pins s σ H E I hf st hg
  subst hP hw hK
  obtain⟨xs,x,q1,hx⟩:=hg
  obtain⟨us,r1,p1,_⟩:=eP I q1
  obtain⟨u,hu,ru⟩:=r1.get hx
  obtain⟨⟨old,z1⟩,z2⟩:=st
  have te:e<s.heap.objs.size:=ah z1
  have ti:it<s.heap.objs.size:=by obtain⟨o,q,_⟩:=xU z2;exact ah q
  refine u7 (It:=fun h j=>ItA t h it l j) (x:=u) z1 hne (fun A' E' Q' hq=>fQ z2 p1 (by simpa using hu) hq) (fun h h' a k=>b7 a k) fun h' a1 a2 a3 a4 a5=>⟨_,rfl, ?_⟩
  have hfr:H s.heap.objs.size=none:=I.hok.fresh (aj _)
  have Ia:Inv X pins σ (upd H s.heap.objs.size (.tup [.int i,x])) { s with heap:=s.heap.push { cls:= .type "tuple",data:= .seq #[.int i s.toks,u] },toks:=s.toks+1 }:=
   I.laid (t':=s.toks+1) (fun b o e=>af _ e) (aj _) (show ObjOk X.prog X.w _ _ _ (.tup [.int i,x]) from⟨by rw [sizeLine_eq];simp,[.int i s.toks,u], .cons ⟨_,rfl⟩ (.cons ru .nil),⟨_,ag _ rfl,rfl,_,rfl⟩,⟨_,ag _ rfl,rfl⟩⟩)
  have hnew: ∀ b∈[e,it],b≠s.heap.objs.size:=fun b hb=>by
   simp only [aq,List.not_mem_nil,or_false] at hb
   rcases hb with rfl | rfl
   ·exact bf te
   ·exact bf ti
  have hf2: ∀ b∈[e,it],qN X pins (upd H s.heap.objs.size (.tup [.int i,x])) b:=fun b hb=>⟨by rw [aO (hnew b hb)];exact(hf b hb).1,(hf b hb).2⟩
  have Ib:Inv X pins σ (upd H s.heap.objs.size (.tup [.int i,x])) { s with heap:=h',toks:=s.toks+1 }:=by
   refine eC (s:={ s with heap:=s.heap.push { cls:= .type "tuple",data:= .seq #[.int i s.toks,u] },toks:=s.toks+1 }) (t':=s.toks+1) Ia (fun b o hb q=> ?_) hf2
   simp only [aq,List.not_mem_nil,or_false,not_or] at hb
   by_cases hq:b=s.heap.objs.size
   ·subst hq
    rw [show(s.heap.push { cls:= .type "tuple",data:= .seq #[.int i s.toks,u] }).get? s.heap.objs.size=some _ from ag _ rfl] at q
    cases q
    exact a3
   ·exact a5 b o hb.1 hb.2 ((Heap.get?_push_ne _ b _ hq).symm.trans q)
  refine wpAny_letOwnedTupleGo_enum a1 fun h2 b1 b2=> ?_
  have Ic:Inv X pins σ (upd H s.heap.objs.size (.tup [.int i,x])) { s with heap:=h2,toks:=s.toks+1 }:=eC (s:={ s with heap:=h',toks:=s.toks+1 }) (t':=s.toks+1) Ib (fun b o hb q=>(b2.2 b (fun z=>hb (by simp [z]))).trans q) hf2
  refine⟨.ref s.heap.objs.size,_,Ic,rfl,⟨_,x,hfr,rfl,fun xs' hx'=>by rw [gE I hx' q1];exact hx,rfl⟩,⟨⟨u, ?_⟩,b7 a2 fun o q=>(b2.2 it hne.symm).trans q⟩,fun b hb=>(hf2 b hb).1⟩
  rw [Int.natCast_add];exact b1
 done:=by
  intro X hP hw hK hc i pins s σ H E I hf st hg
  subst hP hw hK
  obtain⟨xs,q1,hx⟩:=hg
  obtain⟨us,r1,p1,_⟩:=eP I q1
  obtain⟨⟨old,z1⟩,z2⟩:=st
  have n1:=r1.length
  refine xR z1 (fun A' E' Q' ha hq=>kF (ha.trans (I.ok.hd hc)) z2 p1 (by simp;omega) hq) fun h' k=>⟨rfl,eC (t':=s.toks) I (fun b o hb q=> ?_) hf⟩
  simp only [aq,List.not_mem_nil,or_false,not_or] at hb
  exact k b o hb.2 q
 self:=fun _ _ _ _ _ st h=>by
  obtain⟨⟨old,z1⟩,_⟩:=st
  exact wpAny_pyIter_enum z1 h
theorem vA {prog:Program} {w:World} {A:Around} {Ex:Value->Shared->Prop} {s:Shared} {t:Bool} {l:Addr} {xs:Array Value} {Q:Value->Shared->Prop} (hl:SeA t s.heap l xs)
  (h: ∀ h',IsEnum h' (s.heap.objs.size+1) s.heap.objs.size 0 .none->ItA t h' s.heap.objs.size l 0->h'.objs.size=s.heap.objs.size+2->(∀ b o,s.heap.get? b=some o->h'.get? b=some o)->Q (.ref (s.heap.objs.size+1)) { s with heap:=h' }):
  wpAny (model prog w) A (call (.type "enumerate") [.ref l]) Q Ex s:=by
 cases t with
 | true=>exact u8 hl h
 | false=>exact u9 hl h
theorem xW {t:Bool} {h h':Heap} {l:Addr} {it:Array Value} (q:SeA t h l it) (k: ∀ o,h.get? l=some o->h'.get? l=some o):SeA t h' l it:=by
 cases t with
 | true=>obtain⟨o,e1,e2⟩:=q;exact⟨o,k o e1,e2⟩
 | false=>obtain⟨o,e1,e2⟩:=q;exact⟨o,k o e1,e2⟩
theorem nA {t:Bool} {h:Heap} {it l:Addr} {k:Nat} (x:ItA t h it l k): ∃ o,h.get? it=some o/\o.data= .fields #[.ref l, .int k 0]:=by
 cases t with
 | true=>obtain⟨o,a,_,c⟩:=x;exact⟨o,a,c⟩
 | false=>obtain⟨o,a,_,c⟩:=x;exact⟨o,a,c⟩
section
variable {prog:Program} {w:World} {A:Around} {Ex:Value->Shared->Prop} {s:Shared} {t t2:Bool}
theorem xX {z TI TO i1 i2 l1 l2:Addr} {k1 k2:Nat} {xs ys:Array Value} {x y a b:Value} {Q:Option Value->Shared->Prop} (D:ZipApart z TI TO i1 i2 l1 l2) (hz:IsZip s.heap z TI TO .none) (hTI:IsPair s.heap TI (.ref i1) (.ref i2)) (hTO:IsPair s.heap TO a b)
  (h1:ItA t s.heap i1 l1 k1) (h2:ItA t2 s.heap i2 l2 k2) (hl1:SeA t s.heap l1 xs) (hl2:SeA t2 s.heap l2 ys) (hx:xs[k1]? =some x) (hy:ys[k2]? =some y)
  (hQ: ∀ h',IsZip h' z TI TO (rawInt s.heap.objs.size)->IsPair h' TO x y->ItA t h' i1 l1 (k1+1)->ItA t2 h' i2 l2 (k2+1)->IsPair h' s.heap.objs.size x y->h'.objs.size=s.heap.objs.size+1->
   (∀ c o,c≠z->c≠TO->c≠i1->c≠i2->s.heap.get? c=some o->h'.get? c=some o)->Q (some (.ref s.heap.objs.size)) { s with heap:=h' }):wpAny (model prog w) A (pyNext (.ref z)) Q Ex s:=by
 have hT:s.TypeIs (.ref z) "zip":=⟨_,hz,rfl⟩
 have isT: ∀ {t:Bool} {h h':Heap} {it l:Addr} {k:Nat} {c:Addr},ItA t h it l k->Heap.SameBut c h h'->it≠c->ItA t h' it l k:=fun q sb ne=>b7 q fun o e=>(sb.2 _ ne).trans e
 have isU: ∀ {t:Bool} {h h':Heap} {l:Addr} {it:Array Value} {c:Addr},SeA t h l it->Heap.SameBut c h h'->l≠c->SeA t h' l it:=fun q sb ne=>xW q fun o e=>(sb.2 _ ne).trans e
 unfold pyNext
 refine aa (wpAny_attempt (wpAny_callSpecial?_slot (name:=Str.ofString "__next__") hT F.slot_zip_next (wpAny_call_entry F.slot_zip_next hT F.entry_zip_next ?_ (F.args_zip_next_1 _))))
 show wpAny _ _ (field (.ref z) 2 >>= _) _ _ _
 refine aa (wpAny_field hz rfl (x:= .bool false) rfl ?_)
 show wpAny _ _ (field (.ref z) 3 >>= _) _ _ _
 refine aa (wpAny_field hz rfl (x:= .ref TI) rfl (aa (wpAny_seqItems hTI rfl ?_)))
 show wpAny _ _ (Builtin.SmallTypes.ownedTupleIsFree (.ref z) >>= _) _ _ _
 refine aa ?_;unfold Builtin.SmallTypes.ownedTupleIsFree
 refine aa (wpAny_field hz rfl (x:= .none) rfl (ae ?_));simp only [if_true]
 refine aa (wpAny_rule (aa (wpAny_field hz rfl (x:= .ref TO) rfl (aa (wpAny_setField_rec hz (by simp) fun g1 z1 s1=> ?_)))))
 replace z1:IsZip g1 z TI TO .ellipsis:=z1
 refine aa ?_;simp only [List.zipIdx_cons,List.zipIdx_nil,List.forIn_cons,List.forIn_nil]
 refine aa (aa (wpAny_onRaise ?_));show wpAny _ _ (Builtin.SmallTypes.nextOf (.ref i1) >>= _) _ _ _
 refine aa (fQ (isT h1 s1 D.i1z) (isU hl1 s1 D.l1z) hx fun g2 p2 s2=>ae ?_)
 have o2:IsPair g2 TO a b:=(s2.2 _ D.TOi1).trans ((s1.2 _ D.TOz).trans hTO)
 refine aa (wpAny_seqItems o2 rfl (aa (wpAny_updateSeq_pair o2 fun g3 o3 s3=> ?_)))
 replace o3:IsPair g3 TO x b:=o3
 refine aa (wpAny_letGo (ae (aa (aa (wpAny_onRaise ?_)))));show wpAny _ _ (Builtin.SmallTypes.nextOf (.ref i2) >>= _) _ _ _
 refine aa (fQ (isT (isT (isT h2 s1 D.i2z) s2 D.i12.symm) s3 D.TOi2.symm) (isU (isU (isU hl2 s1 D.l2z) s2 D.l2i1) s3 D.l2TO) hy fun g4 p4 s4=>ae ?_)
 have o4:IsPair g4 TO x b:=(s4.2 _ D.TOi2).trans o3
 refine aa (wpAny_seqItems o4 rfl (aa (wpAny_updateSeq_pair o4 fun g5 o5 s5=> ?_)))
 replace o5:IsPair g5 TO x y:=o5
 refine aa (wpAny_letGo (ae (ae (aa (wpAny_seqItems o5 rfl (aa (wpAny_newTuple ?_)))))))
 have hsz:g5.objs.size=s.heap.objs.size:=by rw [s5.1,s4.1,s3.1,s2.1,s1.1]
 have z5:IsZip g5 z TI TO .ellipsis:=(s5.2 _ D.TOz.symm).trans ((s4.2 _ D.i2z.symm).trans ((s3.2 _ D.TOz.symm).trans ((s2.2 _ D.i1z.symm).trans z1)))
 have k5: ∀ c o,c≠z->c≠TO->c≠i1->c≠i2->s.heap.get? c=some o->g5.get? c=some o:=fun c o c1 c2 c3 c4 e=>(s5.2 _ c2).trans ((s4.2 _ c4).trans ((s3.2 _ c2).trans ((s2.2 _ c3).trans ((s1.2 _ c1).trans e))))
 have q1:ItA t g5 i1 l1 (k1+1):=isT (isT (isT p2 s3 D.TOi1.symm) s4 D.i12) s5 D.TOi1.symm
 have q2:ItA t2 g5 i2 l2 (k2+1):=isT p4 s5 D.TOi2.symm
 have lz:z<g5.objs.size:=ah z5
 show wpAny _ _ (Builtin.SmallTypes.ownedTupleHandOut (.ref z) (.ref g5.objs.size) >>= _) _ _ _
 refine aa ?_;unfold Builtin.SmallTypes.ownedTupleHandOut
 have z6:IsZip (g5.push { cls:= .type "tuple",data:= .seq #[x,y] }) z TI TO .ellipsis:=af _ z5
 refine aa (wpAny_setField_rec z6 (by simp) fun g7 z7 s7=> ?_)
 replace z7:IsZip g7 z TI TO (rawInt g5.objs.size):=z7
 refine wpAny_setField_rec z7 (by simp) fun g8 z8 s8=> ?_
 replace z8:IsZip g8 z TI TO (rawInt g5.objs.size):=z8
 have up: ∀ c o,c≠z->g5.get? c=some o->g8.get? c=some o:=fun c o c1 e=>(s8.2 _ c1).trans ((s7.2 _ c1).trans (af _ e))
 have t8:IsPair g8 g5.objs.size x y:=(s8.2 _ (Nat.ne_of_gt lz)).trans ((s7.2 _ (Nat.ne_of_gt lz)).trans (ag _ rfl))
 have n8:g8.objs.size=g5.objs.size+1:=by rw [s8.1,s7.1,ai]
 rw [hsz] at z8 t8 n8
 refine ae ⟨_,rfl,ae ?_⟩
 show Q (some (.ref g5.objs.size)) _;rw [hsz]
 refine hQ g8 z8 (up _ _ D.TOz o5) ?_ ?_ t8 n8 fun c o c1 c2 c3 c4 e=>up c o c1 (k5 c o c1 c2 c3 c4 e)
 ·exact b7 q1 fun o e=>up _ o D.i1z e
 ·exact b7 q2 fun o e=>up _ o D.i2z e
theorem aA5 {z TI TO i1 i2 l1 l2:Addr} {k1 k2:Nat} {xs ys:Array Value} {a b:Value} {Q:Option Value->Shared->Prop} (hh:A.handled=none) (D:ZipApart z TI TO i1 i2 l1 l2) (hz:IsZip s.heap z TI TO .none) (hTI:IsPair s.heap TI (.ref i1) (.ref i2)) (hTO:IsPair s.heap TO a b)
  (h1:ItA t s.heap i1 l1 k1) (h2:ItA t2 s.heap i2 l2 k2) (hl1:SeA t s.heap l1 xs) (hl2:SeA t2 s.heap l2 ys) (he:xs[k1]? =none\/ys[k2]? =none)
  (hQ: ∀ h',(∀ c o,c≠z->c≠TO->c≠i1->c≠i2->s.heap.get? c=some o->h'.get? c=some o)->Q none { s with heap:=h' }):wpAny (model prog w) A (pyNext (.ref z)) Q Ex s:=by
 have hT:s.TypeIs (.ref z) "zip":=⟨_,hz,rfl⟩
 have isT: ∀ {t:Bool} {h h':Heap} {it l:Addr} {k:Nat} {c:Addr},ItA t h it l k->Heap.SameBut c h h'->it≠c->ItA t h' it l k:=fun q sb ne=>b7 q fun o e=>(sb.2 _ ne).trans e
 have isU: ∀ {t:Bool} {h h':Heap} {l:Addr} {it:Array Value} {c:Addr},SeA t h l it->Heap.SameBut c h h'->l≠c->SeA t h' l it:=fun q sb ne=>xW q fun o e=>(sb.2 _ ne).trans e
 unfold pyNext
 have fin: ∀ (h':Heap) (e:Addr),(∀ c o,c≠z->c≠TO->c≠i1->c≠i2->s.heap.get? c=some o->h'.get? c=some o)->(∃ o,h'.get? e=some o/\o.cls= .type "StopIteration")->wpAny (model prog w) A (do if(<-isInstance (.ref e) (.type "StopIteration"))=true then pure none else throw (.ref e)) Q Ex { s with heap:=h' }:=fun h' e kk he=>by
  obtain⟨o,ho,hc⟩:=he
  exact aa (wpAny_isInstance (T:="StopIteration") (b:=true) ⟨o,ho,hc⟩ isSubtype_stop (ae (hQ _ kk)))
 refine aa (wpAny_attempt (wpAny_callSpecial?_slot (name:=Str.ofString "__next__") hT F.slot_zip_next (wpAny_call_entry F.slot_zip_next hT F.entry_zip_next ?_ (F.args_zip_next_1 _))))
 show wpAny _ _ (field (.ref z) 2 >>= _) _ _ _
 refine aa (wpAny_field hz rfl (x:= .bool false) rfl ?_)
 show wpAny _ _ (field (.ref z) 3 >>= _) _ _ _
 refine aa (wpAny_field hz rfl (x:= .ref TI) rfl (aa (wpAny_seqItems hTI rfl ?_)))
 show wpAny _ _ (Builtin.SmallTypes.ownedTupleIsFree (.ref z) >>= _) _ _ _
 refine aa ?_;unfold Builtin.SmallTypes.ownedTupleIsFree
 refine aa (wpAny_field hz rfl (x:= .none) rfl (ae ?_));simp only [if_true]
 refine aa (wpAny_rule (aa (wpAny_field hz rfl (x:= .ref TO) rfl (aa (wpAny_setField_rec hz (by simp) fun g1 z1 s1=> ?_)))))
 replace z1:IsZip g1 z TI TO .ellipsis:=z1
 refine aa ?_;simp only [List.zipIdx_cons,List.zipIdx_nil,List.forIn_cons,List.forIn_nil]
 refine aa (aa (wpAny_onRaise ?_));show wpAny _ _ (Builtin.SmallTypes.nextOf (.ref i1) >>= _) _ _ _
 cases hx:xs[k1]? with
 | none=>
  refine aa (kF hh (isT h1 s1 D.i1z) (isU hl1 s1 D.l1z) hx fun g2 e s2 he=> ?_)
  obtain⟨oe,q1,q2⟩:=he
  have z2:IsZip g2 z TI TO .ellipsis:=s2 _ _ D.i1z.symm z1
  have ez:e≠z:=fun x=>by subst x;rw [z2] at q1;cases q1;simp at q2
  exact wpAny_setField_rec z2 (by simp) fun g3 _ s3=>fin g3 e (fun c o c1 _ c3 _ x=>(s3.2 _ c1).trans (s2 _ _ c3 ((s1.2 _ c1).trans x))) ⟨oe,(s3.2 _ ez).trans q1,q2⟩
 | some x=>
  have hy:ys[k2]? =none:=he.resolve_left fun h=>by rw [hx] at h;cases h
  refine aa (fQ (isT h1 s1 D.i1z) (isU hl1 s1 D.l1z) hx fun g2 p2 s2=>ae ?_)
  have o2:IsPair g2 TO a b:=(s2.2 _ D.TOi1).trans ((s1.2 _ D.TOz).trans hTO)
  refine aa (wpAny_seqItems o2 rfl (aa (wpAny_updateSeq_pair o2 fun g3 o3 s3=> ?_)))
  refine aa (wpAny_letGo (ae (aa (aa (wpAny_onRaise ?_)))));show wpAny _ _ (Builtin.SmallTypes.nextOf (.ref i2) >>= _) _ _ _
  refine aa (kF hh (isT (isT (isT h2 s1 D.i2z) s2 D.i12.symm) s3 D.TOi2.symm) (isU (isU (isU hl2 s1 D.l2z) s2 D.l2i1) s3 D.l2TO) hy fun g4 e s4 he=> ?_)
  obtain⟨oe,q1,q2⟩:=he
  have z4:IsZip g4 z TI TO .ellipsis:=s4 _ _ D.i2z.symm ((s3.2 _ D.TOz.symm).trans ((s2.2 _ D.i1z.symm).trans z1))
  have ez:e≠z:=fun x=>by subst x;rw [z4] at q1;cases q1;simp at q2
  exact wpAny_setField_rec z4 (by simp) fun g5 _ s5=>fin g5 e (fun c o c1 c2 c3 c4 x=>(s5.2 _ c1).trans (s4 _ _ c4 ((s3.2 _ c2).trans ((s2.2 _ c3).trans ((s1.2 _ c1).trans x))))) ⟨oe,(s5.2 _ ez).trans q1,q2⟩
end
noncomputable def itC (t:Bool):String:=if t then "tuple_iterator" else "list_iterator"
noncomputable abbrev zg1 (t:Bool) (h:Heap) (l:Addr):Heap:=h.push { cls:= .type (itC t),data:= .fields #[.ref l, .int 0 0] }
noncomputable abbrev zg3 (t t2:Bool) (h:Heap) (l m:Addr):Heap:=(zg1 t2 (zg1 t h l) m).push { cls:= .type "tuple",data:= .seq #[.ref h.objs.size, .ref (zg1 t h l).objs.size] }
noncomputable abbrev zg4 (t t2:Bool) (h:Heap) (l m:Addr):Heap:=(zg3 t t2 h l m).push { cls:= .type "tuple",data:= .seq #[.none, .none] }
noncomputable abbrev zg5 (t t2:Bool) (h:Heap) (l m:Addr):Heap:=(zg4 t t2 h l m).push { cls:= .type "zip",data:= .fields #[.none, .bool false, .bool false, .ref (zg1 t2 (zg1 t h l) m).objs.size, .ref (zg3 t t2 h l m).objs.size] }
theorem aA6 (t t2:Bool) (l m:Addr) (xs ys:Array Value):Meets (Builtin.«zip.__new__» ⟨[.type "zip", .ref l, .ref m],[]⟩) (fun _ R s=>SeA t s.heap l xs/\SeA t2 s.heap m ys/\R (.ok (.ret (.ref (zg4 t t2 s.heap l m).objs.size))) { s with heap:=zg5 t t2 s.heap l m }):=
 .of_wp fun prog w A R s h=>by
  obtain⟨hp,g,d,tk,os⟩:=s
  obtain⟨t1,t2',h⟩:=h
  have hsub:=sub_zip
  cases t with
  | true=>
   have q1:Heap.IsTuple (Shared.heap ⟨hp,g,d,tk,os⟩) l xs:=t1
   cases t2 with
   | true=>
    have q2:Heap.IsTuple (Shared.heap ⟨hp.push { cls:= .type "tuple_iterator",data:= .fields #[.ref l, .int 0 0] },g,d,tk,os⟩) m ys:=Heap.IsTuple.push t2' _
    wp_walk using wpAny_pyIter_tuple q1,wpAny_pyIter_tuple q2
    exact⟨_,rfl,h⟩
   | false=>
    have q2:Heap.IsList (Shared.heap ⟨hp.push { cls:= .type "tuple_iterator",data:= .fields #[.ref l, .int 0 0] },g,d,tk,os⟩) m ys:=Heap.IsList.push t2' _
    wp_walk using wpAny_pyIter_tuple q1,wpAny_pyIter_list q2
    exact⟨_,rfl,h⟩
  | false=>
   have q1:Heap.IsList (Shared.heap ⟨hp,g,d,tk,os⟩) l xs:=t1
   cases t2 with
   | true=>
    have q2:Heap.IsTuple (Shared.heap ⟨hp.push { cls:= .type "list_iterator",data:= .fields #[.ref l, .int 0 0] },g,d,tk,os⟩) m ys:=Heap.IsTuple.push t2' _
    wp_walk using wpAny_pyIter_list q1,wpAny_pyIter_tuple q2
    exact⟨_,rfl,h⟩
   | false=>
    have q2:Heap.IsList (Shared.heap ⟨hp.push { cls:= .type "list_iterator",data:= .fields #[.ref l, .int 0 0] },g,d,tk,os⟩) m ys:=Heap.IsList.push t2' _
    wp_walk using wpAny_pyIter_list q1,wpAny_pyIter_list q2
    exact⟨_,rfl,h⟩
section
variable {prog:Program} {w:World} {A:Around} {Ex:Value->Shared->Prop} {s:Shared} {t t2:Bool}
theorem xY {t:Bool} {h:Heap} {it l:Addr} (e:h.get? it=some { cls:= .type (itC t),data:= .fields #[.ref l, .int 0 0] }):ItA t h it l 0:=by
 cases t with
 | true=>exact⟨_,e,rfl,rfl⟩
 | false=>exact⟨_,e,rfl,rfl⟩
theorem xZ {l m:Addr} {xs ys:Array Value} {Q:Value->Shared->Prop} (t1:SeA t s.heap l xs) (t2':SeA t2 s.heap m ys)
  (h: ∀ h',IsZip h' (s.heap.objs.size+4) (s.heap.objs.size+2) (s.heap.objs.size+3) .none->IsPair h' (s.heap.objs.size+2) (.ref s.heap.objs.size) (.ref (s.heap.objs.size+1))->IsPair h' (s.heap.objs.size+3) .none .none->
   ItA t h' s.heap.objs.size l 0->ItA t2 h' (s.heap.objs.size+1) m 0->h'.objs.size=s.heap.objs.size+5->(∀ c o,s.heap.get? c=some o->h'.get? c=some o)->Q (.ref (s.heap.objs.size+4)) { s with heap:=h' }):
  wpAny (model prog w) A (call (.type "zip") [.ref l, .ref m]) Q Ex s:=by
 refine callType_new F.called_zip (by decide) (F.typeCall_zip_2 _ _) (F.newCall_zip_2 _ _) (fun obj=>F.args_object_init_3 obj _ _) F.entry_zip_new (aA6 t t2 l m xs ys) ⟨t1,t2', ?_⟩
 have n1:(zg1 t s.heap l).objs.size=s.heap.objs.size+1:=ai ..
 have n2:(zg1 t2 (zg1 t s.heap l) m).objs.size=s.heap.objs.size+2:=by rw [ai,n1]
 have n3:(zg3 t t2 s.heap l m).objs.size=s.heap.objs.size+3:=by rw [ai,n2]
 have n4:(zg4 t t2 s.heap l m).objs.size=s.heap.objs.size+4:=by rw [ai,n3]
 have n5:(zg5 t t2 s.heap l m).objs.size=s.heap.objs.size+5:=by rw [ai,n4]
 have up: ∀ {h:Heap} {o:Obj} {c:Addr} {x:Obj},h.get? c=some x->(h.push o).get? c=some x:=fun e=>af _ e
 have g5:(zg5 t t2 s.heap l m).get? (zg4 t t2 s.heap l m).objs.size=some _:=ag _ rfl
 have g4:(zg5 t t2 s.heap l m).get? (zg3 t t2 s.heap l m).objs.size=some _:=up (ag _ rfl)
 have g3:(zg5 t t2 s.heap l m).get? (zg1 t2 (zg1 t s.heap l) m).objs.size=some _:=up (up (ag _ rfl))
 have g2:(zg5 t t2 s.heap l m).get? (zg1 t s.heap l).objs.size=some _:=up (up (up (ag _ rfl)))
 have g1:(zg5 t t2 s.heap l m).get? s.heap.objs.size=some _:=up (up (up (up (ag _ rfl))))
 show _/\_
 rw [n2,n3,n4] at g5;rw [n1,n2] at g3;rw [n3] at g4;rw [n1] at g2;rw [n4]
 exact⟨⟨_,g5,rfl⟩,h _ g5 g3 g4 (xY g1) (xY g2) n5 fun c o x=>up (up (up (up (up x))))⟩
end
noncomputable def aCv (t t2:Bool) (K:PySem.W.Frag) (l m:Addr):It:=
 ⟨fun i H=> ∃ xs ys x y,SqA t K H l xs/\SqA t2 K H m ys/\xs[i]? =some x/\ys[i]? =some y,
  fun i H v H'=> ∃ p x y,H p=none/\v= .ref p/\(∀ xs,SqA t K H l xs->xs[i]? =some x)/\(∀ ys,SqA t2 K H m ys->ys[i]? =some y)/\H'=upd H p (.tup [x,y]),
  fun i H=> ∃ xs ys,SqA t K H l xs/\SqA t2 K H m ys/\(xs.length<=i\/ys.length<=i)⟩
theorem x6 {t t2:Bool} {P:Program} {w:World} {K:PySem.W.Frag} {es:List Expr} {x1} {tp:Pos} {z TI TO i1 i2 l m:Addr} (D:ZipApart z TI TO i1 i2 l m):
  Turn P w K (.Tuple es x1 tp) (aCv t t2 K l m) [z,TI,TO,i1,i2] z (fun i h=>IsZip h z TI TO .none/\IsPair h TI (.ref i1) (.ref i2)/\(∃ a b,IsPair h TO a b)/\ItA t h i1 l i/\ItA t2 h i2 m i) where
 mem:=by simp
 obj:=fun i h st b hb=>by
  obtain⟨z1,z2,⟨a,c,z3⟩,y4,y5⟩:=st
  obtain⟨o4,z4,d4⟩:=nA y4
  obtain⟨o5,z5,d5⟩:=nA y5
  simp only [aq,List.not_mem_nil,or_false] at hb
  rcases hb with rfl | rfl | rfl | rfl | rfl
  ·exact⟨_,z1,fun v e=>by cases e⟩
  ·exact⟨_,z2,fun v e=>by cases e⟩
  ·exact⟨_,z3,fun v e=>by cases e⟩
  ·exact⟨_,z4,fun v e=>by rw [d4] at e;cases e⟩
  ·exact⟨_,z5,fun v e=>by rw [d5] at e;cases e⟩
 keep:=fun i h h' st k=>by
  obtain⟨z1,z2,⟨a,c,z3⟩,y4,y5⟩:=st
  exact⟨k _ (by simp) _ z1,k _ (by simp) _ z2,⟨a,c,k _ (by simp) _ z3⟩,b7 y4 fun o e=>k _ (by simp) o e,b7 y5 fun o e=>k _ (by simp) o e⟩
 item:=by
  intro X hP hw hK hc i pins s σ H E I hf st hg
  subst hP hw hK
  obtain⟨xs,ys,x,y,q1,q2,hx,hy⟩:=hg
  obtain⟨us,r1,p1,_⟩:=eP I q1
  obtain⟨vs,r2,p2,_⟩:=eP I q2
  obtain⟨u,hu,ru⟩:=r1.get hx
  obtain⟨v,hv,rv⟩:=r2.get hy
  obtain⟨z1,z2,⟨a,c,z3⟩,z4,z5⟩:=st
  have tI:TI<s.heap.objs.size:=ah z2
  have tz:z<s.heap.objs.size:=ah z1
  have tO:TO<s.heap.objs.size:=ah z3
  have t4:i1<s.heap.objs.size:=by obtain⟨o,e,_⟩:=nA z4;exact ah e
  have t5:i2<s.heap.objs.size:=by obtain⟨o,e,_⟩:=nA z5;exact ah e
  refine xX D z1 z2 z3 z4 z5 p1 p2 (x:=u) (y:=v) (by simpa using hu) (by simpa using hv) fun h' a1 a2 a3 a4 a5 a6 a7=>⟨_,rfl, ?_⟩
  have hfr:H s.heap.objs.size=none:=I.hok.fresh (aj _)
  -- the pair, laid
  have Ia:Inv X pins σ (upd H s.heap.objs.size (.tup [x,y])) { s with heap:=s.heap.push { cls:= .type "tuple",data:= .seq #[u,v] } }:=
   I.laid (t':=s.toks) (fun b o e=>af _ e) (aj _) (show ObjOk X.prog X.w _ _ _ (.tup [x,y]) from⟨by rw [sizeLine_eq];simp,[u,v], .cons ru (.cons rv .nil),⟨_,ag _ rfl,rfl,_,rfl⟩,⟨_,ag _ rfl,rfl⟩⟩)
  have hne: ∀ b∈[z,TI,TO,i1,i2],b≠s.heap.objs.size:=fun b hb=>by
   simp only [aq,List.not_mem_nil,or_false] at hb
   rcases hb with rfl | rfl | rfl | rfl | rfl
   ·exact bf tz
   ·exact bf tI
   ·exact bf tO
   ·exact bf t4
   ·exact bf t5
  have hf2: ∀ b∈[z,TI,TO,i1,i2],qN X pins (upd H s.heap.objs.size (.tup [x,y])) b:=fun b hb=>⟨by rw [aO (hne b hb)];exact(hf b hb).1,(hf b hb).2⟩
  have Ib:Inv X pins σ (upd H s.heap.objs.size (.tup [x,y])) { s with heap:=h' }:=by
   refine eC (s:={ s with heap:=s.heap.push { cls:= .type "tuple",data:= .seq #[u,v] } }) (t':=s.toks) Ia (fun b o hb e=> ?_) hf2
   simp only [aq,List.not_mem_nil,or_false,not_or] at hb
   by_cases hq:b=s.heap.objs.size
   ·subst hq
    rw [show(s.heap.push { cls:= .type "tuple",data:= .seq #[u,v] }).get? s.heap.objs.size=some _ from ag _ rfl] at e
    cases e
    exact a5
   ·have e2:s.heap.get? b=some o:=by
     exact(Heap.get?_push_ne _ b _ hq).symm.trans e
    exact a7 b o hb.1 hb.2.2.1 hb.2.2.2.1 hb.2.2.2.2 e2
  refine wpAny_letOwnedTupleGo_zip a1 fun h2 b1 b2=> ?_
  have Ic:Inv X pins σ (upd H s.heap.objs.size (.tup [x,y])) { s with heap:=h2 }:=eC (s:={ s with heap:=h' }) (t':=s.toks) Ib (fun b o hb e=>(b2.2 b (fun q=>hb (by simp [q]))).trans e) hf2
  refine⟨.ref s.heap.objs.size,_,Ic,rfl,⟨_,x,y,hfr,rfl,fun xs' hx'=>by rw [gE I hx' q1];exact hx,fun ys' hy'=>by rw [gE I hy' q2];exact hy,rfl⟩,⟨b1, ?_,⟨u,v, ?_⟩, ?_, ?_⟩,fun b hb=>(hf2 b hb).1⟩
  ·exact(b2.2 _ D.TIz).trans (a7 _ _ D.TIz D.TITO D.TIi1 D.TIi2 z2)
  ·exact(b2.2 _ D.TOz).trans a2
  ·exact b7 a3 fun o e=>(b2.2 _ D.i1z).trans e
  ·exact b7 a4 fun o e=>(b2.2 _ D.i2z).trans e
 done:=by
  intro X hP hw hK hc i pins s σ H E I hf st hg
  subst hP hw hK
  obtain⟨xs,ys,q1,q2,hx⟩:=hg
  obtain⟨us,r1,p1,_⟩:=eP I q1
  obtain⟨vs,r2,p2,_⟩:=eP I q2
  obtain⟨z1,z2,⟨a,c,z3⟩,z4,z5⟩:=st
  have n1:=r1.length
  have n2:=r2.length
  refine aA5 (I.ok.hd hc) D z1 z2 z3 z4 z5 p1 p2 (hx.elim (fun h=> .inl (by simp;omega)) fun h=> .inr (by simp;omega)) fun h' k=>⟨rfl,eC (t':=s.toks) I (fun b o hb e=> ?_) hf⟩
  simp only [aq,List.not_mem_nil,or_false,not_or] at hb
  exact k b o hb.1 hb.2.2.1 hb.2.2.2.1 hb.2.2.2.2 e
 self:=fun _ _ _ _ _ st h=>wpAny_pyIter_zip st.1 h
section
variable {X:Cx} {ad:Ad} {pins:List (Addr×Obj)} {s:Shared} {σ:St} {H G:Hp} {ρ:Rho} {Q:VK} {E:Nat->Hp->Prop} {pos p ap cp:Pos} {o a b c tg:Expr} {f g h:F}
theorem x8 {G1 H1:Hp} {x:V} {ds:List D} (e:Same G1 H1) (q:Seq X ad G1 H1 (.lst ds) x): ∃ l xs,x= .ref l/\SqL X.K H1 l xs/\aE X.K ad G1 ds xs:=by
 rcases q with q | ⟨l,vs,ds',e1,e2,e3,e4,e5⟩
 ·unfold Rep at q
  obtain⟨l,vs,rfl,h1,h2⟩:=q
  exact⟨l,vs,rfl,e.seq h1,h2⟩
 ·cases e1
  exact⟨l,vs,e2,SqL.of e4,e5⟩
theorem x9 {m:Str} {id:String} {r:Fn} (slot:PySem.Slot "list" m id) (hty:typeOf (.builtin id)=pure (.type "method_descriptor"))
  (ho:ML X ad o f) (ha:ME X ad a g) (hs:starEach [a] X.env=(false,eval a X.env)::starEach [] X.env) (hbase:attributeBase o m X.env (eval o X.env)=eval o X.env) (hline:(ap.endLine==cp.line)=true)
  (hm: ∀ (pins:List (Addr×Obj)) (s:Shared) (σ:St) (H G:Hp) (l:Addr) (xs:List V) (ds:List D) (y:D) (v:V) (u:Value) (Q:VK) (E:Nat->Hp->Prop),Inv X pins σ H s->Same G H->SqL X.K H l xs->aE X.K ad G ds xs->Rep X.K ad G y v->bF v u->
   RK X.K ad G H (r [.lst ds,y]) Q E->wpAny (model X.prog X.w) X.A (call (.builtin id) [.ref l,u]) (EP X pins σ Q) X.xe s):ME X ad (.Call (.Attribute o m ap) [a] [] cp) (oQ r f g):=by
 intro pins s σ H Q I ⟨G,ρ,E,hG,hS,hx,hr⟩
 refine wpAny_Call_method_late hbase (m8 hs) hline rfl (L2.thn (ho.lk pins s σ H G ρ _ Q E I hG hS hx hr) fun v s1 hz_=> ?_)
 obtain⟨x,d,G1,H1,I1,r1,st1,q1,k1⟩:=hz_
 cases d<;>try exact ax k1
 rename_i ds
 obtain⟨l,xs,rfl,hq,rq⟩:=x8 st1.gh q1
 cases (show v=Value.ref l from r1)
 obtain⟨its,rv,pl,_⟩:=I1.list hq
 obtain⟨ob,n,e1,e2,e3,e4⟩:=pl
 refine⟨"list",id,PySem.F.plainAttrs_list,slot,hty,⟨ob,e1,e2⟩,fun a' ea=>by cases ea;exact⟨ob,e1,e3⟩, ?_⟩
 rw [hs]
 refine Calls.callWith_builtin rfl (Calls.evalArgs_plain (Calls.spliced_cons (L2.thn (ha.thn I1 st1.gh (hS.step st1) hx k1) fun u s2 ⟨w,y,G2,H2,I2,r2,st2,q2,k2⟩=>Calls.spliced_nil ?_)))
 exact hm pins s2 σ H2 G2 l xs ds y w u Q E I2 st2.gh (st2.sh.seq hq) (rq.mono st2.sg) q2 r2 k2
theorem aA7 (hu:X.A.units+62<cLine) (ho:ML X ad o f) (ha:ME X ad a g) (hs:starEach [a] X.env=(false,eval a X.env)::starEach [] X.env) (hbase:attributeBase o "count" X.env (eval o X.env)=eval o X.env) (hline:(ap.endLine==cp.line)=true):
  ME X ad (.Call (.Attribute o "count" ap) [a] [] cp) (oQ sJ f g):=by
 refine x9 PySem.F.slot_list_count PySem.F.type_list_count ho ha hs hbase hline ?_
 intro pins s σ H G l xs ds y v u Q E I hG hq rq q r k
 have k':RK X.K ad G H (if qI y ds then .ok (.int ((ds.countP fun z=>deq z y):Nat)) else .bad) Q E:=k
 by_cases hc:qI y ds=true
 ·rw [if_pos hc] at k'
  obtain⟨its,rv,⟨⟨cls,dd,data,sl⟩,n,e1,e2,e3,e4⟩,_⟩:=I.list hq
  simp only at e2 e3 e4
  subst e2 e4
  obtain⟨e,he,_,hcount,_⟩:=lS hu I hG hc q r rq rv
  refine call_meets PySem.F.slot_list_count ⟨_,e1,rfl⟩ PySem.F.entry_list_count (PySem.F.args_list_count_2 _ _) (SeqAt.list_countAt l its.toArray n dd sl u e) ⟨e1,he, ?_⟩
  refine⟨.int _,H,I.tok _,⟨_,rfl⟩, ?_⟩
  rw [<-hcount] at k'
  exact k'.ok_now hG aN
 ·rw [if_neg hc] at k'
  exact k'.elim
theorem aA8 (hu:X.A.units+62<cLine) (ho:ML X ad o f) (ha:ME X ad a g) (hs:starEach [a] X.env=(false,eval a X.env)::starEach [] X.env) (hbase:attributeBase o "index" X.env (eval o X.env)=eval o X.env) (hline:(ap.endLine==cp.line)=true):
  ME X ad (.Call (.Attribute o "index" ap) [a] [] cp) (oQ oS f g):=by
 refine x9 PySem.F.slot_list_index PySem.F.type_list_index ho ha hs hbase hline ?_
 intro pins s σ H G l xs ds y v u Q E I hG hq rq q r k
 have k':RK X.K ad G H (if qI y ds then(match ds.findIdx? fun z=>deq z y with | some k=> .ok (.int (k:Nat)) | none=> .bad) else .bad) Q E:=k
 by_cases hc:qI y ds=true
 ·rw [if_pos hc] at k'
  obtain⟨its,rv,⟨⟨cls,dd,data,sl⟩,n,e1,e2,e3,e4⟩,hz⟩:=I.list hq
  simp only at e2 e3 e4
  subst e2 e4
  obtain⟨e,he,_,_,hfind⟩:=lS hu I hG hc q r rq rv
  cases hf:ds.findIdx? fun z=>deq z y with
  | none=>rw [hf] at k';exact k'.elim
  | some j=>
   rw [hf] at k' hfind
   obtain⟨hj,hit,hno⟩:=List.findIdx?_eq_some_iff_getElem.mp hfind
   have hl:=rv.length
   refine call_meets PySem.F.slot_list_index ⟨_,e1,rfl⟩ PySem.F.entry_list_index (PySem.F.args_list_index_2 _ _) (SeqAt.list_indexAt l its.toArray n dd sl u e j (by simpa using hj) ?_ (by simpa using hit) (fun m hm hlt=>by simpa using hno m hlt)) ⟨e1,he, ?_⟩
   ·have:(sizeLine:Nat)<2 ^ 63 - 1:=by decide
    omega
   ·exact⟨.int _,H,I.tok _,⟨_,rfl⟩,k'.ok_now hG aN⟩
 ·rw [if_neg hc] at k'
  exact k'.elim
theorem nB {f:F} {k:D->R} {W:It->Hp->Prop} {Q':VK} (hG:Same G H) (hS:SL X.K ad G H ρ σ) (hx:XP X ad σ E) (hr:IGK X ad G H ((f ρ).bind k) W E)
  (q: ∀ v d G1 H1,Step G H G1 H1->Rep X.K ad G1 d v->IGK X ad G1 H1 (k d) W E->Q' v H1):tE X ad f σ H Q':=by
 have ikst: ∀ {r:R} {G1 H1:Hp},IGK X ad G H r W E->Step G H G1 H1->IGK X ad G1 H1 r W E:=fun {r G1 H1} h st=>by
  cases r with
  | ok d=>obtain⟨ds,e,h⟩:=h;exact⟨ds,e,fun J G' H' st' hi=>h J G' H' (st.trans st') hi⟩
  | ow l=>exact fun J G' H' st' hi=>h J G' H' (st.trans st') hi
  | ex c=>exact fun G' H' st'=>h G' H' (st.trans st')
  | bad=>exact h
 refine⟨G,ρ,E,hG,hS,hx, ?_⟩
 cases e:f ρ with
 | ok d=>
  rw [e] at hr
  exact fun v G1 H1 st r=>q v d G1 H1 st r (ikst hr st)
 | ow xs=>
  rw [e] at hr
  intro p vs G1 H1 st n m e' r
  obtain⟨G2,st2,r2⟩:=cO (X:=X) (ad:=ad) st n m e' r
  exact q _ _ G2 H1 st2 r2 (ikst hr st2)
 | ex c=>
  rw [e] at hr
  exact hr
 | bad=>
  rw [e] at hr
  exact hr
noncomputable def iZp (K:PySem.W.Frag) (ta:TA):TI:=fun σ H R=>ta σ H fun vs H1=> ∃ t t2 l m xs ys,vs=[.ref l, .ref m]/\SqA t K H1 l xs/\SqA t2 K H1 m ys/\(xs.length<=sizeLine->R (aCv t t2 K l m) H1)
theorem aCw {es:List Expr} {kt} {tp:Pos} {ta:TA} (hg:L2.Gl X "zip") (hm:X.mg "zip"=none) (ha:PA X [a,b] ta) (he:starEach [a,b] X.env=(false,eval a X.env)::starEach [b] X.env) (he2:starEach [b] X.env=(false,eval b X.env)::starEach [] X.env):
  PI X (.Tuple es kt tp) (.Call (.Name "zip" p) [a,b] [] pos) (iZp X.K ta):=by
 intro pins s σ H R I h
 refine Call_ (eW (u:= .type "zip") I hg hm (by decide+kernel) (PyProof.Rows.callWith_type1 (L2.thn (ha pos pins s σ H _ I h) fun us s1 ⟨vs,H1,I1,r1,q1⟩=> ?_) he (by rw [he2];rfl)) (by decide) (by decide))
 obtain⟨t,t2,l,m,xs,ys,rfl,hq1,hq2,q⟩:=q1
 obtain⟨u,v,rfl,ru,rv⟩:=r1.two
 cases (show u=Value.ref l from ru)
 cases (show v=Value.ref m from rv)
 obtain⟨its,_,p1,z1⟩:=eP I1 hq1
 obtain⟨its2,_,p2,_⟩:=eP I1 hq2
 refine xZ p1 p2 fun h' a1 a2 a3 a4 a5 a6 a7=>wpAny_pyIter_zip a1 ?_
 have l1:l<s1.heap.objs.size:=by cases t<;>(obtain⟨o,e,_⟩:=p1;exact ah e)
 have l2:m<s1.heap.objs.size:=by cases t2<;>(obtain⟨o,e,_⟩:=p2;exact ah e)
 refine⟨s1.heap.objs.size+4,[s1.heap.objs.size+4,s1.heap.objs.size+2,s1.heap.objs.size+3,s1.heap.objs.size,s1.heap.objs.size+1],_,aCv t t2 X.K l m,H1,rfl,I1.kept (t':=s1.toks) a7,x6 (xQ l1 l2),⟨a1,a2,⟨_,_,a3⟩,a4,a5⟩,fun b hb=> ?_,q z1⟩
 have hb':s1.heap.objs.size<=b:=by
  simp only [aq,List.not_mem_nil,or_false] at hb
  rcases hb with rfl | rfl | rfl | rfl | rfl
  ·exact Nat.le_add_right _ 4
  ·exact Nat.le_add_right _ 2
  ·exact Nat.le_add_right _ 3
  ·exact aj _
  ·exact Nat.le_add_right _ 1
 exact I1.fpOk hb' (I1.hok.fresh hb')
theorem aFd {ds es:List D} {i:Nat} {d:D} (e:((ds.zip es).map fun p=>D.tup [p.1,p.2])[i]? =some d): ∃ x y,ds[i]? =some x/\es[i]? =some y/\d= .tup [x,y]:=by
 rw [List.getElem?_map] at e
 cases q:(ds.zip es)[i]? with
 | none=>rw [q] at e;cases e
 | some p=>
  rw [q] at e
  rw [List.getElem?_zip_eq_some] at q
  exact⟨p.1,p.2,q.1,q.2,(Option.some.inj e).symm⟩
noncomputable def isA:Bool->List D->D->Prop
 | true,ds,d=>d= .tup ds
 | false,ds,d=>d= .lst ds
theorem nC {t:Bool} {G1:Hp} {d:D} {v:V} {ds:List D} (c:isA t ds d) (r:Rep X.K ad G1 d v): ∃ l vs,v= .ref l/\SqA t X.K G1 l vs/\aE X.K ad G1 ds vs:=by
 cases t with
 | true=>cases c;unfold Rep at r;exact r
 | false=>cases c;unfold Rep at r;exact r
theorem sZ {t t2:Bool} {G1 H1 H2:Hp} {l m:Addr} {i:Nat} {vs ws:List V} {ds es:List D} {d:D} {x:V} (h1:SqA t X.K G1 l vs) (r1:aE X.K ad G1 ds vs) (h2:SqA t2 X.K G1 m ws) (r2:aE X.K ad G1 es ws) (hg:Same G1 H1) (e:((ds.zip es).map fun p=>D.tup [p.1,p.2])[i]? =some d):
  (aCv t t2 X.K l m).go i H1/\ ∀ x H2,(aCv t t2 X.K l m).yld i H1 x H2-> ∃ G2,Step G1 H1 G2 H2/\Rep X.K ad G2 d x:=by
 obtain⟨x,y,e1,e2,rfl⟩:=aFd e
 obtain⟨v,g1,q1⟩:=r1.get e1
 obtain⟨w,g2,q2⟩:=r2.get e2
 refine⟨⟨vs,ws,v,w,aH hg h1,aH hg h2,g1,g2⟩, ?_⟩
 rintro x' H2' ⟨p,x2,y2,hn,rfl,b1,b2,rfl⟩
 have c1:=b1 vs (aH hg h1);rw [g1] at c1;cases c1
 have c2:=b2 ws (aH hg h2);rw [g2] at c2;cases c2
 refine⟨upd G1 p (.tup [v,w]),Step.new hg hn, ?_⟩
 have sm:Same G1 (upd G1 p (.tup [v,w])):=Same.upd_new (hg.free hn)
 unfold Rep
 exact⟨p,[v,w],rfl,SqT.of aM,aE.cons (q1.mono sm) (aE.cons (q2.mono sm) aE.nil)⟩
theorem tF {t t2:Bool} {G1 H1:Hp} {l m:Addr} {vs ws:List V} {ds es:List D} (h1:SqA t X.K H1 l vs) (n1:vs.length=ds.length) (h2:SqA t2 X.K H1 m ws) (n2:ws.length=es.length):(aCv t t2 X.K l m).stop ((ds.zip es).map fun p=>D.tup [p.1,p.2]).length H1:=by
 refine⟨vs,ws,h1,h2, ?_⟩
 simp only [am,List.length_zip]
 omega
theorem aJi {es:List Expr} {kt} {tp:Pos} (hg:L2.Gl X "zip") (hm:X.mg "zip"=none) (ha:ME X ad a f) (hb:ME X ad b g) (he:starEach [a,b] X.env=(false,eval a X.env)::starEach [b] X.env) (he2:starEach [b] X.env=(false,eval b X.env)::starEach [] X.env):
  MI X ad (.Tuple es kt tp) (.Call (.Name "zip" p) [a,b] [] pos) (vP f g):=by
 intro pins s σ H W I ⟨G,ρ,E,hG,hS,hx,hr⟩
 refine aCw (ta:=jU (tE X ad f) (jU (tE X ad g) aCb)) hg hm (bS ha (bS hb dB he2) he) he he2 pins s σ H W I ?_
 show tE X ad f σ H fun v H1=>tE X ad g σ H1 fun v2 H2=> ∃ t t2 l m xs ys,[v,v2]=[.ref l, .ref m]/\SqA t X.K H2 l xs/\SqA t2 X.K H2 m ys/\(xs.length<=sizeLine->W (aCv t t2 X.K l m) H2)
 refine m7 hG hS hx hr fun v d G1 H1 st r k=> ?_
 refine m7 st.gh (hS.step st) hx k fun v2 d2 G2 H2 st2 r2 k2=> ?_
 obtain⟨t,t2,ds,es',c1,c2,k2⟩: ∃ t t2 ds es',isA t ds d/\isA t2 es' d2/\IK X ad G2 H2 (.ok (.lst ((ds.zip es').map fun p=>D.tup [p.1,p.2]))) W E:=by
  cases d<;>try exact ax k2
  ·cases d2<;>try exact ax k2
   ·exact⟨true,true,_,_,rfl,rfl,k2⟩
   ·exact⟨true,false,_,_,rfl,rfl,k2⟩
  ·cases d2<;>try exact ax k2
   ·exact⟨false,true,_,_,rfl,rfl,k2⟩
   ·exact⟨false,false,_,_,rfl,rfl,k2⟩
 obtain⟨al,e,hw⟩:=k2
 cases e
 obtain⟨l,vs,rfl,q1,y1⟩:=nC c1 r
 obtain⟨m,ws,rfl,q2,y2⟩:=nC c2 r2
 have q1':=aH st2.sg q1
 have y1':=y1.mono st2.sg
 refine⟨t,t2,l,m,vs,ws,rfl,aH st2.gh q1',aH st2.gh q2,fun few=>hw _ G2 H2 (Step.refl st2.gh) ⟨fun i G3 H3 d' s3 e=> ?_,fun G3 H3 s3=>tF (G1:=G3) (aH s3.sh (aH st2.gh q1')) y1'.length (aH s3.sh (aH st2.gh q2)) y2.length, ?_⟩⟩
 ·exact sZ (H2:=H3) (x:= .ref l) (aH s3.sg q1') (y1'.mono s3.sg) (aH s3.sg q2) (y2.mono s3.sg) s3.gh e
 ·have:=y1'.length
  simp only [am,List.length_zip]
  omega
theorem aFe {es:List Expr} {kt} {tp:Pos} (hg:L2.Gl X "zip") (hm:X.mg "zip"=none) (ha:ME X ad a f) (hb:ME X ad b g) (he:starEach [a,b] X.env=(false,eval a X.env)::starEach [b] X.env) (he2:starEach [b] X.env=(false,eval b X.env)::starEach [] X.env):
  MIG X ad (.Tuple es kt tp) (.Call (.Name "zip" p) [a,b] [] pos) (vP f g):=by
 intro pins s σ H W I ⟨G,ρ,E,hG,hS,hx,hr⟩
 refine aCw (ta:=jU (tE X ad f) (jU (tE X ad g) aCb)) hg hm (bS ha (bS hb dB he2) he) he he2 pins s σ H W I ?_
 show tE X ad f σ H fun v H1=>tE X ad g σ H1 fun v2 H2=> ∃ t t2 l m xs ys,[v,v2]=[.ref l, .ref m]/\SqA t X.K H2 l xs/\SqA t2 X.K H2 m ys/\(xs.length<=sizeLine->W (aCv t t2 X.K l m) H2)
 refine nB hG hS hx hr fun v d G1 H1 st r k=> ?_
 refine nB st.gh (hS.step st) hx k fun v2 d2 G2 H2 st2 r2 k2=> ?_
 obtain⟨t,t2,ds,es',c1,c2,k2⟩: ∃ t t2 ds es',isA t ds d/\isA t2 es' d2/\IGK X ad G2 H2 (.ok (.lst ((ds.zip es').map fun p=>D.tup [p.1,p.2]))) W E:=by
  cases d<;>try exact ax k2
  ·cases d2<;>try exact ax k2
   ·exact⟨true,true,_,_,rfl,rfl,k2⟩
   ·exact⟨true,false,_,_,rfl,rfl,k2⟩
  ·cases d2<;>try exact ax k2
   ·exact⟨false,true,_,_,rfl,rfl,k2⟩
   ·exact⟨false,false,_,_,rfl,rfl,k2⟩
 obtain⟨al,e,hw⟩:=k2
 cases e
 obtain⟨l,vs,rfl,q1,y1⟩:=nC c1 r
 obtain⟨m,ws,rfl,q2,y2⟩:=nC c2 r2
 have q1':=aH st2.sg q1
 have y1':=y1.mono st2.sg
 refine⟨t,t2,l,m,vs,ws,rfl,aH st2.gh q1',aH st2.gh q2,fun few=>hw _ G2 H2 (Step.refl st2.gh) ⟨fun i G3 H3 d' s3 s4 e=> ?_,fun G3 H3 s3 s4=>tF (G1:=G3) (aH s4 (aH s3 q1')) y1'.length (aH s4 (aH s3 q2)) y2.length⟩⟩
 exact sZ (H2:=H3) (x:= .ref l) (aH s3 q1') (y1'.mono s3) (aH s3 q2) (y2.mono s3) s4 e
noncomputable def iEn (K:PySem.W.Frag) (ta:TA):TI:=fun σ H R=>ta σ H fun vs H1=> ∃ t l xs,vs=[.ref l]/\SqA t K H1 l xs/\(xs.length<=sizeLine->R (Ite t K l) H1)
theorem yA {es:List Expr} {kt} {tp:Pos} {ta:TA} (hg:L2.Gl X "enumerate") (hm:X.mg "enumerate"=none) (ha:PA X [a] ta) (he:starEach [a] X.env=(false,eval a X.env)::starEach [] X.env):
  PI X (.Tuple es kt tp) (.Call (.Name "enumerate" p) [a] [] pos) (iEn X.K ta):=by
 intro pins s σ H R I h
 refine Call_ (eW (u:= .type "enumerate") I hg hm (by decide+kernel) (PyProof.Rows.callWith_type1 (L2.thn (ha pos pins s σ H _ I h) fun us s1 ⟨vs,H1,I1,r1,q1⟩=> ?_) he rfl) (by decide) (by decide))
 obtain⟨t,l,xs,rfl,hq,q⟩:=q1
 obtain⟨u,rfl,ru⟩:=r1.one
 cases (show u=Value.ref l from ru)
 obtain⟨its,_,p1,z1⟩:=eP I1 hq
 refine vA p1 fun h' a1 a2 a3 a4=>wpAny_pyIter_enum a1 ?_
 refine⟨s1.heap.objs.size+1,[s1.heap.objs.size+1,s1.heap.objs.size],_,Ite t X.K l,H1,rfl,I1.kept (t':=s1.toks) a4,xV (Nat.succ_ne_self _),⟨⟨_,a1⟩,a2⟩,fun b hb=> ?_,q z1⟩
 have hb':s1.heap.objs.size<=b:=by
  simp only [aq,List.not_mem_nil,or_false] at hb
  rcases hb with rfl | rfl
  ·exact Nat.le_succ _
  ·exact aj _
 exact I1.fpOk hb' (I1.hok.fresh hb')
theorem pA {G1:Hp} {d:D} {v:V} {ds:List D} (r:Rep X.K ad G1 d v) (e:items d=some ds): ∃ t l vs,v= .ref l/\SqA t X.K G1 l vs/\aE X.K ad G1 ds vs:=by
 cases d<;>try (cases e;done)
 ·cases e;unfold Rep at r;obtain⟨l,vs,rfl,q,t⟩:=r;exact⟨true,l,vs,rfl,q,t⟩
 ·cases e;unfold Rep at r;obtain⟨l,vs,rfl,q,t⟩:=r;exact⟨false,l,vs,rfl,q,t⟩
theorem tG {t:Bool} {G1 H1:Hp} {l:Addr} {i:Nat} {vs:List V} {ds:List D} {d:D} (h1:SqA t X.K G1 l vs) (r1:aE X.K ad G1 ds vs) (hg:Same G1 H1) (e:(ds.zipIdx.map fun p=>D.tup [.int (p.2:Nat),p.1])[i]? =some d):
  (Ite t X.K l).go i H1/\ ∀ x H2,(Ite t X.K l).yld i H1 x H2-> ∃ G2,Step G1 H1 G2 H2/\Rep X.K ad G2 d x:=by
 rw [List.getElem?_map,List.getElem?_zipIdx] at e
 cases q:ds[i]? with
 | none=>rw [q] at e;cases e
 | some x=>
  rw [q] at e
  have e2:=(Option.some.inj e).symm
  simp only [Nat.zero_add] at e2
  subst e2
  obtain⟨v,g1,q1⟩:=r1.get q
  refine⟨⟨vs,v,aH hg h1,g1⟩, ?_⟩
  rintro x' H2' ⟨p,x2,hn,rfl,b1,rfl⟩
  have c1:=b1 vs (aH hg h1);rw [g1] at c1;cases c1
  refine⟨upd G1 p (.tup [.int i,v]),Step.new hg hn, ?_⟩
  have sm:Same G1 (upd G1 p (.tup [.int i,v])):=Same.upd_new (hg.free hn)
  unfold Rep
  exact⟨p,[.int i,v],rfl,SqT.of aM,aE.cons aN (aE.cons (q1.mono sm) aE.nil)⟩
theorem aFf {es:List Expr} {kt} {tp:Pos} (hg:L2.Gl X "enumerate") (hm:X.mg "enumerate"=none) (ha:ME X ad a f) (he:starEach [a] X.env=(false,eval a X.env)::starEach [] X.env):
  MI X ad (.Tuple es kt tp) (.Call (.Name "enumerate" p) [a] [] pos) (oR f):=by
 intro pins s σ H W I ⟨G,ρ,E,hG,hS,hx,hr⟩
 refine yA (ta:=jU (tE X ad f) aCb) hg hm (bS ha dB he) he pins s σ H W I ?_
 show tE X ad f σ H fun v H1=> ∃ t l xs,[v]=[.ref l]/\SqA t X.K H1 l xs/\(xs.length<=sizeLine->W (Ite t X.K l) H1)
 refine m7 hG hS hx hr fun v d G1 H1 st r k=> ?_
 have k':IK X ad G1 H1 (match items d with | some xs=> .ok (.lst (xs.zipIdx.map fun p=>D.tup [.int (p.2:Nat),p.1])) | none=> .bad) W E:=k
 cases e:items d with
 | none=>rw [e] at k';exact k'.elim
 | some ds=>
  rw [e] at k'
  obtain⟨al,e2,hw⟩:=k'
  cases e2
  obtain⟨t,l,vs,rfl,q1,t1⟩:=pA r e
  have n1:=t1.length
  refine⟨t,l,vs,rfl,aH st.gh q1,fun few=>hw _ G1 H1 (Step.refl st.gh) ⟨fun i G3 H3 d' s3 e=>tG (aH s3.sg q1) (t1.mono s3.sg) s3.gh e,fun G3 H3 s3=>⟨vs,aH s3.sh (aH st.gh q1),by simp;omega⟩,by simp;omega⟩⟩
theorem aA9 {es:List Expr} {kt} {tp:Pos} (hg:L2.Gl X "enumerate") (hm:X.mg "enumerate"=none) (ha:ME X ad a f) (he:starEach [a] X.env=(false,eval a X.env)::starEach [] X.env):
  MIG X ad (.Tuple es kt tp) (.Call (.Name "enumerate" p) [a] [] pos) (oR f):=by
 intro pins s σ H W I ⟨G,ρ,E,hG,hS,hx,hr⟩
 refine yA (ta:=jU (tE X ad f) aCb) hg hm (bS ha dB he) he pins s σ H W I ?_
 show tE X ad f σ H fun v H1=> ∃ t l xs,[v]=[.ref l]/\SqA t X.K H1 l xs/\(xs.length<=sizeLine->W (Ite t X.K l) H1)
 refine nB hG hS hx hr fun v d G1 H1 st r k=> ?_
 have k':IGK X ad G1 H1 (match items d with | some xs=> .ok (.lst (xs.zipIdx.map fun p=>D.tup [.int (p.2:Nat),p.1])) | none=> .bad) W E:=k
 cases e:items d with
 | none=>rw [e] at k';exact k'.elim
 | some ds=>
  rw [e] at k'
  obtain⟨al,e2,hw⟩:=k'
  cases e2
  obtain⟨t,l,vs,rfl,q1,t1⟩:=pA r e
  have n1:=t1.length
  refine⟨t,l,vs,rfl,aH st.gh q1,fun few=>hw _ G1 H1 (Step.refl st.gh) ⟨fun i G3 H3 d' s3 s4 e=>tG (aH s3 q1) (t1.mono s3) s4 e,fun G3 H3 s3 s4=>⟨vs,aH s4 (aH s3 q1),by simp;omega⟩⟩⟩
theorem aBa (hc:MT X ad c h) (ha:MT X ad a f) (hb:MT X ad b g):MT X ad (.IfExp c a b pos) (rIf h f g):=by
 intro pins s σ H Q I ⟨G,ρ,E,hG,hS,hx,ht,hr⟩
 have hr':RK X.K ad G H ((h ρ).bind fun x=>match x with | .bl true=>f ρ | .bl false=>g ρ | _=> .bad) (fun v H'=> ∃ b,v= .bl b/\Q b H') E:=hr
 have ht':lP ((h ρ).bind fun x=>match x with | .bl true=>f ρ | .bl false=>g ρ | _=> .bad):=ht
 have e:isTrue (.IfExp c a b pos) X.env (eval (.IfExp c a b pos) X.env)=(do if<-isTrue c X.env (eval c X.env) then isTrue a X.env (eval a X.env) else isTrue b X.env (eval b X.env)):=rfl
 rw [e]
 refine aa ?_
 rcases eM ht' with ⟨d,e1,ht2⟩ | ⟨xs,e1,ht2⟩ | ⟨k,e1⟩
 ·cases d<;>try exact(bG ht2).elim
  rename_i k
  rw [e1] at hr'
  refine L2.thn (hc pins s σ H (fun b H1=>b=k/\ ∃ G1,Step G H G1 H1) I ⟨G,ρ,E,hG,hS,hx, .inl ⟨k,e1⟩, ?_⟩) fun b s1 ⟨H1,I1,e2,G1,st⟩=> ?_
  ·rw [e1]
   intro v G1 H1 st r
   unfold Rep at r;subst r
   exact⟨k,rfl,rfl,G1,st⟩
  ·subst e2
   cases b with
   | true=>exact wpAny_ite_true (by decide) (ha pins s1 σ H1 Q I1 ⟨G1,ρ,E,st.gh,hS.step st,hx,ht2,RK.step hr' st⟩)
   | false=>exact wpAny_ite_false (by decide) (hb pins s1 σ H1 Q I1 ⟨G1,ρ,E,st.gh,hS.step st,hx,ht2,RK.step hr' st⟩)
 ·exact(bG ht2).elim
 ·rw [e1] at hr'
  refine L2.thn (hc pins s σ H (fun b H1=>False) I ⟨G,ρ,E,hG,hS,hx, .inr ⟨k,e1⟩, ?_⟩) fun b s1 ⟨H1,I1,z⟩=>z.elim
  rw [e1]
  exact hr'
end
theorem aFg {f:F} {ρ:Rho}:aA eL [aT f] ρ=(f ρ).bind fun x=>aCe x fun i=>if -100000<=i/\i<=100000 then .ow (mO i.toNat) else .bad:=by
 unfold aA mM args args aT
 cases f ρ with
 | ok d=>
  cases d<;>try rfl
  rename_i i
  by_cases h: -100000<=i/\i<=100000<;>simp [R.bind,aCe,h,RA.cons,RA.then,eL,items]
 | ow xs=>rfl
 | ex c=>rfl
 | bad=>rfl
section
variable {X:Cx} {ad:Ad} {pins:List (Addr×Obj)} {s:Shared} {σ:St} {H G:Hp} {ρ:Rho} {Q:VK} {E:Nat->Hp->Prop} {pos p p2 pos2:Pos} {a:Expr} {f:F}
theorem vB {acc:Array Value} {n:Nat} (h:ItemsOf (fun i v=> ∃ t,v=Value.int (0+i * 1) t) acc n):aZ ((List.range n).map fun(i:Nat)=>V.int (i:Int)) acc.toList:=by
 obtain⟨hs,hv⟩:=h
 have key: ∀ (m:Nat) (l:List Value) (k:Nat),l.length=m->(∀ j v,l[j]? =some v-> ∃ t,v=Value.int ((k+j:Nat):Int) t)->aZ ((List.range' k m).map fun(i:Nat)=>V.int (i:Int)) l:=by
  intro m
  induction m with
  | zero=>intro l k e _;cases List.length_eq_zero_iff.mp e;exact .nil
  | succ m ih=>
   intro l k e hv
   cases l with
   | nil=>cases e
   | cons v l=>
    refine .cons (hv 0 v rfl) (ih l (k+1) (by simpa using e) fun j w hw=> ?_)
    obtain⟨t,q⟩:=hv (j+1) w (by simpa using hw)
    exact⟨t,by rw [q];congr 1;omega⟩
 rw [List.range_eq_range']
 refine key n acc.toList 0 (by simpa using hs) fun j v e=> ?_
 obtain⟨t,q⟩:=hv j v (by simpa using e)
 exact⟨t,by rw [q];congr 1;omega⟩
theorem vC {n:Nat}:aE X.K ad G (mO n) ((List.range n).map fun(i:Nat)=>V.int (i:Int)):=by
 unfold mO
 induction (List.range n) with
 | nil=>exact aE.nil
 | cons x r ih=>exact aE.cons aN ih
theorem nD (hg:L2.Gl X "range") (hm:X.mg "range"=none) (hgl:L2.Gl X "list") (hml:X.mg "list"=none) (hc:X.calm=true) (ha:ME X ad a f) (hs:starEach [a] X.env=(false,eval a X.env)::starEach [] X.env):
  ME X ad (.Call (.Name "list" p) [.Call (.Name "range" p2) [a] [] pos2] [] pos) (aA eL [aT f]):=by
 intro pins s σ H Q I ⟨G,ρ,E,hG,hS,hx,hr⟩
 rw [aFg] at hr
 refine Call_ (eW (u:= .type "list") I hgl hml (by decide+kernel) (PyProof.Rows.callWith_type1 ?_ rfl rfl) (by decide) (by decide))
 refine Calls.spliced_cons ?_
 refine Call_ (eW (u:= .type "range") I hg hm boot_range (PyProof.Rows.callWith_type1 ?_ hs rfl) (by decide) (by decide))
 rw [hs]
 refine Calls.spliced_cons (L2.thn (ha.thn I hG hS hx hr) fun u s1 ⟨v,d,G1,H1,I1,r1,st,q,k1⟩=>Calls.spliced_nil ?_)
 cases d<;>try exact ax k1
 rename_i i
 unfold Rep at q;subst q
 obtain⟨t,rfl⟩:=r1
 have k2:RK X.K ad G1 H1 (if -100000<=i/\i<=100000 then .ow (mO i.toNat) else .bad) Q E:=k1
 by_cases hb: -100000<=i/\i<=100000
 ·rw [if_pos hb] at k2
  refine call_range_1 (Calls.spliced_nil ?_)
  have I2:Inv X pins σ H1 { s1 with heap:=s1.heap.push { cls:= .type "range",data:= .fields #[.int 0 s1.toks, .int i t, .int 1 (s1.toks+1)] },toks:=s1.toks+1+1 }:=I1.kept fun b o e=>af _ e
  have hn:Builtin.Range.rangeSize 0 i 1=(i.toNat:Int):=by rw [rangeSize_one];split<;>omega
  refine call_list_range (I1.ok.hd hc) (IsRange.new ..) (small_one (by omega) (by omega) (by omega) (by omega)) hn (by omega) fun h' tk acc c' hk hS' hacc=> ?_
  have hv:=vB hacc
  have hz:((List.range i.toNat).map fun(i:Nat)=>V.int (i:Int)).length<=sizeLine:=by rw [sizeLine_eq];simp;omega
  refine⟨.ref _,_,I2.laid (t':=tk) hk (aj _) (show ObjOk X.prog X.w _ h' _ (.lst _) from⟨hz,acc.toList,c',hv,by simpa using hS'⟩),rfl,k2.ow_new st.gh vC (I2.hok.fresh (aj _))⟩
 ·rw [if_neg hb] at k2
  exact k2.elim
end
theorem kG (i:Int): ∀ l:List Int,(aGz i l).Perm (i::l)
 | []=>List.Perm.refl _
 | j::r=>by
  unfold aGz
  split
  ·exact List.Perm.refl _
  ·exact((kG i r).cons j).trans (List.Perm.swap i j r)
theorem gF: ∀ l:List Int,(mP l).Perm l
 | []=>List.Perm.refl _
 | i::r=>(kG i (mP r)).trans ((gF r).cons i)
theorem lY (i:Int): ∀ {l:List Int},l.Pairwise (· <= ·)->(aGz i l).Pairwise (· <= ·)
 | [],_=>List.pairwise_singleton _ _
 | j::r,h=>by
  unfold aGz
  have h1:=List.pairwise_cons.mp h
  split
  ·rename_i hij
   refine List.pairwise_cons.mpr ⟨fun a ha=> ?_,h⟩
   rcases aq.mp ha with rfl | ha
   ·exact hij
   ·exact Int.le_trans hij (h1.1 a ha)
  ·rename_i hij
   refine List.pairwise_cons.mpr ⟨fun a ha=> ?_,lY i h1.2⟩
   rcases aq.mp ((kG i r).mem_iff.mp ha) with rfl | ha
   ·omega
   ·exact h1.1 a ha
theorem i8: ∀ l:List Int,(mP l).Pairwise (· <= ·)
 | []=>List.Pairwise.nil
 | i::r=>lY i (i8 r)
theorem vD {l m:List Int} (p:m.Perm l) (h:m.Pairwise (· <= ·)):m=mP l:=
 List.Perm.eq_of_pairwise (fun _ _ _ _ a b=>Int.le_antisymm a b) h (i8 l) (p.trans (gF l).symm)
section
variable {prog:Program} {w:World} {A:Around} {Ex:Value->Shared->Prop} {s:Shared}
theorem vE {l:Addr} {T:String} {o:Obj} {vs:List Value} {ns:List Int} {n:Nat} {Q:Value->Shared->Prop} (hT:T="list"\/T="tuple") (ho:s.heap.get? l=some o) (hc:o.cls= .type T) (hd:o.data= .seq vs.toArray n) (hI:IntsAre vs ns) (h64:vs.length<64)
  (h: ∀ (h1 h':Heap) (out:Array Value) (ns':List Int) (e:Nat),(∀ b o,s.heap.get? b=some o->h1.get? b=some o)->(∀ b o,h1.get? b=some o->h'.get? b=some o)->h'.get? h1.objs.size=some (seqObj "list" out e)->IntsAre out.toList ns'->ns'.Perm ns->ns'.Pairwise (· <= ·)->Q (.ref h1.objs.size) { s with heap:=h' }):
  wpAny (model prog w) A (call (.builtin "sorted") [.ref l]) Q Ex s:=by
 have hz:vs.toArray.size<=sizeLine:=by rw [sizeLine_eq];simp;omega
 refine Calls.call_function_entry kind_sorted plain_sorted entry_sorted (args_sorted1 _) ?_
 unfold Builtin.«sorted»
 refine aa (m:=checkCount "sorted" 1 1 _) (ae ?_)
 refine aa (wpAny_collect_seq (hsz:=hz) l hT ho hc hd fun h1 k1=> ?_)
 refine aa (wpAny_newList ?_ (by rw [sizeLine_eq];simp;omega))
 have hoL:(h1.push (seqObj "list" vs.toArray 0)).get? h1.objs.size=some (seqObj "list" vs.toArray 0):=ag _ rfl
 show wpAny _ _ _ _ _ { s with heap:=h1.push (seqObj "list" vs.toArray 0) }
 refine aa (wpAny_holding (wpAny_call_entry slot_list_sort ⟨_,hoL,rfl⟩ entry_list_sort (list_sort_tree hoL hI h64 fun out ns' a1 a2 a3=>⟨_,rfl, ?_⟩) (args_list_sort _)))
 obtain⟨e,he⟩:=sortedHeap_at (out:=out) hoL
 refine ae ⟨_,rfl,h h1 _ out ns' e k1 (fun b o' q1=> ?_) he a1 a2 a3⟩
 have lt:b<h1.objs.size:=ah q1
 rw [sortedHeap_old (bf lt) (by rw [ai];exact Nat.lt_succ_of_lt lt),Heap.get?_push_ne _ _ _ (bf lt)]
 exact q1
end
section
variable {X:Cx} {ad:Ad}
theorem pB: ∀ {us:List Value} {ns:List Int},IntsAre us ns->aZ (ns.map V.int) us
 | _,_, .nil=> .nil
 | _,_, .cons n t h=> .cons ⟨t,rfl⟩ (pB h)
theorem tH: ∀ {ds:List D} {ns:List Int},cI ds=some ns->ds=ns.map D.int
 | [],ns,h=>by cases h;rfl
 | d::r,ns,h=>by
  cases d<;>try (cases h;done)
  rename_i i
  obtain⟨ms,h1,rfl⟩:=zMd (show(cI r).map (i:: ·)=some ns from h)
  rw [tH h1];rfl
theorem pC {G:Hp}: ∀ {ns:List Int} {vs:List V},aE X.K ad G (ns.map D.int) vs->vs=ns.map V.int
 | [],vs,h=>by unfold aE at h;exact h
 | n::r,vs,h=>by
  unfold aE at h
  obtain⟨v,rs,rfl,h1,h2⟩:=h
  unfold Rep at h1
  rw [h1,pC h2];rfl
theorem lF {pins:List (Addr×Obj)} {s:Shared} {σ:St} {H G:Hp} {x:D} {v:V} {u:Value} {Q:VK} {E:Nat->Hp->Prop} {ds:List D} {ns:List Int} (I:Inv X pins σ H s) (hG:Same G H) (q:Seq X ad G H x v) (ru:bF v u) (e1:items x=some ds) (e2:cI ds=some ns)
  (hr2:RK X.K ad G H (if ns.length<64 then .ow ((mP ns).map D.int) else .bad) Q E):wpAny (model X.prog X.w) X.A (call (.builtin "sorted") [u]) (EP X pins σ Q) X.xe s:=by
  by_cases h64:ns.length<64
  ·rw [if_pos h64] at hr2
   cases tH e2
   obtain⟨p,vs,rfl,hq,rq⟩:=q.items hG e1
   cases pC rq
   cases (show u=Value.ref p from ru)
   obtain⟨T,o,its,n,hT,h1,h2,h3,hv⟩: ∃ T o its n,(T="list"\/T="tuple")/\s.heap.get? p=some o/\o.cls= .type T/\o.data= .seq (List.toArray its) n/\aZ (ns.map V.int) its:=by
    rcases hq with z | z
    ·obtain⟨its,rv,⟨o,a,b,n,c⟩,_⟩:=I.tuple z.2
     exact⟨"tuple",o,its,n, .inr rfl,a,b,c,rv⟩
    ·obtain⟨its,rv,pl,_⟩:=I.list z.2
     obtain⟨o,a,b,n,c⟩:=pl.isList
     exact⟨"list",o,its,n, .inl rfl,a,b,c,rv⟩
   refine vE hT h1 h2 h3 (uT hv) (by rw [<-hv.length];simpa using h64) fun g1 g2 out ns' e k1 k2 at' hi pm sr=> ?_
   have I1:Inv X pins σ H { s with heap:=g1 }:=I.kept (t':=s.toks) k1
   cases vD pm sr
   have hz:((mP ns).map V.int).length<=sizeLine:=by rw [sizeLine_eq,am,(gF ns).length_eq];omega
   refine⟨.ref g1.objs.size,_,I1.laid (t':=s.toks) k2 (aj _) (show ObjOk X.prog X.w _ g2 _ (.lst _) from⟨hz,out.toList,e,pB hi,by simpa using at'⟩),rfl,hr2.ow_new hG aE.map_int (I1.hok.fresh (aj _))⟩
  ·rw [if_neg h64] at hr2
   exact hr2.elim
end
section
variable {prog:Program} {w:World} {A:Around} {Ex:Value->Shared->Prop} {s:Shared}
end
section
variable {prog:Program} {w:World} {A:Around} {Ex:Value->Shared->Prop} {s:Shared}
end
section
variable {X:Cx} {ad:Ad} {pos p p2 pos2:Pos} {a:Expr} {f:F}
end
theorem yB: ∀ (l:List Int) (m:Int),m<=vQ m l/\ ∀ x∈l,x<=vQ m l
 | [],m=>⟨Int.le_refl _,nofun⟩
 | i::r,m=>by
  have h:=yB r (if m<i then i else m)
  unfold vQ
  by_cases c:m<i
  ·rw [if_pos c] at h ⊢
   exact⟨by omega,fun x hx=>by rcases aq.1 hx with e | e;(subst e;exact h.1);exact h.2 x e⟩
  ·rw [if_neg c] at h ⊢
   exact⟨h.1,fun x hx=>by rcases aq.1 hx with e | e;(subst e;omega);exact h.2 x e⟩
theorem tJ: ∀ (l:List Int) (m:Int),vQ m l∈m::l
 | [],m=> .head _
 | i::r,m=>by
  unfold vQ
  have h:=tJ r (if m<i then i else m)
  by_cases c:m<i
  ·rw [if_pos c] at h ⊢;exact .tail _ h
  ·rw [if_neg c] at h ⊢
   rcases aq.1 h with e | e
   ·rw [e];exact .head _
   ·exact .tail _ (.tail _ e)
theorem aBb {l:List Int} {j:Nat} (h:j<l.length):l.getD j 0∈l:=by
 have e:l.getD j 0=l[j]:=by simp [h]
 rw [e];exact List.getElem_mem h
theorem aBc {l:List Int} {x:Int} (h:x∈l): ∃ j,j<l.length/\l.getD j 0=x:=by
 obtain⟨j,hj,e⟩:=List.getElem_of_mem h
 exact⟨j,hj,by simp [hj,e]⟩
theorem aJj {n:Int} {r:List Int} {j:Nat} (hj:j<(n::r).length) (h: ∀ i,i<(n::r).length->(n::r).getD i 0<=(n::r).getD j 0):(n::r).getD j 0=vQ n r:=by
 have a:=yB r n
 have b:=aBb hj
 obtain⟨k,hk,e⟩:=aBc (tJ r n)
 have c:=h k hk
 have d:(n::r).getD j 0<=vQ n r:=by
  rcases aq.1 b with e | e
  ·rw [e];exact a.1
  ·exact a.2 _ e
 rw [e] at c;omega
section
variable {X:Cx} {ad:Ad}
theorem aBd (hh:X.A.handled=none):BOp X ad (.builtin "max") aDx:=by
 intro pins s σ H G x v u Q E I hG q ru hr
 have hr':RK X.K ad G H (match(items x).bind cI with | some (n::ns)=> .ok (.int (vQ n ns)) | _=> .bad) Q E:=hr
 cases e:items x with
 | none=>rw [e] at hr';exact hr'.elim
 | some ds=>
  rw [e] at hr'
  have hr2:RK X.K ad G H (match cI ds with | some (n::ns)=> .ok (.int (vQ n ns)) | _=> .bad) Q E:=hr'
  cases e2:cI ds with
  | none=>rw [e2] at hr2;exact hr2.elim
  | some ns=>
   rw [e2] at hr2
   cases ns with
   | nil=>exact hr2.elim
   | cons n ns=>
   obtain⟨p,vs,rfl,hq,rq⟩:=q.items hG e
   have hq':SqL X.K H p vs\/SqT X.K H p vs:=hq.elim (fun z=> .inr z.2) fun z=> .inl z.2
   cases (show u=Value.ref p from ru)
   have ev:=j6 e2 rq
   subst ev
   refine call_max_walkS (mY (A:=X.A.in1) hh I hq' fun its s2 I' fp wr Stt rv W st hfp h1 h2 h3 h4 h5=> ?_)
   have hl:its.length=(n::ns).length:=by rw [<-rv.length,am]
   refine⟨I',fp,wr,_,its.length,_,_,_,rfl,W.toS,st,hfp,by rw [hl];simp,CmpOf.ints_gt (fun i=>(n::ns).getD i 0) fun i v e=>wT rv e,fun v s' hv m=> ?_⟩
   obtain⟨t',rfl⟩:=wT rv hv
   have hb:=argBest_gt (fun i=>(n::ns).getD i 0) (its.length - 1)
   refine⟨.int (vQ n ns),H,I.moved h5 h4 h1 h2 h3 m,⟨t', ?_⟩,hr2.ok_now hG aN⟩
   rw [aJj (by rw [<-hl];have:0<its.length:=(by rw [hl];simp);omega) fun i hi=>hb.2 i (by omega)]
end
section
variable {prog:Program} {w:World} {A:Around} {Ex:Value->Shared->Prop} {s:Shared}
theorem vF (n:Nat):Builtin.Slice.sliceAdjust none none (-1) (n:Int)=((n:Int) - 1, -1):=by
 unfold Builtin.Slice.sliceAdjust
 first | rfl | simp
theorem vG (n:Nat):Builtin.Slice.slicePlaces ((n:Int) - 1) (-1) (-1)=n:=by
 unfold Builtin.Slice.slicePlaces
 have h1: ¬ ((-1:Int) > 0):=by decide
 simp only [h1,if_false]
 by_cases h:(n:Int) - 1 > -1
 ·rw [if_pos h,show(-(-1):Int)=1 by decide,Int.ediv_one];omega
 ·rw [if_neg h];omega
theorem rG {sl:Addr} {t:Tok} {n:Nat} {Q:Int×Int×Nat->Shared->Prop} (hs:s.heap.IsSliceOf sl .none .none (.int (-1) t)) (h:Q ((n:Int) - 1, -1,n) s):wpAny (model prog w) A (Builtin.Slice.sliceApplied (.ref sl) (pure (n:Int))) Q Ex s:=by
 obtain⟨os,hos,hcs,hds⟩:=id hs
 unfold Builtin.Slice.sliceApplied Builtin.Slice.sliceFields
 refine aa (aa (wpAny_field hos hds (x:= .none) rfl (aa (wpAny_field hos hds (x:= .none) rfl (aa (wpAny_field hos hds (x:= .int (-1) t) rfl (ae ?_)))))))
 refine aa (slicePart_int ?_)
 show wpAny _ _ (if((-1:Int)==0)=true then _ else _) _ _ s
 rw [if_neg (by decide)]
 refine aa (slicePart_none (aa (slicePart_none (aa (ae ?_)))))
 show wpAny _ _ (match Builtin.Slice.sliceAdjust none none (-1) (n:Int) with | (lo,hi)=>pure (lo,(-1:Int),Builtin.Slice.slicePlaces lo hi (-1))) _ _ s
 rw [vF]
 show wpAny _ _ (pure ((n:Int) - 1,(-1:Int),Builtin.Slice.slicePlaces ((n:Int) - 1) (-1) (-1))) _ _ s
 rw [vG]
 exact ae h
theorem aBe (xs:Array Value):((List.range xs.size).filterMap fun(k:Nat)=>xs[((xs.size:Int) - 1+(k:Int) * -1).toNat]?).toArray=xs.toList.reverse.toArray:=by
 congr 1
 have e: ∀ k∈List.range xs.size,xs[((xs.size:Int) - 1+(k:Int) * -1).toNat]? =some (xs.toList.reverse.getD k .none):=fun k hk=>by
  have hk:=zRd hk
  have h1:((xs.size:Int) - 1+(k:Int) * -1).toNat=xs.size - 1 - k:=by omega
  have h2:xs.size - 1 - k<xs.size:=by omega
  rw [h1,Array.getElem?_eq_getElem h2]
  have h3:k<xs.toList.reverse.length:=by simpa using hk
  rw [bt,az h3,List.getElem_reverse]
  simp
 have: ∀ l:List Nat,(∀ k∈l,k∈List.range xs.size)->l.filterMap (fun(k:Nat)=>xs[((xs.size:Int) - 1+(k:Int) * -1).toNat]?)=l.map fun k=>xs.toList.reverse.getD k .none:=by
  intro l
  induction l with
  | nil=>intro _;rfl
  | cons a l ih=>intro h;rw [List.filterMap_cons,e a (h a (.head _)),List.map_cons,ih fun k hk=>h k (.tail _ hk)]
 rw [this _ fun _ h=>h]
 apply List.ext_getElem
 ·simp
 ·intro i h1 h2;simp at h1;simp [h1]
theorem iS {t sl:Addr} {items:Array Value} {tk:Tok} {Q:Value->Shared->Prop} (ht:IsTup s.heap t items) (hs:s.heap.IsSliceOf sl .none .none (.int (-1) tk))
  (h:Q (.ref s.heap.objs.size) { s with heap:=s.heap.push { cls:= .type "tuple",data:= .seq items.toList.reverse.toArray } }) (hsz:items.size<=sizeLine):wpAny (model prog w) A (getItem (.ref t) (.ref sl)) Q Ex s:=by
 have htake:sizeOk (.seq items.toList.reverse.toArray):=by
  show items.toList.reverse.toArray.size<=sizeLine
  rw [au,List.length_reverse,Array.length_toList]
  exact hsz
 obtain⟨os,hos,hcs,hds⟩:=id hs
 have hTs:s.TypeIs (.ref sl) "slice":=⟨os,hos,hcs⟩
 unfold getItem
 try with_reducible refine wpAny_holding ?_
 first | refine aa (ae ?_) | skip
 refine aa (wpAny_sequenceKey ht.typeIs (by decide) ?_)
 refine aa (wpAny_callSpecial?_slot (name:=Str.ofString "__getitem__") ht.typeIs PyProof.Rows.slot_tuple_getitem
  (wpAny_call_entry PyProof.Rows.slot_tuple_getitem ht.typeIs entry_tuple_getitem ?_ (args_tuple_getitem _ _)))
 show wpAny _ _ (Builtin.Tuple.tupleItemsOf (.ref t) >>= _) _ _ s
 refine aa (tupleItemsOf_ ht ?_)
 refine aa (wpAny_typeOf hTs ?_)
 rw [if_pos (by decide)]
 refine aa (rG hs ?_)
 have hno: ¬ (((items.size:Int) - 1==0&&(-1:Int)==1&&items.size==items.size)=true):=by
  rw [show((-1:Int)==1)=false by decide,Bool.and_false,Bool.false_and];exact ba
 show wpAny _ _ (if((items.size:Int) - 1==0&&(-1:Int)==1&&items.size==items.size)=true then _ else _) _ _ s
 rw [if_neg hno,aBe]
 first
  | exact aa (m:=Builtin.Tuple.tupleExact _) (wpAny_newObj_type (ae ⟨_,rfl,ae h⟩) htake)
  | exact aa (m:=Builtin.Tuple.tupleExact _) (wpAny_newObj_type (aa (ae (ae ⟨_,rfl,ae h⟩))) htake)
  | exact aa (aa (m:=Builtin.Tuple.tupleExact _) (wpAny_newObj_type (ae (ae ⟨_,rfl,ae h⟩)) htake))
  | exact aa (aa (m:=Builtin.Tuple.tupleExact _) (wpAny_newObj_type (ae ⟨_,rfl,ae h⟩) htake))
end
section
variable {prog:Program} {w:World} {A:Around} {Ex:Value->Shared->Prop} {s:Shared}
theorem rH (lo n:Nat):Builtin.Slice.sliceAdjust (some (lo:Int)) none 2 (n:Int)=(min (lo:Int) (n:Int),(n:Int)):=by
 unfold Builtin.Slice.sliceAdjust
 have h1: ¬ ((2:Int)<0):=by decide
 have h2: ¬ ((lo:Int)<0):=by omega
 simp only [h1,h2,if_false]
theorem rJ (lo n:Nat):Builtin.Slice.slicePlaces (min (lo:Int) (n:Int)) (n:Int) 2=(n - lo+1) / 2:=by
 unfold Builtin.Slice.slicePlaces
 have h1:(2:Int) > 0:=by decide
 simp only [h1,if_true]
 split<;>omega
theorem pD {sl:Addr} {t t2:Tok} {lo n:Nat} {Q:Int×Int×Nat->Shared->Prop} (hs:s.heap.IsSliceOf sl (.int (lo:Int) t) .none (.int 2 t2)) (h:Q (min (lo:Int) (n:Int),2,(n - lo+1) / 2) s):wpAny (model prog w) A (Builtin.Slice.sliceApplied (.ref sl) (pure (n:Int))) Q Ex s:=by
 obtain⟨os,hos,hcs,hds⟩:=id hs
 unfold Builtin.Slice.sliceApplied Builtin.Slice.sliceFields
 refine aa (aa (wpAny_field hos hds (x:= .int (lo:Int) t) rfl (aa (wpAny_field hos hds (x:= .none) rfl (aa (wpAny_field hos hds (x:= .int 2 t2) rfl (ae ?_)))))))
 refine aa (slicePart_int ?_)
 show wpAny _ _ (if((2:Int)==0)=true then _ else _) _ _ s
 rw [if_neg (by decide)]
 refine aa (slicePart_int (aa (slicePart_none (aa (ae ?_)))))
 show wpAny _ _ (match Builtin.Slice.sliceAdjust (some (lo:Int)) none 2 (n:Int) with | (lo,hi)=>pure (lo,(2:Int),Builtin.Slice.slicePlaces lo hi 2)) _ _ s
 rw [rH]
 show wpAny _ _ (pure (min (lo:Int) (n:Int),(2:Int),Builtin.Slice.slicePlaces (min (lo:Int) (n:Int)) (n:Int) 2)) _ _ s
 rw [rJ]
 exact ae h
theorem yC (xs:Array Value) (lo:Nat):((List.range ((xs.size - lo+1) / 2)).filterMap fun(k:Nat)=>xs[(min (lo:Int) (xs.size:Int)+(k:Int) * 2).toNat]?).toArray=(d8 xs.toList lo).toArray:=by
 congr 1
 unfold d8
 rw [Array.length_toList]
 have e: ∀ k∈List.range ((xs.size - lo+1) / 2),xs[(min (lo:Int) (xs.size:Int)+(k:Int) * 2).toNat]? =xs.toList[lo+2 * k]? :=fun k hk=>by
  have hk:=zRd hk
  have h1:(min (lo:Int) (xs.size:Int)+(k:Int) * 2).toNat=lo+2 * k:=by omega
  rw [h1];simp
 have: ∀ l:List Nat,(∀ k∈l,k∈List.range ((xs.size - lo+1) / 2))->l.filterMap (fun(k:Nat)=>xs[(min (lo:Int) (xs.size:Int)+(k:Int) * 2).toNat]?)=l.filterMap fun k=>xs.toList[lo+2 * k]? :=by
  intro l
  induction l with
  | nil=>intro _;rfl
  | cons a l ih=>intro h;rw [List.filterMap_cons,List.filterMap_cons,e a (h a (.head _)),ih fun k hk=>h k (.tail _ hk)]
 exact this _ fun _ h=>h
theorem pE {α:Type} (xs:List α) (lo:Nat):(d8 xs lo).length<=xs.length:=by
 unfold d8
 have h:=List.length_filterMap_le (fun k=>xs[lo+2 * k]?) (List.range ((xs.length - lo+1) / 2))
 rw [List.length_range] at h
 by_cases hl:xs.length=0
 ·have:(List.filterMap (fun k=>xs[lo+2 * k]?) (List.range ((xs.length - lo+1) / 2)))=[]:=by
   rw [List.filterMap_eq_nil_iff]
   intro k _
   rw [List.getElem?_eq_none_iff];omega
  rw [this];exact bp _
 ·omega
theorem gX {t sl:Addr} {items:Array Value} {lo:Nat} {tk t2:Tok} {Q:Value->Shared->Prop} (ht:IsTup s.heap t items) (hs:s.heap.IsSliceOf sl (.int (lo:Int) tk) .none (.int 2 t2))
  (h:Q (.ref s.heap.objs.size) { s with heap:=s.heap.push { cls:= .type "tuple",data:= .seq (d8 items.toList lo).toArray } }) (hsz:items.size<=sizeLine):wpAny (model prog w) A (getItem (.ref t) (.ref sl)) Q Ex s:=by
 have htake:sizeOk (.seq (d8 items.toList lo).toArray):=by
  show(d8 items.toList lo).toArray.size<=sizeLine
  have:=pE items.toList lo
  rw [Array.length_toList] at this
  rw [au]
  exact Nat.le_trans this hsz
 obtain⟨os,hos,hcs,hds⟩:=id hs
 have hTs:s.TypeIs (.ref sl) "slice":=⟨os,hos,hcs⟩
 unfold getItem
 try with_reducible refine wpAny_holding ?_
 first | refine aa (ae ?_) | skip
 refine aa (wpAny_sequenceKey ht.typeIs (by decide) ?_)
 refine aa (wpAny_callSpecial?_slot (name:=Str.ofString "__getitem__") ht.typeIs PyProof.Rows.slot_tuple_getitem
  (wpAny_call_entry PyProof.Rows.slot_tuple_getitem ht.typeIs entry_tuple_getitem ?_ (args_tuple_getitem _ _)))
 show wpAny _ _ (Builtin.Tuple.tupleItemsOf (.ref t) >>= _) _ _ s
 refine aa (tupleItemsOf_ ht ?_)
 refine aa (wpAny_typeOf hTs ?_)
 rw [if_pos (by decide)]
 refine aa (pD hs ?_)
 have hno: ¬ ((min (lo:Int) (items.size:Int)==0&&(2:Int)==1&&(items.size - lo+1) / 2==items.size)=true):=by
  rw [show((2:Int)==1)=false by decide,Bool.and_false,Bool.false_and];exact ba
 show wpAny _ _ (if(min (lo:Int) (items.size:Int)==0&&(2:Int)==1&&(items.size - lo+1) / 2==items.size)=true then _ else _) _ _ s
 rw [if_neg hno,yC]
 first
  | exact aa (m:=Builtin.Tuple.tupleExact _) (wpAny_newObj_type (ae ⟨_,rfl,ae h⟩) htake)
  | exact aa (m:=Builtin.Tuple.tupleExact _) (wpAny_newObj_type (aa (ae (ae ⟨_,rfl,ae h⟩))) htake)
  | exact aa (aa (m:=Builtin.Tuple.tupleExact _) (wpAny_newObj_type (ae (ae ⟨_,rfl,ae h⟩)) htake))
  | exact aa (aa (m:=Builtin.Tuple.tupleExact _) (wpAny_newObj_type (ae ⟨_,rfl,ae h⟩) htake))
end
theorem yD {xs:List V} {us:List Value} (h:aZ xs us) (f:Nat->Nat): ∀ L:List Nat,aZ (L.filterMap fun k=>xs[f k]?) (L.filterMap fun k=>us[f k]?)
 | []=> .nil
 | k::L=>by
  have ih:=yD h f L
  rw [List.filterMap_cons,List.filterMap_cons]
  cases e:xs[f k]? with
  | some x=>
   obtain⟨u,e2,r⟩:=aZ.get h e
   rw [e2]
   exact .cons r ih
  | none=>
   have hl:=h.length
   have:us[f k]? =none:=by
    rw [List.getElem?_eq_none_iff] at e ⊢;omega
   rw [this];exact ih
theorem yE {xs:List V} {us:List Value} (h:aZ xs us) (lo:Nat):aZ (d8 xs lo) (d8 us lo):=by
 unfold d8
 rw [h.length]
 exact yD h (fun k=>lo+2 * k) _
theorem yF {K:Frag} {ad:Ad} {G:Hp} {ds:List D} {xs:List V} (h:aE K ad G ds xs) (f:Nat->Nat): ∀ L:List Nat,aE K ad G (L.filterMap fun k=>ds[f k]?) (L.filterMap fun k=>xs[f k]?)
 | []=>aE.nil
 | k::L=>by
  have ih:=yF h f L
  rw [List.filterMap_cons,List.filterMap_cons]
  cases e:ds[f k]? with
  | some x=>
   obtain⟨u,e2,r⟩:=h.get e
   rw [e2]
   exact aE.cons r ih
  | none=>
   have hl:=h.length
   have:xs[f k]? =none:=by
    rw [List.getElem?_eq_none_iff] at e ⊢;omega
   rw [this];exact ih
theorem yG {K:Frag} {ad:Ad} {G:Hp} {ds:List D} {xs:List V} (h:aE K ad G ds xs) (lo:Nat):aE K ad G (d8 ds lo) (d8 xs lo):=by
 have e:xs.length=ds.length:=h.length
 unfold d8
 rw [e]
 exact yF h (fun k=>lo+2 * k) _
section
open AutoSeq1 (wpAny_loadPart')
open MeetsSeq MeetsSeq2 MeetsSeq3 SeqRoads2 SeqAt
end
section
variable {X:Cx} {ad:Ad} {pins:List (Addr×Obj)} {s:Shared} {σ:St} {H G:Hp} {ρ:Rho} {Q:VK} {E:Nat->Hp->Prop} {pos p ap cp tp:Pos} {o a b c tg:Expr} {f g h:F}
theorem aE.rev {ds:List D} {vs:List V} (r:aE X.K ad G ds vs):aE X.K ad G ds.reverse vs.reverse:=by
 induction ds generalizing vs with
 | nil=>cases vs with
  | nil=>exact r
  | cons v vs=>exact absurd r.length (by simp)
 | cons d ds ih=>
  cases vs with
  | nil=>exact absurd r.length (by simp)
  | cons v vs=>
   obtain⟨w,r',e,r1,r2⟩:=r
   cases e
   rw [List.reverse_cons,List.reverse_cons]
   exact(ih r2).append (aE.cons r1 aE.nil)
theorem aJk {j:Nat} {p2 p3 p4:Pos} (ha:MLk X ad a f):ME X ad (.Subscript a (.Slice none none (some (.UnaryOp .USub (.Constant (.int 1) j p4) p3)) p2) pos) (aLf f):=by
 intro pins s σ H Q I ⟨G,ρ,E,hG,hS,hx,hr⟩
 refine Subscript_ (L2.thn (ha pins s σ H G ρ aIe Q E I hG hS hx hr) fun v s1 hz_=> ?_)
 obtain⟨x,d1,G1,H1,I1,r1,st1,q1,k1⟩:=hz_
 refine wpAny_Slice ?_
 rw [evalPart_none]
 refine ae (ae ?_)
 rw [evalPart_some]
 have k1':RK X.K ad G1 H1 ((aKd (rK (.int 1)) ρ).bind fun y=>match y with | .int i=>if i= -1 then aIe d1 else .bad | _=> .bad) Q E:=k1
 refine L2.thn (ME.thn (aCk (mU (d:= .int 1) rfl)) I1 st1.gh (hS.step st1) hx k1') fun vk s2 hz_=> ?_
 obtain⟨y,d2,G2,H2,I2,r2,st2,q2,k2⟩:=hz_
 cases d2<;>try exact ax k2
 rename_i i
 by_cases hi:i= -1
 ·subst hi
  have k3:RK X.K ad G2 H2 (aIe d1) Q E:=k2
  unfold Rep at q2;subst q2
  obtain⟨t,rfl⟩:=r2
  have I4:Inv X pins σ H2 { s2 with heap:=s2.heap.push { cls:= .type "slice",data:= .fields #[.none, .none, .int (-1) t] } }:=I2.kept (t':=s2.toks) fun b ob q=>af _ q
  obtain⟨ds,hd⟩: ∃ ds,d1= .lst ds\/d1= .tup ds:=by cases d1<;>first | exact⟨_, .inl rfl⟩ | exact⟨_, .inr rfl⟩ | exact ax k3
  rcases hd with rfl | rfl
  rotate_left
  ·obtain⟨l,xs,rfl,hq,rq⟩:=(Seq.step q1 st2).items st2.gh rfl
   rcases hq with hq | hq
   rotate_left
   ·exact absurd hq.1 (fun z=>nomatch z)
   cases (show v=Value.ref l from r1)
   obtain⟨its,r,ht,hz⟩:=I4.tuple hq.2
   have hlen:=r.length
   refine tail_any (T:="tuple") ht.typeIs PyProof.Rows.slot_tuple_getitem.lookup ?_ (by with_unfolding_all rfl)
   refine iS ht (Heap.IsSliceOf.new ..) ?_ (by rw [au]<;>omega)
   refine⟨.ref _,_,I4.laid (t':=s2.toks) (o:= .tup xs.reverse) (fun b ob q=>af _ q) (aj _) ?_,rfl,RK.tup_new (xs:=ds.reverse) k3 st2.gh rq.rev (I4.hok.fresh (aj _))⟩
   exact⟨by simpa using hz,_,r.reverse,IsTup.new _ _,⟨_,ag _ rfl,rfl⟩⟩
  obtain⟨l,xs,rfl,hq,rq⟩:=x8 st2.gh (Seq.step q1 st2)
  cases (show v=Value.ref l from r1)
  obtain⟨its,r,ht,hz⟩:=I4.list hq
  have hlen:=r.length
  refine tail_any (T:="list") ht.isList.typeIs list_getitem_lookup ?_ (by with_unfolding_all rfl)
  refine wpAny_getItem_list_slice ht.isList (Heap.IsSliceOf.new ..) .none .none (.int (-1) t) (by decide) ?_ (by rw [au]<;>omega)
  rw [krv_pick]
  refine⟨.ref _,_,I4.laid (t':=s2.toks) (o:= .lst xs.reverse) (fun b ob q=>af _ q) (aj _) ?_,rfl,RK.ow_new (xs:=ds.reverse) k3 st2.gh rq.rev (I4.hok.fresh (aj _))⟩
  exact⟨by simpa using hz,_,0,r.reverse,ag _ rfl⟩
 ·have:RK X.K ad G2 H2 (if i= -1 then aIe d1 else .bad) Q E:=k2
  rw [if_neg hi] at this
  exact this.elim
theorem aFh {l:Expr} {j:Nat} {p2 p4:Pos} (ha:MLk X ad a f) (hl:ME X ad l g):ME X ad (.Subscript a (.Slice (some l) none (some (.Constant (.int 2) j p4)) p2) pos) (aDy f g):=by
 intro pins s σ H Q I ⟨G,ρ,E,hG,hS,hx,hr⟩
 refine Subscript_ (L2.thn (ha pins s σ H G ρ (fun x=>(g ρ).bind fun y=>uX x y) Q E I hG hS hx hr) fun v s1 hz_=> ?_)
 obtain⟨x,d1,G1,H1,I1,r1,st1,q1,k1⟩:=hz_
 refine wpAny_Slice ?_
 rw [evalPart_some]
 refine L2.thn (ME.thn hl I1 st1.gh (hS.step st1) hx k1) fun vk s2 hz_=> ?_
 obtain⟨y,d2,G2,H2,I2,r2,st2,q2,k2⟩:=hz_
 rw [evalPart_none]
 refine ae ?_
 rw [evalPart_some]
 have k2':RK X.K ad G2 H2 ((rK (.int 2) ρ).bind fun z=>match z with | .int i=>if i=2 then uX d1 d2 else .bad | _=> .bad) Q E:=k2
 refine L2.thn (ME.thn (mU (d:= .int 2) rfl) I2 st2.gh ((hS.step st1).step st2) hx k2') fun vk2 s3 hz_=> ?_
 obtain⟨y3,d3,G3,H3,I3,r3,st3,q3,k3⟩:=hz_
 cases d3<;>try exact ax k3
 rename_i i
 by_cases hi:i=2
 ·subst hi
  have k4:RK X.K ad G3 H3 (uX d1 d2) Q E:=k3
  unfold Rep at q3;subst q3
  obtain⟨t3,rfl⟩:=r3
  cases d1<;>try exact ax k4
  rename_i ds
  cases d2<;>try exact ax k4
  rename_i i
  by_cases hi:0<=i
  ·obtain⟨lo,rfl⟩: ∃ lo:Nat,i=(lo:Int):=⟨i.toNat,by omega⟩
   have k5:RK X.K ad G3 H3 (.ok (.tup (d8 ds lo))) Q E:=by
    have:uX (.tup ds) (.int (lo:Int))= .ok (.tup (d8 ds lo)):=by
     show(if(0:Int)<=(lo:Int) then R.ok (.tup (d8 ds (lo:Int).toNat)) else .bad)=_
     rw [if_pos (by omega),Int.toNat_natCast]
    rw [this] at k4;exact k4
   unfold Rep at q2;subst q2
   obtain⟨t2,rfl⟩:=r2
   have I4:Inv X pins σ H3 { s3 with heap:=s3.heap.push { cls:= .type "slice",data:= .fields #[.int (lo:Int) t2, .none, .int 2 t3] } }:=I3.kept (t':=s3.toks) fun b ob q=>af _ q
   obtain⟨l',xs,rfl,hq,rq⟩:=(Seq.step (Seq.step q1 st2) st3).items st3.gh rfl
   rcases hq with hq | hq
   rotate_left
   ·exact absurd hq.1 (fun z=>nomatch z)
   cases (show v=Value.ref l' from r1)
   obtain⟨its,r,ht,hz⟩:=I4.tuple hq.2
   have hlen:=r.length
   refine tail_any (T:="tuple") ht.typeIs PyProof.Rows.slot_tuple_getitem.lookup ?_ (by with_unfolding_all rfl)
   refine gX ht (Heap.IsSliceOf.new ..) ?_ (by rw [au]<;>omega)
   have hsz:=pE xs lo
   refine⟨.ref _,_,I4.laid (t':=s3.toks) (o:= .tup (d8 xs lo)) (fun b ob q=>af _ q) (aj _) ?_,rfl,RK.tup_new (xs:=d8 ds lo) k5 st3.gh (yG rq lo) (I4.hok.fresh (aj _))⟩
   exact⟨by omega,_,yE r lo,IsTup.new _ _,⟨_,ag _ rfl,rfl⟩⟩
  ·have:RK X.K ad G3 H3 (if 0<=i then .ok (.tup (d8 ds i.toNat)) else .bad) Q E:=k4
   rw [if_neg hi] at this
   exact this.elim
 ·have:RK X.K ad G3 H3 (if i=2 then uX d1 d2 else .bad) Q E:=k3
  rw [if_neg hi] at this
  exact this.elim
theorem aFi (ho:ME X ad o f) (hbase:attributeBase o "bit_length" X.env (eval o X.env)=eval o X.env) (hline:(ap.endLine==cp.line)=true):ME X ad (.Call (.Attribute o "bit_length" ap) [] [] cp) (aA aIf [f]):=by
 intro pins s σ H Q I ⟨G,ρ,E,hG,hS,hx,hr⟩
 unfold aA at hr
 rw [gU] at hr
 refine wpAny_Call_method_late hbase (by rfl) hline rfl (L2.thn (ho.thn I hG hS hx hr) fun v s1 hz_=> ?_)
 obtain⟨x,d,G1,H1,I1,r1,st1,q1,k1⟩:=hz_
 cases d<;>try exact ax k1
 rename_i i
 unfold Rep at q1;subst q1
 obtain⟨t,rfl⟩:=r1
 have k2:RK X.K ad G1 H1 (.ok (.int (Builtin.Int.intBits i))) Q E:=k1
 refine⟨"int","int.bit_length",PySem.F.plainAttrs_int,PySem.F.slot_int_bit_length,PySem.F.type_int_bit_length,typeIs_int s1 i t,(fun a' ea=>by cases ea), ?_⟩
 refine PyProof.Rows.callWith_method0 ?_
 exact call_int_bit_length ⟨.int _,H1,I1.tok _,⟨_,rfl⟩,k2.ok_now st1.gh aN⟩
theorem aJl (ha:ME X ad a f) (he: ∀ whole,isTrue a X.env whole=(do let v<-whole;standAt a.pos;holding [v] (truthy v))):MT X ad a (aKf f):=by
 intro pins s σ H Q I ⟨G,ρ,E,hG,hS,hx,ht,hr⟩
 refine isTrue_plain (L2.thn (ha.thn I hG hS hx hr) fun v s1 ⟨x,d,G1,H1,I1,r1,st1,q1,k1⟩=> ?_) (he _)
 cases d<;>try exact ax k1
 ·rename_i b
  have k2:RK X.K ad G1 H1 (.ok (.bl b)) (fun v H'=> ∃ b,v= .bl b/\Q b H') E:=k1
  unfold Rep at q1;subst q1
  cases r1
  obtain⟨b',e,q⟩:=k2.ok_now st1.gh (by unfold Rep;rfl)
  cases e
  exact wpAny_truthy_bool ⟨H1,I1,q⟩
 ·rename_i ds
  have k2:RK X.K ad G1 H1 (.ok (.bl (!ds.isEmpty))) (fun v H'=> ∃ b,v= .bl b/\Q b H') E:=k1
  unfold Rep at q1
  obtain⟨l,xs,rfl,hq,rq⟩:=q1
  cases (show v=Value.ref l from r1)
  obtain⟨its,rv,ht2,hz⟩:=I1.list (st1.gh.seq hq)
  have hl:=rv.length
  have hlen:=rq.length
  have:(sizeLine:Nat)<2 ^ 63 - 1:=by decide
  refine wpAny_truthy_list ht2.isList (by simp only [au];omega) ?_
  obtain⟨b',e,q⟩:=k2.ok_now st1.gh (v:= .bl (!ds.isEmpty)) (by unfold Rep;rfl)
  cases e
  have e2:(!its.toArray.isEmpty)= !ds.isEmpty:=by
   have e3:ds.length=its.length:=by omega
   cases ds with
   | nil=>cases its with
    | nil=>rfl
    | cons _ _=>simp at e3
   | cons _ _=>cases its with
    | nil=>simp at e3
    | cons _ _=>rfl
  rw [e2]
  exact⟨H1,I1.kept (t':=s1.toks+1+1) (fun _ _ q=>q),q⟩
theorem aLv (c1:ME X ad c f) (c2:MT X ad c f):MT X ad c (if aAn c then aKf f else f):=by
 cases c<;>first | exact c2 | exact aJl c1 (fun _=>rfl)
end
section
variable {X:Cx} {ad:Ad} {Z:(St->Nat->Hp->Prop)->Prop} {pins:List (Addr×Obj)} {s:Shared} {σ:St} {H G G₀:Hp} {ρ:Rho} {D':Ends} {E:St->Nat->Hp->Prop} {pos pos':Pos} {e:Expr} {f:F} {g h:FS} {st:Stmt} {sts:List Stmt}
mutual
theorem Rep.less {K:PySem.W.Frag} {G G2:Hp} (le: ∀ b xs,Rd G b (.tup xs)->G2 b=G b): ∀ {d:D} {v:V},noL d=true->Rep K ad G d v->Rep K ad G2 d v
 | .non,_,_,h=>h
 | .bl _,_,_,h=>h
 | .int _,_,_,h=>h
 | .str _,_,_,h=>h
 | .tup ds,v,n,h=>by
  unfold Rep at h ⊢
  obtain⟨a,vs,h1,h2,h3⟩:=h
  refine⟨a,vs,h1, ?_,aE.less le n h3⟩
  rcases h2 with h2 | h2
  ·refine .inl ?_
   have:=le a vs h2
   unfold Rd at h2 ⊢
   rw [this]
   exact h2
  ·exact .inr h2
 | .lst _,_,n,_=>by cases n
 | .exc _,_,n,_=>by cases n
 | .fn _,_,n,_=>by cases n
theorem aE.less {K:PySem.W.Frag} {G G2:Hp} (le: ∀ b xs,Rd G b (.tup xs)->G2 b=G b): ∀ {ds:List D} {vs:List V},aDz ds=true->aE K ad G ds vs->aE K ad G2 ds vs
 | [],_,_,h=>h
 | d::ds,vs,n,h=>by
  unfold aE at h ⊢
  obtain⟨v,r,h1,h2,h3⟩:=h
  have n':(noL d&&aDz ds)=true:=n
  rw [ar] at n'
  exact⟨v,r,h1,Rep.less le n'.1 h2,aE.less le n'.2 h3⟩
end
def zU (G G':Hp):Prop:= ∀ b,G b=none-> ∀ o,G' b=some o->(∃ vs,o= .lst vs)
theorem zU.trans {G G1 G2:Hp} (a:zU G G1) (s:Same G1 G2) (c:zU G1 G2):zU G G2:=fun b n o e=>by
 cases q:G1 b with
 | none=>exact c b q o e
 | some o'=>
  have:=s b o' q
  rw [e] at this
  cases this
  exact a b n o q
theorem zU.one {G:Hp} {a:Addr} {o:HO} (h: ∃ vs,o= .lst vs):zU G (upd G a o):=fun b n o' e=>by
 by_cases z:b=a
 ·subst z
  rw [aM] at e
  cases e
  exact h
 ·rw [aO z,n] at e
  cases e
theorem SS.frz1' {i:Nat} (S:SS X ad G₀ G H ρ σ): ∃ G',SS X ad G₀ G' H (SK.frz1 i ρ) σ/\Same G G'/\zU G G':=by
 have no:zU G G:=fun b n o e=>by rw [n] at e;cases e
 unfold SK.frz1
 cases e:ρ[i]? with
 | none=>exact⟨G,S,Same.refl _,no⟩
 | some sl=>
  cases sl with
  | no=>exact⟨G,S,Same.refl _,no⟩
  | sh d=>exact⟨G,S,Same.refl _,no⟩
  | ow xs=>
   obtain⟨a,vs,h1,h2,h3,h4⟩:=S.sl.ow e
   have le:Same G (L2.upd G a (.lst vs)):=Same.upd_new h2
   exact⟨_,S.shareG e rfl h1 h3 (S.st.share (S.ow i _ a e rfl h1) h2 h3) rfl ⟨.ref a,rfl,by unfold Rep;exact⟨a,vs,rfl,SqL.of aM,h4.mono le⟩⟩,le,zU.one ⟨vs,rfl⟩⟩
theorem SS.frz' {is:List Nat}: ∀ {ρ:Rho} {G:Hp},SS X ad G₀ G H ρ σ-> ∃ G',SS X ad G₀ G' H (SK.frz is ρ) σ/\Same G G'/\zU G G':=by
 induction is with
 | nil=>intro ρ G S;exact⟨G,S,Same.refl _,fun b n o e=>by rw [n] at e;cases e⟩
 | cons i is ih=>
  intro ρ G S
  obtain⟨G1,S1,l1,a1⟩:=S.frz1' (i:=i)
  obtain⟨G2,S2,l2,a2⟩:=ih S1
  exact⟨G2,S2,l1.trans l2,a1.trans l2 a2⟩
open Classical in
theorem aFj {i:Nat} {is:List Nat} (P:PS X st (zZ (tE X ad f) (gO i))):MS X ad Z st (wE is i f):=by
 refine PS.imp P ?_
 rintro D' σ H ⟨G₀,G,ρ,E,S,hx,hr⟩
 obtain⟨G',S',le,ad'⟩:=S.frz' (is:=is)
 refine⟨G',SK.frz is ρ,E σ,S'.st.gh,S'.sl,hx.1 σ, ?_⟩
 unfold wE at hr
 cases e:f (SK.frz is ρ) with
 | ok d=>rw [e] at hr;exact hr.elim
 | ex c=>rw [e] at hr;exact fun G1 H1 st=>hr σ G1 H1 (S'.step st)
 | bad=>rw [e] at hr;exact hr.elim
 | ow xs=>
  rw [e] at hr
  have hr':OKo X ad G₀ (if aDz xs then .nx (ρ.set i (.ow xs)) else .rt .bad) D' E:=hr
  by_cases hn:aDz xs=true
  ·rw [if_pos hn] at hr'
   intro p vs G1 H1 st n m e' r
   let G2:Hp:=fun b=>if G b=none/\G' b≠none then none else G1 b
   have k1: ∀ b,G b≠none->G2 b=G1 b:=fun b hb=>if_neg fun z=>hb z.1
   have st2:Step G H G2 H1:=by
    refine⟨fun b o q=> ?_,fun b o q=> ?_,st.sh,fun b h1 h2=> ?_⟩
    ·rw [k1 b (by rw [q];exact fun z=>nomatch z)]
     exact st.sg b o (le b o q)
    ·have q':(if G b=none/\G' b≠none then none else G1 b)=some o:=q
     by_cases c:G b=none/\G' b≠none
     ·rw [if_pos c] at q';cases q'
     ·rw [if_neg c] at q';exact st.gh b o q'
    ·have q':(if G b=none/\G' b≠none then none else G1 b)≠none:=h2
     by_cases c:G b=none/\G' b≠none
     ·rw [if_pos c] at q';exact absurd rfl q'
     ·rw [if_neg c] at q'
      refine st.nw b ?_ q'
      cases z:G' b with
      | none=>rfl
      | some o=>exact absurd ⟨h1,by rw [z];exact fun z=>nomatch z⟩ c
   have m2:G2 p=none:=by
    show(if G p=none/\G' p≠none then none else G1 p)=none
    split
    ·rfl
    ·exact m
   refine hr' _ G2 H1 (S.setOw st2 n m2 e' (aE.less (fun b ys q=> ?_) hn r))
   show(if G b=none/\G' b≠none then none else G1 b)=G1 b
   by_cases c:G b=none/\G' b≠none
   ·exfalso
    obtain⟨c1,c2⟩:=c
    cases z:G' b with
    | none=>exact c2 z
    | some o=>
     have h1:=st.sg b o z
     obtain⟨us,rfl⟩:=ad' b c1 o z
     rcases q with q | ⟨o',q⟩<;>(rw [h1] at q;cases q)
   ·rw [if_neg c]
  ·rw [if_neg hn] at hr'
   exact hr'.elim
theorem SS.forget {j:Nat} (S:SS X ad G₀ G H ρ σ):SS X ad G₀ G H (ρ.set j .no) σ:=by
 have key: ∀ (k:Nat) (sl:Slot),(ρ.set j .no)[k]? =some sl->sl= .no\/ρ[k]? =some sl:=fun k sl e=>by
  by_cases z:k=j
  ·subst z
   have hl:k<ρ.length:=by have:=(av.mp e).1;rwa [List.length_set] at this
   rw [bg hl] at e
   cases e
   exact .inl rfl
  ·rw [ay (Ne.symm z)] at e
   exact .inr e
 refine⟨S.st,⟨by rw [List.length_set];exact S.sl.len,fun k sl e=> ?_⟩,fun k sl a e w h=> ?_,fun k k' sl sl' a e e' w w' h h'=> ?_⟩
 ·rcases key k sl e with rfl | e1
  ·have hl:k<σ.length:=by have:=(av.mp e).1;rw [List.length_set] at this;rw [<-S.sl.len];exact this
   exact⟨σ[k],by simp [hl],trivial⟩
  ·exact S.sl.at_ k sl e1
 ·rcases key k sl e with rfl | e1
  ·cases w
  ·exact S.ow k sl a e1 w h
 ·rcases key k sl e with rfl | e1
  ·cases w
  ·rcases key k' sl' e' with rfl | e2
   ·cases w'
   ·exact S.dj k k' sl sl' a e1 e2 w w' h h'
theorem SS.putOw {i:Nat} {xs:List D} {a:Addr} {vs:List V} (S:SS X ad G₀ G H ρ σ) (h0:X.H₀ a=none) (g0:G a=none) (h1:H a=some (.lst vs)) (r:aE X.K ad G xs vs) (alone: ∀ (j:Nat) (sl:Slot),ρ[j]? =some sl->sl.owns=true->σ[j]? ≠some (some (.ref a))):SS X ad G₀ G H (ρ.set i (.ow xs)) (σ.set i (some (.ref a))):=by
 have key: ∀ (j:Nat) (sl:Slot),(ρ.set i (.ow xs))[j]? =some sl->(j=i/\sl= .ow xs/\i<ρ.length)\/(j≠i/\ρ[j]? =some sl):=fun j sl e=>by
  by_cases z:j=i
  ·subst z
   have hl:j<ρ.length:=by have:=(av.mp e).1;rwa [List.length_set] at this
   rw [bg hl] at e
   cases e
   exact .inl ⟨rfl,rfl,hl⟩
  ·rw [ay (Ne.symm z)] at e
   exact .inr ⟨z,e⟩
 refine⟨S.st,⟨by rw [List.length_set,List.length_set];exact S.sl.len,fun j sl e'=> ?_⟩,fun j ys b e' w h=> ?_,fun j j' ys zs b e1 e2 w1 w2 k1 k2=> ?_⟩
 ·rcases key j sl e' with ⟨q1,q2,hl⟩ | ⟨z,e'⟩
  ·rw [q1,q2]
   exact⟨some (.ref a),bg (by rw [<-S.sl.len];exact hl),a,vs,rfl,g0,h1,r⟩
  ·obtain⟨ov,k1,k2⟩:=S.sl.at_ j sl e'
   exact⟨ov,by rw [ay (Ne.symm z)];exact k1,k2⟩
 ·rcases key j _ e' with ⟨q1,_,hl⟩ | ⟨z,e'⟩
  ·rw [q1,bg (by rw [<-S.sl.len];exact hl)] at h
   cases h
   exact h0
  ·rw [ay (Ne.symm z)] at h
   exact S.ow j ys b e' w h
 ·rcases key j _ e1 with ⟨q1,_,hl⟩ | ⟨z,f1⟩
  ·rcases key j' _ e2 with ⟨q2,_,_⟩ | ⟨z',f2⟩
   ·rw [q1,q2]
   ·rw [q1,bg (by rw [<-S.sl.len];exact hl)] at k1
    cases k1
    rw [ay (Ne.symm z')] at k2
    exact absurd k2 (alone j' zs f2 w2)
  ·rcases key j' _ e2 with ⟨q2,_,hl⟩ | ⟨z',f2⟩
   ·rw [q2,bg (by rw [<-S.sl.len];exact hl)] at k2
    cases k2
    rw [ay (Ne.symm z)] at k1
    exact absurd k1 (alone j ys f1 w1)
   ·rw [ay (Ne.symm z)] at k1
    rw [ay (Ne.symm z')] at k2
    exact S.dj j j' ys zs b f1 f2 w1 w2 k1 k2
theorem aFk {i j:Nat} {x y:Str} {p:Pos} (hN:X.N.Nodup) (hi:aCs X x i) (hj:X.N[j]? =some y) (hv:Vis X.env.scope y) (hd:(y==("__debug__":Str))=false) (hcd:(y==("__classdict__":Str))=false):MS X ad Z (.Assign [.Name x pos'] (.Name y p) pos) (aAj j i):=by
 refine PS.imp (lJ hN hi.1 hi.2.1 (d6 hj hv hd hcd) rfl hi.2.2) ?_
 rintro D' σ H ⟨G₀,G,ρ,E,S,hx,hr⟩
 unfold aAj at hr
 cases e:ρ[j]? with
 | none=>rw [e] at hr;exact hr.elim
 | some sl=>
  rw [e] at hr
  cases sl with
  | ow xs=>
   obtain⟨a,vs,h1,h2,h3,h4⟩:=S.sl.ow e
   refine⟨.ref a,h1,hr _ G H (S.forget.putOw (S.ow j _ a e rfl h1) h2 h3 h4 (fun k sl e1 w e2=> ?_))⟩
   by_cases z:k=j
   ·subst z
    have hl:k<ρ.length:=(av.mp e).1
    rw [bg hl] at e1
    cases e1
    cases w
   ·rw [ay (Ne.symm z)] at e1
    exact z (S.dj k j sl _ a e1 e w rfl e2 h1)
  | _=>exact hr.elim
end
theorem nE (xs:Array Nat) (j:Nat) (hm: ∀ a b,a<=b->b<xs.size->xs.getD b j<j->xs.getD a j<j): ∀ fuel lo hi,hi - lo<=fuel->lo<=hi->hi<=xs.size->(∀ k,k<lo->xs.getD k j<j)->(∀ k,hi<=k->k<xs.size-> ¬ xs.getD k j<j)->
  SetTable.below.go xs j fuel lo hi<=xs.size/\(∀ k,k<SetTable.below.go xs j fuel lo hi->xs.getD k j<j)/\(∀ k,SetTable.below.go xs j fuel lo hi<=k->k<xs.size-> ¬ xs.getD k j<j)
 | 0,lo,hi,hf,hl,hh,h1,h2=>by
  have:lo=hi:=by omega
  subst this
  exact⟨hh,h1,h2⟩
 | fuel+1,lo,hi,hf,hl,hh,h1,h2=>by
  unfold SetTable.below.go
  by_cases hlt:lo<hi
  ·rw [if_pos hlt]
   dsimp only
   by_cases hq:xs.getD ((lo+hi) / 2) j<j
   ·rw [if_pos hq]
    exact nE xs j hm fuel _ hi (by omega) (by omega) hh (fun k hk=>hm k _ (by omega) (by omega) hq) h2
   ·rw [if_neg hq]
    exact nE xs j hm fuel lo _ (by omega) (by omega) (by omega) h1 fun k hk hs z=>hq (hm _ k hk hs z)
  ·rw [if_neg hlt]
   have:lo=hi:=by omega
   subst this
   exact⟨hh,h1,h2⟩
theorem jM {ps:List Nat} (hr:ps.Pairwise (· < ·)) (j:Nat):SetTable.below ps.toArray j<=ps.length/\(∀ k (hk:k<ps.length),k<SetTable.below ps.toArray j->ps[k]<j)/\(∀ k (hk:k<ps.length),SetTable.below ps.toArray j<=k->j<=ps[k]):=by
 have gd: ∀ k (hk:k<ps.length),ps.toArray.getD k j=ps[k]:=fun k hk=>by simp [Array.getD,hk]
 have hm: ∀ a b,a<=b->b<ps.toArray.size->ps.toArray.getD b j<j->ps.toArray.getD a j<j:=fun a b hab hb h=>by
  have hb':b<ps.length:=by simpa using hb
  rw [gd b hb'] at h
  rw [gd a (by omega)]
  rcases Nat.lt_or_eq_of_le hab with z | z
  ·have:=List.pairwise_iff_getElem.mp hr a b (by omega) hb' z;omega
  ·subst z;exact h
 have:=nE ps.toArray j hm ps.toArray.size 0 ps.toArray.size (by omega) (by omega) (by omega) (fun k hk=>by omega) (fun k h1 h2=>by omega)
 obtain⟨a,b,c⟩:=this
 have a':SetTable.below ps.toArray j<=ps.toArray.size:=a
 rw [au] at a'
 refine⟨a',fun k hk h=> ?_,fun k hk h=> ?_⟩
 ·have:=b k h;rw [gd k hk] at this;exact this
 ·have:=c k h (by simpa using hk);rw [gd k hk] at this;omega
theorem aBf {ps:List Nat} (hr:ps.Pairwise (· < ·)) (i:Nat) (hi:i<ps.length):SetTable.below ps.toArray (ps[i]+1)=i+1:=by
 obtain⟨a,b,c⟩:=jM hr (ps[i]+1)
 have h1: ¬ SetTable.below ps.toArray (ps[i]+1)<=i:=fun h=>by have:=c i hi h;omega
 have h2: ¬ i+1<SetTable.below ps.toArray (ps[i]+1):=fun h=>by
  have:=b (i+1) (by omega) h
  have:=List.pairwise_iff_getElem.mp hr i (i+1) hi (by omega) (by omega)
  omega
 omega
theorem vH {ps:List Nat} (hr:ps.Pairwise (· < ·)):SetTable.below ps.toArray 0=0:=by
 obtain⟨a,b,c⟩:=jM hr 0
 rcases Nat.eq_zero_or_pos (SetTable.below ps.toArray 0) with z | z
 ·exact z
 ·have:=b 0 (by omega) z;omega
theorem yH {ps:List Nat} (hr:ps.Pairwise (· < ·)) {j:Nat} (hj:j∉ps): ∃ qs:List Nat,SetTable.insertAt ps.toArray (SetTable.below ps.toArray j) j=qs.toArray/\qs.Pairwise (· < ·)/\qs.Perm (j::ps):=by
 obtain⟨a,b,c⟩:=jM hr j
 refine⟨ps.take (SetTable.below ps.toArray j)++j::ps.drop (SetTable.below ps.toArray j), ?_, ?_, ?_⟩
 ·apply Array.toList_inj.mp
  rw [SetTable.toList_insertAt]
 ·rw [List.pairwise_append,List.pairwise_cons]
  refine⟨hr.sublist (List.take_sublist _ _),⟨fun x hx=> ?_,hr.sublist (List.drop_sublist _ _)⟩,fun x hx y hy=> ?_⟩
  ·obtain⟨k,hk,rfl⟩:=List.getElem_of_mem hx
   rw [List.getElem_drop]
   rw [List.length_drop] at hk
   have:=c (SetTable.below ps.toArray j+k) (by omega) (by omega)
   rcases Nat.lt_or_eq_of_le this with z | z
   ·exact z
   ·exact absurd (by rw [z];exact List.getElem_mem _) hj
  ·obtain⟨k,hk,rfl⟩:=List.getElem_of_mem hx
   rw [List.getElem_take]
   rw [List.length_take] at hk
   have h1:=b k (by omega) (by omega)
   rcases aq.mp hy with rfl | hy
   ·exact h1
   ·obtain⟨l,hl,rfl⟩:=List.getElem_of_mem hy
    rw [List.getElem_drop]
    rw [List.length_drop] at hl
    have:=c (SetTable.below ps.toArray j+l) (by omega) (by omega)
    omega
 ·exact List.perm_middle.trans (List.Perm.of_eq (by rw [List.take_append_drop]))
noncomputable def tab (m mv:Nat) (ps:List Nat):SetTable:={ mask:=m,place:=ps.toArray,dummies:= #[],finger:=0,led:=true,moves:=mv,plain:=true }
noncomputable def tbl (m mv:Nat) (led:Bool) (ps:List Nat):SetTable:={ mask:=m,place:=ps.toArray,dummies:= #[],finger:=0,led:=led,moves:=mv,plain:=true }
noncomputable def adv (m:Nat) (p:SetTable.Probe):SetTable.Probe:=(tab m 0 []).advance p
noncomputable def pr (m:Nat) (h:Int):Nat->SetTable.Probe
 | 0=>(tab m 0 []).probeStart h
 | k+1=>adv m (pr m h k)
theorem aCx (m:Nat) (h:Int): ∀ k,(pr m h k).dummy=none
 | 0=>rfl
 | k+1=>by
  have ih:=aCx m h k
  show(adv m (pr m h k)).dummy=none
  unfold adv SetTable.advance
  split
  ·exact ih
  ·exact ih
noncomputable def lp (m:Nat) (h:Int):Nat->Nat×Nat
 | 0=>(SetTable.bits h % (m+1),SetTable.bits h)
 | r+1=>SetTable.leap m (lp m h r).1 (lp m h r).2
theorem tK (m:Nat) (h:Int) (k:Nat): ∀ a,a<=(pr m h k).more->pr m h (k+a)={ pr m h k with j:=(pr m h k).j+a,more:=(pr m h k).more - a }
 | 0,_=>rfl
 | a+1,ha=>by
  have ih:=tK m h k a (by omega)
  show adv m (pr m h (k+a))=_
  rw [ih]
  unfold adv SetTable.advance
  rw [if_pos (by dsimp only;omega)]
  dsimp only
  congr 1
theorem aJm (m:Nat) (h:Int): ∀ r, ∃ k,k<=10 * r/\pr m h k={ j:=(lp m h r).1,more:=SetTable.runEnd m (lp m h r).1 - (lp m h r).1,i:=(lp m h r).1,perturb:=(lp m h r).2,dummy:=none }
 | 0=>⟨0,aj _,rfl⟩
 | r+1=>by
  obtain⟨k,hk,e⟩:=aJm m h r
  have hm:(pr m h k).more<=9:=by
   rw [e]
   show SetTable.runEnd m (lp m h r).1 - (lp m h r).1<=9
   unfold SetTable.runEnd
   split<;>omega
  refine⟨k+(pr m h k).more+1,by omega, ?_⟩
  show adv m (pr m h (k+(pr m h k).more))=_
  rw [tK m h k _ (aj _)]
  unfold adv SetTable.advance
  rw [if_neg (by dsimp only;omega),e]
  rfl
theorem yI (m:Nat) (h:Int): ∀ r,(lp m h r).2=SetTable.bits h / 32 ^ r
 | 0=>by simp [lp]
 | r+1=>by
  show(lp m h r).2 / 32=_
  rw [yI m h r,Nat.div_div_eq_div_mul,Nat.pow_succ]
theorem aFl (h:Int):SetTable.bits h<2 ^ 64:=by
 unfold SetTable.bits
 have h1:=Int.emod_lt_of_pos h (show(0:Int)<2 ^ 64 by decide)
 have h2:=Int.emod_nonneg h (show(2 ^ 64:Int)≠0 by decide)
 have e:(2 ^ 64:Int)=((2 ^ 64:Nat):Int):=by decide
 omega
noncomputable def fx (m x:Nat):Nat:=(x * 5+1) % (m+1)
noncomputable def itf (m:Nat):Nat->Nat->Nat
 | 0,x=>x
 | s+1,x=>fx m (itf m s x)
theorem kH (m:Nat) (a x:Nat): ∀ b,itf m (a+b) x=itf m b (itf m a x)
 | 0=>rfl
 | b+1=>by
  show fx m (itf m (a+b) x)=fx m (itf m b (itf m a x))
  rw [kH m a x b]
theorem rM (m:Nat) (h:Int): ∀ s,(lp m h (13+s)).1=itf m s (lp m h 13).1
 | 0=>rfl
 | s+1=>by
  show((lp m h (13+s)).1 * 5+1+(lp m h (13+s)).2 / 32) % (m+1)=_
  have e:(lp m h (13+s)).2=0:=by
   rw [yI]
   refine Nat.div_eq_of_lt (bd (aFl h) ?_)
   rw [Nat.pow_add]
   have:1<=32 ^ s:=Nat.pow_pos (by decide)
   have e:(2:Nat) ^ 64<=32 ^ 13:=by decide
   calc 2 ^ 64<=32 ^ 13 * 1:=by omega
    _<=32 ^ 13 * 32 ^ s:=Nat.mul_le_mul_left _ this
  rw [e,rM m h s]
  rfl
theorem aFm (m:Nat) (h:Int) (r:Nat):(lp m h r).1<m+1:=by
 cases r with
 | zero=>exact Nat.mod_lt _ (Nat.succ_pos _)
 | succ r=>exact Nat.mod_lt _ (Nat.succ_pos _)
def Cyc (m:Nat):Prop:=(∀ j,j<=m-> ∃ s,s<=m/\itf m s 0=j)/\itf m (m+1) 0=0
theorem Cyc.go {m:Nat} (c:Cyc m) {i j:Nat} (hi:i<=m) (hj:j<=m): ∃ s,s<=m/\itf m s i=j:=by
 obtain⟨a,ha,ea⟩:=c.1 i hi
 obtain⟨b,hb,eb⟩:=c.1 j hj
 by_cases h:a<=b
 ·refine⟨b - a,by omega, ?_⟩
  rw [<-ea, <-kH,show a+(b - a)=b by omega,eb]
 ·refine⟨(m+1 - a)+b,by omega, ?_⟩
  have e1:itf m (m+1 - a) i=0:=by rw [<-ea, <-kH,show a+(m+1 - a)=m+1 by omega];exact c.2
  rw [kH,e1,eb]
noncomputable def orb (m:Nat):Nat->Nat->List Nat
 | 0,_=>[]
 | n+1,x=>x::orb m n (fx m x)
theorem yJ (m:Nat) {j:Nat}: ∀ (n x:Nat),j∈orb m n x-> ∃ s,s<n/\itf m s x=j
 | 0,_,h=>by cases h
 | n+1,x,h=>by
  rcases aq.mp h with h | h
  ·exact⟨0,by omega,h.symm⟩
  ·obtain⟨s,h1,h2⟩:=yJ m n (fx m x) h
   refine⟨1+s,by omega, ?_⟩
   rw [kH];exact h2
theorem Cyc.of {m:Nat} (h:((List.range (m+1)).all fun j=>(orb m (m+1) 0).contains j)=true) (h2:itf m (m+1) 0=0):Cyc m:=
 ⟨fun j hj=>by
  have:=zAd h j (zPd (by omega))
  obtain⟨s,h1,e⟩:=yJ m _ _ (List.contains_iff_mem.mp this)
  exact⟨s,by omega,e⟩,h2⟩
theorem aN1:Cyc 7:= .of (by kernel_rfl) (by kernel_rfl)
theorem aLw:Cyc 31:= .of (by kernel_rfl) (by kernel_rfl)
theorem aJn:Cyc 127:= .of (by kernel_rfl) (by kernel_rfl)
theorem aJo {m:Nat} (c:Cyc m) (h:Int) {j:Nat} (hj:j<=m): ∃ k,k<10 * SetTable.turns m/\(pr m h k).j=j:=by
 have hl:=aFm m h 13
 obtain⟨s,h1,h2⟩:=c.go (i:=(lp m h 13).1) (by omega) hj
 obtain⟨k,k1,k2⟩:=aJm m h (13+s)
 refine⟨k,by unfold SetTable.turns;omega, ?_⟩
 rw [k2]
 show(lp m h (13+s)).1=j
 rw [rM,h2]
theorem aFn {m mv:Nat} {led:Bool} {ps:List Nat} (hr:ps.Pairwise (· < ·)) {i:Nat} (hi:i<ps.length):(tbl m mv led ps).slot ps[i]= .live i:=by
 have e:SetTable.below ps.toArray ps[i]=i:=by
  obtain⟨a,b,c⟩:=jM hr ps[i]
  have h1: ¬ SetTable.below ps.toArray ps[i]<i:=fun h=>by
   have:=c (SetTable.below ps.toArray ps[i]) (by omega) (aj _)
   have:=List.pairwise_iff_getElem.mp hr _ i (by omega) hi h
   omega
  have h2: ¬ i<SetTable.below ps.toArray ps[i]:=fun h=>by
   have:=b i hi h;omega
  omega
 unfold SetTable.slot
 dsimp only [tbl]
 rw [e]
 simp [hi]
theorem aBg {m mv:Nat} {led:Bool} {ps:List Nat} {j:Nat} (hj:j∉ps):(tbl m mv led ps).slot j= .empty:=by
 unfold SetTable.slot
 have e1:((tbl m mv led ps).place[SetTable.below (tbl m mv led ps).place j]? ==some j)=false:=by
  cases q:(tbl m mv led ps).place[SetTable.below (tbl m mv led ps).place j]? with
  | none=>rfl
  | some x=>
   have:x∈ps:=by
    have:=Array.mem_of_getElem? q
    simpa [tbl] using this
   have:x≠j:=fun e=>hj (e▸this)
   simpa using this
 dsimp only
 rw [e1]
 rfl
theorem jN {P:Nat->Prop}: ∀ (d k K:Nat),K - k=d->k<=K->P K-> ∃ a,k<=a/\a<=K/\P a/\ ∀ b,k<=b->b<a-> ¬ P b
 | 0,k,K,hd,hk,h=>by
  have:k=K:=by omega
  subst this
  exact⟨k,aj _,aj _,h,fun b h1 h2=>by omega⟩
 | d+1,k,K,hd,hk,h=>by
  by_cases z:P k
  ·exact⟨k,aj _,hk,z,fun b h1 h2=>by omega⟩
  ·obtain⟨a,h1,h2,h3,h4⟩:=jN d (k+1) K (by omega) (by omega) h
   refine⟨a,by omega,h2,h3,fun b b1 b2=> ?_⟩
   by_cases e:b=k
   ·subst e;exact z
   ·exact h4 b (by omega) b2
theorem aFo {m mv:Nat} {led:Bool} {ps:List Nat} {hashAt:Nat->Int} {h:Int}: ∀ (d k a fuel:Nat),a - k=d->k<=a->a<k+fuel->(∀ b,k<=b->b<a-> ∃ i,(tbl m mv led ps).slot (pr m h b).j= .live i/\hashAt i≠h)->
  ∃ f,SetTable.probe.go (tbl m mv led ps) hashAt h fuel (pr m h k)=SetTable.probe.go (tbl m mv led ps) hashAt h (f+1) (pr m h a)
 | 0,k,a,fuel,hd,hk,hf,_=>by
  have:k=a:=by omega
  subst this
  exact⟨fuel - 1,by rw [show fuel - 1+1=fuel by omega]⟩
 | d+1,k,a,fuel,hd,hk,hf,H=>by
  obtain⟨fu,rfl⟩: ∃ fu,fuel=fu+1:=⟨fuel - 1,by omega⟩
  obtain⟨f,e⟩:=aFo (m:=m) (mv:=mv) (led:=led) (ps:=ps) (hashAt:=hashAt) (h:=h) d (k+1) a fu (by omega) (by omega) (by omega) fun b h1 h2=>H b (by omega) h2
  refine⟨f, ?_⟩
  rw [<-e]
  obtain⟨i,h1,h2⟩:=H k (aj _) (by omega)
  rw [SetTable.probe.go,h1]
  dsimp only
  rw [if_neg (by simpa using h2)]
  rfl
theorem aJp {m mv:Nat} {led:Bool} {ps:List Nat} {hashAt:Nat->Int} {h:Int} {k a fuel:Nat} (hk:k<=a) (hf:a<k+fuel) (H: ∀ b,k<=b->b<a-> ∃ i,(tbl m mv led ps).slot (pr m h b).j= .live i/\hashAt i≠h) (he:(tbl m mv led ps).slot (pr m h a).j= .empty):
  SetTable.probe.go (tbl m mv led ps) hashAt h fuel (pr m h k)=some (.empty (pr m h a).j none):=by
 obtain⟨f,e⟩:=aFo (led:=led) (mv:=mv) _ k a fuel rfl hk hf H
 rw [e,SetTable.probe.go,he]
 dsimp only
 rw [aCx]
theorem aJq {m mv:Nat} {led:Bool} {ps:List Nat} {hashAt:Nat->Int} {h:Int} {k a fuel i:Nat} (hk:k<=a) (hf:a<k+fuel) (H: ∀ b,k<=b->b<a-> ∃ i,(tbl m mv led ps).slot (pr m h b).j= .live i/\hashAt i≠h) (he:(tbl m mv led ps).slot (pr m h a).j= .live i) (hi:hashAt i=h):
  SetTable.probe.go (tbl m mv led ps) hashAt h fuel (pr m h k)=some (.candidate (pr m h a).j i (pr m h (a+1))):=by
 obtain⟨f,e⟩:=aFo (led:=led) (mv:=mv) _ k a fuel rfl hk hf H
 rw [e,SetTable.probe.go,he]
 dsimp only
 rw [if_pos (by simpa using hi)]
 rfl
def Rch (m:Nat) (h:Int) (ps:List Nat) (p:Nat):Prop:= ∃ k,k<10 * SetTable.turns m/\(pr m h k).j=p/\ ∀ b,b<k->(pr m h b).j∈ps
theorem Rch.mono {m:Nat} {h:Int} {ps qs:List Nat} {p:Nat} (r:Rch m h ps p) (s: ∀ x∈ps,x∈qs):Rch m h qs p:=by
 obtain⟨k,h1,h2,h3⟩:=r
 exact⟨k,h1,h2,fun b hb=>s _ (h3 b hb)⟩
theorem aCy: ∀ {l q:List Nat},l.Nodup->(∀ x∈l,x∈q)->l.length<=q.length
 | [],_,_,_=>bp _
 | a::l,q,hn,hs=>by
  have h1:=List.nodup_cons.mp hn
  have ma:=hs a (.head _)
  have:=aCy (l:=l) (q:=q.erase a) h1.2 fun x hx=>(List.mem_erase_of_ne (fun e:x=a=>h1.1 (e▸hx))).mpr (hs x (.tail _ hx))
  rw [List.length_erase_of_mem ma] at this
  have:=List.length_pos_of_mem ma
  simp only [bn]
  omega
theorem yK {m:Nat} (c:Cyc m) (h:Int) {ps:List Nat} (hl:ps.length<=m): ∃ k,k<10 * SetTable.turns m/\(pr m h k).j∉ps/\ ∀ b,b<k->(pr m h b).j∈ps:=by
 have ex: ∃ j,j<=m/\j∉ps:=by
  refine Classical.byContradiction fun hn=> ?_
  have hs: ∀ j∈List.range (m+1),j∈ps:=fun j hj=>by
   refine Classical.byContradiction fun z=>hn ⟨j, ?_,z⟩
   have:=zRd hj;omega
  have:=aCy (List.nodup_range (n:=m+1)) hs
  rw [List.length_range] at this
  omega
 obtain⟨j,hj,hn⟩:=ex
 obtain⟨K,k1,k2⟩:=aJo c h hj
 obtain⟨a,_,a2,a3,a4⟩:=jN (P:=fun b=>(pr m h b).j∉ps) _ 0 K rfl (bp _) (by rw [k2];exact hn)
 exact⟨a,by omega,a3,fun b hb=>Classical.byContradiction (a4 b (bp _) hb)⟩
theorem aBh {m:Nat} (h:Int) (k:Nat):(pr m h k).j<=m:=by
 suffices q:(pr m h k).j+(pr m h k).more<=m by omega
 have re: ∀ i,i<=m->i+(SetTable.runEnd m i - i)<=m:=fun i hi=>by
  unfold SetTable.runEnd;split<;>omega
 induction k with
 | zero=>
  have:=aFm m h 0
  exact re _ (by show(lp m h 0).1<=m;omega)
 | succ k ih=>
  show(adv m (pr m h k)).j+(adv m (pr m h k)).more<=m
  unfold adv SetTable.advance
  split
  ·dsimp only;omega
  ·have:(SetTable.leap m (pr m h k).i (pr m h k).perturb).1<m+1:=Nat.mod_lt _ (Nat.succ_pos _)
   exact re _ (by show(SetTable.leap m (pr m h k).i (pr m h k).perturb).1<=m;omega)
def Oc (owner:Array (Option Nat)) (j:Nat):Prop:=(owner.getD j (some 0)).isNone=false
theorem aFp {m:Nat} {h:Int} {owner:Array (Option Nat)} {R:Nat} (hR:R<SetTable.turns m) (he: ¬ Oc owner (lp m h R).1): ∀ (d r k:Nat),R - r=d->r<=R->pr m h k={ j:=(lp m h r).1,more:=SetTable.runEnd m (lp m h r).1 - (lp m h r).1,i:=(lp m h r).1,perturb:=(lp m h r).2,dummy:=none }->k<=10 * r->(∀ b,b<k->Oc owner (pr m h b).j)->
  ∃ K,K<10 * SetTable.turns m/\SetTable.layClean.free m owner (SetTable.turns m - r) (lp m h r).1 (lp m h r).2=some (pr m h K).j/\ ¬ Oc owner (pr m h K).j/\ ∀ b,b<K->Oc owner (pr m h b).j:=by
 intro d
 induction d with
 | zero=>
  intro r k hd hr hp hk hb
  have:r=R:=by omega
  subst this
  have h0:(pr m h k).j=(lp m h r).1:=by rw [hp]
  refine⟨k,by omega, ?_,by rw [h0];exact he,hb⟩
  obtain⟨fu,e⟩: ∃ fu,SetTable.turns m - r=fu+1:=⟨SetTable.turns m - r - 1,by omega⟩
  rw [e,SetTable.layClean.free]
  have hf:(List.range (SetTable.runEnd m (lp m h r).1+1 - (lp m h r).1)).find? (fun k=>(owner.getD ((lp m h r).1+k) (some 0)).isNone)=some 0:=by
   rw [List.find?_range_eq_some]
   refine⟨?_,zPd ?_,fun j hj=>by omega⟩
   ·unfold Oc at he;simpa using he
   ·unfold SetTable.runEnd;split<;>omega
  rw [hf,h0]
  rfl
 | succ d ih=>
  intro r k hd hr hp hk hb
  have hm:(pr m h k).more=SetTable.runEnd m (lp m h r).1 - (lp m h r).1:=by rw [hp]
  have hj:(pr m h k).j=(lp m h r).1:=by rw [hp]
  have h9:(pr m h k).more<=9:=by rw [hm];unfold SetTable.runEnd;split<;>omega
  have hge:(lp m h r).1<=SetTable.runEnd m (lp m h r).1:=by unfold SetTable.runEnd;split<;>omega
  have run: ∀ a,a<=(pr m h k).more->(pr m h (k+a)).j=(lp m h r).1+a:=fun a ha=>by rw [tK m h k a ha, <-hj]
  obtain⟨fu,e⟩: ∃ fu,SetTable.turns m - r=fu+1:=⟨SetTable.turns m - r - 1,by omega⟩
  rw [e,SetTable.layClean.free]
  cases hf:(List.range (SetTable.runEnd m (lp m h r).1+1 - (lp m h r).1)).find? (fun k=>(owner.getD ((lp m h r).1+k) (some 0)).isNone) with
  | some a=>
   rw [List.find?_range_eq_some] at hf
   obtain⟨f1,f2,f3⟩:=hf
   have f2:=zRd f2
   have hra:=run a (by omega)
   refine⟨k+a,by omega,by rw [hra], ?_,fun b hb'=> ?_⟩
   ·rw [hra];unfold Oc;rw [f1];decide
   ·by_cases z:b<k
    ·exact hb b z
    ·obtain⟨c,rfl⟩: ∃ c,b=k+c:=⟨b - k,by omega⟩
     rw [run c (by omega)]
     have:=f3 c (by omega)
     unfold Oc;simpa using this
  | none=>
   dsimp only
   rw [List.find?_range_eq_none] at hf
   have hall: ∀ a,a<=(pr m h k).more->Oc owner (pr m h (k+a)).j:=fun a ha=>by
    rw [run a ha]
    have:=hf a (by omega)
    unfold Oc;simpa using this
   have:=ih (r+1) (k+(pr m h k).more+1) (by omega) (by omega) ?_ (by omega) (fun b hb'=> ?_)
   ·rw [show SetTable.turns m - (r+1)=fu by omega] at this
    exact this
   ·show adv m (pr m h (k+(pr m h k).more))=_
    rw [tK m h k _ (aj _)]
    unfold adv SetTable.advance
    rw [if_neg (by dsimp only;omega),hp]
    rfl
   ·by_cases z:b<k
    ·exact hb b z
    ·obtain⟨c,rfl⟩: ∃ c,b=k+c:=⟨b - k,by omega⟩
     exact hall c (by omega)
structure LayI (m:Nat) (hs:List Int) (owner:Array (Option Nat)) (pl:List Nat):Prop where
 sz:owner.size=m+1
 len:pl.length=hs.length
 nd:pl.Nodup
 le: ∀ p∈pl,p<=m
 own: ∀ j,j<=m->owner.getD j none=pl.findIdx? (· ==j)
 rch: ∀ (k:Nat) (h:Int) (p:Nat),hs[k]? =some h->pl[k]? =some p->Rch m h pl p
theorem gY {pl:List Nat} {j:Nat}:pl.findIdx? (· ==j)=none↔j∉pl:=by
 rw [List.findIdx?_eq_none_iff]
 constructor
 ·intro h hm
  have:=h j hm
  simp at this
 ·intro h x hx
  have:x≠j:=fun e=>h (e▸hx)
  simpa using this
theorem LayI.oc {m:Nat} {hs:List Int} {owner:Array (Option Nat)} {pl:List Nat} (L:LayI m hs owner pl) {j:Nat} (hj:j<=m):Oc owner j↔j∈pl:=by
 have e:owner.getD j (some 0)=owner.getD j none:=by
  have:j<owner.size:=by rw [L.sz];omega
  simp [Array.getD,this]
 unfold Oc
 rw [e,L.own j hj]
 constructor
 ·intro h
  refine Classical.byContradiction fun z=> ?_
  rw [gY.mpr z] at h
  cases h
 ·intro h
  cases q:pl.findIdx? (· ==j) with
  | none=>exact absurd h (gY.mp q)
  | some _=>rfl
theorem LayI.step {m:Nat} (c:Cyc m) {hs:List Int} {owner:Array (Option Nat)} {pl:List Nat} (L:LayI m hs owner pl) (hl:hs.length<=m) (h:Int):
  ∃ j,SetTable.layClean.free m owner (SetTable.turns m) (SetTable.bits h % (m+1)) (SetTable.bits h)=some j/\LayI m (hs++[h]) (owner.setIfInBounds j (some hs.length)) (pl++[j]):=by
 -- an empty leap
 obtain⟨k0,_,n0,_⟩:=yK c h (ps:=pl) (by rw [L.len];exact hl)
 have hq:=aBh (m:=m) h k0
 have l13:=aFm m h 13
 obtain⟨s,s1,s2⟩:=c.go (i:=(lp m h 13).1) (by omega) hq
 have he: ¬ Oc owner (lp m h (13+s)).1:=by
  rw [rM,s2,L.oc hq];exact n0
 obtain⟨K,k1,k2,k3,k4⟩:=aFp (owner:=owner) (R:=13+s) (by unfold SetTable.turns;omega) he _ 0 0 rfl (by omega) rfl (aj _) (fun b hb=>by omega)
 have kj:=aBh (m:=m) h K
 have nj:(pr m h K).j∉pl:=fun z=>k3 ((L.oc kj).mpr z)
 refine⟨(pr m h K).j,k2,by simp [L.sz],by simp [L.len], ?_,fun p hp=> ?_,fun j hj=> ?_,fun k h' p e1 e2=> ?_⟩
 ·rw [List.nodup_append]
  refine⟨L.nd,by simp,fun a ha b hb=> ?_⟩
  have:b=(pr m h K).j:=by simpa using hb
  subst this
  exact fun e=>nj (e▸ha)
 ·rcases List.mem_append.mp hp with hp | hp
  ·exact L.le p hp
  ·have:p=(pr m h K).j:=by simpa using hp
   subst this;exact kj
 ·have hjs:j<owner.size:=by rw [L.sz];omega
  rw [List.findIdx?_append]
  by_cases z:(pr m h K).j=j
  ·subst z
   rw [gY.mpr nj]
   simp [Array.getD,hjs,L.len]
  ·have h1:(owner.setIfInBounds (pr m h K).j (some hs.length)).getD j none=owner.getD j none:=by
    simp [Array.getD,hjs,Array.getElem_setIfInBounds,z]
   rw [h1,L.own j hj]
   have h2:List.findIdx? (· ==j) [(pr m h K).j]=none:=by
    rw [gY];simpa using fun e=>z e.symm
   rw [h2]
   simp
 ·have mono: ∀ x∈pl,x∈pl++[(pr m h K).j]:=fun x hx=>List.mem_append.mpr (.inl hx)
  by_cases z:k<hs.length
  ·rw [bq z] at e1
   rw [bq (by rw [L.len];exact z)] at e2
   exact(L.rch k h' p e1 e2).mono mono
  ·have hk:k<(hs++[h]).length:=(av.mp e1).1
   have:k=hs.length:=by simp at hk;omega
   subst this
   rw [bh (aj _)] at e1
   rw [bh (by rw [L.len];exact aj _),L.len] at e2
   simp at e1 e2
   subst e1 e2
   exact⟨K,k1,rfl,fun b hb=>mono _ ((L.oc (aBh h b)).mp (k4 b hb))⟩
noncomputable def aJr (m:Nat) (acc:Option (Array (Option Nat)×Nat)) (h:Int):Option (Array (Option Nat)×Nat):=do
 let (owner,k)<-acc
 let j<-SetTable.layClean.free m owner (SetTable.turns m) (SetTable.bits h % (m+1)) (SetTable.bits h)
 pure (owner.setIfInBounds j (some k),k+1)
theorem yL {m:Nat} (c:Cyc m): ∀ (cR hs:List Int) (owner:Array (Option Nat)) (pl:List Nat),LayI m hs owner pl->hs.length+cR.length<=m+1->
  ∃ owner' pl',cR.foldl (aJr m) (some (owner,hs.length))=some (owner',(hs++cR).length)/\LayI m (hs++cR) owner' pl'
 | [],hs,owner,pl,L,_=>⟨owner,pl,by simp,by simpa using L⟩
 | h::cR,hs,owner,pl,L,hl=>by
  simp only [bn] at hl
  obtain⟨j,e,L'⟩:=L.step c (by omega) h
  obtain⟨o',p',e',L''⟩:=yL c cR (hs++[h]) _ _ L' (by simp;omega)
  refine⟨o',p', ?_,by simpa using L''⟩
  rw [List.foldl_cons]
  have:aJr m (some (owner,hs.length)) h=some (owner.setIfInBounds j (some hs.length),(hs++[h]).length):=by
   unfold aJr
   show(SetTable.layClean.free m owner (SetTable.turns m) (SetTable.bits h % (m+1)) (SetTable.bits h)).bind _=_
   rw [e]
   simp
  rw [this,e']
  simp
theorem LayI.new (m:Nat):LayI m [] (Array.replicate (m+1) none) []:=by
 refine⟨by simp,rfl,List.nodup_nil,nofun,fun j hj=> ?_,fun k h p e=>by simp at e⟩
 simp [Array.getD]
theorem rN {m:Nat} (c:Cyc m) (hs:List Int) (hl:hs.length<=m+1): ∃ owner pl,SetTable.layClean m hs.toArray=some owner/\LayI m hs owner pl:=by
 obtain⟨o,p,e,L⟩:=yL c hs [] _ _ (LayI.new m) (by simpa using hl)
 refine⟨o,p, ?_,by simpa using L⟩
 unfold SetTable.layClean
 show(hs.toArray.foldl (aJr m) (some (Array.replicate (m+1) none,0))).map (·.1)=some o
 rw [List.foldl_toArray']
 ·have e':hs.foldl (aJr m) (some (Array.replicate (m+1) none,0))=some (o,hs.length):=by simpa using e
  rw [e'];rfl
 ·simp
structure TI (m:Nat) (L:List (Nat×Int×Value)):Prop where
 up:(L.map (·.1)).Pairwise (· < ·)
 le: ∀ x∈L,x.1<=m
 rch: ∀ x∈L,Rch m x.2.1 (L.map (·.1)) x.1
noncomputable def dP (m:Nat) (pl:List Nat) (es:List (Int×Value)):List (Nat×Int×Value):=(List.range (m+1)).filterMap fun j=>(pl.findIdx? (· ==j)).bind fun k=>es[k]?.map fun e=>(j,e)
theorem aLx: ∀ (m:Nat) {f:Nat->Option (Nat×Int×Value)} (hf: ∀ j x,f j=some x->x.1=j) (l:List Nat),l.Pairwise (· < ·)->((l.filterMap f).map (·.1)).Pairwise (· < ·):=by
 intro m f hf l h
 rw [List.map_filterMap]
 refine List.Pairwise.filterMap _ (fun a a' haa b hb b' hb'=> ?_) h
 obtain⟨x,e1,e2⟩:=zMd hb
 obtain⟨y,e3,e4⟩:=zMd hb'
 rw [<-e2, <-e4,hf _ _ e1,hf _ _ e3]
 exact haa
theorem tM {m:Nat} {pl:List Nat} {es:List (Int×Value)} (hn:pl.Nodup) (hle: ∀ p∈pl,p<=m) (hl:pl.length=es.length) (x:Nat×Int×Value):x∈dP m pl es↔x∈pl.zip es:=by
 unfold dP
 rw [List.mem_filterMap]
 constructor
 ·rintro⟨j,_,h⟩
  obtain⟨k,e1,e2⟩:=zBd h
  obtain⟨e,e3,rfl⟩:=zMd e2
  rw [List.findIdx?_eq_some_iff_getElem] at e1
  obtain⟨h1,h2,_⟩:=e1
  have:pl[k]=j:=by simpa using h2
  obtain⟨h3,h4⟩:=av.mp e3
  rw [List.mem_iff_getElem]
  refine⟨k,by simp;omega, ?_⟩
  rw [List.getElem_zip,this,h4]
 ·intro h
  obtain⟨k,hk,rfl⟩:=List.getElem_of_mem h
  rw [List.getElem_zip]
  have hk1:k<pl.length:=by simp at hk;omega
  have hk2:k<es.length:=by simp at hk;omega
  refine⟨pl[k],zPd (Nat.lt_succ_of_le (hle _ (List.getElem_mem _))), ?_⟩
  have e1:pl.findIdx? (· ==pl[k])=some k:=by
   rw [List.findIdx?_eq_some_iff_getElem]
   refine⟨hk1,by simp,fun j hj=> ?_⟩
   have:pl[j]≠pl[k]:=fun e=>by
    have:=(List.getElem_inj hn).mp e
    omega
   simpa using this
  rw [e1]
  simp [hk2]
theorem rO {m:Nat} {hs:List Int} {owner:Array (Option Nat)} {pl:List Nat} (L:LayI m hs owner pl) {es:List (Int×Value)} (he:es.map (·.1)=hs):TI m (dP m pl es)/\((dP m pl es).map (·.2)).Perm es/\((dP m pl es).map (·.1)).Perm pl:=by
 have hl:pl.length=es.length:=by rw [L.len, <-he,am]
 have up:((dP m pl es).map (·.1)).Pairwise (· < ·):=aLx m (fun j x h=>by
  obtain⟨k,e1,e2⟩:=zBd h
  obtain⟨e,e3,rfl⟩:=zMd e2
  rfl) _ List.pairwise_lt_range
 have z1:(pl.zip es).map (·.1)=pl:=List.map_fst_zip (by omega)
 have z2:(pl.zip es).map (·.2)=es:=List.map_snd_zip (by omega)
 have nd1:(dP m pl es).Nodup:=by
  have:((dP m pl es).map (·.1)).Nodup:=up.imp fun h e=>by omega
  exact List.Pairwise.of_map (·.1) (fun a b h e=>h (congrArg _ e)) this
 have nd2:(pl.zip es).Nodup:=by
  have:((pl.zip es).map (·.1)).Nodup:=by rw [z1];exact L.nd
  exact List.Pairwise.of_map (·.1) (fun a b h e=>h (congrArg _ e)) this
 have pe:(dP m pl es).Perm (pl.zip es):=(List.perm_ext_iff_of_nodup nd1 nd2).mpr fun x=>tM L.nd L.le hl x
 have p1:((dP m pl es).map (·.1)).Perm pl:=by have:=pe.map (·.1);rwa [z1] at this
 refine⟨⟨up,fun x hx=> ?_,fun x hx=> ?_⟩,by have:=pe.map (·.2);rwa [z2] at this,p1⟩
 ·exact L.le _ (p1.mem_iff.mp (ao.mpr ⟨x,hx,rfl⟩))
 ·have hx':=(tM L.nd L.le hl x).mp hx
  obtain⟨k,hk,rfl⟩:=List.getElem_of_mem hx'
  rw [List.getElem_zip]
  have hk1:k<pl.length:=by simp at hk;omega
  have hk2:k<es.length:=by simp at hk;omega
  refine(L.rch k es[k].1 pl[k] ?_ (az hk1)).mono fun y hy=>p1.mem_iff.mpr hy
  rw [<-he];simp [hk2]
theorem aFq {m f mv:Nat} {led:Bool} (c:Cyc m) {es:List (Int×Value)} (hl:es.length<=m+1): ∃ (L:List (Nat×Int×Value)) (order:Array Nat),SetTable.laid m 0 mv led true (es.map (·.1)).toArray=some (tbl m mv led (L.map (·.1)),order)/\order.filterMap (es.toArray[·]?)=(L.map (·.2)).toArray/\TI m L/\(L.map (·.2)).Perm es:=by
 obtain⟨owner,pl,e,LI⟩:=rN c (es.map (·.1)) (by simpa using hl)
 obtain⟨t1,t2,t3⟩:=rO LI rfl
 have hl':pl.length=es.length:=by rw [LI.len,am]
 have live: ∀ j∈List.range (m+1),(owner.getD j none).map (j, ·)=(pl.findIdx? (· ==j)).map (j, ·):=fun j hj=>by
  rw [LI.own j (by have:=zRd hj;omega)]
 refine⟨dP m pl es,(((List.range (m+1)).filterMap fun j=>(pl.findIdx? (· ==j)).map (j, ·)).map (·.2)).toArray, ?_, ?_,t1,t2⟩
 ·unfold SetTable.laid
  rw [e]
  show some (_,_)=_
  have e1:((List.range (m+1)).filterMap fun j=>(owner.getD j none).map (j, ·))=(List.range (m+1)).filterMap fun j=>(pl.findIdx? (· ==j)).map (j, ·):=by
   have gen: ∀ l:List Nat,(∀ j∈l,(owner.getD j none).map (j, ·)=(pl.findIdx? (· ==j)).map (j, ·))->(l.filterMap fun j=>(owner.getD j none).map (j, ·))=l.filterMap fun j=>(pl.findIdx? (· ==j)).map (j, ·):=fun l=>by
    induction l with
    | nil=>intro _;rfl
    | cons a l ih=>
     intro h
     rw [List.filterMap_cons,List.filterMap_cons,h a (.head _),ih fun j hj=>h j (.tail _ hj)]
   exact gen _ live
  rw [e1]
  have e2:((List.range (m+1)).filterMap fun j=>(pl.findIdx? (· ==j)).map (j, ·)).map (·.1)=(dP m pl es).map (·.1):=by
   unfold dP
   rw [List.map_filterMap,List.map_filterMap]
   congr 1
   funext j
   cases q:pl.findIdx? (· ==j) with
   | none=>rfl
   | some k=>
    rw [List.findIdx?_eq_some_iff_getElem] at q
    obtain⟨h1,_⟩:=q
    have:k<es.length:=by omega
    simp [this]
  rw [e2]
  rfl
 ·apply Array.toList_inj.mp
  rw [Array.toList_filterMap]
  unfold dP
  rw [List.filterMap_map,List.map_filterMap,List.filterMap_filterMap]
  congr 1
  funext j
  cases q:pl.findIdx? (· ==j) with
  | none=>rfl
  | some k=>cases q2:es[k]? <;>simp [q2]
mutual
noncomputable def hk:PyData->Bool
 | .none=>true
 | .int _=>true
 | .tuple xs=>hks xs
 | _=>false
noncomputable def hks:List PyData->Bool
 | []=>true
 | x::xs=>hk x&&hks xs
end
mutual
noncomputable def hsh:PyData->Int
 | .none=>0xFCA86420
 | .int i=>hashInt i
 | .tuple xs=>reduceHash (Builtin.Tuple.tupleHashOf (aFr xs))
 | _=>0
noncomputable def aFr:List PyData->List Int
 | []=>[]
 | x::xs=>hsh x::aFr xs
end
mutual
theorem yM: ∀ d:PyData,hk d=true->d.canLay0=true
 | .none,_=>rfl
 | .int _,_=>rfl
 | .tuple xs,h=>by
  rw [hk] at h
  rw [PyData.canLay0]
  exact yN xs h
 | .bool _,h=>by simp [hk] at h
 | .str _,h=>by simp [hk] at h
 | .list _,h=>by simp [hk] at h
 | .dict _,h=>by simp [hk] at h
theorem yN: ∀ xs:List PyData,hks xs=true->PyData.canLayAll0 xs=true
 | [],_=>rfl
 | x::xs,h=>by
  rw [hks,ar] at h
  rw [PyData.canLayAll0,yM x h.1,yN xs h.2]
  rfl
end
mutual
theorem yO: ∀ d1 d2:PyData,hk d1=true->hk d2=true->PyData.eqv d1 d2=true->d1=d2
 | .none,d2,_,h2,e=>by cases d2<;>simp [hk] at h2<;>simp [PyData.eqv] at e ⊢
 | .int i,d2,_,h2,e=>by cases d2<;>simp [hk] at h2<;>simp [PyData.eqv] at e ⊢<;>exact e
 | .tuple xs,d2,h1,h2,e=>by
  cases d2<;>simp [hk] at h2<;>simp [PyData.eqv] at e
  rename_i ys
  rw [tN xs ys (by simpa [hk] using h1) h2 e]
 | .bool _,_,h,_,_=>by simp [hk] at h
 | .str _,_,h,_,_=>by simp [hk] at h
 | .list _,_,h,_,_=>by simp [hk] at h
 | .dict _,_,h,_,_=>by simp [hk] at h
theorem tN: ∀ xs ys:List PyData,hks xs=true->hks ys=true->PyData.eqvAll xs ys=true->xs=ys
 | [],[],_,_,_=>rfl
 | [],_::_,_,_,e=>by simp [PyData.eqvAll] at e
 | _::_,[],_,_,e=>by simp [PyData.eqvAll] at e
 | x::xs,y::ys,h1,h2,e=>by
  rw [hks,ar] at h1 h2
  rw [PyData.eqvAll,ar] at e
  rw [yO x y h1.1 h2.1 e.1,tN xs ys h1.2 h2.2 e.2]
end
section
variable {prog:Program} {w:World}
theorem pF {A:Around} {s:Shared} {Q:Int->Shared->Prop} {E:Value->Shared->Prop} (h:Q 0xFCA86420 { s with toks:=s.toks+1 }):wpAny (model prog w) A (pyHash .none) Q E s:=by
 have hT:s.TypeIs .none "NoneType":=rfl
 unfold pyHash pyHashByItsType
 refine aa (wpAny_cRoomFor_or (.inl rfl) ?_)
 refine aa (wpAny_specialOf hT F.slot_NoneType_hash.lookup ?_)
 show wpAny _ _ (if(some (Value.builtin "NoneType.__hash__")==some Value.none)=true then _ else _) Q E s
 rw [if_neg (by rw [beq_builtin_none];exact ba)]
 refine aa (wpAny_specialOf hT F.slot_NoneType_hash.lookup ?_)
 show wpAny _ _ (callSpecialIfBoundUnlessNone? .none "__hash__" _ >>= _) Q E s
 refine aa (wpAny_callSpecialIfBoundUnlessNone?_slot hT F.slot_NoneType_hash (wpAny_call_entry F.slot_NoneType_hash hT F.entry_NoneType_hash ?_ (F.args_NoneType_hash_1 _)))
 show wpAny _ _ (retInt 0xFCA86420) _ _ s
 refine wpAny_ret_mkInt ?_
 exact ae h
mutual
noncomputable def dr:PyData->Nat
 | .tuple xs=>drs xs+1
 | _=>1
noncomputable def drs:List PyData->Nat
 | []=>0
 | x::xs=>dr x+drs xs
end
theorem aFs: ∀ (n:Nat) (d:PyData) (v:Value) (as:List Addr) (A:Around) (s:Shared) (Q:Int->Shared->Prop) (E:Value->Shared->Prop),hk d=true->d.depth<=n->Reads s.heap v d as->A.units+n<cLine->Q (hsh d) { s with toks:=s.toks+dr d }->wpAny (model prog w) A (pyHash v) Q E s:=by
 intro n
 induction n with
 | zero=>
  intro d v as A s Q E hd hn hr hu h
  cases hr with
  | none=>exact pF (by simpa [hsh,dr] using h)
  | int i t=>exact wpAny_pyHash_int (by simpa [hsh,dr] using h)
  | bool b=>cases hd
  | str x t=>cases hd
  | list=>cases hd
  | tuple=>simp [PyData.depth] at hn
  | dict=>cases hd
 | succ n ih=>
  intro d v as A s Q E hd hn hr hu h
  cases hr with
  | none=>exact pF (by simpa [hsh,dr] using h)
  | int i t=>exact wpAny_pyHash_int (by simpa [hsh,dr] using h)
  | bool b=>cases hd
  | str x t=>cases hd
  | list=>cases hd
  | dict=>cases hd
  | @tuple a o vs k xs as ho hc hdat hall=>
   have hT:s.TypeIs (.ref a) "tuple":=⟨o,ho,hc⟩
   have hd':hks xs=true:=by simpa [hk] using hd
   have hn':PyData.depthAll xs<=n:=by simp only [PyData.depth] at hn;omega
   unfold pyHash
   unfold pyHashByItsType
   refine aa (wpAny_cRoomFor_or (.inr (by omega)) ?_)
   refine aa (wpAny_specialOf hT F.slot_tuple_hash.lookup ?_)
   show wpAny _ _ (if(some (Value.builtin "tuple.__hash__")==some Value.none)=true then _ else _) Q E s
   rw [if_neg (by rw [beq_builtin_none];exact ba)]
   refine aa (wpAny_specialOf hT F.slot_tuple_hash.lookup ?_)
   show wpAny _ _ (callSpecialIfBoundUnlessNone? (.ref a) "__hash__" _ >>= _) Q E s
   refine aa (wpAny_callSpecialIfBoundUnlessNone?_slot hT F.slot_tuple_hash (wpAny_call_entry F.slot_tuple_hash hT F.entry_tuple_hash ?_ (F.args_tuple_hash_1 _)))
   show wpAny _ _ (Builtin.Tuple.tupleItemsOf (.ref a) >>= _) _ _ s
   refine aa (wpAny_tupleItemsOf ho hdat ?_)
   refine aa ?_
   rw [<-Array.forIn_toList]
   refine wpAny_forIn_list _
    (fun cR (b:Array Int) s'=> ∃ ds bs tk,ReadsAll s.heap cR ds bs/\hks ds=true/\PyData.depthAll ds<=n/\aFr xs=b.toList++aFr ds/\s.toks+drs xs=tk+drs ds/\s'={ s with toks:=tk })
    _ ?_ ?_ _ _ ⟨xs,as,s.toks,hall,hd',hn',rfl,rfl,rfl⟩
   ·rintro x cR b s' ⟨ds,bs,tk,hra,k1,k2,k3,k4,rfl⟩
    cases hra with
    | @cons _ _ d1 ds1 as1 bs1 r1 r2=>
     simp only [hks,ar] at k1
     simp only [PyData.depthAll] at k2
     refine aa (ih d1 x as1 _ _ _ _ k1.1 (by omega) r1 (by have:=A.in1_units;omega) ?_)
     have k5:s.toks+drs xs=tk+dr d1+drs ds1:=by rw [k4];simp only [drs];omega
     first
      | exact ae ⟨ds1,bs1,_,r2,k1.2,by omega,by rw [k3];simp [aFr],k5,rfl⟩
      | exact aa (ae (ae ⟨ds1,bs1,_,r2,k1.2,by omega,by rw [k3];simp [aFr],k5,rfl⟩))
   ·rintro b s' ⟨ds,bs,tk,hra,k1,k2,k3,k4,rfl⟩
    cases hra
    simp only [aFr,List.append_nil] at k3
    have h':=h
    simp only [hsh,k3,dr,show s.toks+(drs xs+1)=tk+1 from by simp only [drs] at k4;omega] at h'
    show wpAny _ _ (retInt (Builtin.Tuple.tupleHashOf b.toList)) _ _ _
    refine wpAny_ret_mkInt ?_
    show wpAny _ _ (if(decide (-(2:Int) ^ 63<=Builtin.Tuple.tupleHashOf b.toList)&&decide (Builtin.Tuple.tupleHashOf b.toList<2 ^ 63))=true then _ else _) Q E _
    unfold reduceHash at h'
    by_cases hr:(decide (-(2:Int) ^ 63<=Builtin.Tuple.tupleHashOf b.toList)&&decide (Builtin.Tuple.tupleHashOf b.toList<2 ^ 63))=true
    ·rw [if_pos hr]
     rw [if_pos hr] at h'
     exact ae h'
    ·rw [if_neg hr]
     rw [if_neg hr] at h'
     exact aa (wpAny_rule (ae h'))
theorem aFt (n:Nat) (d:PyData) (v:Value) (as:List Addr) (A:Around) (s:Shared) (Q:Int->Shared->Prop) (E:Value->Shared->Prop) (h1:hk d=true) (h2:d.depth<=n) (h3:Reads s.heap v d as) (h4:A.units+n<cLine) (h: ∀ tk,s.toks<=tk->Q (hsh d) { s with toks:=tk }):wpAny (model prog w) A (pyHash v) Q E s:=
 aFs n d v as A s Q E h1 h2 h3 h4 (h _ (Nat.le_add_right _ _))
theorem tP: ∀ (n:Nat) (d:PyData) (v:Value) (as:List Addr) (A:Around) (s:Shared) (Q:Bool->Shared->Prop) (E:Value->Shared->Prop),hk d=true->d.depth<=n->Reads s.heap v d as->Q true s->wpAny (model prog w) A (eqIsQuiet n v) Q E s:=by
 intro n
 induction n with
 | zero=>
  intro d v as A s Q E hd hn hr h
  cases hr with
  | tuple=>simp [PyData.depth] at hn
  | none=>rw [eqIsQuiet_byValue _ rfl];exact ae h
  | int i t=>rw [eqIsQuiet_byValue _ rfl];exact ae h
  | bool b=>cases hd
  | str x t=>cases hd
  | list=>cases hd
  | dict=>cases hd
 | succ n ih=>
  intro d v as A s Q E hd hn hr h
  cases hr with
  | none=>rw [eqIsQuiet_byValue _ rfl];exact ae h
  | int i t=>rw [eqIsQuiet_byValue _ rfl];exact ae h
  | bool b=>cases hd
  | str x t=>cases hd
  | list=>cases hd
  | dict=>cases hd
  | @tuple a o vs k xs as ho hc hdat hall=>
   have hT:s.TypeIs (.ref a) "tuple":=⟨o,ho,hc⟩
   have hd':hks xs=true:=by simpa [hk] using hd
   have hn':PyData.depthAll xs<=n:=by simp only [PyData.depth] at hn;omega
   unfold eqIsQuiet
   refine aa (wpAny_specialOf hT F.slot_tuple_eq.lookup ?_)
   show wpAny _ _ (isInstance (.ref a) (.type "tuple") >>= _) _ _ s
   refine aa (wpAny_isInstance hT isSubtype_tuple_tuple ?_)
   simp only [Bool.not_true,aw,if_false]
   refine aa (wpAny_seqItems ho hdat ?_)
   refine aa ?_
   show wpAny _ _ (forIn vs _ _) _ _ s
   rw [<-Array.forIn_toList]
   refine wpAny_forIn_list _ (fun cR r s'=>r.1=none/\s'=s/\ ∃ ds bs,ReadsAll s.heap cR ds bs/\hks ds=true/\PyData.depthAll ds<=n) _ ?_ ?_ _ _ ⟨rfl,rfl,xs,as,hall,hd',hn'⟩
   ·rintro x cR r s' ⟨hr,rfl,ds,bs,hra,k1,k2⟩
    cases hra with
    | @cons _ _ d1 ds1 as1 bs1 r1 r2=>
     simp only [hks,ar] at k1
     simp only [PyData.depthAll] at k2
     refine aa (ih d1 x as1 _ _ _ _ k1.1 (by omega) r1 ?_)
     simp only [Bool.not_true,aw,if_false]
     exact ae ⟨rfl,rfl,ds1,bs1,r2,k1.2,by omega⟩
   ·rintro⟨r1,r2⟩ s' ⟨hr,rfl,_⟩
    simp only at hr
    subst hr
    exact ae h
theorem tQ: ∀ (n:Nat) (d:PyData) (v:Value) (as:List Addr) (A:Around) (s:Shared) (Q:Bool->Shared->Prop) (E:Value->Shared->Prop),hk d=true->d.depth<=n->Reads s.heap v d as->Q false s->wpAny (model prog w) A (ofAClassStatement n v) Q E s:=by
 intro n
 induction n with
 | zero=>
  intro d v as A s Q E hd hn hr h
  cases hr with
  | tuple=>simp [PyData.depth] at hn
  | none=>exact ae h
  | int i t=>exact ae h
  | bool b=>cases hd
  | str x t=>cases hd
  | list=>cases hd
  | dict=>cases hd
 | succ n ih=>
  intro d v as A s Q E hd hn hr h
  cases hr with
  | none=>exact ae h
  | int i t=>exact ae h
  | bool b=>cases hd
  | str x t=>cases hd
  | list=>cases hd
  | dict=>cases hd
  | @tuple a o vs k xs as ho hc hdat hall=>
   have hT:s.TypeIs (.ref a) "tuple":=⟨o,ho,hc⟩
   have hd':hks xs=true:=by simpa [hk] using hd
   have hn':PyData.depthAll xs<=n:=by simp only [PyData.depth] at hn;omega
   unfold ofAClassStatement
   refine aa (wpAny_typeOf hT ?_)
   dsimp only
   rw [if_pos (by decide)]
   refine aa (ae ?_)
   simp only [Bool.not_true,aw,if_false]
   refine aa (wpAny_seqItems ho hdat ?_)
   dsimp only
   refine aa ?_
   show wpAny _ _ (forIn vs _ _) _ _ s
   rw [<-Array.forIn_toList]
   refine wpAny_forIn_list _ (fun cR r s'=>r.1=none/\s'=s/\ ∃ ds bs,ReadsAll s.heap cR ds bs/\hks ds=true/\PyData.depthAll ds<=n) _ ?_ ?_ _ _ ⟨rfl,rfl,xs,as,hall,hd',hn'⟩
   ·rintro x cR r s' ⟨hr,rfl,ds,bs,hra,k1,k2⟩
    cases hra with
    | @cons _ _ d1 ds1 as1 bs1 r1 r2=>
     simp only [hks,ar] at k1
     simp only [PyData.depthAll] at k2
     refine aa (ih d1 x as1 _ _ _ _ k1.1 (by omega) r1 ?_)
     simp only [aw,if_false]
     exact ae ⟨rfl,rfl,ds1,bs1,r2,k1.2,by omega⟩
   ·rintro⟨r1,r2⟩ s' ⟨hr,rfl,_⟩
    simp only at hr
    subst hr
    exact ae h
theorem aBi: ∀ (n:Nat) (d:PyData) (v:Value) (as:List Addr) (A:Around) (s:Shared) (Q:Bool->Shared->Prop) (E:Value->Shared->Prop),hk d=true->d.depth<=n->Reads s.heap v d as->Q true s->wpAny (model prog w) A (hashByValue n v) Q E s:=by
 intro n
 induction n with
 | zero=>
  intro d v as A s Q E hd hn hr h
  cases hr with
  | tuple=>simp [PyData.depth] at hn
  | none=>exact ae h
  | int i t=>exact ae h
  | bool b=>cases hd
  | str x t=>cases hd
  | list=>cases hd
  | dict=>cases hd
 | succ n ih=>
  intro d v as A s Q E hd hn hr h
  cases hr with
  | none=>exact ae h
  | int i t=>exact ae h
  | bool b=>cases hd
  | str x t=>cases hd
  | list=>cases hd
  | dict=>cases hd
  | @tuple a o vs k xs as ho hc hdat hall=>
   have hT:s.TypeIs (.ref a) "tuple":=⟨o,ho,hc⟩
   have hd':hks xs=true:=by simpa [hk] using hd
   have hn':PyData.depthAll xs<=n:=by simp only [PyData.depth] at hn;omega
   unfold hashByValue
   refine aa (wpAny_specialOf hT F.slot_tuple_hash.lookup ?_)
   show wpAny _ _ (seqItems? (.ref a) >>= _) _ _ s
   refine aa (wpAny_seqItems ho hdat ?_)
   refine aa ?_
   show wpAny _ _ (forIn vs _ _) _ _ s
   rw [<-Array.forIn_toList]
   refine wpAny_forIn_list _ (fun cR r s'=>r.1=none/\s'=s/\ ∃ ds bs,ReadsAll s.heap cR ds bs/\hks ds=true/\PyData.depthAll ds<=n) _ ?_ ?_ _ _ ⟨rfl,rfl,xs,as,hall,hd',hn'⟩
   ·rintro x cR r s' ⟨hr,rfl,ds,bs,hra,k1,k2⟩
    cases hra with
    | @cons _ _ d1 ds1 as1 bs1 r1 r2=>
     simp only [hks,ar] at k1
     simp only [PyData.depthAll] at k2
     refine aa (ih d1 x as1 _ _ _ _ k1.1 (by omega) r1 ?_)
     simp only [Bool.not_true,aw,if_false]
     exact ae ⟨rfl,rfl,ds1,bs1,r2,k1.2,by omega⟩
   ·rintro⟨r1,r2⟩ s' ⟨hr,rfl,_⟩
    simp only at hr
    subst hr
    exact ae h
end
theorem pG: ∀ (hs:List Nat),hs.Nodup->(∀ h∈hs,h<17)->((List.range 32).filter fun j=>decide (j∈hs)).Perm hs
 | [],_,_=>by simp
 | h::hs,hn,h16=>by
  have hn':=List.nodup_cons.mp hn
  have ih:=pG hs hn'.2 fun x hx=>h16 x (.tail _ hx)
  have one:(List.range 32).filter (fun j=>decide (j=h))=[h]:=by
   have hh:=h16 h (.head _)
   have: ∀ x<17,(List.range 32).filter (fun j=>decide (j=x))=[x]:=by decide
   exact this h hh
  have sp:=(List.filter_append_perm (fun j=>decide (j=h)) ((List.range 32).filter fun j=>decide (j∈h::hs))).symm
  refine sp.trans ?_
  rw [List.filter_filter,List.filter_filter]
  have a1:(List.range 32).filter (fun a=>decide (a=h)&&decide (a∈h::hs))=[h]:=by
   rw [<-one]
   refine List.filter_congr fun a _=> ?_
   by_cases q:a=h<;>simp [q]
  have a2:(List.range 32).filter (fun a=>(!decide (a=h))&&decide (a∈h::hs))=(List.range 32).filter fun j=>decide (j∈hs):=by
   refine List.filter_congr fun a _=> ?_
   by_cases q:a=h
   ·subst q;simp [hn'.1]
   ·simp [q]
  rw [a1,a2]
  exact ih.cons h
def KH (q:SetTable×Array Int) (hs:List Nat):Prop:=
 ∃ es ps:List Nat,q.2=(es.map Int.ofNat).toArray/\es.Perm hs/\ps.Pairwise (· < ·)/\ps.length=es.length/\((q.1=tab 7 0 ps/\(∀ p∈ps,p<8)/\es.length<=4)\/(q.1=tab 31 1 ps/\ps.Perm es))
noncomputable def eE (es:Array (Int×Value)) (ep:Nat) (t:SetTable):Obj:={ cls:= .type "set",dict:=none,data:= .set es ep t }
def aN2 (prog:Program) (w:World) (h:Heap) (a:Addr) (vs:List Value) (ns:List Nat):Prop:=
 ∃ es ep t,h.get? a=some (eE es ep t)/\(es.toList.map (·.2)).Perm vs/\ElemsOf (intKind prog w) es.toList/\t.fits es.size=true/\(w.params.followText "set-order"=false->KH (t,es.map (·.1)) ns)
section
variable {prog:Program} {w:World} {A:Around} {E:Value->Shared->Prop} {s:Shared}
theorem pH {a:Addr} {es es':Array (Int×Value)} {ep:Nat} {t t':SetTable} {Q:Unit->Shared->Prop} (ho:s.heap.get? a=some (eE es ep t)) (hz:es'.size<scanBound)
  (h: ∀ h',Heap.SameBut a s.heap h'->h'.get? a=some (eE es' (ep+1) t')->Q () { s with heap:=h' }):wpAny (model prog w) A (storeSet a es' t') Q E s:=by
 refine wpAny_storeSet_of ho rfl ?_ (fits_of_scanBound hz)
 refine h _ (Heap.SameBut.update ..) ?_
 have:=Heap.get?_update_self (Obj.putSet es' t') ho rfl
 exact this
end
abbrev Ln:=List (Nat×Int×Value)
noncomputable def aJs (L:Ln) (m mv ep:Nat) (led:Bool):Obj:=eE (L.map (·.2)).toArray ep (tbl m mv led (L.map (·.1)))
theorem lZ {L:Ln} {m mv:Nat} {led:Bool} (h:L.length<=m):(tbl m mv led (L.map (·.1))).fits ((L.map (·.2)).toArray).size=true:=by
 unfold SetTable.fits SetTable.fill
 simp [tbl,h]
theorem tR {L:Ln} {m mv:Nat} {led:Bool} (hT:TI m L) {e:Nat×Int×Value} (he:e∈L): ∃ i,(tbl m mv led (L.map (·.1))).slot e.1= .live i/\L[i]? =some e:=by
 obtain⟨i,hi,rfl⟩:=List.getElem_of_mem he
 have hi':i<(L.map (·.1)).length:=by simpa using hi
 refine⟨i, ?_,az hi⟩
 have:=aFn (m:=m) (mv:=mv) (led:=led) hT.up hi'
 rwa [List.getElem_map] at this
section
variable {prog:Program} {w:World} {A:Around} {E:Value->Shared->Prop} {s:Shared}
theorem pI {a x:Addr} {L:Ln} {m mv ep:Nat} {led:Bool} {h:Int} {eqf:Nat×Int×Value->Bool} {Q:SetFound->Shared->Prop} (ho:s.heap.get? a=some (aJs L m mv ep led)) (hT:TI m L) (hl:L.length<=m) (hodd:m % 2=1)
  (hEq: ∀ e∈L,SeqAt.EqAt A s e.2.2 (.ref x) (eqf e)) (hR: ∀ e∈L, ∃ b,e.2.2= .ref b)
  (hS:led=false-> ∀ (l:List Value) (Q':Bool->Shared->Prop),(∀ y∈l, ∃ e∈L,e.2.2=y)->Q' false s->wpAny (model prog w) A (searchCouldBeSeen (.ref x) l) Q' E s):
  ∀ (n k fuel:Nat) (K:Nat) (stand:Option SetTable.Probe),K - k=n->k<=K->n<fuel->K<10 * SetTable.turns m->stand.getD ((tbl m mv led (L.map (·.1))).probeStart h)=pr m h k->
   (∀ b,b<K-> ∃ e∈L,(pr m h b).j=e.1/\(e.2.1=h->eqf e=false))->
   (((pr m h K).j∉L.map (·.1)/\Q (.free (pr m h K).j false) s)\/(∃ e∈L,(pr m h K).j=e.1/\e.2.1=h/\eqf e=true/\Q (.there none) s))->
   wpAny (model prog w) A (setSearchFrom a (.ref x) h true fuel stand) Q E s:=by
 intro n
 induction n using Nat.strongRecOn with
 | ind n ih=>
  intro k fuel K stand hn hk hf hK hst hb hend
  obtain⟨fu,rfl⟩: ∃ fu,fuel=fu+1:=⟨fuel - 1,by omega⟩
  unfold setSearchFrom
  refine aa (wpAny_setState_of ho rfl (lZ hl) ?_)
  dsimp only
  have hg:(tbl m mv led (L.map (·.1))).gaveWay=false:=by
   show(m % 2==0)=false
   rw [hodd];rfl
  rw [hg]
  simp only [aw,↓reduceIte]
  rw [hst]
  -- the first place that counts
  obtain⟨c,c1,c2,c3,c4⟩:=jN (P:=fun b=>(pr m h b).j∉L.map (·.1)\/ ∃ e∈L,(pr m h b).j=e.1/\e.2.1=h) _ k K rfl hk (by
   rcases hend with z | ⟨e,z1,z2,z3,_⟩
   ·exact .inl z.1
   ·exact .inr ⟨e,z1,z2,z3⟩)
  have hpre: ∀ b,k<=b->b<c-> ∃ i,(tbl m mv led (L.map (·.1))).slot (pr m h b).j= .live i/\(((L.map (·.2)).toArray[i]?.map (·.1)).getD 0)≠h:=fun b b1 b2=>by
   obtain⟨e,e1,e2,_⟩:=hb b (by omega)
   obtain⟨i,i1,i2⟩:=tR (mv:=mv) (led:=led) hT e1
   refine⟨i,by rw [e2];exact i1,fun z=>c4 b b1 b2 (.inr ⟨e,e1,e2, ?_⟩)⟩
   simpa [i2] using z
  have hfl:c<k+10 * SetTable.turns m:=by omega
  rcases c3 with c3 | ⟨e,e1,e2,e3⟩
  ·-- empty
   have ce:c=K:=by
    refine Classical.byContradiction fun z=> ?_
    obtain⟨e,e1,e2,_⟩:=hb c (by omega)
    exact c3 (by rw [e2];exact ao.mpr ⟨e,e1,rfl⟩)
   subst ce
   have hp:(tbl m mv led (L.map (·.1))).probe (fun i=>((L.map (·.2)).toArray[i]?.map (·.1)).getD 0) h (pr m h k)=some (.empty (pr m h c).j none):=aJp c1 hfl hpre (aBg c3)
   erw [hp]
   dsimp only
   rcases hend with z | ⟨e,z1,z2,_⟩
   ·exact ae z.2
   ·exact absurd (by rw [z2];exact ao.mpr ⟨e,z1,rfl⟩) c3
  ·obtain⟨i,i1,i2⟩:=tR (mv:=mv) (led:=led) hT e1
   have hi:(L.map (·.2)).toArray[i]? =some e.2:=by simp [i2]
   have hp:(tbl m mv led (L.map (·.1))).probe (fun i=>((L.map (·.2)).toArray[i]?.map (·.1)).getD 0) h (pr m h k)=some (.candidate (pr m h c).j i (pr m h (c+1))):=aJq c1 hfl hpre (by rw [e2];exact i1) (by rw [hi];exact e3)
   erw [hp]
   dsimp only
   have cR:wpAny (model prog w) A (do
     let some (_,y):=(L.map (·.2)).toArray[i]? | unsupported "internal:set-entry"
     let equal<-holding [y] (eqBool y (.ref x))
     let (es',_,t')<-setState a
     if true&&equal then return .there none
     let some aW:=t'.sameMemory (tbl m mv led (L.map (·.1))).moves (tbl m mv led (L.map (·.1))).mask | unsupported "set.changed-during-lookup:is-the-new-block-at-the-old-address"
     let still<-match(if aW then t'.slot (pr m h c).j else .empty) with
      | .live i'=>match es'[i']? with
       | some (_,y')=>do pure (if<-isSame y' y then some i' else none)
       | none=>pure none
      | _=>pure none
     match still with
     | none=>rule "set.search.anew";setSearchFrom a (.ref x) h true fu none
     | some i'=>if equal then return .there (some i') else setSearchFrom a (.ref x) h true fu (some (pr m h (c+1)))) Q E s:=by
    rw [hi]
    obtain⟨ep',eh,ev⟩:=e
    dsimp only
    refine aa (wpAny_holding (hEq _ e1 _ _ _ _ ?_))
    refine aa (wpAny_setState_of ho rfl (lZ hl) ?_)
    dsimp only
    cases hq:eqf (ep',eh,ev) with
    | true=>
     simp only [Bool.and_self,↓reduceIte]
     have ce:c=K:=by
      refine Classical.byContradiction fun z=> ?_
      obtain⟨e',e1',e2',e3'⟩:=hb c (by omega)
      have:e'=(ep',eh,ev):=by
       obtain⟨j,j1,j2⟩:=tR (mv:=mv) (led:=led) hT e1'
       rw [<-e2',e2,i1] at j1
       cases j1
       exact Option.some.inj (j2.symm.trans i2)
      subst this
      rw [e3' e3] at hq;cases hq
     subst ce
     rcases hend with z | ⟨e',z1,z2,z3,z4,z5⟩
     ·exact absurd (by rw [e2];exact ao.mpr ⟨_,e1,rfl⟩) z.1
     ·exact ae z5
    | false=>
     simp only [Bool.and_false,aw,↓reduceIte]
     have hsm:(tbl m mv led (L.map (·.1))).sameMemory (tbl m mv led (L.map (·.1))).moves (tbl m mv led (L.map (·.1))).mask=some true:=by
      unfold SetTable.sameMemory
      rw [if_pos (by simp)]
     rw [hsm]
     simp only [↓reduceIte]
     rw [e2,i1]
     dsimp only
     rw [hi]
     dsimp only
     obtain⟨b,rfl⟩:=hR _ e1
     refine aa (wpAny_isSame_ref_self ?_)
     simp only [↓reduceIte]
     refine aa (ae ?_)
     dsimp only
     have ck:c<K:=by
      refine Nat.lt_of_le_of_ne c2 fun z=> ?_
      subst z
      rcases hend with z | ⟨e',z1,z2,z3,z4,z5⟩
      ·exact z.1 (by rw [e2];exact ao.mpr ⟨_,e1,rfl⟩)
      ·have:e'=(ep',eh,Value.ref b):=by
        obtain⟨j,j1,j2⟩:=tR (mv:=mv) (led:=led) hT z1
        rw [<-z2,e2,i1] at j1
        cases j1
        exact Option.some.inj (j2.symm.trans i2)
       subst this
       rw [z4] at hq;cases hq
     exact ih (K - (c+1)) (by omega) (c+1) fu K _ rfl (by omega) (by omega) hK rfl hb hend
   cases led with
   | true=>exact cR
   | false=>
    have hled:(tbl m mv false (L.map (·.1))).led=false:=rfl
    rw [hled]
    simp only [Bool.not_false,↓reduceIte]
    refine aa (hS rfl _ _ (fun y hy=> ?_) ?_)
    ·obtain⟨q,q1,q2⟩:=ao.mp hy
     have:q∈L.map (·.2):=by
      have:=(Array.mem_toList_iff.mp q1)
      have:=(Array.mem_filter.mp this).1
      simpa using this
     obtain⟨e',m1,m2⟩:=ao.mp this
     exact⟨e',m1,by rw [m2,q2]⟩
    ·simp only [aw,↓reduceIte]
     exact cR
end
def Ms (m:Nat):Prop:=m=7\/m=31\/m=127
theorem Ms.cyc {m:Nat} (h:Ms m):Cyc m:=by
 rcases h with rfl | rfl | rfl
 ·exact aN1
 ·exact aLw
 ·exact aJn
theorem Ms.odd {m:Nat} (h:Ms m):m % 2=1:=by rcases h with rfl | rfl | rfl<;>rfl
def Key (h:Heap) (d:PyData) (v:Value):Prop:=(∃ b,v= .ref b)/\hk d=true/\d.depth<=8/\ ∃ as,Reads h v d as
section
variable {prog:Program} {w:World} {A:Around} {E:Value->Shared->Prop} {s:Shared}
theorem aFu {x:Addr} {d:PyData} (hx:Key s.heap d (.ref x)) (l:List Value) (Q:Bool->Shared->Prop) (hl: ∀ y∈l, ∃ d',Key s.heap d' y) (h:Q false s):wpAny (model prog w) A (searchCouldBeSeen (.ref x) l) Q E s:=by
 obtain⟨_,hd,hn,as,hr⟩:=hx
 unfold searchCouldBeSeen
 refine aa ?_
 refine wpAny_forIn_list _ (fun cR r s'=>r.1=none/\s'=s/\ ∀ y∈cR, ∃ d',Key s.heap d' y) _ ?_ ?_ _ _ ⟨rfl,rfl,hl⟩
 ·rintro y cR r s' ⟨hr',rfl,hall⟩
  obtain⟨d',⟨b,rfl⟩,hd',hn',as',r2⟩:=hall y (.head _)
  have hall': ∀ y∈cR, ∃ d',Key s'.heap d' y:=fun y hy=>hall y (.tail _ hy)
  dsimp only [carriedByValue]
  simp only [Bool.and_self,Bool.or_false]
  split
  ·exact ae ⟨rfl,rfl,hall'⟩
  ·refine aa (tP 8 d _ as _ _ _ _ hd hn hr ?_)
   simp only [Bool.not_true,aw,if_false]
   refine aa (tP 8 d' _ as' _ _ _ _ hd' hn' r2 ?_)
   simp only [Bool.not_true,aw,if_false]
   refine aa (tQ 8 d _ as _ _ _ _ hd hn hr ?_)
   simp only [aw,if_false]
   refine aa (tQ 8 d' _ as' _ _ _ _ hd' hn' r2 ?_)
   simp only [aw,if_false]
   exact ae ⟨rfl,rfl,hall'⟩
 ·rintro⟨r1,r2⟩ s' ⟨hr',rfl,_⟩
  simp only at hr'
  subst hr'
  exact ae h
noncomputable def gZ (L:Ln) (j:Nat) (h:Int) (v:Value):Ln:=L.take (SetTable.below (L.map (·.1)).toArray j)++(j,h,v)::L.drop (SetTable.below (L.map (·.1)).toArray j)
theorem l4 (L:Ln) (j:Nat) (h:Int) (v:Value):(gZ L j h v).Perm ((j,h,v)::L):=List.perm_middle.trans (List.Perm.of_eq (by rw [List.take_append_drop]))
theorem aLy {L:Ln} {m mv j:Nat} {led:Bool} (h:Int) (v:Value):(tbl m mv led (L.map (·.1))).put j=(tbl m mv led ((gZ L j h v).map (·.1)),SetTable.below (L.map (·.1)).toArray j):=by
 unfold SetTable.put
 refine Prod.ext ?_ rfl
 show({ tbl m mv led (L.map (·.1)) with place:=SetTable.insertAt (L.map (·.1)).toArray (SetTable.below (L.map (·.1)).toArray j) j,dummies:= #[] }:SetTable)=_
 have e:SetTable.insertAt (L.map (·.1)).toArray (SetTable.below (L.map (·.1)).toArray j) j=((gZ L j h v).map (·.1)).toArray:=by
  apply Array.toList_inj.mp
  rw [SetTable.toList_insertAt]
  simp [gZ]
 rw [e]
 rfl
theorem aLz {L:Ln} {j:Nat} (h:Int) (v:Value):SetTable.insertAt (L.map (·.2)).toArray (SetTable.below (L.map (·.1)).toArray j) (h,v)=((gZ L j h v).map (·.2)).toArray:=by
 apply Array.toList_inj.mp
 rw [SetTable.toList_insertAt]
 simp [gZ]
theorem TI.add {L:Ln} {m K:Nat} {h:Int} (hT:TI m L) (v:Value) (h1:K<10 * SetTable.turns m) (h2:(pr m h K).j∉L.map (·.1)) (h3: ∀ b,b<K->(pr m h b).j∈L.map (·.1)):TI m (gZ L (pr m h K).j h v):=by
 have pe:=l4 L (pr m h K).j h v
 have sub: ∀ y∈L.map (·.1),y∈(gZ L (pr m h K).j h v).map (·.1):=fun y hy=>(pe.map (·.1)).mem_iff.mpr (.tail _ hy)
 refine⟨?_,fun x hx=> ?_,fun x hx=> ?_⟩
 ·obtain⟨qs,e,r,_⟩:=yH hT.up h2
  have:(gZ L (pr m h K).j h v).map (·.1)=qs:=by
   have e2:SetTable.insertAt (L.map (·.1)).toArray (SetTable.below (L.map (·.1)).toArray (pr m h K).j) (pr m h K).j=((gZ L (pr m h K).j h v).map (·.1)).toArray:=by
    apply Array.toList_inj.mp
    rw [SetTable.toList_insertAt]
    simp [gZ]
   have:=e2.symm.trans e
   simpa using this
  rw [this];exact r
 ·rcases aq.mp (pe.mem_iff.mp hx) with rfl | hx
  ·exact aBh h K
  ·exact hT.le x hx
 ·rcases aq.mp (pe.mem_iff.mp hx) with rfl | hx
  ·exact⟨K,h1,rfl,fun b hb=>sub _ (h3 b hb)⟩
  ·exact(hT.rch x hx).mono sub
theorem aFv {a x:Addr} {L:Ln} {m mv ep:Nat} {led:Bool} {d:PyData} {Q:Bool->Shared->Prop} (hu:A.units+8<cLine) (ho:s.heap.get? a=some (aJs L m mv ep led)) (hT:TI m L) (hm:Ms m) (hl:L.length * 5<m * 3) (h76:L.length<76)
  (hx:Key s.heap d (.ref x)) (hE: ∀ e∈L, ∃ d',Key s.heap d' e.2.2/\e.2.1=hsh d')
  (old:(∃ e∈L, ∃ d',Key s.heap d' e.2.2/\PyData.eqv d' d=true)->Q false s)
  (new:(∀ e∈L, ∀ d',Key s.heap d' e.2.2->PyData.eqv d' d=false)-> ∀ (h':Heap) (L':Ln) (m' mv' ep':Nat),Heap.SameBut a s.heap h'->h'.get? a=some (aJs L' m' mv' ep' led)->TI m' L'->Ms m'->L'.length * 5<m' * 3->(L'.map (·.2)).Perm ((hsh d, .ref x)::L.map (·.2))->Q true { s with heap:=h' }):
  wpAny (model prog w) A (setAddHashed a (.ref x) (hsh d)) Q E s:=by
 have hlm:L.length<=m:=by rcases hm with rfl | rfl | rfl<;>omega
 have hbs:byScan (.ref x) (L.map (·.2)).toArray=false:=rfl
 unfold setAddHashed setAddHashedIn
 refine wpAny_holding (aa (wpAny_setState_of ho rfl (lZ hlm) ?_))
 dsimp only
 rw [hbs]
 simp only [aw,↓reduceIte]
 obtain⟨_,hd,hn,as,hr⟩:=id hx
 -- what is compared
 have lay: ∀ {d:PyData},hk d=true->d.canLay0=true:=by
  intro d
  exact yM d
 obtain⟨eqf,hef⟩: ∃ eqf:Nat×Int×Value->Bool, ∀ e,eqf e=true↔ ∃ d',Key s.heap d' e.2.2/\PyData.eqv d' d=true:=⟨fun e=> @decide _ (Classical.propDecidable (∃ d',Key s.heap d' e.2.2/\PyData.eqv d' d=true)),fun e=>by simp⟩
 have uniq: ∀ {v:Value} {d1 d2:PyData},Key s.heap d1 v->Key s.heap d2 v->d1=d2:=fun {v d1 d2} k1 k2=>by
  obtain⟨_,a1,_,b1,c1⟩:=k1
  obtain⟨_,a2,_,b2,c2⟩:=k2
  exact SeqAt.Reads.unique d1 d2 v b1 b2 (lay a1) c1 c2
 have hEq: ∀ e∈L,SeqAt.EqAt A s e.2.2 (.ref x) (eqf e):=fun e he=>by
  obtain⟨d',k',_⟩:=hE e he
  obtain⟨_,a2,a3,b2,c2⟩:=id k'
  have:=SeqAt.eqAt_reads d' d A s e.2.2 (.ref x) b2 as c2 hr (lay a2) (lay hd) (by omega)
  have ee:eqf e=PyData.eqv d' d:=by
   cases z:PyData.eqv d' d with
   | true=>exact(hef e).mpr ⟨d',k',z⟩
   | false=>
    refine Bool.eq_false_iff.mpr fun t=> ?_
    obtain⟨d2,k2,z2⟩:=(hef e).mp t
    rw [uniq k2 k',z] at z2;cases z2
  rw [ee];exact this
 have hS:led=false-> ∀ (l:List Value) (Q':Bool->Shared->Prop),(∀ y∈l, ∃ e∈L,e.2.2=y)->Q' false s->wpAny (model prog w) A (searchCouldBeSeen (.ref x) l) Q' E s:=fun _ l Q' hl' hq'=>aFu hx l Q' (fun y hy=>by
  obtain⟨e,he,rfl⟩:=hl' y hy
  obtain⟨d',k',_⟩:=hE e he
  exact⟨d',k'⟩) hq'
 have hRf: ∀ e∈L, ∃ b,e.2.2= .ref b:=fun e he=>by
  obtain⟨d',k',_⟩:=hE e he
  exact k'.1
 unfold setSearch
 by_cases hin: ∃ e∈L, ∃ d',Key s.heap d' e.2.2/\PyData.eqv d' d=true
 ·-- it is there
  obtain⟨e,he,d',k',z⟩:=id hin
  have eh:e.2.1=hsh d:=by
   obtain⟨d2,k2,e2⟩:=hE e he
   rw [e2,uniq k2 k',yO d' d k'.2.1 hd z]
  obtain⟨K0,r1,r2,r3⟩:=hT.rch e he
  rw [eh] at r2 r3
  obtain⟨c,c1,c2,c3,c4⟩:=jN (P:=fun b=> ∃ e∈L,(pr m (hsh d) b).j=e.1/\e.2.1=hsh d/\eqf e=true) _ 0 K0 rfl (bp _) ⟨e,he,r2,eh,(hef e).mpr ⟨d',k',z⟩⟩
  refine aa (pI ho hT hlm hm.odd hEq hRf hS _ 0 100000 c none rfl (bp _) (by have:SetTable.turns m=m+15:=rfl;rcases hm with rfl | rfl | rfl<;>omega) (by omega) rfl (fun b hb=> ?_) (.inr ?_))
  ·obtain⟨e',m1,m2⟩:=ao.mp (r3 b (by omega))
   refine⟨e',m1,m2.symm,fun q=> ?_⟩
   cases ef:eqf e' with
   | false=>rfl
   | true=>exact absurd ⟨e',m1,m2.symm,q,ef⟩ (c4 b (bp _) hb)
  ·obtain⟨e',m1,m2,m3,m4⟩:=c3
   exact⟨e',m1,m2,m3,m4,ae (old hin)⟩
 ·-- it is new
  obtain⟨K,k1,k2,k3⟩:=yK hm.cyc (hsh d) (ps:=L.map (·.1)) (by simpa using hlm)
  have hno: ∀ e∈L, ∀ d',Key s.heap d' e.2.2->PyData.eqv d' d=false:=fun e he d' k'=>by
   cases z:PyData.eqv d' d with
   | false=>rfl
   | true=>exact absurd ⟨e,he,d',k',z⟩ hin
  refine aa (pI ho hT hlm hm.odd hEq hRf hS _ 0 100000 K none rfl (bp _) (by have:SetTable.turns m=m+15:=rfl;rcases hm with rfl | rfl | rfl<;>omega) k1 rfl (fun b hb=> ?_) (.inl ⟨k2, ?_⟩))
  ·obtain⟨e',m1,m2⟩:=ao.mp (k3 b hb)
   refine⟨e',m1,m2.symm,fun q=>Bool.eq_false_iff.mpr fun t=> ?_⟩
   obtain⟨d',k',z⟩:=(hef e').mp t
   rw [hno e' m1 d' k'] at z;cases z
  ·dsimp only
   refine aa (wpAny_setState_of ho rfl (lZ hlm) ?_)
   dsimp only
   rw [aLy (hsh d) (.ref x)]
   dsimp only
   have hp:(tbl m mv led ((gZ L (pr m (hsh d) K).j (hsh d) (.ref x)).map (·.1))).plain=true:=rfl
   rw [hp]
   simp only [↓reduceIte]
   refine aa (aBi 8 d _ as _ _ _ _ hd hn hr ?_)
   simp only [↓reduceIte]
   rw [aLz]
   have T1:=hT.add (.ref x) k1 k2 k3
   have pe:=l4 L (pr m (hsh d) K).j (hsh d) (.ref x)
   have len1:(gZ L (pr m (hsh d) K).j (hsh d) (.ref x)).length=L.length+1:=by rw [pe.length_eq];rfl
   have pe2:=pe.map (·.2)
   generalize gZ L (pr m (hsh d) K).j (hsh d) (.ref x)=L1 at T1 pe len1 pe2 ⊢
   have hsz1:((L1.map (·.2)).toArray).size<scanBound:=by simp [len1,scanBound];omega
   refine aa (pH ho hsz1 fun h1 sb1 ho1=> ?_)
   have hfull:(tbl m mv led (L1.map (·.1))).tooFull=decide ((L.length+1) * 5≥m * 3):=by
    unfold SetTable.tooFull SetTable.fill
    simp [tbl,len1]
   rw [hfull]
   by_cases hf:(L.length+1) * 5≥m * 3
   ·rw [decide_eq_true hf]
    simp only [Bool.not_false,Bool.and_self,↓reduceIte]
    obtain⟨m',hm',hsz,hsl,hcap⟩: ∃ m',Ms m'/\SetTable.sizeAbove (SetTable.grown ((L.map (·.2)).toArray.size+1)) - 1=m'/\SetTable.sizeAbove (SetTable.grown ((L.map (·.2)).toArray.size+1))<=128/\(L.length+1) * 5<m' * 3:=by
     have e0:(L.map (·.2)).toArray.size=L.length:=by simp
     rw [e0]
     rcases hm with rfl | rfl | rfl
     ·have:L.length=4:=by omega
      rw [this]
      exact⟨31, .inr (.inl rfl),by decide,by decide,by decide⟩
     ·have:L.length=18:=by omega
      rw [this]
      exact⟨127, .inr (.inr rfl),by decide,by decide,by decide⟩
     ·omega
    have hlm1:L1.length<=m:=by rw [len1];rcases hm with rfl | rfl | rfl<;>omega
    unfold setRelay
    have ho1':h1.get? a=some (aJs L1 m mv (ep+1) led):=ho1
    refine aa (aa (wpAny_setState_of ho1' rfl (lZ hlm1) ?_))
    dsimp only
    rw [if_neg (by rw [sizeLine_eq];omega)]
    have hrl:(tbl m mv led (L1.map (·.1))).relaid ((L1.map (·.2)).toArray.map (·.1)) (SetTable.grown ((L.map (·.2)).toArray.size+1))=SetTable.laid m' 0 ((tbl m mv led (L1.map (·.1))).movedTo m') led true ((L1.map (·.2)).map (·.1)).toArray:=by
     unfold SetTable.relaid
     rw [hsz,List.map_toArray]
     rfl
    obtain⟨L2,order,g1,g2,g3,g4⟩:=aFq (m:=m') (f:=0) (mv:=(tbl m mv led (L1.map (·.1))).movedTo m') (led:=led) hm'.cyc (es:=L1.map (·.2)) (by rw [am,len1];rcases hm' with rfl | rfl | rfl<;>omega)
    rw [hrl,g1]
    have aEp:L2.length=L.length+1:=by have:=g4.length_eq;simp [len1] at this;exact this
    have hz2:((L2.map (·.2)).toArray).size=((L1.map (·.2)).toArray).size:=by simp [aEp,len1]
    refine aa ?_
    show wpAny _ _ (if((order.filterMap ((L1.map (·.2)).toArray[·]?)).size != ((L1.map (·.2)).toArray).size)=true then _ else _) _ _ _
    rw [g2,hz2]
    simp only [bne_self_eq_false,aw,↓reduceIte]
    refine ae ?_
    dsimp only
    refine pH (s:={ s with heap:=h1 }) ho1 (by rw [hz2];exact hsz1) fun h2 sb2 ho2=>ae ?_
    exact new hno h2 L2 m' _ _ (sb1.trans sb2) ho2 g3 hm' (by rw [aEp];exact hcap) (g4.trans pe2)
   ·rw [decide_eq_false hf]
    simp only [Bool.not_false,Bool.and_false,aw,↓reduceIte]
    exact ae (new hno h1 L1 m mv _ sb1 ho1 T1 hm (by rw [len1];omega) pe2)
end
mutual
theorem g9: ∀ {x y:D},aW x y=true->(eX x).length=(eX y).length
 | .int _,y,h=>by cases y<;>simp [aW] at h;rfl
 | .tup xs,y,h=>by
  cases y<;>simp [aW] at h
  simp only [eX];exact pJ h
 | .non,_,h=>by simp [aW] at h
 | .bl _,_,h=>by simp [aW] at h
 | .str _,_,h=>by simp [aW] at h
 | .lst _,_,h=>by simp [aW] at h
 | .exc _,_,h=>by simp [aW] at h
 | .fn _,_,h=>by simp [aW] at h
theorem pJ: ∀ {xs ys:List D},aY xs ys=true->(cJ xs).length=(cJ ys).length
 | [],[],_=>rfl
 | [],_::_,h=>by simp [aY] at h
 | _::_,[],h=>by simp [aY] at h
 | x::xs,y::ys,h=>by
  simp only [aY,ar] at h
  simp only [cJ,bj,g9 h.1,pJ h.2]
end
mutual
theorem tU: ∀ {x y:D},aW x y=true->eX x=eX y->x=y
 | .int _,y,h,e=>by cases y<;>simp [aW] at h;simpa [eX] using e
 | .tup xs,y,h,e=>by
  cases y<;>simp [aW] at h
  simp only [eX] at e
  rw [pK h e]
 | .non,_,h,_=>by simp [aW] at h
 | .bl _,_,h,_=>by simp [aW] at h
 | .str _,_,h,_=>by simp [aW] at h
 | .lst _,_,h,_=>by simp [aW] at h
 | .exc _,_,h,_=>by simp [aW] at h
 | .fn _,_,h,_=>by simp [aW] at h
theorem pK: ∀ {xs ys:List D},aY xs ys=true->cJ xs=cJ ys->xs=ys
 | [],[],_,_=>rfl
 | [],_::_,h,_=>by simp [aY] at h
 | _::_,[],h,_=>by simp [aY] at h
 | x::xs,y::ys,h,e=>by
  simp only [aY,ar] at h
  simp only [cJ] at e
  obtain⟨e1,e2⟩:=List.append_inj e (g9 h.1)
  rw [tU h.1 e1,pK h.2 e2]
end
mutual
theorem nF: ∀ {x y:D},aW x y=true->deq x y=(eX x==eX y)
 | .int i,y,h=>by
  cases y<;>simp [aW] at h
  simp [deq,eX]
 | .tup xs,y,h=>by
  cases y<;>simp [aW] at h
  simp only [deq,eX];exact pL h
 | .non,_,h=>by simp [aW] at h
 | .bl _,_,h=>by simp [aW] at h
 | .str _,_,h=>by simp [aW] at h
 | .lst _,_,h=>by simp [aW] at h
 | .exc _,_,h=>by simp [aW] at h
 | .fn _,_,h=>by simp [aW] at h
theorem pL: ∀ {xs ys:List D},aY xs ys=true->uV xs ys=(cJ xs==cJ ys)
 | [],[],_=>rfl
 | [],_::_,h=>by simp [aY] at h
 | _::_,[],h=>by simp [aY] at h
 | x::xs,y::ys,h=>by
  simp only [aY,ar] at h
  simp only [uV,cJ,nF h.1,pL h.2]
  rw [Bool.eq_iff_iff]
  simp only [ar,beq_iff_eq]
  constructor
  ·rintro⟨a,b⟩;rw [a,b]
  ·intro e;exact List.append_inj e (g9 h.1)
end
mutual
theorem kJ: ∀ {x:D},aW x x=true->hk (bJ x)=true
 | .int _,_=>by simp [bJ,hk]
 | .tup xs,h=>by
  simp only [bJ,hk];exact tV (by simpa [aW] using h)
 | .non,h=>by simp [aW] at h
 | .bl _,h=>by simp [aW] at h
 | .str _,h=>by simp [aW] at h
 | .lst _,h=>by simp [aW] at h
 | .exc _,h=>by simp [aW] at h
 | .fn _,h=>by simp [aW] at h
theorem tV: ∀ {xs:List D},aY xs xs=true->hks (aV xs)=true
 | [],_=>by simp [aV,hks]
 | x::xs,h=>by
  simp only [aY,ar] at h
  simp [aV,hks,kJ h.1,tV h.2]
end
mutual
theorem b5: ∀ {x:D},aW x x=true->plain x=true
 | .int _,_=>by simp [plain]
 | .tup xs,h=>by
  simp only [plain];exact kM (by simpa [aW] using h)
 | .non,h=>by simp [aW] at h
 | .bl _,h=>by simp [aW] at h
 | .str _,h=>by simp [aW] at h
 | .lst _,h=>by simp [aW] at h
 | .exc _,h=>by simp [aW] at h
 | .fn _,h=>by simp [aW] at h
theorem kM: ∀ {xs:List D},aY xs xs=true->aS xs=true
 | [],_=>by simp [aS]
 | x::xs,h=>by
  simp only [aY,ar] at h
  simp [aS,b5 h.1,kM h.2]
end
mutual
theorem tW: ∀ {x y:D},aW x y=true->aW y y=true/\aW x x=true/\dep y=dep x
 | .int _,y,h=>by cases y<;>simp [aW] at h;simp [aW,dep]
 | .tup xs,y,h=>by
  cases y<;>simp [aW] at h
  simp only [aW,dep]
  have:=yP h
  exact⟨this.1,this.2.1,by rw [this.2.2]⟩
 | .non,_,h=>by simp [aW] at h
 | .bl _,_,h=>by simp [aW] at h
 | .str _,_,h=>by simp [aW] at h
 | .lst _,_,h=>by simp [aW] at h
 | .exc _,_,h=>by simp [aW] at h
 | .fn _,_,h=>by simp [aW] at h
theorem yP: ∀ {xs ys:List D},aY xs ys=true->aY ys ys=true/\aY xs xs=true/\iI ys=iI xs
 | [],[],_=>⟨rfl,rfl,rfl⟩
 | [],_::_,h=>by simp [aY] at h
 | _::_,[],h=>by simp [aY] at h
 | x::xs,y::ys,h=>by
  simp only [aY,ar] at h
  have a:=tW h.1
  have b:=yP h.2
  simp only [aY,iI,a.1,b.1,a.2.1,b.2.1,a.2.2,b.2.2,Bool.and_self,and_self]
end
mutual
theorem yQ: ∀ {x y z:D},aW x y=true->aW x z=true->aW y z=true
 | .int _,y,z,h,k=>by cases y<;>simp [aW] at h;cases z<;>simp [aW] at k;rfl
 | .tup xs,y,z,h,k=>by
  cases y<;>simp [aW] at h
  cases z<;>simp [aW] at k
  simp only [aW];exact tY h k
 | .non,_,_,h,_=>by simp [aW] at h
 | .bl _,_,_,h,_=>by simp [aW] at h
 | .str _,_,_,h,_=>by simp [aW] at h
 | .lst _,_,_,h,_=>by simp [aW] at h
 | .exc _,_,_,h,_=>by simp [aW] at h
 | .fn _,_,_,h,_=>by simp [aW] at h
theorem tY: ∀ {xs ys zs:List D},aY xs ys=true->aY xs zs=true->aY ys zs=true
 | [],[],[],_,_=>rfl
 | [],_::_,_,h,_=>by simp [aY] at h
 | [],[],_::_,_,h=>by simp [aY] at h
 | _::_,[],_,h,_=>by simp [aY] at h
 | _::_,_::_,[],_,h=>by simp [aY] at h
 | x::xs,y::ys,z::zs,h,k=>by
  simp only [aY,ar] at h k ⊢
  exact⟨yQ h.1 k.1,tY h.2 k.2⟩
end
theorem nG: ∀ {a b:List Int} {r t:List Int},a.length=b.length->fA (a++r) (b++t)=if a=b then fA r t else fA a b
 | [],[],_,_,_=>by simp
 | [],_::_,_,_,h=>by simp at h
 | _::_,[],_,_,h=>by simp at h
 | x::a,y::b,r,t,h=>by
  have ih:=nG (a:=a) (b:=b) (r:=r) (t:=t) (by simpa using h)
  simp only [List.cons_append,fA]
  by_cases e:x=y
  ·subst e
   simp only [↓reduceIte,ih,List.cons.injEq,true_and]
  ·simp [e]
theorem l6: ∀ {xs ys:List D},aY xs ys=true->xs.length=ys.length
 | [],[],_=>rfl
 | [],_::_,h=>by simp [aY] at h
 | _::_,[],h=>by simp [aY] at h
 | x::xs,y::ys,h=>by
  simp only [aY,ar] at h
  simp [l6 h.2]
section
variable {prog:Program} {w:World}
theorem aL0: ∀ (n:Nat) (x y:D) (u v:Value) (as bs:List Addr) (A:Around) (s:Shared) (Q:Value->Shared->Prop) (E:Value->Shared->Prop),aW x y=true->dep x<=n->Reads s.heap u (bJ x) as->Reads s.heap v (bJ y) bs->A.units+n<cLine->Q (.bool (ltD x y)) s->wpAny (model prog w) A (richCompare .Lt u v) Q E s:=by
 intro n
 have hint: ∀ (i j:Int) (u v:Value) (as bs:List Addr) (A:Around) (s:Shared) (Q:Value->Shared->Prop) (E:Value->Shared->Prop),Reads s.heap u (bJ (.int i)) as->Reads s.heap v (bJ (.int j)) bs->Q (.bool (ltD (.int i) (.int j))) s->wpAny (model prog w) A (richCompare .Lt u v) Q E s:=by
  intro i j u v as bs A s Q E r1 r2 h
  simp only [bJ] at r1 r2
  cases r1
  cases r2
  have e:ltD (.int i) (.int j)=decide (i<j):=by
   unfold ltD eX fA
   by_cases z:i=j
   ·subst z;simp [fA]
   ·simp [z]
  rw [e] at h
  exact wpAny_lt_int h
 induction n with
 | zero=>
  intro x y u v as bs A s Q E hs hn r1 r2 hu h
  cases x<;>try (simp [aW] at hs;done)
  ·cases y<;>simp [aW] at hs
   exact hint _ _ u v as bs A s Q E r1 r2 h
  ·simp [dep] at hn
 | succ n ih=>
  intro x y u v as bs A s Q E hs hn r1 r2 hu h
  cases x<;>try (simp [aW] at hs;done)
  ·cases y<;>simp [aW] at hs
   exact hint _ _ u v as bs A s Q E r1 r2 h
  ·rename_i xs
   cases y<;>simp [aW] at hs
   rename_i ys
   simp only [dep] at hn
   have h':Q (.bool (fA (cJ xs) (cJ ys))) s:=by
    have:ltD (.tup xs) (.tup ys)=fA (cJ xs) (cJ ys):=by simp [ltD,eX]
    rw [<-this];exact h
   simp only [bJ] at r1 r2
   cases r1 with
   | @tuple a oa us na _ as1 ho1 hc1 hd1 ra=>
    cases r2 with
    | @tuple b ob vs nb _ bs1 ho2 hc2 hd2 rb=>
     have hT1:s.TypeIs (.ref a) "tuple":=⟨oa,ho1,hc1⟩
     have hT2:s.TypeIs (.ref b) "tuple":=⟨ob,ho2,hc2⟩
     refine wpAny_richCompare_same_room (op:= .Lt) hT1 hT2 PySem.F.slot_tuple_lt (wpAny_call_entry PySem.F.slot_tuple_lt hT1 PySem.F.entry_tuple_lt ?_ (PySem.F.args_tuple_lt_2 _ _)) (by omega)
     show wpAny _ _ (isInstance (.ref b) (.type "tuple") >>= _) _ _ s
     refine aa (wpAny_isInstance hT2 isSubtype_tuple_tuple ?_)
     simp only [Bool.not_true,aw,if_false]
     refine aa (wpAny_tupleItemsOf ho1 hd1 ?_)
     refine aa (wpAny_tupleItemsOf ho2 hd2 ?_)
     refine aa ?_
     refine wpAny_forIn_list _
      (fun cR r s'=>r.1=none/\s'=s/\ ∃ xs' ys' us' vs' as' bs',cR=List.zip us' vs'/\ReadsAll s.heap us' (aV xs') as'/\ReadsAll s.heap vs' (aV ys') bs'/\aY xs' ys'=true/\iI xs'<=n/\fA (cJ xs') (cJ ys')=fA (cJ xs) (cJ ys))
      _ ?_ ?_ _ _ ⟨rfl,rfl,xs,ys,us.toList,vs.toList,as,bs,rfl,ra,rb,hs,by omega,rfl⟩
     ·rintro⟨p,q⟩ cR r s' ⟨hr,rfl,xs',ys',us',vs',as',bs',hz,ra',rb',hs',hn',hl'⟩
      cases xs' with
      | nil=>
       simp only [aV] at ra'
       cases ra'
       simp at hz
      | cons x1 xs1=>
       cases ys' with
       | nil=>simp [aY] at hs'
       | cons y1 ys1=>
        simp only [aV] at ra' rb'
        cases ra' with
        | @cons u1 us1 _ _ a1 a2 ru ra2=>
         cases rb' with
         | @cons v1 vs1 _ _ b1 b2 rv rb2=>
          simp only [List.zip_cons_cons,List.cons.injEq,Prod.mk.injEq] at hz
          obtain⟨⟨rfl,rfl⟩,rfl⟩:=hz
          simp only [aY,ar] at hs'
          simp only [iI] at hn'
          obtain⟨s1,s2,s3⟩:=tW hs'.1
          have p1:=b5 s2
          have p2:=b5 s1
          have heq:=SeqAt.eqAt_reads (bJ x1) (bJ y1) A.in1 s' p q a1 b1 ru rv (eZ p1) (eZ p2) (by rw [e9,e9];have:=A.in1_units;omega)
          rw [fE x1 y1 p1 p2,nF hs'.1] at heq
          refine aa (heq prog w _ _ ?_)
          simp only [cJ] at hl'
          rw [nG (g9 hs'.1)] at hl'
          by_cases hk:eX x1=eX y1
          ·rw [if_pos hk] at hl'
           rw [hk]
           simp only [beq_self_eq_true,Bool.not_true,aw,if_false]
           exact ae ⟨rfl,rfl,xs1,ys1,us1,vs1,a2,b2,rfl,ra2,rb2,hs'.2,by omega,hl'⟩
          ·rw [if_neg hk] at hl'
           have e:(eX x1==eX y1)=false:=by simpa using hk
           rw [e]
           simp only [Bool.not_false,if_true]
           refine aa (wpAny_rule (aa (ih x1 y1 p q a1 b1 A.in1 s' _ _ hs'.1 (by omega) ru rv (by have:=A.in1_units;omega) ?_)))
           refine aa (ae (ae (ae ?_)))
           have:ltD x1 y1=fA (cJ xs) (cJ ys):=hl'
           rw [this]
           exact⟨_,rfl,(fun e=>nomatch e),h'⟩
     ·rintro⟨r1,r2⟩ s' ⟨hr,rfl,xs',ys',us',vs',as',bs',hz,ra',rb',hs',hn',hl'⟩
      simp only at hr
      subst hr
      refine ae ?_
      cases xs' with
      | cons x1 xs1=>
       cases ys' with
       | nil=>simp [aY] at hs'
       | cons y1 ys1=>
        simp only [aV] at ra' rb'
        cases ra'
        cases rb'
        simp at hz
      | nil=>
       cases ys' with
       | cons y1 ys1=>simp [aY] at hs'
       | nil=>
        have hsz:us.size=vs.size:=by
         have l1:=SeqAt.ReadsAll.length _ _ _ ra
         have l2:=SeqAt.ReadsAll.length _ _ _ rb
         have:=l6 hs
         have e1: ∀ l:List D,(aV l).length=l.length:=fun l=>by induction l with | nil=>rfl | cons a l ih=>simp [aV,ih]
         rw [e1] at l1 l2
         have q:us.toList.length=vs.toList.length:=by rw [l1,l2];exact this
         simpa using q
        have e:fA (cJ xs) (cJ ys)=false:=by rw [<-hl'];rfl
        rw [e] at h'
        refine⟨_,rfl,(fun e=>nomatch e), ?_⟩
        show Q (.bool (decide (us.size<vs.size))) s'
        rw [hsz,decide_eq_false (Nat.lt_irrefl _)]
        exact h'
end
section
variable {O:KeyOrd} {key:Nat->O.α} {n:Nat} {cmp:Nat->Nat->(Bool->Shared->Prop)->Shared->Prop} {s:Shared}
noncomputable def PK (key:Nat->O.α) (p:Array Nat) (i:Nat):O.α:=key (p.getD i 0)
def Gd (n:Nat) (p:Array Nat):Prop:=p.Perm (List.toArray (List.range n))
theorem Gd.size {p:Array Nat} (g:Gd n p):p.size=n:=by rw [Array.Perm.size_eq g];simp
theorem Gd.lt {p:Array Nat} (g:Gd n p) {i:Nat} (hi:i<n):p.getD i 0<n:=by
 have h:i<p.size:=by rw [g.size];exact hi
 have e:p.getD i 0=p[i]:=by simp [Array.getD,h]
 have m:p[i]∈p:=Array.getElem_mem h
 have:=(Array.Perm.mem_iff g).mp m
 rw [e]
 simpa using this
def Srt (key:Nat->O.α) (p:Array Nat) (m:Nat):Prop:= ∀ i j,i<=j->j<m->O.kle (PK key p i) (PK key p j)
def Fal (key:Nat->O.α) (p:Array Nat) (m:Nat):Prop:= ∀ i j,i<=j->j<m->O.kle (PK key p j) (PK key p i)
def Cm (key:Nat->O.α) (n:Nat) (cmp:Nat->Nat->(Bool->Shared->Prop)->Shared->Prop) (s:Shared):Prop:= ∀ i j (C:Bool->Shared->Prop),i<n->j<n->C (O.blt (key i) (key j)) s->cmp i j C s
theorem pM {p q:Array Nat} {i j:Nat} (h:p[i]? =q[j]?):PK key p i=PK key q j:=by
 unfold PK
 simp only [Array.getD_eq_getD_getElem?,h]
theorem pN {p:Array Nat} {i j:Nat} (hj:j<=p.size) (k:Nat):PK key (kas_rev p i j) k=if i<=k/\k<j then PK key p (i+j - 1 - k) else PK key p k:=by
 have e:=getElem?_mirror_all (i:=i) hj k
 unfold kas_rev
 split
 ·rename_i h;rw [if_pos h] at e;exact pM e
 ·rename_i h;rw [if_neg h] at e;exact pM e
theorem pO {p:Array Nat} (g:Gd n p) (i j:Nat):Gd n (kas_rev p i j):=(mirror_perm _ _ _ _).trans g
theorem aCz {p:Array Nat} {k d:Nat} (hk:k<p.size) (hd:d<=k) (i:Nat):PK key (bubble p k d) i=if i=k - d then PK key p k else if k - d<i/\i<=k then PK key p (i - 1) else PK key p i:=by
 have e:=getElem?_bubble hk d hd i
 by_cases h1:i=k - d
 ·rw [if_pos h1] at e ⊢;exact pM e
 ·rw [if_neg h1] at e ⊢
  by_cases h2:k - d<i/\i<=k
  ·rw [if_pos h2] at e ⊢;exact pM e
  ·rw [if_neg h2] at e ⊢;exact pM e
theorem aJt {p:Array Nat} (g:Gd n p) (k d:Nat):Gd n (bubble p k d):=(bubble_perm _ _ _).trans g
theorem yR (hc:Cm key n cmp s) {p:Array Nat} (g:Gd n p) {G:Nat->Shared->Prop}: ∀ (f k:Nat),1<=k->k+f<=n->Srt key p k->(∀ m,k<=m->m<=k+f->Srt key p m->(m<k+f->O.klt (PK key p m) (PK key p (m - 1)))->G m s)->(kas_asc p f k).kasWp cmp G s
 | 0,k,_,_,hs,h=>h k (aj _) (aj _) hs fun z=>absurd z (Nat.lt_irrefl _)
 | f+1,k,h1,hf,hs,h=>by
  refine hc _ _ _ (g.lt (by omega)) (g.lt (by omega)) ?_
  cases hb:O.blt (key (p.getD k 0)) (key (p.getD (k - 1) 0)) with
  | true=>exact h k (aj _) (by omega) hs fun _=>hb
  | false=>
   refine yR hc g f (k+1) (by omega) (by omega) (fun i j hij hj=> ?_) fun m a b c d=>h m (by omega) (by omega) c fun z=>d (by omega)
   by_cases hjk:j<k
   ·exact hs i j hij hjk
   ·have:j=k:=by omega
    subst this
    by_cases hi:i=j
    ·subst hi;exact KeyOrd.kle_refl _
    ·exact KeyOrd.kle_trans (hs i (j - 1) (by omega) (by omega)) hb
theorem nH (hc:Cm key n cmp s) {G:Array Nat×Nat×Nat->Shared->Prop}: ∀ (f:Nat) (p:Array Nat) (k q:Nat),Gd n p->1<=k->k+f<=n->Fal key p k->q+1<=k->(∀ i,k - (q+1)<=i->i<k->PK key p i=PK key p (k - 1))->
  (∀ p' m q',Gd n p'->k<=m->m<=k+f->Fal key p' m->q'+1<=m->(∀ i,m - (q'+1)<=i->i<m->PK key p' i=PK key p' (m - 1))->G (p',m,q') s)->(kas_desc f p k q).kasWp cmp G s
 | 0,p,k,q,g,h1,hf,hs,hq,he,h=>h p k q g (aj _) (aj _) hs hq he
 | f+1,p,k,q,g,h1,hf,hs,hq,he,h=>by
  have gs:=g.size
  refine hc _ _ _ (g.lt (by omega)) (g.lt (by omega)) ?_
  cases hb:O.blt (key (p.getD k 0)) (key (p.getD (k - 1) 0)) with
  | true=>
   have step: ∀ p':Array Nat,(∀ i,PK key p' i=PK key p i)->Fal key p' (k+1):=fun p' hp i j hij hj=>by
    rw [hp,hp]
    by_cases hjk:j<k
    ·exact hs i j hij hjk
    ·have:j=k:=by omega
     subst this
     by_cases hi:i=j
     ·subst hi;exact KeyOrd.kle_refl _
     ·exact KeyOrd.kle_trans (KeyOrd.kle_of_klt hb) (hs i (j - 1) (by omega) (by omega))
   have aW: ∀ i,PK key (kas_rev p (k - (q+1)) k) i=PK key p i:=fun i=>by
    rw [pN (by omega)]
    split
    ·rw [he _ (by omega) (by omega),he i (by omega) (by omega)]
    ·rfl
   show KasT.kasWp cmp (if true=true then(if q > 0 then kas_desc f (kas_rev p (k - (q+1)) k) (k+1) 0 else kas_desc f p (k+1) 0) else _) G s
   rw [if_pos rfl]
   split
   ·exact nH hc f _ (k+1) 0 (pO g _ _) (by omega) (by omega) (step _ aW) (by omega) (fun i a b=>by rw [show i=k+1 - 1 by omega]) fun p' m q' a b c=>h p' m q' a (by omega) (by omega)
   ·exact nH hc f _ (k+1) 0 g (by omega) (by omega) (step _ fun _=>rfl) (by omega) (fun i a b=>by rw [show i=k+1 - 1 by omega]) fun p' m q' a b c=>h p' m q' a (by omega) (by omega)
  | false=>
   show KasT.kasWp cmp (if false=true then _ else KasT.ask (p.getD (k - 1) 0) (p.getD k 0) fun d=>if d=true then .ret (p,k,q) else kas_desc f p (k+1) (q+1)) G s
   rw [if_neg (by decide)]
   refine hc _ _ _ (g.lt (by omega)) (g.lt (by omega)) ?_
   cases hd:O.blt (key (p.getD (k - 1) 0)) (key (p.getD k 0)) with
   | true=>exact h p k q g (aj _) (by omega) hs hq he
   | false=>
    have eq:PK key p k=PK key p (k - 1):=KeyOrd.kle_antisymm hd hb
    refine nH hc f p (k+1) (q+1) g (by omega) (by omega) (fun i j hij hj=> ?_) (by omega) (fun i a b=> ?_) fun p' m q' a b c=>h p' m q' a (by omega) (by omega)
    ·by_cases hjk:j<k
     ·exact hs i j hij hjk
     ·have:j=k:=by omega
      subst this
      by_cases hi:i=j
      ·subst hi;exact KeyOrd.kle_refl _
      ·rw [eq];exact hs i (j - 1) (by omega) (by omega)
    ·rw [show k+1 - 1=k by omega]
     by_cases hi:i=k
     ·subst hi;rfl
     ·rw [eq];exact he i (by omega) (by omega)
theorem yS (hc:Cm key n cmp s) {p:Array Nat} (g:Gd n p) {k:Nat} (h1:1<=k) (hk:k<=n) (hs:Fal key p k) {G:Nat×Array Nat->Shared->Prop} (h: ∀ m p',Gd n p'->1<=m->m<=n->Srt key p' m->G (m,p') s):(kas_tail3 k n p).kasWp cmp G s:=by
 unfold kas_tail3
 rw [KasT.kasWp_bind]
 have gs:=g.size
 refine yR hc (pO g 0 k) (n - k) k h1 (by omega) (fun i j hij hj=> ?_) fun m a b c _=>h m _ (pO g 0 k) (by omega) (by omega) c
 rw [pN (by omega),pN (by omega),if_pos (by omega),if_pos (by omega)]
 exact hs _ _ (by omega) (by omega)
theorem yT (hc:Cm key n cmp s) {p:Array Nat} (g:Gd n p) {k:Nat} (hk:k+1<=n) (hs:Fal key p (k+1)) {G:Nat×Array Nat->Shared->Prop} (h: ∀ m p',Gd n p'->1<=m->m<=n->Srt key p' m->G (m,p') s):(kas_descPart k n p).kasWp cmp G s:=by
 unfold kas_descPart
 rw [KasT.kasWp_bind]
 refine nH hc _ p (k+1) 0 g (by omega) (by omega) hs (by omega) (fun i a b=>by rw [show i=k+1 - 1 by omega]) fun p' m q' g' a b f' c e=> ?_
 have gs:=g'.size
 dsimp only
 split
 ·refine yS hc (pO g' _ _) (by omega) (by omega) (fun i j hij hj=> ?_) h
  have aW: ∀ i,PK key (kas_rev p' (m - (q'+1)) m) i=PK key p' i:=fun i=>by
   rw [pN (by omega)]
   split
   ·rw [e _ (by omega) (by omega),e i (by omega) (by omega)]
   ·rfl
  rw [aW,aW];exact f' i j hij hj
 ·exact yS hc g' (by omega) (by omega) f' h
theorem aBj (hc:Cm key n cmp s) (hn:1<=n) {p:Array Nat} (g:Gd n p) {G:Nat×Array Nat->Shared->Prop} (h: ∀ m p',Gd n p'->1<=m->m<=n->Srt key p' m->G (m,p') s):(kas_count n p).kasWp cmp G s:=by
 unfold kas_count
 rw [KasT.kasWp_bind]
 have gs:=g.size
 refine yR hc g (n - 1) 1 (aj _) (by omega) (fun i j hij hj=>by rw [show i=j by omega];exact KeyOrd.kle_refl _) fun m h1 h2 hs st=> ?_
 by_cases e:(m==n)=true
 ·rw [if_pos e];exact h m p g h1 (by omega) hs
 rw [if_neg e]
 have hmn:m<n:=by
  have:m≠n:=by simpa using e
  omega
 have hl:=st (by omega)
 by_cases hm:m > 1
 ·rw [if_pos hm]
  refine hc _ _ _ (g.lt (by omega)) (g.lt (by omega)) ?_
  cases hb:O.blt (key (p.getD 0 0)) (key (p.getD (m - 1) 0)) with
  | true=>exact h m p g h1 (by omega) hs
  | false=>
   -- all alike
   have eq: ∀ i,i<m->PK key p i=PK key p (m - 1):=fun i hi=>by
    have a:=hs i (m - 1) (by omega) (by omega)
    have b:O.kle (PK key p (m - 1)) (PK key p 0):=hb
    exact KeyOrd.kle_antisymm a (KeyOrd.kle_trans b (hs 0 i (bp _) hi))
   refine yT hc (pO g 0 m) (by omega) (fun i j hij hj=> ?_) h
   have aW: ∀ i,PK key (kas_rev p 0 m) i=PK key p i:=fun i=>by
    rw [pN (by omega)]
    split
    ·rw [eq _ (by omega),eq i (by omega)]
    ·rfl
   rw [aW,aW]
   by_cases hjm:j<m
   ·rw [eq j hjm,eq i (by omega)];exact KeyOrd.kle_refl _
   ·have:j=m:=by omega
    subst this
    by_cases hi:i=j
    ·subst hi;exact KeyOrd.kle_refl _
    ·rw [eq i (by omega)];exact KeyOrd.kle_of_klt hl
 ·rw [if_neg hm]
  have:m=1:=by omega
  subst this
  refine yT hc g (by omega) (fun i j hij hj=> ?_) h
  by_cases hi:i=j
  ·subst hi;exact KeyOrd.kle_refl _
  ·have h0:i=0:=by omega
   have h1':j=1:=by omega
   subst h0 h1'
   exact KeyOrd.kle_of_klt hl
theorem nI (hc:Cm key n cmp s) {p:Array Nat} (g:Gd n p) {k:Nat} (hk:k<n) (hs:Srt key p k) {G:Nat->Shared->Prop}: ∀ (f l r:Nat),l<=r->r<=k->r - l<=f->(∀ i,i<l->O.kle (PK key p i) (PK key p k))->(∀ i,r<=i->i<k->O.klt (PK key p k) (PK key p i))->
  (∀ l',l'<=k->(∀ i,i<l'->O.kle (PK key p i) (PK key p k))->(∀ i,l'<=i->i<k->O.klt (PK key p k) (PK key p i))->G l' s)->(kas_place p k f l r).kasWp cmp G s
 | 0,l,r,hlr,hrk,hf,lo,hi,h=>by
  have:l=r:=by omega
  subst this
  exact h l hrk lo hi
 | f+1,l,r,hlr,hrk,hf,lo,hi,h=>by
  unfold kas_place
  split
  ·have:l=r:=by omega
   subst this
   exact h l hrk lo hi
  ·refine hc _ _ _ (g.lt (by omega)) (g.lt (by omega)) ?_
   cases hb:O.blt (key (p.getD k 0)) (key (p.getD ((l+r) / 2) 0)) with
   | true=>
    refine nI hc g hk hs f l ((l+r) / 2) (by omega) (by omega) (by omega) lo (fun i a b=> ?_) h
    exact KeyOrd.klt_of_klt_of_kle hb (hs _ _ a b)
   | false=>
    refine nI hc g hk hs f ((l+r) / 2+1) r (by omega) (by omega) (by omega) (fun i a=> ?_) hi h
    exact KeyOrd.kle_trans (hs i ((l+r) / 2) (by omega) (by omega)) hb
theorem aC0 (hc:Cm key n cmp s) {G:Array Nat->Shared->Prop} (h: ∀ p',Gd n p'->Srt key p' n->G p' s): ∀ (f:Nat) (p:Array Nat) (k:Nat),Gd n p->k+f=n->Srt key p k->(kas_bin f p k).kasWp cmp G s
 | 0,p,k,g,e,hs=>by
  have:k=n:=by omega
  subst this
  exact h p g hs
 | f+1,p,k,g,e,hs=>by
  unfold kas_bin
  rw [KasT.kasWp_bind]
  have gs:=g.size
  refine nI hc g (by omega) hs k 0 k (bp _) (aj _) (by omega) (fun i z=>by omega) (fun i a b=>by omega) fun l hl lo hi=> ?_
  refine aC0 hc h f _ (k+1) (aJt g k (k - l)) (by omega) fun i j hij hj=> ?_
  have d:k - (k - l)=l:=by omega
  rw [aCz (by omega) (by omega),aCz (by omega) (by omega),d]
  by_cases i1:i=l
  ·rw [if_pos i1]
   by_cases j1:j=l
   ·rw [if_pos j1];exact KeyOrd.kle_refl _
   ·rw [if_neg j1,if_pos (by omega)]
    exact KeyOrd.kle_of_klt (hi _ (by omega) (by omega))
  ·rw [if_neg i1]
   by_cases i2:l<i/\i<=k
   ·rw [if_pos i2,if_neg (by omega),if_pos (by omega)]
    exact hs _ _ (by omega) (by omega)
   ·rw [if_neg i2]
    by_cases j1:j=l
    ·rw [if_pos j1];exact lo i (by omega)
    ·rw [if_neg j1]
     by_cases j2:l<j/\j<=k
     ·rw [if_pos j2];exact hs _ _ (by omega) (by omega)
     ·rw [if_neg j2];exact hs _ _ hij (by omega)
theorem aFw (hc:Cm key n cmp s) (hn:1<=n) {G:Array Nat->Shared->Prop} (h: ∀ p',Gd n p'->Srt key p' n->G p' s):(kas_sort n).kasWp cmp G s:=by
 unfold kas_sort
 rw [KasT.kasWp_bind]
 refine aBj hc hn (Array.Perm.refl _) fun m p g h1 h2 hs=> ?_
 dsimp only
 split
 ·rw [show max m 1=m by omega]
  exact aC0 hc h _ p m g (by omega) hs
 ·have:m=n:=by omega
  subst this
  exact h p g hs
end
theorem gG: ∀ a,fA a a=false
 | []=>rfl
 | a::r=>by simp [fA,gG r]
theorem iT: ∀ a b c,fA a b=true->fA b c=true->fA a c=true
 | [],[],_,h,_=>by cases h
 | [],_::_,[],_,h=>by cases h
 | [],_::_,_::_,_,_=>rfl
 | _::_,[],_,h,_=>by cases h
 | _::_,_::_,[],_,h=>by cases h
 | a::r,b::t,c::u,h1,h2=>by
  unfold fA at h1 h2 ⊢
  by_cases ab:a=b
  ·subst ab
   rw [if_pos rfl] at h1
   by_cases ac:a=c
   ·rw [if_pos ac] at h2 ⊢;exact iT r t u h1 h2
   ·rw [if_neg ac] at h2 ⊢;exact h2
  ·rw [if_neg ab] at h1
   have h1:=of_decide_eq_true h1
   by_cases bc:b=c
   ·subst bc;rw [if_neg ab];exact decide_eq_true h1
   ·rw [if_neg bc] at h2
    have h2:=of_decide_eq_true h2
    rw [if_neg (by omega)];exact decide_eq_true (by omega)
theorem nJ: ∀ a b c,fA a c=true->fA a b=true\/fA b c=true
 | [],[],[],h=>by cases h
 | [],[],_::_,_=> .inr rfl
 | [],_::_,_,_=> .inl rfl
 | _::_,_,[],h=>by cases h
 | _::_,[],_::_,_=> .inr rfl
 | a::r,b::t,c::u,h=>by
  unfold fA at h ⊢
  by_cases ac:a=c
  ·subst ac
   rw [if_pos rfl] at h
   by_cases ab:a=b
   ·subst ab;rw [if_pos rfl,if_pos rfl];exact nJ r t u h
   ·rw [if_neg ab,if_neg (Ne.symm ab)]
    rcases Int.lt_or_gt_of_ne ab with z | z
    ·exact .inl (decide_eq_true z)
    ·exact .inr (decide_eq_true z)
  ·rw [if_neg ac] at h
   have h:=of_decide_eq_true h
   by_cases ab:a=b
   ·subst ab;rw [if_neg ac];exact .inr (decide_eq_true h)
   ·rw [if_neg ab]
    by_cases z:a<b
    ·exact .inl (decide_eq_true z)
    ·rw [if_neg (by omega)];exact .inr (decide_eq_true (by omega))
theorem iU: ∀ a b,fA a b=false->fA b a=false->a=b
 | [],[],_,_=>rfl
 | [],_::_,h,_=>by cases h
 | _::_,[],_,h=>by cases h
 | a::r,b::t,h1,h2=>by
  unfold fA at h1 h2
  by_cases ab:a=b
  ·subst ab
   rw [if_pos rfl] at h1 h2
   rw [iU r t h1 h2]
  ·rw [if_neg ab] at h1
   rw [if_neg (Ne.symm ab)] at h2
   have h1:=of_decide_eq_false h1
   have h2:=of_decide_eq_false h2
   omega
noncomputable def aG3:KeyOrd:=⟨List Int,fA,gG,iT,nJ,iU⟩
theorem aFx {a b c:List Int} (h1:fA b a=false) (h2:fA c b=false):fA c a=false:=by
 cases h:fA c a
 ·rfl
 ·rcases nJ c b a h with z | z
  ·rw [h2] at z;cases z
  ·rw [h1] at z;cases z
theorem kN (a:D): ∀ l,(aG0 a l).Perm (a::l)
 | []=>List.Perm.refl _
 | b::r=>by
  unfold aG0
  split
  ·exact((kN a r).cons b).trans (List.Perm.swap a b r)
  ·exact List.Perm.refl _
theorem fR: ∀ l,(lC l).Perm l
 | []=>List.Perm.refl _
 | a::r=>(kN a (lC r)).trans ((fR r).cons a)
theorem l7 (a:D): ∀ {l:List D},l.Pairwise (fun x y=>ltD y x=false)->(aG0 a l).Pairwise (fun x y=>ltD y x=false)
 | [],_=>List.pairwise_singleton _ _
 | b::r,h=>by
  unfold aG0
  have h1:=List.pairwise_cons.mp h
  split
  ·rename_i hab
   refine List.pairwise_cons.mpr ⟨fun c hc=> ?_,l7 a h1.2⟩
   rcases aq.mp ((kN a r).mem_iff.mp hc) with rfl | hc
   ·cases z:ltD c b
    ·rfl
    ·have:=iT _ _ _ hab z;rw [gG] at this;cases this
   ·exact h1.1 c hc
  ·rename_i hab
   have hab:ltD b a=false:=by simpa using hab
   refine List.pairwise_cons.mpr ⟨fun c hc=> ?_,h⟩
   rcases aq.mp hc with rfl | hc
   ·exact hab
   ·exact aFx hab (h1.1 c hc)
theorem gH: ∀ l,(lC l).Pairwise (fun x y=>ltD y x=false)
 | []=>List.Pairwise.nil
 | a::r=>l7 a (gH r)
def One (ds:List D):Prop:= ∀ x∈ds, ∀ y∈ds,aW x y=true
theorem l8 {l m:List D} (ho:One l) (p:m.Perm l) (h:m.Pairwise (fun x y=>ltD y x=false)):m=lC l:=
 List.Perm.eq_of_pairwise (fun a b ha hb x y=>tU (ho a (p.mem_iff.mp ha) b ((fR l).mem_iff.mp hb)) (iU _ _ y x)) h (gH l) (p.trans (fR l).symm)
theorem rQ {l m:List D} (ho:One l) (p:m.Perm l):lC m=lC l:=l8 ho ((fR m).trans p) (gH m)
theorem aC1 {n:Nat} {p:Array Nat} {ds:List D} (ho:One ds) (hn:ds.length=n) (g:Gd n p) (st:Srt (O:=aG3) (fun i=>eX (ds.getD i .non)) p n):(p.toList.map fun i=>ds.getD i .non)=lC ds:=by
 have pe:p.toList.Perm (List.range n):=by
  have:=Array.Perm.toList g
  simpa using this
 refine l8 ho ((pe.map _).trans (List.Perm.of_eq ?_)) ?_
 ·apply List.ext_getElem
  ·simp [hn]
  ·intro i h1 h2
   simp [h2]
 ·rw [List.pairwise_map,List.pairwise_iff_getElem]
  intro i j hi hj hij
  have gs:=g.size
  rw [Array.length_toList,gs] at hi hj
  have:=st i j (Nat.le_of_lt hij) hj
  have e: ∀ k (hk:k<p.size),p.getD k 0=p.toList[k]'(by simpa using hk):=fun k hk=>by simp [Array.getD,hk]
  have r:fA (eX (ds.getD (p.getD j 0) .non)) (eX (ds.getD (p.getD i 0) .non))=false:=this
  rw [e i (by omega),e j (by omega)] at r
  exact r
theorem eQ {ds:List D} (h:gB ds=true):One ds/\(∀ d∈ds,jY d=true/\dep d<=8)/\(2<=ds.length-> ∀ d∈ds,fX d=true):=by
 cases ds with
 | nil=>cases h
 | cons d r=>
  simp only [gB,ar,decide_eq_true_eq,List.all_eq_true] at h
  obtain⟨⟨⟨⟨h1,h2⟩,h3⟩,h4⟩,h5⟩:=h
  have sd: ∀ x∈d::r,aW d x=true:=fun x hx=>by
   rcases aq.mp hx with rfl | hx
   ·exact h4
   ·exact h5 x hx
  have tup: ∀ x,aW d x=true->jY x=true:=fun x hx=>by
   cases d<;>simp [jY] at h1
   cases x<;>simp [aW] at hx
   rfl
  have tupN:fX d=true-> ∀ x,aW d x=true->fX x=true:=fun hd x hx=>by
   cases d<;>simp [jY] at h1
   rename_i xs
   cases x<;>simp [aW] at hx
   rename_i ys
   cases xs with
   | nil=>simp [fX] at hd
   | cons a xs=>
    cases ys with
    | nil=>simp [aY] at hx
    | cons b ys=>rfl
  refine⟨fun x hx y hy=>yQ (sd x hx) (sd y hy),fun x hx=>⟨tup x (sd x hx),by rw [(tW (sd x hx)).2.2];exact h3⟩,fun h2' x hx=> ?_⟩
  have hd:fX d=true:=by
   rcases(Bool.or_eq_true _ _).mp h2 with q | q
   ·have:r=[]:=by simpa using q
    subst this
    simp at h2'
   ·exact q
  exact tupN hd x (sd x hx)
section
variable {prog:Program} {w:World} {A:Around} {Ex:Value->Shared->Prop} {s:Shared}
mutual
theorem vI {h h':Heap} (k: ∀ b o,o.cls= .type "tuple"->h.get? b=some o->h'.get? b=some o): ∀ {d:PyData} {v:Value} {as:List Addr},hk d=true->Reads h v d as->Reads h' v d as
 | _,_,_,_, .none=> .none
 | _,_,_,_, .int i t=> .int i t
 | _,_,_,hd, .tuple e c q r=> .tuple (k _ _ c e) c q (bK k (by simpa [hk] using hd) r)
 | _,_,_,hd, .bool _=>by simp [hk] at hd
 | _,_,_,hd, .str _ _=>by simp [hk] at hd
 | _,_,_,hd, .list _ _ _ _=>by simp [hk] at hd
 | _,_,_,hd, .dict _ _ _ _ _=>by simp [hk] at hd
theorem bK {h h':Heap} (k: ∀ b o,o.cls= .type "tuple"->h.get? b=some o->h'.get? b=some o): ∀ {ds:List PyData} {vs:List Value} {as:List Addr},hks ds=true->ReadsAll h vs ds as->ReadsAll h' vs ds as
 | _,_,_,_, .nil=> .nil
 | _,_,_,hd, .cons a b=>by
  simp only [hks,ar] at hd
  exact .cons (vI k hd.1 a) (bK k hd.2 b)
end
theorem tZ {n:Nat} {b fin:Bool} {Q:Bool->Shared->Prop} (hu:A.units+n<cLine): ∀ {us vs:List Value} {xs ys:List D} {as bs:List Addr} (i:Nat),ReadsAll s.heap us (aV xs) as->ReadsAll s.heap vs (aV ys) bs->aY xs ys=true->iI xs<=n->((b&&i==0)=true-> ∃ k r,xs= .int k::r)->fin=decide (xs.length<ys.length)->Q (fA (cJ xs) (cJ ys)) s->KatLex prog w A b fin Q (us.zip vs) i s
 | us,vs,[],[],as,bs,i,ra,rb,hs,hn,hb,hf,h=>by
  simp only [aV] at ra rb
  cases ra;cases rb
  subst hf;exact h
 | us,vs,[],_::_,as,bs,i,ra,rb,hs,hn,hb,hf,h=>by simp [aY] at hs
 | us,vs,_::_,[],as,bs,i,ra,rb,hs,hn,hb,hf,h=>by simp [aY] at hs
 | us,vs,x::xs,y::ys,as,bs,i,ra,rb,hs,hn,hb,hf,h=>by
  simp only [aV] at ra rb
  cases ra with
  | @cons u us _ _ a1 a2 ru ra=>
   cases rb with
   | @cons v vs _ _ b1 b2 rv rb=>
    simp only [aY,ar] at hs
    simp only [iI] at hn
    obtain⟨s1,s2,s3⟩:=tW hs.1
    have p1:=b5 s2
    have p2:=b5 s1
    have heq:=SeqAt.eqAt_reads (bJ x) (bJ y) A s u v a1 b1 ru rv (eZ p1) (eZ p2) (by rw [e9,e9];omega)
    rw [fE x y p1 p2,nF hs.1] at heq
    refine kat_cons (heq prog w _ _ ?_)
    simp only [cJ] at h
    rw [nG (g9 hs.1)] at h
    by_cases e:eX x=eX y
    ·rw [if_pos e] at h
     rw [e,beq_self_eq_true]
     refine kat_yes (tZ hu (i+1) ra rb hs.2 (by omega) (fun z=>by simp at z) ?_ h)
     rw [hf];simp
    ·rw [if_neg e] at h
     rw [show(eX x==eX y)=false by simpa using e]
     refine kat_no ?_
     cases hbi:(b&&i==0) with
     | true=>
      obtain⟨k,r,ex⟩:=hb hbi
      cases ex
      cases y<;>simp [aW] at hs
      rename_i k2
      simp only [bJ] at ru rv
      cases ru;cases rv
      have e2:fA (eX (D.int k)) (eX (D.int k2))=decide (k<k2):=by
       have e': ¬ k=k2:=fun z=>e (by rw [z])
       simp only [eX,fA,if_neg e']
      rw [e2] at h
      exact oneLt_int h
     | false=>exact kat_one _ _ (aL0 n x y u v a1 b1 A s _ _ hs.1 (by omega) ru rv hu h)
theorem kO (l:List D):(aV l).length=l.length:=by induction l with | nil=>rfl | cons a l ih=>simp [aV,ih]
theorem hU {h:Heap}: ∀ {us:List Value} {ds:List D} {as:List Addr} {i:Nat},ReadsAll h us (aV ds) as->i<ds.length-> ∃ bs,Reads h (us.getD i .none) (bJ (ds.getD i .non)) bs
 | _,[],_,_,_,hi=>by cases hi
 | us,d::ds,as,i,r,hi=>by
  simp only [aV] at r
  cases r with
  | @cons u us _ _ a1 a2 ru ra=>
   cases i with
   | zero=>exact⟨a1,ru⟩
   | succ i=>exact hU (us:=us) (ds:=ds) ra (by simpa using hi)
theorem pP {h:Heap}: ∀ {vs:List Value} {ds:List D} {as:List Addr},ReadsAll h vs (aV ds) as->(∀ d∈ds,fX d=true)-> ∃ fs:List Value,KatTups h vs fs/\fs.length=vs.length/\ ∀ f∈fs, ∃ d∈ds, ∃ x r bs,d= .tup (x::r)/\Reads h f (bJ x) bs
 | _,[],_,r,_=>by
  simp only [aV] at r
  cases r
  exact⟨[],trivial,rfl,nofun⟩
 | _,d::ds,_,r,hn=>by
  simp only [aV] at r
  cases r with
  | @cons u us _ _ a1 a2 ru ra=>
   obtain⟨fs,f1,f2,f3⟩:=pP ra fun x hx=>hn x (.tail _ hx)
   have hd:=hn d (.head _)
   cases d<;>simp [fX] at hd
   rename_i xs
   cases xs with
   | nil=>simp at hd
   | cons x xs=>
    simp only [bJ] at ru
    cases ru with
    | @tuple a o vs n _ _ ho hc hdat rr=>
     simp only [aV] at rr
     cases hvs:vs.toList with
     | nil=>rw [hvs] at rr;cases rr
     | cons f ft=>
      rw [hvs] at rr
      cases rr with
      | cons rf rt=>
       have h0:vs[0]? =some f:=by rw [<-Array.getElem?_toList,hvs];rfl
       refine⟨f::fs,KatTups.cons ho hc hdat h0 f1,by simp [f2],fun g hg=> ?_⟩
       rcases aq.mp hg with rfl | hg
       ·exact⟨_, .head _,x,xs,_,rfl,rf⟩
       ·obtain⟨d',m,q⟩:=f3 g hg
        exact⟨d', .tail _ m,q⟩
theorem yU {a:Addr} {vs:List Value} {ds:List D} {as:List Addr} {n:Nat} {P:PySem.Fin->Shared->Prop} (hu:A.units+9<cLine) (ho:s.heap.get? a=some (seqObj "list" vs.toArray n)) (hr:ReadsAll s.heap vs (aV ds) as) (hd:gB ds=true) (h64:vs.length<64)
  (h: ∀ p:Array Nat,Gd vs.length p->Srt (O:=aG3) (fun i=>eX (ds.getD i .non)) p vs.length->P (.done (.ret .none)) { s with heap:=sortedHeap s.heap a vs (List.toArray (p.toList.map fun i=>vs.getD i Value.none)) }):
  wpAny (model prog w) A (Builtin.«list.sort» ⟨[.ref a],[]⟩) P Ex s:=by
 obtain⟨one,tups,tupN⟩:=eQ hd
 have hlen:vs.length=ds.length:=by rw [SeqAt.ReadsAll.length _ _ _ hr,kO]
 have hks': ∀ {l:List D},(∀ x∈l,aW x x=true)->hks (aV l)=true:=by
  intro l
  induction l with
  | nil=>intro _;rfl
  | cons x l ih=>intro hl;simp [aV,hks,kJ (hl x (.head _)),ih fun y hy=>hl y (.tail _ hy)]
 rw [list_sort_plain]
 have ha:a<s.heap.objs.size:=ah ho
 refine aa (listItems_at ho rfl (aa (listUpdate_at ho rfl ?_ (by rw [au,sizeLine_eq];omega) (bp _))))
 obtain⟨e1,ho1⟩: ∃ e1,(s.heap.update a (Obj.mapSeq fun _=>(#[]:Array Value))).get? a=some (seqObj "list" #[] e1):=⟨_,get?_update_seq ho fun _=> #[]⟩
 refine aa (seqEpoch_at ho1 rfl (aa (wpAny_newTuple ?_ (by show vs.length<=_;rw [sizeLine_eq];omega))))
 refine aa (wpAny_newList (wpAny_holding ?_) (bp _))
 have ho6:(((s.heap.update a (Obj.mapSeq fun _=> #[])).push (seqObj "tuple" vs.toArray 0)).push (seqObj "list" #[] 0)).get? a=some (seqObj "list" #[] e1):=af _ (af _ ho1)
 have keep: ∀ b o,o.cls= .type "tuple"->s.heap.get? b=some o->(((s.heap.update a (Obj.mapSeq fun _=> #[])).push (seqObj "tuple" vs.toArray 0)).push (seqObj "list" #[] 0)).get? b=some o:=fun b o c e=>by
  have nb:b≠a:=fun z=>by subst z;rw [ho] at e;cases e;simp at c
  exact af _ (af _ ((Heap.get?_update_ne _ _ _ _ nb).trans e))
 have hr6:=bK keep (hks' fun x hx=>one x hx x hx) hr
 show wpAny (model prog w) A _ P Ex { s with heap:=((s.heap.update a (Obj.mapSeq fun _=> #[])).push (seqObj "tuple" vs.toArray 0)).push (seqObj "list" #[] 0) }
 dsimp only
 by_cases h2:vs.toArray.size<2
 ·rw [if_pos h2,if_pos h2]
  refine aa (ae ?_)
  rw [StateT.run_pure]
  refine aa (ae ?_)
  dsimp only
  have hz:(vs.toArray.zip vs.toArray).size=vs.length:=by simp
  have har:arrOf (SortSt.mk' general' (vs.toArray.zip vs.toArray) #[] 7 none)=(List.toArray (List.range vs.length)).map (kas_item (vs.toArray.zip vs.toArray)):=by
   have:=kas_range (vs.toArray.zip vs.toArray)
   rw [hz] at this
   exact this.symm
  have hout:=kat_snds rfl har
  have hsz:((arrOf (SortSt.mk' general' (vs.toArray.zip vs.toArray) #[] 7 none)).map (·.2)).size<=sizeLine+1:=by rw [hout,au,am];simp;rw [sizeLine_eq];omega
  refine aa (seqEpoch_at ho6 rfl (aa (listUpdate_at ho6 rfl ?_ (bp _) hsz)))
  simp only [bne_self_eq_false,aw,if_false]
  have fin:=h (List.toArray (List.range vs.length)) (Array.Perm.refl _) fun i j hij hj=>by
   rw [au] at h2
   rw [show i=j by omega];exact KeyOrd.kle_refl _
  rw [<-hout] at fin
  exact ae fin
 ·rw [if_neg h2,if_neg h2]
  have h2':2<=vs.length:=by rw [au] at h2;omega
  obtain⟨fs,f1,f2,f3⟩:=pP hr6 (tupN (by omega))
  have hd0:0<ds.length:=by omega
  -- the kind of the first things
  obtain⟨T,hT2,hTl,hTi⟩: ∃ T:Value,(T==T)=true/\(∀ v∈fs,Looks (model prog w) (((s.heap.update a (Obj.mapSeq fun _=> #[])).push (seqObj "tuple" vs.toArray 0)).push (seqObj "list" #[] 0)) (typeOf v) T)/\((T != Value.type "tuple")=true-> ∀ d∈ds, ∃ k r,d= .tup (.int k::r)):=by
   obtain⟨d0,hm0⟩: ∃ d0,d0∈ds:=⟨ds[0],List.getElem_mem hd0⟩
   have hN:=tupN (by omega) d0 hm0
   cases d0<;>simp [fX] at hN
   rename_i xs0
   cases xs0 with
   | nil=>simp at hN
   | cons x0 r0=>
    have sx: ∀ d∈ds, ∀ x r,d= .tup (x::r)->aW x0 x=true:=fun d hd x r e=>by
     have:=one _ hm0 d hd
     rw [e] at this
     simp only [aW,aY,ar] at this
     exact this.1
    have form: ∀ d∈ds, ∃ x r,d= .tup (x::r):=fun d hd=>by
     have hN:=tupN (by omega) d hd
     cases d<;>simp [fX] at hN
     rename_i xs
     cases xs with
     | nil=>simp at hN
     | cons x r=>exact⟨x,r,rfl⟩
    have x0s:=sx _ hm0 x0 r0 rfl
    cases x0<;>try (simp [aW] at x0s;done)
    ·refine⟨.type "int",by decide,fun v hv=> ?_,fun _ d hd=> ?_⟩
     ·obtain⟨d,hd,x,r,bs,e,rx⟩:=f3 v hv
      have:=sx d hd x r e
      cases x<;>simp [aW] at this
      simp only [bJ] at rx
      cases rx
      exact Looks.of_pure rfl
     ·obtain⟨x,r,e⟩:=form d hd
      have:=sx d hd x r e
      cases x<;>simp [aW] at this
      exact⟨_,_,e⟩
    ·refine⟨.type "tuple",by decide,fun v hv=> ?_,fun z=>by simp at z⟩
     obtain⟨d,hd,x,r,bs,e,rx⟩:=f3 v hv
     have:=sx d hd x r e
     cases x<;>simp [aW] at this
     simp only [bJ] at rx
     cases rx with
     | tuple ho' hc' hd' _=>exact fun A Q E s2 k q=>wpAny_typeOf (⟨_,k _ _ ho',hc'⟩:s2.TypeIs (.ref _) "tuple") q
  refine aa (kat_kind (T:=T) f1 (by omega) hTl hT2 ?_)
  have hc:Cm (O:=aG3) (fun i=>eX (ds.getD i .non)) vs.length (kas_ask prog w A (tuples' (T != Value.type "tuple")) vs) { s with heap:=((s.heap.update a (Obj.mapSeq fun _=> #[])).push (seqObj "tuple" vs.toArray 0)).push (seqObj "list" #[] 0) }:=by
   intro i j C hi hj hC
   obtain⟨b1,r1⟩:=hU hr6 (i:=i) (by omega)
   obtain⟨b2,r2⟩:=hU hr6 (i:=j) (by omega)
   have mi:ds.getD i .non∈ds:=by
    have hi':i<ds.length:=by omega
    rw [bt,az hi',Option.getD_some];exact List.getElem_mem hi'
   have mj:ds.getD j .non∈ds:=by
    have hj':j<ds.length:=by omega
    rw [bt,az hj',Option.getD_some];exact List.getElem_mem hj'
   have sij:=one _ mi _ mj
   obtain⟨ti,di⟩:=tups _ mi
   have hTi':=fun z=>hTi z _ mi
   have hC':C (fA (eX (ds.getD i .non)) (eX (ds.getD j .non))) _:=hC
   generalize ds.getD i .non=x at r1 sij ti di hTi' hC'
   generalize ds.getD j .non=y at r2 sij hC'
   unfold kas_ask
   cases x<;>try (simp [aW] at sij;done)
   ·simp [jY] at ti
   ·cases y<;>simp [aW] at sij
    rename_i xs ys
    simp only [bJ] at r1 r2
    generalize vs.getD i Value.none=u at r1
    generalize vs.getD j Value.none=v at r2
    cases r1 with
    | @tuple a1 o1 us n1 _ _ g1 g2 g3 ra=>
     cases r2 with
     | @tuple a2 o2 ws n2 _ _ k1 k2 k3 rb=>
      simp only [dep] at di
      refine kat_lt g1 g3 k1 k3 (tZ (n:=8) (by omega) 0 ra rb sij (by omega) (fun z=> ?_) ?_ (by simpa [eX] using hC'))
      ·have z':(T != Value.type "tuple")=true:=by simpa using z
       obtain⟨k,r,e⟩:=hTi' z'
       exact⟨k,r,by cases e;rfl⟩
      ·have l1:=SeqAt.ReadsAll.length _ _ _ ra
       have l2:=SeqAt.ReadsAll.length _ _ _ rb
       rw [kO] at l1 l2
       rw [<-l1, <-l2];simp
  refine aa (wpAny_mono (kat_run (Q:=fun st' s'=> ∃ p:Array Nat,s'={ s with heap:=((s.heap.update a (Obj.mapSeq fun _=> #[])).push (seqObj "tuple" vs.toArray 0)).push (seqObj "list" #[] 0) }/\arrOf st'=p.map (kas_item (vs.toArray.zip vs.toArray))/\failedOf st'=none/\Gd vs.length p/\Srt (O:=aG3) (fun i=>eX (ds.getD i .non)) p vs.length)
   (G:=fun p s'=>s'={ s with heap:=((s.heap.update a (Obj.mapSeq fun _=> #[])).push (seqObj "tuple" vs.toArray 0)).push (seqObj "list" #[] 0) }/\Gd vs.length p/\Srt (O:=aG3) (fun i=>eX (ds.getD i .non)) p vs.length)
   rfl h2' h64 (fun p st' s' a1 a2 a3 a4=>⟨p,a4.1,a2,a3,a4.2⟩) (aFw hc (by omega) fun p g st=>⟨rfl,g,st⟩)) ?_ fun _ _ e=>e)
  rintro⟨⟨⟩,st'⟩ s' ⟨p,rfl,har,hf,g,st⟩
  dsimp only
  have hout:=kat_snds rfl har
  have hsz:(List.toArray (p.toList.map fun i=>vs.getD i Value.none)).size=vs.length:=by rw [au,am,Array.length_toList,g.size]
  rw [hout]
  refine aa (seqEpoch_at ho6 rfl (aa (listUpdate_at ho6 rfl ?_ (bp _) (by rw [hsz,sizeLine_eq];omega))))
  rw [hf]
  simp only [bne_self_eq_false,aw,if_false]
  exact ae (h p g st)
theorem kP {l:Addr} {Cd:List Value->Heap->Nat->Prop} {Q:Value->Shared->Prop} (hu:A.units+11<cLine)
  (hcol: ∀ Q':List Value->Shared->Prop,(∀ vs h1 tk,Cd vs h1 tk->Q' vs { s with heap:=h1,toks:=tk })->wpAny (model prog w) A.in1 (collect (.ref l)) Q' Ex s)
  (h: ∀ vs h1 tk,Cd vs h1 tk-> ∃ ds as,ReadsAll h1 vs (aV ds) as/\gB ds=true/\vs.length<64/\
   ∀ (h':Heap) (p:Array Nat) (e:Nat),(∀ b o,h1.get? b=some o->h'.get? b=some o)->h'.get? h1.objs.size=some (seqObj "list" (List.toArray (p.toList.map fun i=>vs.getD i Value.none)) e)->Gd vs.length p->Srt (O:=aG3) (fun i=>eX (ds.getD i .non)) p vs.length->Q (.ref h1.objs.size) { s with heap:=h',toks:=tk }):
  wpAny (model prog w) A (call (.builtin "sorted") [.ref l]) Q Ex s:=by
 refine Calls.call_function_entry kind_sorted plain_sorted entry_sorted (args_sorted1 _) ?_
 unfold Builtin.«sorted»
 refine aa (m:=checkCount "sorted" 1 1 _) (ae ?_)
 refine aa (hcol _ fun vs h1 tk hC=> ?_)
 obtain⟨ds,as,hr,hd,h64,hQ⟩:=h vs h1 tk hC
 refine aa (wpAny_newList ?_ (by rw [sizeLine_eq];first | omega | (simp;omega)))
 have hoL:(h1.push (seqObj "list" vs.toArray 0)).get? h1.objs.size=some (seqObj "list" vs.toArray 0):=ag _ rfl
 have hks':hks (aV ds)=true:=by
  obtain⟨one,_,_⟩:=eQ hd
  have: ∀ l:List D,(∀ x∈l,aW x x=true)->hks (aV l)=true:=fun l=>by
   induction l with
   | nil=>intro _;rfl
   | cons x l ih=>intro hl;simp [aV,hks,kJ (hl x (.head _)),ih fun y hy=>hl y (.tail _ hy)]
  exact this ds fun x hx=>one x hx x hx
 show wpAny _ _ _ _ _ { s with heap:=h1.push (seqObj "list" vs.toArray 0),toks:=tk }
 refine aa (wpAny_holding (wpAny_call_entry slot_list_sort ⟨_,hoL,rfl⟩ entry_list_sort (yU (by have:=A.in1_units;have:=A.in1.in1_units;omega) hoL (bK (fun b o _ e=>af _ e) hks' hr) hd h64 fun p a1 a2=>⟨_,rfl, ?_⟩) (args_list_sort _)))
 obtain⟨e,he⟩:=sortedHeap_at (out:=List.toArray (p.toList.map fun i=>vs.getD i Value.none)) hoL
 refine ae ⟨_,rfl,hQ _ p e (fun b o' q1=> ?_) he a1 a2⟩
 have lt:b<h1.objs.size:=ah q1
 rw [sortedHeap_old (bf lt) (by rw [ai];exact Nat.lt_succ_of_lt lt),Heap.get?_push_ne _ _ _ (bf lt)]
 exact q1
end
section
variable {prog:Program} {w:World} {A:Around} {I:Addr} {fp wr:List Addr} {G:Array GenState->Array GenState->Prop} {n:Nat} {P:Nat->Value->Prop} {St:Nat->Shared->Prop} {E:Value->Shared->Prop} {s:Shared} {R:_->Shared->Prop}
end
section
variable {X:Cx} {ad:Ad} {G:Hp}
theorem kQ {ds:List D} {vs:List V} (h:aE X.K ad G ds vs): ∀ {l:List Nat},(∀ i∈l,i<ds.length)->aE X.K ad G (l.map fun i=>ds.getD i .non) (l.map fun i=>vs.getD i .non)
 | [],_=>aE.nil
 | i::l,hl=>by
  have hi:=hl i (.head _)
  obtain⟨v,e,r⟩:=h.get (az hi)
  refine aE.cons ?_ (kQ h fun j hj=>hl j (.tail _ hj))
  have e1:ds.getD i .non=ds[i]:=by simp [hi]
  have e2:vs.getD i .non=v:=by simp [e]
  show Rep X.K ad G (ds.getD i .non) (vs.getD i .non)
  rw [e1,e2];exact r
theorem kR {vs:List V} {us:List Value} (h:aZ vs us): ∀ {l:List Nat},(∀ i∈l,i<vs.length)->aZ (l.map fun i=>vs.getD i .non) (l.map fun i=>us.getD i .none)
 | [],_=> .nil
 | i::l,hl=>by
  have hi:=hl i (.head _)
  obtain⟨u,e,r⟩:=h.get (az hi)
  refine .cons ?_ (kR h fun j hj=>hl j (.tail _ hj))
  have e1:vs.getD i .non=vs[i]:=by simp [hi]
  have e2:us.getD i .none=u:=by simp [e]
  show bF (vs.getD i .non) (us.getD i .none)
  rw [e1,e2];exact r
theorem yV {ds:List D} (hd:gB ds=true):hks (aV ds)=true:=by
 obtain⟨one,_,_⟩:=eQ hd
 have: ∀ l:List D,(∀ x∈l,aW x x=true)->hks (aV l)=true:=fun l=>by
  induction l with
  | nil=>intro _;rfl
  | cons x l ih=>intro hl;simp [aV,hks,kJ (hl x (.head _)),ih fun y hy=>hl y (.tail _ hy)]
 exact this ds fun x hx=>one x hx x hx
theorem pQ {ds:List D} (hd:gB ds=true):aS ds=true:=by
 obtain⟨one,_,_⟩:=eQ hd
 have: ∀ l:List D,(∀ x∈l,aW x x=true)->aS l=true:=fun l=>by
  induction l with
  | nil=>intro _;rfl
  | cons x l ih=>intro hl;simp [aS,b5 (hl x (.head _)),ih fun y hy=>hl y (.tail _ hy)]
 exact this ds fun x hx=>one x hx x hx
theorem vJ (hu:X.A.units+62<cLine) {pins:List (Addr×Obj)} {s:Shared} {σ:St} {H:Hp} {x:D} {v:V} {u:Value} {Q:VK} {E:Nat->Hp->Prop} {ds:List D} (I:Inv X pins σ H s) (hG:Same G H) (q:Seq X ad G H x v) (ru:bF v u) (e1:items x=some ds) (hr:RK X.K ad G H (jG ds) Q E):
  wpAny (model X.prog X.w) X.A (call (.builtin "sorted") [u]) (EP X pins σ Q) X.xe s:=by
 unfold jG at hr
 by_cases hb:(gB ds&&decide (ds.length<64))=true
 ·rw [if_pos hb] at hr
  rw [ar,decide_eq_true_eq] at hb
  obtain⟨hd,h64⟩:=hb
  obtain⟨p,vs,rfl,hq,rq⟩:=q.items hG e1
  cases (show u=Value.ref p from ru)
  obtain⟨T,o,its,n,hT,h1,h2,h3,hv⟩: ∃ T o its n,(T="list"\/T="tuple")/\s.heap.get? p=some o/\o.cls= .type T/\o.data= .seq (List.toArray its) n/\aZ vs its:=by
   rcases hq with z | z
   ·obtain⟨its,rv,⟨o,a,b,n,c⟩,_⟩:=I.tuple z.2
    exact⟨"tuple",o,its,n, .inr rfl,a,b,c,rv⟩
   ·obtain⟨its,rv,pl,_⟩:=I.list z.2
    obtain⟨o,a,b,n,c⟩:=pl.isList
    exact⟨"list",o,its,n, .inl rfl,a,b,c,rv⟩
  have l1:=rq.length
  have l2:=hv.length
  obtain⟨as,ra⟩:=dD I hG (pQ hd) rq hv
  have hz:its.toArray.size<=sizeLine:=by rw [sizeLine_eq];simp;omega
  refine kP (Cd:=fun vs' h1 tk=>vs'=its/\(∀ b o,s.heap.get? b=some o->h1.get? b=some o)/\tk=s.toks) (by omega) (fun Q' hQ'=>wpAny_collect_seq (hsz:=hz) p hT h1 h2 h3 fun g1 k1=>hQ' _ g1 s.toks ⟨rfl,k1,rfl⟩) ?_
  rintro vs' g1 tk ⟨rfl,k1,rfl⟩
  refine⟨ds,as,bK (fun b o _ e=>k1 b o e) (yV hd) ra,hd,by omega,fun g2 pm e k2 at' gd st=> ?_⟩
  have I1:Inv X pins σ H { s with heap:=g1 }:=I.kept (t':=s.toks) k1
  have gs:=gd.size
  have lt: ∀ i∈pm.toList,i<vs.length:=fun i hi=>by
   have:=(Array.Perm.mem_iff gd).mp (Array.mem_def.mpr hi)
   have:i<vs'.length:=by simpa using this
   omega
  have hz:(pm.toList.map fun i=>vs.getD i V.non).length<=sizeLine:=by rw [am,Array.length_toList,gs,sizeLine_eq];omega
  refine⟨.ref g1.objs.size,_,I1.laid (t':=s.toks) k2 (aj _) (show ObjOk X.prog X.w _ g2 _ (.lst _) from⟨hz,_,e,kR hv lt,at'⟩),rfl,hr.ow_new hG ?_ (I1.hok.fresh (aj _))⟩
  have hd':=kQ rq (l:=pm.toList) fun i hi=>by rw [<-l1];exact lt i hi
  rw [<-aC1 (n:=vs'.length) (eQ hd).1 (by omega) gd st]
  exact hd'
 ·rw [if_neg hb] at hr
  exact hr.elim
theorem vK (hu:X.A.units+62<cLine):BOp X ad (.builtin "sorted") mQ:=by
 intro pins s σ H G x v u Q E I hG q ru hr
 have hr':RK X.K ad G H (match items x with | some ds=>sI ds | none=> .bad) Q E:=hr
 cases e1:items x with
 | none=>rw [e1] at hr';exact hr'.elim
 | some ds=>
  rw [e1] at hr'
  have hr2:RK X.K ad G H (match cI ds with
   | some ns=>if ns.length<64 then .ow ((mP ns).map D.int) else .bad
   | none=>jG ds) Q E:=hr'
  cases e2:cI ds with
  | some ns=>rw [e2] at hr2;exact lF I hG q ru e1 e2 hr2
  | none=>rw [e2] at hr2;exact vJ hu I hG q ru e1 hr2
end
section
variable {prog:Program} {w:World} {A:Around} {E:Value->Shared->Prop} {s:Shared}
structure Fresh16 (vs:List Value) (ns:List Nat):Prop where
 len:vs.length=ns.length
 at': ∀ (i n:Nat),ns[i]? =some n-> ∃ t,vs[i]? =some (Value.int (Int.ofNat n) t)
 nodup:ns.Nodup
 lt: ∀ n∈ns,n<17
theorem Fresh16.le {vs:List Value} {ns:List Nat} (q:Fresh16 vs ns):ns.length<=17:=by
 have p:=pG ns q.nodup q.lt
 have h1:=p.length_eq
 have h2:((List.range 32).filter fun j=>decide (j∈ns)).Sublist ((List.range 32).filter fun j=>decide (j<17)):=by
  refine List.Sublist.trans ?_ (List.Sublist.refl _)
  have:((List.range 32).filter fun j=>decide (j∈ns))=((List.range 32).filter fun j=>decide (j<17)).filter fun j=>decide (j∈ns):=by
   rw [List.filter_filter]
   refine List.filter_congr fun a _=> ?_
   by_cases z:a∈ns
   ·simp [z,q.lt a z]
   ·simp [z]
  rw [this]
  exact List.filter_sublist
 have h3:=h2.length_le
 have h4:((List.range 32).filter fun j=>decide (j<17)).length=17:=by decide
 omega
structure All16 (vs:List Value) (ns:List Nat):Prop where
 len:vs.length=ns.length
 at': ∀ (i n:Nat),ns[i]? =some n-> ∃ t,vs[i]? =some (Value.int (Int.ofNat n) t)
 lt: ∀ n∈ns,n<17
noncomputable def ddS (acc:List Nat) (n:Nat):List Nat:=if n∈acc then acc else n::acc
noncomputable def dd (ns:List Nat):List Nat:=ns.foldl ddS []
theorem Fresh16.each {vs:List Value} {ns:List Nat} (q:Fresh16 vs ns): ∀ v∈vs, ∃ n∈ns, ∃ t,v=Value.int (Int.ofNat n) t:=fun v hv=>by
 obtain⟨j,hj,rfl⟩:=List.getElem_of_mem hv
 have hj2:j<ns.length:=by rw [<-q.len];exact hj
 obtain⟨t',et'⟩:=q.at' j ns[j] (az hj2)
 exact⟨ns[j],List.getElem_mem _,t',Option.some.inj ((az _).symm.trans et')⟩
end
theorem b6:PySem.Slot "set_iterator" "__next__" "set_iterator.__next__":=
 .of (owner:="set_iterator") (n:="__next__") (by rw [typeLookup_type,builtinLookup_eq_fast];kernel_rfl) (by decide+kernel) (by decide+kernel) (by decide+kernel)
  (by first | exact .inl (by decide+kernel) | exact .inr (by decide+kernel)) (by rw [isSubtype_type];kernel_rfl)
theorem hV:entryFor table "set_iterator.__next__"=some Builtin.«set_iterator.__next__»:=entryFor_of_tree (by kernel_rfl)
theorem uA:Manifest.owners.lookup (String.ofList ['r','o','t','a','r','e','t','i','_','t','e','s'].reverse)=some Manifest.sig_set_iterator:=by kernel_rfl
theorem i9 (a:Value):argsOk "set_iterator.__next__" ⟨[a],[]⟩:=by
 unfold argsOk
 rw [signature?_of (id:="set_iterator.__next__") (n:=['_','_','t','x','e','n','_','_']) (o:=['r','o','t','a','r','e','t','i','_','t','e','s']) (by kernel_rfl) uA];kernel_rfl
theorem pR:entryFor table "set.__iter__"=some Builtin.«frozenset.__iter__»:=
 entryFor_alias (id':="frozenset.__iter__") (by kernel_rfl) rfl (by decide+kernel) (by kernel_rfl)
theorem l9 {α:Type}: ∀ (l:List α) (i:Nat) (x:α),l[i]? =some x->(x::l.eraseIdx i).Perm l
 | [],i,x,h=>by simp at h
 | a::l,0,x,h=>by
  have:a=x:=by simpa using h
  subst this;simp
 | a::l,i+1,x,h=>by
  have ih:=l9 l i x (by simpa using h)
  rw [List.eraseIdx_cons_succ]
  exact(List.Perm.swap a x _).trans (ih.cons a)
theorem yW {α:Type} (next:Nat->Nat): ∀ (n k:Nat) (l:List α) (out:Array α),l.length=n->(pickOrder.go next n k l out).toList.Perm (out.toList++l)
 | 0,k,l,out,h=>by
  have:l=[]:=List.length_eq_zero_iff.mp h
  subst this
  unfold pickOrder.go
  simp
 | n+1,k,l,out,h=>by
  unfold pickOrder.go
  have lt:next k % l.length<l.length:=Nat.mod_lt _ (by omega)
  rw [az lt]
  dsimp only
  have e:=az lt
  have p:=l9 l _ _ e
  refine(yW next n (k+1) _ _ (by rw [List.length_eraseIdx_of_lt lt];omega)).trans ?_
  rw [Array.toList_push,List.append_assoc]
  exact p.append_left _
theorem yX {α:Type} (next:Nat->Nat) (xs:Array α):(pickOrder next xs).toList.Perm xs.toList:=by
 have:=yW next xs.size 0 xs.toList #[] (by simp)
 simpa [pickOrder] using this
noncomputable def lG (sl i a n ep:Nat):Obj:={ cls:= .type "set_iterator",data:= .fields #[.int sl 0, .int i 0, .ref a, .int n 0, .int ep 0] }
noncomputable def pS (ps:List Nat):Nat->Nat
 | 0=>0
 | i+1=>ps.getD i 0+1
noncomputable def jE (w:World) (a ep:Nat) (es:Array (Int×Value)):Array (Int×Value):=if w.params.followText "set-order" then pickOrder (w.params.setOrder a ep) es else es
theorem hW (w:World) (a ep:Nat) (es:Array (Int×Value)):(jE w a ep es).toList.Perm es.toList:=by
 unfold jE
 split
 ·exact yX _ _
 ·exact List.Perm.refl _
def eR (w:World) (es:Array (Int×Value)) (t:SetTable) (ps:List Nat):Prop:=
 t.fits es.size=true/\(w.params.followText "set-order"=false->t.place=ps.toArray/\ps.Pairwise (· < ·)/\ps.length=es.size/\t.led=true/\t.plain=true)
noncomputable def kS (w:World) (ps:List Nat) (i:Nat):Nat:=if w.params.followText "set-order" then 0 else pS ps i
section
variable {prog:Program} {w:World} {A:Around} {E:Value->Shared->Prop} {s:Shared}
theorem uB {a ep i:Nat} {es:Array (Int×Value)} {t:SetTable} {ps:List Nat} {Q:Option (Value×Nat)->Shared->Prop} (ho:s.heap.get? a=some (eE es ep t)) (W:eR w es t ps) (hi:i<=es.size)
  (h:Q ((jE w a ep es)[i]?.map fun e=>(e.2,kS w ps (i+1))) s):wpAny (model prog w) A (setNext a (kS w ps i) i ep) Q E s:=by
 unfold setNext
 refine aa (wpAny_setState_of ho rfl W.1 ?_)
 dsimp only
 unfold setsByText
 refine aa (aa (wpAny_askSetting (ae ?_)))
 dsimp only
 cases e:w.params.followText "set-order" with
 | true=>
  have e':(model prog w).w.params.followText "set-order"=true:=e
  rw [e']
  simp only [bne_self_eq_false,aw,↓reduceIte]
  unfold setWalk
  refine aa (aa (wpAny_setState_of ho rfl W.1 ?_))
  dsimp only
  unfold setsByText
  refine aa (aa (wpAny_askSetting (ae ?_)))
  dsimp only
  rw [e']
  simp only [↓reduceIte]
  refine aa (wpAny_askSetting (ae (ae ?_)))
  unfold jE kS at h
  unfold kS
  rw [e] at h ⊢
  exact h
 | false=>
  have e':(model prog w).w.params.followText "set-order"=false:=e
  obtain⟨w1,w2,w3,w4,w5⟩:=W.2 e
  rw [e']
  simp only [aw,↓reduceIte]
  show wpAny _ _ (if(!t.plain&&decide (es.size > 1))=true then _ else _) Q E s
  rw [w5]
  simp only [Bool.not_true,Bool.false_and,aw,↓reduceIte]
  show wpAny _ _ ((if(!t.led&& !es.isEmpty)=true then unsupported "set:maker-not-led" else pure ()) >>= _) Q E s
  rw [w4]
  simp only [Bool.not_true,Bool.false_and,aw,↓reduceIte]
  refine aa (ae ?_)
  have bl:SetTable.below ps.toArray (pS ps i)=i:=by
   cases i with
   | zero=>exact vH w2
   | succ i=>
    have:=aBf w2 i (by omega)
    have e3:pS ps (i+1)=ps[i]+1:=by
     show ps.getD i 0+1=_
     have:i<ps.length:=by omega
     simp [this]
    rw [e3]
    exact this
  have sl:kS w ps i=pS ps i:=by unfold kS;rw [e];rfl
  have sl1:kS w ps (i+1)=ps.getD i 0+1:=by unfold kS;rw [e];rfl
  have od:jE w a ep es=es:=by unfold jE;rw [e];rfl
  rw [sl1,od] at h
  rw [sl,w1,bl]
  refine ae ?_
  by_cases z:i<es.size
  ·have e1:es[i]? =some es[i]:=Array.getElem?_eq_getElem z
   have e2:ps.toArray[i]? =some (ps.getD i 0):=by
    have:i<ps.length:=by omega
    simp [this]
   rw [e1] at h ⊢
   rw [e2]
   exact h
  ·have e1:es[i]? =none:=Array.getElem?_eq_none (by omega)
   rw [e1] at h ⊢
   exact h
theorem aFy {it a ep i:Nat} {es:Array (Int×Value)} {t:SetTable} {ps:List Nat} {x:Int×Value} {Q:Option Value->Shared->Prop} (hit:s.heap.get? it=some (lG (kS w ps i) i a es.size ep)) (ho:s.heap.get? a=some (eE es ep t)) (W:eR w es t ps) (hx:(jE w a ep es)[i]? =some x)
  (hQ: ∀ h',h'.get? it=some (lG (kS w ps (i+1)) (i+1) a es.size ep)->Heap.SameBut it s.heap h'->Q (some x.2) { s with heap:=h' }):wpAny (model prog w) A (pyNext (.ref it)) Q E s:=by
 have hT:s.TypeIs (.ref it) "set_iterator":=⟨_,hit,rfl⟩
 have hi:i<=es.size:=by
  have h1:=(hW w a ep es).length_eq
  have h2:=(Array.getElem?_eq_some_iff.mp hx).1
  simp at h1
  omega
 unfold pyNext
 refine aa (wpAny_attempt (wpAny_callSpecial?_slot (name:=Str.ofString "__next__") hT b6 (wpAny_call_entry b6 hT hV ?_ (i9 _))))
 show wpAny _ _ (fieldsOf (.ref it) >>= _) _ _ s
 refine aa (wpAny_fieldsOf hit rfl ?_)
 dsimp only
 show wpAny _ _ (setEntries a >>= _) _ _ s
 refine aa (wpAny_setEntries_of ho rfl W.1 ?_)
 simp only [bne_self_eq_false,aw,↓reduceIte]
 show wpAny _ _ (setNext a (kS w ps i) i ep >>= _) _ _ s
 refine aa (uB ho W hi ?_)
 rw [hx]
 show wpAny _ _ (setField (.ref it) 0 (rawInt (kS w ps (i+1))) >>= _) _ _ s
 refine aa (wpAny_setField_rec hit (by simp) fun h1 i1 s1=> ?_)
 show wpAny _ _ (setField (.ref it) 1 (rawInt (↑i+1)) >>= _) _ _ _
 refine aa (wpAny_setField_rec i1 (by simp) fun h2 i2 s2=> ?_)
 refine ae ⟨_,rfl,ae (hQ h2 i2 (s1.trans s2))⟩
theorem aJu {it a ep i:Nat} {es:Array (Int×Value)} {t:SetTable} {ps:List Nat} {Q:Option Value->Shared->Prop} (hh:A.handled=none) (hit:s.heap.get? it=some (lG (kS w ps i) i a es.size ep)) (ho:s.heap.get? a=some (eE es ep t)) (W:eR w es t ps) (hi:i=es.size)
  (hQ: ∀ h',Heap.ExtBut it s.heap h'->Q none { s with heap:=h' }):wpAny (model prog w) A (pyNext (.ref it)) Q E s:=by
 have hT:s.TypeIs (.ref it) "set_iterator":=⟨_,hit,rfl⟩
 have hx:(jE w a ep es)[i]? =none:=by
  have h1:=(hW w a ep es).length_eq
  simp at h1
  exact Array.getElem?_eq_none (by omega)
 unfold pyNext
 refine aa (wpAny_attempt (wpAny_callSpecial?_slot (name:=Str.ofString "__next__") hT b6 (wpAny_call_entry b6 hT hV ?_ (i9 _))))
 show wpAny _ _ (fieldsOf (.ref it) >>= _) _ _ s
 refine aa (wpAny_fieldsOf hit rfl ?_)
 dsimp only
 show wpAny _ _ (setEntries a >>= _) _ _ s
 refine aa (wpAny_setEntries_of ho rfl W.1 ?_)
 simp only [bne_self_eq_false,aw,↓reduceIte]
 show wpAny _ _ (setNext a (kS w ps i) i ep >>= _) _ _ s
 refine aa (uB ho W (by omega) ?_)
 rw [hx]
 show wpAny _ _ (setField (.ref it) 2 .none >>= _) _ _ s
 refine aa (wpAny_setField_rec hit (by simp) fun h1 i1 s1=> ?_)
 show wpAny _ _ (newExc (.type "StopIteration") [] >>= _) _ _ _
 refine aa ?_
 simp only [newExc,newTuple]
 refine aa (wpAny_newObj_type ?_ (by size_fits))
 refine aa (m:=firstArgMember _ _) (wpAny_of_eq (a:=Value.none) (by first | rfl | (simp only [firstArgMember];rfl)) ?_)
 refine wpAny_newObj_type ?_ (by size_fits)
 simp only [raiseNew]
 refine aa (wpAny_handled ?_)
 rw [show A.in1.handled=none from hh]
 refine aa (ae (wpAny_throw ?_))
 refine aa (wpAny_isInstance (T:="StopIteration") (b:=true) ⟨_,ag _ rfl,rfl⟩ isSubtype_stop ?_)
 exact ae (hQ _ ((s1.extBut.push _).push _))
theorem aJv {a ep:Nat} {es:Array (Int×Value)} {t:SetTable} {ps:List Nat} {Q:Value->Shared->Prop} (ho:s.heap.get? a=some (eE es ep t)) (W:eR w es t ps)
  (hQ:Q (.ref s.heap.objs.size) { s with heap:=s.heap.push (lG (kS w ps 0) 0 a es.size ep) }):wpAny (model prog w) A (pyIter (.ref a)) Q E s:=by
 have hT:s.TypeIs (.ref a) "set":=⟨_,ho,rfl⟩
 have sl:kS w ps 0=0:=by unfold kS pS;split<;>rfl
 rw [sl] at hQ
 refine wpAny_pyIter_slot hT PySem.F.slot_set_iter (wpAny_call_entry PySem.F.slot_set_iter hT pR ?_ (PySem.F.args_set_iter_1 _))
 unfold Builtin.«frozenset.__iter__» Builtin.Frozenset.slot0 slotArgs
 simp only [List.isEmpty_nil,Bool.not_true,aw,↓reduceIte,bind_assoc,List.length_nil,bne_self_eq_false]
 unfold Builtin.Frozenset.addrOf Builtin.Frozenset.sizeOf
 refine aa (ae ?_)
 try dsimp only
 refine aa (ae ?_)
 refine aa (aa (wpAny_setEntries_of ho rfl W.1 (ae ?_)))
 unfold setDrawn
 refine aa (aa (wpAny_setState_of ho rfl W.1 ?_))
 dsimp only
 unfold setsByText
 refine aa (aa (wpAny_askSetting (ae ?_)))
 have nd:(!w.params.followText "set-order"&&(!t.plain&&decide (es.size > 1)))=false:=by
  cases e:w.params.followText "set-order" with
  | true=>rfl
  | false=>rw [(W.2 e).2.2.2.2];rfl
 refine ae ?_
 show wpAny _ _ (if(!w.params.followText "set-order"&&(!t.plain&&decide (es.size > 1)))=true then _ else _) _ _ _
 rw [nd]
 simp only [aw,↓reduceIte]
 refine aa (ae (aa (wpAny_setEpoch_of ho rfl W.1 ?_)))
 exact aa (wpAny_newObj_type (ae ⟨_,rfl,"set_iterator",_,⟨_,ag _ rfl,rfl⟩,b6.lookup,hQ⟩))
end
section
variable {prog:Program} {w:World} {A:Around} {E:Value->Shared->Prop} {s:Shared}
noncomputable def fF (w:World):Obj:=eE #[] 0 (.fresh 0 0 (!w.params.followText "set-order"))
theorem aBk (a:Value) {Q:Value->Shared->Prop} (h:Q (.ref s.heap.objs.size) { s with heap:=s.heap.push (fF w) }):
  codeAny (model prog w) A (.call (.builtin "set.__new__") ⟨[.type "set",a],[]⟩) (wants Q E) s:=by
 refine codeAny_of_tree ?_
 show wpAny _ A.in1 (do checkBuiltinCall "set.__new__" ⟨[.type "set",a],[]⟩;again (.builtin "set.__new__" ⟨[.type "set",a],[]⟩)) _ _ s
 refine aa (wpAny_of_eq (PySem.F.newCall_set_1 a) (ae ⟨plainId_quiet PySem.F.plain_set_new _,codeAny_builtin PySem.F.entry_set_new ?_⟩))
 rw [Around.under_plainId PySem.F.plain_set_new _]
 unfold Builtin.«set.__new__» Builtin.Frozenset.newClass
 have hsub:=sub_set_self
 obtain⟨hp,g,d,tk,os⟩:=s
 dsimp only
 wp_walk
 refine wpAny_askSetting (ae ?_)
 dsimp only
 simp only [newObj]
 refine aa (wpAny_alloc (ae ?_))
 exact ae h
end
theorem jA:PySem.Slot "set_iterator" "__iter__" "set_iterator.__iter__":=
 .of (owner:="set_iterator") (n:="__iter__") (by rw [typeLookup_type,builtinLookup_eq_fast];kernel_rfl) (by decide+kernel) (by decide+kernel) (by decide+kernel)
  (by first | exact .inl (by decide+kernel) | exact .inr (by decide+kernel)) (by rw [isSubtype_type];kernel_rfl)
theorem nK:entryFor table "set_iterator.__iter__"=some Builtin.«dict_keyiterator.__iter__»:=
 entryFor_alias (id':="dict_keyiterator.__iter__") (by kernel_rfl) (by first | rfl | decide+kernel | (unfold String.splitOn;simp+decide [String.splitOnAux])) (by decide+kernel) (by kernel_rfl)
theorem pT (a:Value):argsOk "set_iterator.__iter__" ⟨[a],[]⟩:=by
 unfold argsOk
 rw [signature?_of (id:="set_iterator.__iter__") (n:=['_','_','r','e','t','i','_','_']) (o:=['r','o','t','a','r','e','t','i','_','t','e','s']) (by kernel_rfl) uA];kernel_rfl
section
variable {prog:Program} {w:World} {A:Around} {E:Value->Shared->Prop} {s:Shared}
theorem aBl {it a ep:Nat} {es:Array (Int×Value)} {t:SetTable} {ps:List Nat} (hh:A.handled=none) (hne:a≠it) (W:eR w es t ps):
  Walks prog w A it [it,a] [it] es.size (fun i v=> ∃ x,(jE w a ep es)[i]? =some x/\v=x.2) (fun i h=>h.get? it=some (lG (kS w ps i) i a es.size ep)/\h.get? a=some (eE es ep t)) where
 sub:=fun b hb=>by simp at hb;simp [hb]
 frame:=fun _ _ _ st hk=>⟨hk it (by simp) _ st.1,hk a (by simp) _ st.2⟩
 item:=fun i s Q E hi st hQ=>by
  have hl:i<(jE w a ep es).size:=by
   have:=(hW w a ep es).length_eq
   simp at this
   omega
  refine aFy st.1 st.2 W (x:=(jE w a ep es)[i]) (Array.getElem?_eq_getElem hl) fun h' i' hs=> ?_
  exact hQ _ h' s.toks ⟨_,Array.getElem?_eq_getElem hl,rfl⟩ ⟨i',(hs.2 a hne).trans st.2⟩ fun b o hb e=>hs.extBut b o (fun z=>hb (by simp [z])) e
 done:=fun s Q E st hQ=>aJu hh st.1 st.2 W rfl fun h' he=>hQ h' s.toks fun b o hb e=>he b o (fun z=>hb (by simp [z])) e
 self:=fun i s Q E st hQ=>by
  have hT:s.TypeIs (.ref it) "set_iterator":=⟨_,st.1,rfl⟩
  refine wpAny_pyIter_slot hT jA (wpAny_call_entry jA hT nK ?_ (pT _))
  show wpAny _ _ (ret (.ref it)) _ _ s
  exact ae ⟨_,rfl,"set_iterator",_,hT,b6.lookup,hQ⟩
theorem rR {a ep:Nat} {es:Array (Int×Value)} {t:SetTable} {ps:List Nat} {Q:List Value->Shared->Prop} (hh:A.handled=none) (ho:s.heap.get? a=some (eE es ep t)) (W:eR w es t ps) (hz:es.size<=sizeLine)
  (hQ: ∀ h' tk (acc:Array Value),(∀ b o,s.heap.get? b=some o->h'.get? b=some o)->s.toks<=tk->acc.toList.Perm (es.toList.map (·.2))->Q acc.toList { s with heap:=h',toks:=tk }):
  wpAny (model prog w) A (collect (.ref a)) Q E s:=by
 unfold collect
 refine aa (wpAny_runValue (codeAny_builtin PySem.F.entry_proto_collect ?_))
 rw [Around.under_plainId PySem.F.plain_proto_collect _]
 show wpAny _ A.in1 (newList [] >>= fun l=>again (.builtin "list.__iadd__" ⟨[l, .ref a],[]⟩)) _ _ s
 refine aa (wpAny_newObj_type ?_)
 refine ae ⟨plainId_quiet PySem.F.plain_list_iadd _,codeAny_builtin PySem.F.entry_list_iadd ?_⟩
 rw [Around.under_plainId PySem.F.plain_list_iadd _]
 have ha:a<s.heap.objs.size:=ah ho
 have h1:Builtin.List.listSameRef (.ref s.heap.objs.size) (.ref a)=false:=by simp [Builtin.List.listSameRef,Nat.ne_of_gt ha]
 have ho1:(s.heap.push { cls:= .type "list",data:= .seq ([]:List Value).toArray }).get? a=some (eE es ep t):=af _ ho
 show wpAny _ A.in1 (Builtin.List.listExtendWith (.ref s.heap.objs.size) (.ref a) (.ref s.heap.objs.size)) _ _ _
 unfold Builtin.List.listExtendWith
 refine aa (wpAny_typeOf (T:="set") ⟨_,ho1,rfl⟩ ?_)
 rw [if_neg (by rw [h1];decide)]
 refine aa (aJv (s:={ s with heap:=s.heap.push { cls:= .type "list",data:= .seq ([]:List Value).toArray } }) ho1 W ?_)
 refine aa (wpAny_holding ?_)
 unfold Builtin.List.listLengthHint
 refine aa (wpAny_specialOf (T:="set") ⟨_,af _ ho1,rfl⟩ PySem.F.slot_set_len.lookup ?_)
 (generalize hid:("set.__len__":String)=id0;(fail_if_success (clear hid id0));wp_delta;rw [show splitId id0=some ("set","__len__") from by subst hid;decide+kernel];subst hid)
 refine aa (wpAny_isInstance (T:="set") (b:=true) ⟨_,af _ ho1,rfl⟩ sub_set_self ?_)
 show wpAny _ A.in1 (typeOf (.ref a) >>= _) _ _ _
 refine aa (wpAny_typeOf (T:="set") ⟨_,af _ ho1,rfl⟩ ?_)
 refine ae ?_
 have hsz:(s.heap.push { cls:= .type "list",data:= .seq ([]:List Value).toArray }).objs.size=s.heap.objs.size+1:=ai ..
 have hL:(s.heap.push { cls:= .type "list",data:= .seq ([]:List Value).toArray }).get? s.heap.objs.size=some { cls:= .type "list",data:= .seq ([]:List Value).toArray }:=ag _ rfl
 have k0: ∀ b o,s.heap.get? b=some o->(s.heap.push { cls:= .type "list",data:= .seq ([]:List Value).toArray }).get? b=some o:=fun b o e=>af _ e
 dsimp only
 generalize s.heap.push { cls:= .type "list",data:= .seq ([]:List Value).toArray }=H1 at ho1 hsz hL k0 ⊢
 have hI:(H1.push (lG (kS w ps 0) 0 a es.size ep)).get? H1.objs.size=some (lG (kS w ps 0) 0 a es.size ep):=ag _ rfl
 have hL2:(H1.push (lG (kS w ps 0) 0 a es.size ep)).get? s.heap.objs.size=some { cls:= .type "list",data:= .seq ([]:List Value).toArray }:=af _ hL
 have k1: ∀ b o,H1.get? b=some o->(H1.push (lG (kS w ps 0) 0 a es.size ep)).get? b=some o:=fun b o e=>af _ e
 generalize H1.push (lG (kS w ps 0) 0 a es.size ep)=H2 at hI hL2 k1 ⊢
 show wpAny _ A.in1 (rule "list.extend.makes-room" >>= fun _=>Builtin.List.listTouch (.ref s.heap.objs.size) >>= fun _=>again (.builtin "list.extend.loop" ⟨[.ref s.heap.objs.size, .ref H1.objs.size, .ref s.heap.objs.size],[]⟩)) _ _ { s with heap:=H2 }
 refine aa (wpAny_rule (aa ?_))
 show wpAny _ A.in1 (updateSeq s.heap.objs.size (·.push .none) >>= fun _=>updateSeq s.heap.objs.size (·.pop)) _ _ _
 refine aa (wpAny_updateSeq hL2 rfl ?_)
 have hL3:=Heap.get?_update_self (Obj.mapSeq (·.push Value.none)) hL2 rfl
 refine wpAny_updateSeq hL3 rfl ?_
 have hL4:=Heap.get?_update_self (Obj.mapSeq (·.pop)) hL3 rfl
 have oth: ∀ b o,b≠s.heap.objs.size->H2.get? b=some o->((H2.update s.heap.objs.size (Obj.mapSeq (·.push Value.none))).update s.heap.objs.size (Obj.mapSeq (·.pop))).get? b=some o:=
  fun b o hb e=>(Heap.get?_update_other _ _ (Ne.symm hb)).trans ((Heap.get?_update_other _ _ (Ne.symm hb)).trans e)
 have ne1:H1.objs.size≠s.heap.objs.size:=by omega
 have ne2:a≠s.heap.objs.size:=by omega
 have ne3:a≠H1.objs.size:=by omega
 have hSf:s.heap.objs.size∉[H1.objs.size,a]:=by simp;omega
 refine ae ⟨plainId_quiet PySem.F.plain_extend_loop _,codeAny_extend_loopS ((aBl (A:=A.in1) hh ne3 W).toS) hz _ hSf _ es.size 0 _ _ _ rfl (bp _) ⟨oth _ _ ne1 hI,oth _ _ ne2 (k1 _ _ ho1)⟩ hL4 (ItemsOf.nil _) fun s' acc c hm hS' hacc=> ?_⟩
 show wpAny _ A (load s.heap.objs.size >>= _) _ _ s'
 refine aa (wpAny_load hS' ?_)
 obtain⟨h',g',d',tk',os'⟩:=s'
 have eg:g'=s.gens:=hm.gens
 have ed:d'=s.drawn:=hm.drawn
 have eo:os'=s.os:=hm.os
 subst eg;subst ed;subst eo
 refine ae (hQ h' tk' acc (fun b o e=> ?_) hm.toks ?_)
 ·have hb:b<s.heap.objs.size:=ah e
  exact hm.heap b o (by simp only [aq,List.not_mem_nil,or_false,not_or];exact⟨bf hb,by rw [hsz];exact bf (Nat.lt_succ_of_lt hb)⟩) (oth b o (bf hb) (k1 b o (k0 b o e)))
 ·have e1:acc.toList=(jE w a ep es).toList.map (·.2):=by
   have lp:=(hW w a ep es).length_eq
   simp at lp
   apply List.ext_getElem?
   intro i
   rw [List.getElem?_map,Array.getElem?_toList,Array.getElem?_toList]
   by_cases z:i<acc.size
   ·obtain⟨x,h1,h2⟩:=hacc.2 i _ (Array.getElem?_eq_getElem z)
    rw [h1,Array.getElem?_eq_getElem z,h2];rfl
   ·rw [Array.getElem?_eq_none (by omega),Array.getElem?_eq_none (by rw [lp, <-hacc.1];omega)];rfl
  rw [e1]
  exact(hW w a ep es).map _
end
theorem aFz (l:List D): ∀ acc:List D,acc.length<=(l.foldl qU acc).length:=by
 induction l with
 | nil=>intro acc;exact aj _
 | cons d l ih=>
  intro acc
  refine Nat.le_trans ?_ (ih (qU acc d))
  unfold qU
  split<;>simp
theorem aJw (l:List D): ∀ acc:List D,(l.foldl qU acc).length<=acc.length+l.length:=by
 induction l with
 | nil=>intro acc;exact aj _
 | cons d l ih=>
  intro acc
  refine Nat.le_trans (ih (qU acc d)) ?_
  unfold qU
  split<;>simp<;>omega
theorem aF0 (ds:List D) {i:Nat} (hi:i<ds.length):ddD (ds.take (i+1))=qU (ddD (ds.take i)) ds[i]:=by
 unfold ddD
 rw [<-List.take_append_getElem hi,List.foldl_append]
 rfl
theorem aJx (ds:List D) (i:Nat):(ddD (ds.take i)).length<=(ddD ds).length:=by
 have:ddD ds=(ds.drop i).foldl qU (ddD (ds.take i)):=by
  unfold ddD
  rw [<-List.foldl_append,List.take_append_drop]
 rw [this]
 exact aFz _ _
def aF1 (w:World) (h:Heap) (S:Addr) (us:List Value) (ds:List D) (i:Nat):Prop:=
 ∃ (L:Ln) (m mv ep:Nat) (ks:List Nat),h.get? S=some (aJs L m mv ep (!w.params.followText "set-order"))/\TI m L/\Ms m/\L.length * 5<m * 3/\(∀ k∈ks,k<i)/\ks.map (fun k=>ds.getD k .non)=ddD (ds.take i)/\(L.map (·.2)).Perm (ks.map fun k=>(hsh (bJ (ds.getD k .non)),us.getD k Value.none))
theorem aF1.kept {w:World} {h h':Heap} {S:Addr} {us:List Value} {ds:List D} {i:Nat} (q:aF1 w h S us ds i) (k: ∀ o,h.get? S=some o->h'.get? S=some o):aF1 w h' S us ds i:=by
 obtain⟨L,m,mv,ep,ks,ho,r⟩:=q
 exact⟨L,m,mv,ep,ks,k _ ho,r⟩
section
variable {prog:Program} {w:World} {A:Around} {E:Value->Shared->Prop} {s:Shared}
theorem yY {I S:Addr} {fp wr:List Addr} {G:Array GenState->Array GenState->Prop} {St:Nat->Shared->Prop} {items:Array Value} {ds:List D} {as:List Addr} {h0:Heap} {R:Result->Shared->Prop} (hu:A.units+20<cLine)
  (W:WalksS prog w A.in1 I fp wr G items.size (fun i v=>items[i]? =some v) St) (hSf:S∉fp) (hr0:ReadsAll h0 items.toList (aV ds) as) (hd:gB ds=true) (h64:(ddD ds).length<64) (hold: ∀ b o,h0.get? b=some o->b∉S::wr):
  ∀ (k i:Nat) (s:Shared),items.size - i=k->i<=items.size->St i s->(∀ b o,h0.get? b=some o->s.heap.get? b=some o)->aF1 w s.heap S items.toList ds i->
   (∀ s',Moved (S::wr) G s s'->aF1 w s'.heap S items.toList ds ds.length->R (.ok (.ret .none)) s')->
   codeAny (model prog w) A (.builtin "set.update.loop" ⟨[.ref S, .ref I],[]⟩) R s:=by
 have hSw:S∉wr:=fun h=>hSf (W.sub _ h)
 have sub: ∀ b∈wr,b∈S::wr:=fun b hb=> .tail _ hb
 have len:items.size=ds.length:=by
  have:=SeqAt.ReadsAll.length _ _ _ hr0
  rw [kO] at this
  simpa using this
 obtain⟨one,tups,_⟩:=eQ hd
 have mem: ∀ i,i<ds.length->ds.getD i .non∈ds:=fun i hi=>by
  rw [bt,az hi,Option.getD_some];exact List.getElem_mem hi
 have key: ∀ (h:Heap),(∀ b o,h0.get? b=some o->h.get? b=some o)-> ∀ j,j<ds.length->Key h (bJ (ds.getD j .non)) (items.toList.getD j Value.none):=fun h hk' j hj=>by
  obtain⟨bs,r⟩:=hU (bK (fun b o _ e=>hk' b o e) (yV hd) hr0) hj
  have m:=mem j hj
  have sm:=one _ m _ m
  refine⟨?_,kJ sm,by rw [e9];exact(tups _ m).2,bs,r⟩
  have t:=(tups _ m).1
  cases hq:ds.getD j .non<;>rw [hq] at t<;>simp [jY] at t
  rw [hq] at r
  simp only [bJ] at r
  generalize items.toList.getD j Value.none=v at r
  cases r
  exact⟨_,rfl⟩
 intro k
 induction k with
 | zero=>
  intro i s hk hi hst hJ hS hR
  have hin:i=items.size:=by omega
  subst hin
  refine codeAny_builtin F.entry_set_update_loop ?_
  rw [Around.under_plainId F.plain_set_update_loop _]
  show wpAny _ A.in1 (pyNext (.ref I) >>= _) _ _ s
  refine aa (W.done s _ _ hst fun s' hm=> ?_)
  rw [len] at hS
  show wpAny _ A.in1 (ret Value.none) _ _ s'
  exact ae (hR s' (hm.mono sub) (hS.kept fun o e=>hm.heap S o hSw e))
 | succ k ih=>
  intro i s hk hi hst hJ hS hR
  have hlt:i<items.size:=by omega
  have hin:i<ds.length:=by omega
  refine codeAny_builtin F.entry_set_update_loop ?_
  rw [Around.under_plainId F.plain_set_update_loop _]
  show wpAny _ A.in1 (pyNext (.ref I) >>= _) _ _ s
  refine aa (W.item i s _ _ hlt hst fun v s' hP hst' hm=> ?_)
  have hJ': ∀ b o,h0.get? b=some o->s'.heap.get? b=some o:=fun b o e=>hm.heap b o (fun z=>hold b o e (sub _ z)) (hJ b o e)
  have hS':=hS.kept fun o e=>hm.heap S o hSw e
  have ev:items.toList.getD i Value.none=v:=by
   rw [bt,Array.getElem?_toList,show items[i]? =some v from hP];rfl
  have kv:=key s'.heap hJ' i hin
  rw [ev] at kv
  obtain⟨⟨x,rfl⟩,k2,k3,bs,k4⟩:=id kv
  show wpAny _ A.in1 (holding [Value.ref x] (setAdd S (.ref x)) >>= _) _ _ s'
  refine aa (wpAny_holding ?_)
  unfold setAdd
  refine wpAny_holding ?_
  refine aa (aFt 8 _ _ bs _ _ _ _ k2 k3 k4 (by have:=A.in1_units;omega) fun tk ht=> ?_)
  obtain⟨L,m,mv,ep,ks,ho,hT,hm',hl,kl,kd,kp⟩:=hS'
  have lenL:L.length=(ddD (ds.take i)).length:=by
   have h1:=kp.length_eq
   have h2:=congrArg List.length kd
   simp only [am] at h1 h2
   omega
  have le64:=aJx ds i
  have mE: ∀ e∈L, ∃ j∈ks,e.2=(hsh (bJ (ds.getD j .non)),items.toList.getD j Value.none):=fun e he=>by
   obtain⟨j,j1,j2⟩:=ao.mp (kp.mem_iff.mp (ao.mpr ⟨e,he,rfl⟩))
   exact⟨j,j1,j2.symm⟩
  have uniq: ∀ {v:Value} {d1 d2:PyData},Key s'.heap d1 v->Key s'.heap d2 v->d1=d2:=fun {v d1 d2} q1 q2=>by
   obtain⟨_,a1,_,b1,c1⟩:=q1
   obtain⟨_,a2,_,b2,c2⟩:=q2
   exact SeqAt.Reads.unique d1 d2 v b1 b2 (yM _ a1) c1 c2
  have deqE: ∀ j,j<ds.length->PyData.eqv (bJ (ds.getD j .non)) (bJ (ds.getD i .non))=deq (ds.getD j .non) (ds.getD i .non):=fun j hj=>by
   have mj:=mem j hj
   have mi:=mem i hin
   exact fE _ _ (b5 (one _ mj _ mj)) (b5 (one _ mi _ mi))
  have ei:ds.getD i .non=ds[i]:=by simp [hin]
  have e2:=aF0 ds hin
  refine aFv (s:={ s' with toks:=tk }) (d:=bJ (ds.getD i .non)) (by have:=A.in1_units;omega) ho hT hm' hl (by omega) kv (fun e he=> ?_) (fun⟨e,he,d',q1,q2⟩=> ?_) fun hno h' L' m2 mv2 ep2 hsb ho2 T2 M2 l2 pm=> ?_
  ·obtain⟨j,j1,j2⟩:=mE e he
   have hj:=kl j j1
   refine⟨bJ (ds.getD j .non), ?_,by rw [j2]⟩
   rw [j2];exact key s'.heap hJ' j (by omega)
  ·-- there already
   obtain⟨j,j1,j2⟩:=mE e he
   have hj:=kl j j1
   have ed:d'=bJ (ds.getD j .non):=by
    have:=key s'.heap hJ' j (by omega)
    rw [j2] at q1
    exact uniq q1 this
   rw [ed,deqE j (by omega)] at q2
   have hany:(ddD (ds.take i)).any (fun e=>deq e ds[i])=true:=by
    rw [<-kd,List.any_map,List.any_eq_true]
    exact⟨j,j1,by rw [<-ei];exact q2⟩
   unfold qU at e2
   rw [if_pos hany] at e2
   refine ae ⟨plainId_quiet F.plain_set_update_loop _,ih (i+1) _ (by omega) hlt (W.frame _ s' _ _ hst' ht fun b hb o e=>e) hJ' ⟨L,m,mv,ep,ks,ho,hT,hm',hl,fun k hk=>Nat.lt_succ_of_lt (kl k hk),by rw [e2];exact kd,kp⟩ fun s'' hm'' hS''=> ?_⟩
   exact hR s'' (Moved.trans W.gtrans ((hm.mono sub).then_heap ht fun b o hb e=>e) hm'') hS''
  ·-- new
   have hany: ¬ (ddD (ds.take i)).any (fun e=>deq e ds[i])=true:=fun z=>by
    rw [<-kd,List.any_map,List.any_eq_true] at z
    obtain⟨j,j1,j2⟩:=z
    have hj:=kl j j1
    obtain⟨e,he,ee⟩:=ao.mp (kp.mem_iff.mpr (ao.mpr ⟨j,j1,rfl⟩))
    have:=hno e he (bJ (ds.getD j .non)) (by rw [ee];exact key s'.heap hJ' j (by omega))
    rw [deqE j (by omega),ei] at this
    have j2':deq (ds.getD j .non) ds[i]=true:=j2
    rw [this] at j2';cases j2'
   unfold qU at e2
   rw [if_neg hany] at e2
   have hne: ∀ {b:Addr},b∉S::wr->b≠S:=fun hb z=>hb (by rw [z];exact .head _)
   refine ae ⟨plainId_quiet F.plain_set_update_loop _,ih (i+1) _ (by omega) hlt (W.frame _ s' _ _ hst' ht fun b hb o e=> ?_) (fun b o e=> ?_) ⟨L',m2,mv2,ep2,ks++[i],ho2,T2,M2,l2,fun k hk=> ?_, ?_, ?_⟩ fun s'' hm'' hS''=> ?_⟩
   ·rw [hsb.2 b (fun z:b=S=>hSf (by rw [<-z];exact hb))];exact e
   ·exact(hsb.2 b (hne (hold b o e))).trans (hJ' b o e)
   ·rcases List.mem_append.mp hk with hk | hk
    ·exact Nat.lt_succ_of_lt (kl k hk)
    ·have:k=i:=by simpa using hk
     omega
   ·rw [List.map_append,kd,e2]
    simp [hin]
   ·refine pm.trans ?_
    rw [List.map_append]
    refine((kp.cons _).trans ?_).trans (List.perm_append_singleton _ _).symm
    simp only [ev]
    exact List.Perm.refl _
   ·refine hR s'' (Moved.trans W.gtrans ((hm.mono sub).then_heap ht fun b o hb e=> ?_) hm'') hS''
    rw [hsb.2 b (hne hb)];exact e
theorem yZ {l:Addr} {items:Array Value} {ds:List D} {as:List Addr} {Q:Value->Shared->Prop} (hu:A.units+40<cLine) (hh:A.handled=none) (hl:s.heap.IsList l items) (hr0:ReadsAll s.heap items.toList (aV ds) as) (hd:gB ds=true) (h64:(ddD ds).length<64)
  (h: ∀ (h':Heap) (tk:Nat),aF1 w h' s.heap.objs.size items.toList ds ds.length->(∀ b o,b<s.heap.objs.size->s.heap.get? b=some o->h'.get? b=some o)->s.toks<=tk->Q (.ref s.heap.objs.size) { s with heap:=h',toks:=tk }):
  wpAny (model prog w) A (call (.type "set") [.ref l]) Q E s:=by
 obtain⟨c,tl,hmro⟩:=PySem.F.called_set.mro
 have hmade:=PySem.F.called_set.made
 have hsub:=PySem.F.called_set.sub
 refine wpAny_call (codeAny_of_tree ?_)
 show wpAny _ _ (callAny (.type "set") _) _ _ _
 refine ae ⟨Code.quiet_builtin _ (by decide+kernel),codeAny_builtin PySem.F.entry_type_call ?_⟩
 rw [Around.under_plain (weight_type_call_type "set" [.ref l] []) rfl]
 have h1:=PySem.F.called_set.notType
 have h2:=PySem.F.called_set.canCreate
 have hct:=PySem.F.typeCall_set_1 (.ref l)
 repeat (any_goals (first | assumption | wp_step))
 refine codeAny_mono (aBk (.ref l) (E:=E) (Q:=fun obj s₁=>obj= .ref s.heap.objs.size/\s₁={ s with heap:=s.heap.push (fF w) }) ⟨rfl,rfl⟩) fun r s₁ hr=> ?_
 cases r with
 | error e=>exact hr
 | ok fl=>
  cases fl with
  | ret obj=>
   obtain⟨rfl,rfl⟩:=hr
   have hS:(s.heap.push (fF w)).get? s.heap.objs.size=some (fF w):=ag _ rfl
   have hT:Shared.TypeIs { s with heap:=s.heap.push (fF w) } (.ref s.heap.objs.size) "set":=⟨_,hS,rfl⟩
   have hli:=PySem.F.called_set.init.lookup
   have hbi:=PySem.F.called_set.init.bind (.ref s.heap.objs.size)
   repeat (any_goals (first | assumption | wp_step))
   refine codeAny_mono (codeAny_call_builtin (R:=wants (fun r s₂=>r= .none/\ ∃ h' tk,s₂={ s with heap:=h',toks:=tk }/\aF1 w h' s.heap.objs.size items.toList ds ds.length/\
     (∀ b o,b<s.heap.objs.size->s.heap.get? b=some o->h'.get? b=some o)/\s.toks<=tk) E) PySem.F.called_set.init.plain PySem.F.entry_set_init (check_set_init_1 hT ?_)) fun r₂ s₂ hr₂=> ?_
   ·obtain⟨ol,hol,hcl,nl,hdl⟩:=hl
    obtain⟨ocls,odict,odata,oslots⟩:=ol
    simp only at hcl hdl
    subst hcl;subst hdl
    have hol':(s.heap.push (fF w)).get? l=some { cls:= .type "list",dict:=odict,data:= .seq items nl,slots:=oslots }:=af _ hol
    have hsls:=PySem.F.sub_list_set
    have hslf:=PySem.F.sub_list_frozenset
    have hne:(Value.type "list"==Value.type "dict")=false:=by decide
    have hl1:(s.heap.push (fF w)).IsList l items:=⟨_,hol',rfl,nl,rfl⟩
    unfold fF eE at hol' hS hT hl1 ⊢
    unfold Builtin.«set.__init__» noKeywords Builtin.Frozenset.updateFrom
    generalize hPI:pyIter=PI
    wp_walk
    subst hPI
    refine wpAny_pyIter_list hl1 ?_
    refine aa (wpAny_runValue ?_)
    have hlS:l<s.heap.objs.size:=ah hol
    have hh3:A.in1.in1.in1.handled=none:=by simp [hh]
    generalize hH:s.heap.push _=H at hol' hS hT hl1 ⊢
    have hHs:H.objs.size=s.heap.objs.size+1:=by rw [<-hH,ai]
    have hneI:l≠H.objs.size:=by rw [hHs];exact bf (Nat.lt_succ_of_lt hlS)
    have hSf:s.heap.objs.size∉[H.objs.size,l]:=by
     rw [hHs];simp only [aq,List.not_mem_nil,or_false,not_or]
     exact⟨bf (Nat.lt_succ_self _),Nat.ne_of_gt hlS⟩
    refine yY (by have:=A.in1_units;have:=A.in1.in1_units;have:=A.in1.in1.in1_units;omega) ((Walks.list hh3 _ l hneI items).toS) hSf hr0 hd h64 (fun b o e=> ?_) (items.size - 0) 0 _ (by omega) (bp _) ⟨⟨_,ag _ rfl,rfl,rfl⟩,(hl1.push _)⟩ (fun b o e=> ?_) ?_ ?_
    ·have hb:=ah e
     simp only [aq,List.not_mem_nil,or_false,not_or]
     exact⟨bf hb,by rw [hHs];exact bf (Nat.lt_succ_of_lt hb)⟩
    ·refine af _ ?_
     rw [<-hH]
     exact af _ e
    ·refine⟨[],7,0,0,[],af _ hS,⟨List.Pairwise.nil,nofun,nofun⟩, .inl rfl,by decide,nofun,rfl,List.Perm.refl _⟩
    ·intro s' hm hS'
     obtain⟨h',g',d',tk',os'⟩:=s'
     have eg:g'=s.gens:=hm.gens
     have ed:d'=s.drawn:=hm.drawn
     have eo:os'=s.os:=hm.os
     subst eg;subst ed;subst eo
     show wpAny _ _ _ _ _ _
     refine ae ?_
     show wpAny _ _ (ret Value.none) _ _ _
     refine ae ⟨rfl,h',tk',rfl,hS',fun b o hb e=> ?_,hm.toks⟩
     have hb1:b≠s.heap.objs.size:=bf hb
     have hb2:b≠H.objs.size:=by rw [hHs];exact bf (Nat.lt_succ_of_lt hb)
     refine hm.heap b o (by simp only [aq,List.not_mem_nil,or_false,not_or];exact⟨hb1,hb2⟩) (af _ ?_)
     rw [<-hH]
     exact af _ e
   ·cases r₂ with
    | error e=>exact hr₂
    | ok fl₂=>
     cases fl₂ with
     | ret r=>
      obtain⟨rfl,h',tk,rfl,hS',hk',ht'⟩:=hr₂
      repeat (any_goals (first | assumption | wp_step))
      exact h _ _ hS' hk' ht'
     | _=>exact hr₂.elim
  | _=>exact hr.elim
end
theorem y0 {α:Type} {ks:List Nat} {f:Nat->α} {vs:List α} (h:vs.Perm (ks.map f)): ∃ js:List Nat,js.Perm ks/\vs=js.map f:=by
 induction ks generalizing vs with
 | nil=>
  have:vs=[]:=List.Perm.eq_nil h
  exact⟨[],List.Perm.refl _,this⟩
 | cons k ks ih=>
  obtain⟨a,b,rfl⟩:=List.append_of_mem (h.mem_iff.mpr (ao.mpr ⟨k, .head _,rfl⟩))
  have h':(a++b).Perm (ks.map f):=by
   have:=List.perm_middle.symm.trans h
   rw [List.map_cons] at this
   exact this.cons_inv
  obtain⟨js,p,e⟩:=ih h'
  refine⟨js.take a.length++k::js.drop a.length,List.perm_middle.trans ((List.Perm.of_eq (by rw [List.take_append_drop])).trans p |>.cons k), ?_⟩
  rw [List.map_append,List.map_cons,List.map_take,List.map_drop, <-e]
  simp
theorem aJy (l:List D): ∀ acc:List D, ∀ x∈l.foldl qU acc,x∈acc\/x∈l:=by
 induction l with
 | nil=>intro acc x h;exact .inl h
 | cons d l ih=>
  intro acc x h
  rcases ih _ x h with z | z
  ·unfold qU at z
   split at z
   ·exact .inl z
   ·rcases List.mem_append.mp z with z | z
    ·exact .inl z
    ·exact .inr (by have:x=d:=by simpa using z
                    rw [this];exact .head _)
  ·exact .inr (.tail _ z)
section
variable {X:Cx} {ad:Ad} {a:Expr} {f:F} {p p2 pos pos2:Pos}
theorem y6 {pins:List (Addr×Obj)} {s1:Shared} {σ:St} {H1 G1:Hp} {u:Value} {v:V} {ds:List D} {Q:VK} {E:Nat->Hp->Prop} {Ex:Value->Shared->Prop} (hh:X.A.handled=none) (hu:X.A.units+62<cLine) (I1:Inv X pins σ H1 s1) (hG:Same G1 H1) (q:Seq X ad G1 H1 (.lst ds) v) (ru:bF v u) (k:RK X.K ad G1 H1 (aKe ds) Q E):
  wpAny (model X.prog X.w) X.A (call (.type "set") [u]) (fun t s2=>wpAny (model X.prog X.w) X.A (call (.builtin "sorted") [t]) (EP X pins σ Q) X.xe s2) Ex s1:=by
 unfold aKe at k
 by_cases hb:(gB ds&&decide ((ddD ds).length<64))=true
 ·rw [if_pos hb] at k
  rw [ar,decide_eq_true_eq] at hb
  obtain⟨hd,h64⟩:=hb
  obtain⟨b,vs,rfl,hq,rq⟩:=q.items hG rfl
  cases (show u=Value.ref b from ru)
  rcases hq with z | z
  ·exact absurd z.1 (fun z=>nomatch z)
  obtain⟨its,rv,pl,_⟩:=I1.list z.2
  obtain⟨as,ra⟩:=dD I1 hG (pQ hd) rq rv
  have l1:=rq.length
  have l2:=rv.length
  have ra0:ReadsAll s1.heap its.toArray.toList (aV ds) as:=by simpa using ra
  refine yZ (items:=its.toArray) (by omega) hh (by simpa using pl.isList) ra0 hd h64 fun h' tk sa kb ht=> ?_
  have k1: ∀ b o,s1.heap.get? b=some o->h'.get? b=some o:=fun b o e=>kb b o (ah e) e
  have I2:Inv X pins σ H1 { s1 with heap:=h',toks:=tk }:=I1.kept k1
  obtain⟨L,m,mv,ep,ks,ho,hT,hm',hl,kl,kd,kp⟩:=sa
  rw [List.take_of_length_le (aj _)] at kd
  have lenL:L.length=(ddD ds).length:=by
   have h1:=kp.length_eq
   have h2:=congrArg List.length kd
   simp only [am] at h1 h2
   omega
  have W:eR X.w (L.map (·.2)).toArray (tbl m mv (!X.w.params.followText "set-order") (L.map (·.1))) (L.map (·.1)):=by
   refine⟨lZ (by rcases hm' with rfl | rfl | rfl<;>omega),fun e=>⟨rfl,hT.up,by simp, ?_,rfl⟩⟩
   show(!X.w.params.followText "set-order")=true
   rw [e];rfl
  refine kP (Cd:=fun vs' h1 tk2=>(∃ js:List Nat,js.Perm ks/\vs'=js.map fun k=>its.getD k Value.none)/\(∀ b o,h'.get? b=some o->h1.get? b=some o)/\tk<=tk2) (s:={ s1 with heap:=h',toks:=tk }) (by omega)
   (fun Q' hQ'=>rR (s:={ s1 with heap:=h',toks:=tk }) (A:=X.A.in1) (by simp [hh]) ho W (by rw [sizeLine_eq];simp;omega) fun g1 tk2 acc c1 c2 c3=>hQ' _ g1 tk2 ⟨?_,c1,c2⟩) ?_
  ·have:=c3.trans ((kp.map (·.2)).trans (List.Perm.of_eq (List.map_map ..)))
   have e:(fun x:Nat=>(fun x:Int×Value=>x.2) ((fun k=>(hsh (bJ (ds.getD k .non)),its.toArray.toList.getD k Value.none)) x))=fun k=>its.getD k Value.none:=by funext k;simp
   have t2:acc.toList.Perm (ks.map fun k=>its.getD k Value.none):=by
    have h3:=c3
    rw [List.map_map] at h3
    refine(List.Perm.trans ?_ ((kp.map (·.2)).trans (List.Perm.of_eq ?_)))
    ·simpa using c3
    ·rw [List.map_map];congr 1
   exact y0 t2
  ·rintro vs' g1 tk2 ⟨⟨js,pj,rfl⟩,c1,c2⟩
   have ltj: ∀ j∈js,j<ds.length:=fun j hj=>kl j (pj.mem_iff.mp hj)
   have hpd:(js.map fun k=>ds.getD k .non).Perm (ddD ds):=by rw [<-kd];exact pj.map _
   obtain⟨one,tups,tupN⟩:=eQ hd
   have sub: ∀ x∈ddD ds,x∈ds:=fun x hx=>by
    rcases aJy ds [] x hx with z | z
    ·cases z
    ·exact z
   have oneD:One (ddD ds):=fun x hx y hy=>one x (sub x hx) y (sub y hy)
   have jne:js≠[]:=fun z=>by
    subst z
    have e0:=hpd.length_eq
    cases ds with
    | nil=>cases hd
    | cons d r=>
     have:1<=(ddD (d::r)).length:=by
      have h1:=aJx (d::r) 1
      have:(ddD ((d::r).take 1)).length=1:=by simp [ddD,qU]
      omega
     simp at e0
     omega
   have hdj:gB (js.map fun k=>ds.getD k .non)=true:=by
    have memj: ∀ x∈js.map (fun k=>ds.getD k .non),x∈ds:=fun x hx=>sub x (hpd.mem_iff.mp hx)
    have aEp:2<=js.length->2<=ds.length:=fun h2=>by
     refine Classical.byContradiction fun hlt=> ?_
     have nd:js.length<=ds.length:=by
      have h1:=hpd.length_eq
      have h3:=aJw ds []
      simp only [am] at h1
      simp only [List.length_nil,Nat.zero_add] at h3
      have:(ddD ds).length=(ds.foldl qU []).length:=rfl
      omega
     omega
    cases hjs:js with
    | nil=>exact absurd hjs jne
    | cons j r=>
     rw [hjs] at memj aEp
     simp only [List.map_cons,gB,ar,decide_eq_true_eq,List.all_eq_true]
     have m0:=memj _ (ao.mpr ⟨j, .head _,rfl⟩)
     refine⟨⟨⟨⟨(tups _ m0).1, ?_⟩,(tups _ m0).2⟩,one _ m0 _ m0⟩,fun y hy=>one _ m0 _ (memj y (.tail _ hy))⟩
     rw [Bool.or_eq_true]
     cases r with
     | nil=>exact .inl rfl
     | cons j2 r2=>exact .inr (tupN (aEp (by simp)) _ m0)
   have c3: ∀ b o,s1.heap.get? b=some o->g1.get? b=some o:=fun b o e=>c1 b o (k1 b o e)
   have raj: ∃ bs,ReadsAll g1 (js.map fun k=>its.getD k Value.none) (aV (js.map fun k=>ds.getD k .non)) bs:=by
    have r0:=bK (fun b o _ e=>c3 b o e) (yV hd) ra
    have gen: ∀ l:List Nat,(∀ j∈l,j<ds.length)-> ∃ bs,ReadsAll g1 (l.map fun k=>its.getD k Value.none) (aV (l.map fun k=>ds.getD k .non)) bs:=by
     intro l
     induction l with
     | nil=>intro _;exact⟨[],by simp only [List.map_nil,aV];exact .nil⟩
     | cons j l ih=>
      intro hl
      obtain⟨bs,rb⟩:=ih fun j hj=>hl j (.tail _ hj)
      obtain⟨cs,rc⟩:=hU r0 (hl j (.head _))
      exact⟨cs++bs,by simp only [List.map_cons,aV];exact .cons rc rb⟩
    exact gen js ltj
   obtain⟨bs,rb⟩:=raj
   refine⟨_,bs,rb,hdj,by have:=hpd.length_eq;simp only [am] at this ⊢;omega,fun g2 pm e k2 at' gd st=> ?_⟩
   have I3:Inv X pins σ H1 { s1 with heap:=g1,toks:=tk2 }:=I2.kept (t':=tk2) c1
   have gs:=gd.size
   rw [am] at gs gd st
   have ltp: ∀ i∈pm.toList,i<js.length:=fun i hi=>by
    have:=(Array.Perm.mem_iff gd).mp (Array.mem_def.mpr hi)
    simpa using this
   have hsub: ∀ i∈pm.toList.map (fun i=>js.getD i 0),i<vs.length:=fun i hi=>by
    obtain⟨t,t1,rfl⟩:=ao.mp hi
    have:=ltp t t1
    have:js.getD t 0∈js:=by rw [bt,az this,Option.getD_some];exact List.getElem_mem this
    have:=ltj _ this
    omega
   have cmp: ∀ {α:Type} (g:Nat->α) (z:α),pm.toList.map (fun i=>(js.map g).getD i z)=(pm.toList.map fun i=>js.getD i 0).map g:=fun g z=>by
    rw [List.map_map]
    refine List.map_congr_left fun i hi=> ?_
    have:=ltp i hi
    simp [this]
   have hz:((pm.toList.map fun i=>js.getD i 0).map fun i=>vs.getD i V.non).length<=sizeLine:=by
    have:=hpd.length_eq
    simp only [am,Array.length_toList] at this ⊢
    rw [gs,sizeLine_eq];omega
   rw [cmp] at at'
   refine⟨.ref g1.objs.size,_,I3.laid (t':=tk2) k2 (aj _) (show ObjOk X.prog X.w _ g2 _ (.lst _) from⟨hz,_,e,kR rv hsub,at'⟩),rfl,k.ow_new hG ?_ (I3.hok.fresh (aj _))⟩
   have hd':=kQ rq (l:=pm.toList.map fun i=>js.getD i 0) fun i hi=>by rw [<-l1];exact hsub i hi
   rw [<-rQ oneD hpd, <-aC1 (n:=js.length) (fun x hx y hy=>oneD x (hpd.mem_iff.mp hx) y (hpd.mem_iff.mp hy)) (by simp) gd st,cmp]
   exact hd'
 ·rw [if_neg hb] at k
  exact k.elim
end
section
variable {prog:Program} {w:World} {A:Around} {E:Value->Shared->Prop} {R:Result->Shared->Prop} {I:Addr} {fp wr:List Addr} {G:Array GenState->Array GenState->Prop} {n:Nat} {P:Nat->Value->Prop} {St:Nat->Shared->Prop}
end
noncomputable def iv:Value->Int
 | .int n _=>n
 | _=>0
section
variable {X:Cx} {ad:Ad} {a:Expr} {f:F} {p p2 pos pos2:Pos}
theorem nM (hg:L2.Gl X "set") (hm:X.mg "set"=none) (hgs:L2.Gl X "sorted") (hms:X.mg "sorted"=none) (hh:X.A.handled=none) (hun:X.A.units+62<cLine) (ha:ML X ad a f) (he:starEach [a] X.env=(false,eval a X.env)::starEach [] X.env):
  ME X ad (.Call (.Name "sorted" p) [.Call (.Name "set" p2) [a] [] pos2] [] pos) (aA dSS [f]):=by
 intro pins s σ H Q I ⟨G,ρ,E,hG,hS,hx,hr⟩
 unfold aA at hr
 rw [gU] at hr
 refine wpAny_Call_Name_kw (eW (u:= .builtin "sorted") I hgs hms (by decide+kernel) (PyProof.Rows.callWith_builtin1 ?_ rfl rfl) (by decide) (by decide))
 refine Calls.spliced_cons ?_
 refine wpAny_Call_Name_kw (eW (u:= .type "set") I hg hm (by decide+kernel) ?_ (by decide) (by decide))
 refine PyProof.Rows.callWith_type1 (L2.thn (bS ha dB he pos2 pins s σ H (fun vs H1=> ∃ v d G1,vs=[v]/\Step G H G1 H1/\Seq X ad G1 H1 d v/\RK X.K ad G1 H1 (dSS [d]) Q E) I ?_) fun us s1 ⟨vs,H1,I1,r1,v,d,G1,e1,st,q,k⟩=> ?_) he rfl
 ·exact rB hG hS hx hr fun v d G1 H1 st q k=>⟨v,d,G1,rfl,st,q,k⟩
 ·subst e1
  obtain⟨u,rfl,ru⟩:=iK r1
  cases d<;>try exact ax k
  rename_i ds
  have k2:RK X.K ad G1 H1 (match cI ds with | some _=> .bad | none=>aKe ds) Q E:=k
  cases e2:cI ds with
  | none=>
   rw [e2] at k2
   exact wpAny_mono (y6 hh hun I1 st.gh q ru k2) (fun t s2 h=>Calls.spliced_nil h) fun _ _ e=>e
  | some ns=>rw [e2] at k2;exact k2.elim
end
section
variable {X:Cx} {ad:Ad} {Z:(St->Nat->Hp->Prop)->Prop} {pins:List (Addr×Obj)} {s:Shared} {σ:St} {H G G₀:Hp} {ρ:Rho} {D':Ends} {E:St->Nat->Hp->Prop} {pos pos':Pos} {e:Expr} {f:F} {g h:FS} {st:Stmt} {sts:List Stmt}
theorem aJz {i:Nat} {x:Str} {p tp:Pos} {kx:Expr} {fk:F} (hu:X.A.units+62<cLine) (hN:X.N[i]? =some x) (hv:Vis X.env.scope x) (hd:(x==("__debug__":Str))=false) (hcd:(x==("__classdict__":Str))=false) (he:ME X ad e f) (hk:ME X ad kx fk)
  (ha: ∀ v,assign (.Subscript (.Name x p) kx tp) X.env v=(do
   let ov<-holding [v] (eval (.Name x p) X.env)
   let iv<-holding [v,ov] (eval kx X.env)
   standAt tp
   holding [v,ov,iv] (setItem ov iv v)
   release [v,ov,iv] [])) (hs:swapsWithSole [.Subscript (.Name x p) kx tp] e pos.line X.env=pure false) (hw:swappedStores [.Subscript (.Name x p) kx tp] e X.env=pure none):
  MS X ad Z (.Assign [.Subscript (.Name x p) kx tp] e pos) (aAl i fk f):=by
 refine PS.imp (aB7 he (aHo (d6 hN hv hd hcd) hk sE ha) hs hw rfl) ?_
 rintro D' σ H ⟨G₀,G,ρ,E,S,hx,hr⟩
 unfold aAl at hr
 refine d9 S hx hr fun v d G1 H1 st r k=> ?_
 cases q:ρ[i]? with
 | none=>rw [q] at k;exact k.elim
 | some sl=>
  rw [q] at k
  cases sl with
  | no=>exact k.elim
  | sh d=>exact k.elim
  | ow xs=>
   obtain⟨a,vs,h1,h2,h3,h4⟩:=(S.step st).sl.ow q
   refine⟨.ref a,h1, ?_⟩
   refine d9 (S.step st) hx k fun v2 y G2 H2 st2 r2 k2=> ?_
   obtain⟨g2,h2'⟩:=cW st2 h2 h3
   cases y<;>try exact ax k2
   rename_i j
   unfold Rep at r2;subst r2
   have k':OKo X ad G₀ (match ixD xs.length j with | some m=> .nx (ρ.set i (.ow (xs.set m d))) | none=> .rt .bad) D' E:=k2
   cases q2:ixD xs.length j with
   | none=>rw [q2] at k';exact k'.elim
   | some m=>
    rw [q2] at k'
    have r4:=h4.mono st2.sg
    refine⟨a,vs,j,m,rfl,rfl,h2',by rw [h4.length, <-sN];exact q2, ?_⟩
    exact k' σ G2 _ (((S.step st).step st2).upd q h1 g2 (aE.set (r.mono st2.sg) m r4))
end
theorem cV {l:List Expr} {a:Expr} (h:one l=some a):l=[a]:=by
 unfold one at h
 split at h
 ·cases h;rfl
 ·cases h
theorem pU {l:List Expr} {a b:Expr} (h:two l=some (a,b)):l=[a,b]:=by
 unfold two at h
 split at h
 ·cases h;rfl
 ·cases h
theorem bL {e:Expr} {x:Str} {p:Pos} (h:dJ e=some (x,p)):e= .Name x p:=by
 cases e<;>first | (cases h;rfl) | (cases h;done)
theorem aF2 {e:Expr} {es:List Expr} {k:Nat} {p:Pos} (h:aIj e=some (es,k,p)):e= .Tuple es k p:=by
 cases e<;>first | (cases h;rfl) | (cases h;done)
theorem y8 {e:Expr} {lo hi:Option Expr} (h:aCg e=some (lo,hi)): ∃ p,e= .Slice lo hi none p:=by
 cases e<;>try (cases h;done)
 rename_i a b c p
 cases c with
 | none=>cases h;exact⟨p,rfl⟩
 | some c=>cases h
theorem aBm {e:Expr} (h:aD1 e=true): ∃ j p,e= .Constant (.int 1) j p:=by
 cases e<;>try (cases h;done)
 rename_i c j p
 cases c<;>try (cases h;done)
 rename_i i
 have:i=1:=by simpa [aD1] using h
 subst this
 exact⟨j,p,rfl⟩
theorem aF3 {e:Expr} (h:aMq e=true): ∃ j p q,e= .UnaryOp .USub (.Constant (.int 1) j q) p:=by
 cases e<;>try (cases h;done)
 rename_i op e p
 cases op<;>try (cases h;done)
 obtain⟨j,q,rfl⟩:=aBm (e:=e) h
 exact⟨j,p,q,rfl⟩
theorem aF4 {e:Expr} (h:aMs e=true): ∃ j p2 p3 p4,e= .Slice none none (some (.UnaryOp .USub (.Constant (.int 1) j p4) p3)) p2:=by
 cases e<;>try (cases h;done)
 rename_i lo hi st p
 cases lo<;>try (cases h;done)
 cases hi<;>try (cases h;done)
 cases st<;>try (cases h;done)
 obtain⟨j,q,r,rfl⟩:=aF3 h
 exact⟨j,p,q,r,rfl⟩
theorem aBn {e:Expr} (h:uY e=true): ∃ j p,e= .Constant (.int 2) j p:=by
 cases e<;>try (cases h;done)
 rename_i c j p
 cases c<;>try (cases h;done)
 rename_i i
 have:i=2:=by simpa [uY] using h
 subst this
 exact⟨j,p,rfl⟩
theorem aBo {e l:Expr} (h:aIk e=some l): ∃ j p2 p4,e= .Slice (some l) none (some (.Constant (.int 2) j p4)) p2:=by
 cases e<;>try (cases h;done)
 rename_i lo hi st p
 cases hi<;>try (cases h;done)
 cases st<;>try (cases h;done)
 rename_i e
 cases ht:uY e with
 | false=>
  have:(if(true&&uY e)=true then lo else none)=some l:=h
  rw [ht] at this;cases this
 | true=>
  have:(if(true&&uY e)=true then lo else none)=some l:=h
  rw [ht] at this
  obtain⟨j,q,rfl⟩:=aBn ht
  cases (show lo=some l from this)
  exact⟨j,p,q,rfl⟩
theorem aBp {dE:Expr->Option F} {C:SK.Ctx} {a:Expr} {f:F} (h:aD2 dE C a=some f): ∃ x p b q,a= .Call (.Name x p) [b] [] q/\glo C x=some (.py .range)/\dE b=some f:=by
 unfold aD2 at h
 split at h
 ·rename_i f' as kws q
  split at h
  ·rename_i hk
   obtain⟨⟨x,p⟩,h1,h⟩:=zBd h
   obtain⟨b,h2,h⟩:=zBd h
   split at h
   ·rename_i e1 e2
    exact⟨x,p,b,q,by rw [bL h1,cV h2,List.isEmpty_iff.mp hk],e2,h⟩
   ·cases h
  ·cases h
 ·cases h
theorem aBq {dL:Expr->Option F} {C:SK.Ctx} {a:Expr} {f:F} (h:aD3 dL C a=some f): ∃ x p b q,a= .Call (.Name x p) [b] [] q/\glo C x=some (.py .set)/\dL b=some f:=by
 unfold aD3 at h
 split at h
 ·rename_i f' as kws q
  split at h
  ·rename_i hk
   obtain⟨⟨x,p⟩,h1,h⟩:=zBd h
   obtain⟨b,h2,h⟩:=zBd h
   split at h
   ·rename_i e1 e2
    exact⟨x,p,b,q,by rw [bL h1,cV h2,List.isEmpty_iff.mp hk],e2,h⟩
   ·cases h
  ·cases h
 ·cases h
theorem fS {α:Type} {l:List α} (h:l.isEmpty=true):l=[]:=List.isEmpty_iff.mp h
noncomputable def nN:Expr->Prop
 | .Starred _ _=>False
 | _=>True
theorem aL {e:Expr} {es:List Expr} {env:PySem.Env} (h:nN e):starEach (e::es) env=(false,eval e env)::starEach es env:=by
 cases e<;>first | rfl | exact h.elim
noncomputable def pV:Expr->Prop
 | .Set _ _ _=>False
 | _=>True
theorem nO {e:Expr} {op:CmpOp} (h:pV e):behindInMarks op e=false:=by
 cases e<;>first | rfl | exact h.elim
theorem pW {b c:Expr} {op op':CmpOp} (h:pV c):lastMarks [op,op'] [b,c]=false:=by
 show behindInMarks op' c=false
 exact nO h
theorem aBr {e:Expr} (h: ∀ a b c d,e≠ .Slice a b c d):v9 e:=by
 intro o i
 cases e<;>first | rfl | exact absurd rfl (h _ _ _ _)
theorem aJ {n:Nat} {C:SK.Ctx} {e:Expr} {f:F} (h:bD n C e=some f):nN e/\pV e/\ ∀ a b c d,e≠ .Slice a b c d:=by
 cases n with
 | zero=>cases h
 | succ n=>cases e<;>first | (cases h;done) | (refine⟨trivial,trivial, ?_⟩;intro a b c d z;cases z;done)
theorem bO {n:Nat} {C:SK.Ctx} {e:Expr} {f:F} (h:vR n C e=some f):nN e/\pV e:=by
 cases n with
 | zero=>cases h
 | succ n=>
  by_cases hn: ∃ x p,e= .Name x p
  ·obtain⟨x,p,rfl⟩:=hn
   exact⟨trivial,trivial⟩
  ·have:bD n C e=some f:=by
    rw [<-h]
    cases e<;>first | rfl | exact absurd ⟨_,_,rfl⟩ hn
   exact⟨(aJ this).1,(aJ this).2.1⟩
theorem pX {n:Nat} {C:SK.Ctx} {tt:Bool} {e:Expr} {f:F} (h:aD5 n C tt e=some f):pV e:=by
 cases n with
 | zero=>cases h
 | succ n=>cases e<;>first | trivial | exact(bO h).2
section
variable {ad:Ad}
def y9 (ad:Ad) (n:Nat):Prop:= ∀ (X:Cx) (C:SK.Ctx) (e:Expr) (f:F),CtxOk X ad C->bD n C e=some f->ME X ad e f/\MT X ad e f/\ ∀ op es p,e= .BoolOp op es p->MW X ad e f
def aG4 (ad:Ad) (n:Nat):Prop:= ∀ (X:Cx) (C:SK.Ctx) (e:Expr) (f:F),CtxOk X ad C->vR n C e=some f->ML X ad e f
def aJ0 (ad:Ad) (n:Nat):Prop:= ∀ (X:Cx) (C:SK.Ctx) (tg e:Expr) (tt:Bool) (f:F),CtxOk X ad C->(tt=true-> ∃ es k p,tg= .Tuple es k p)->aD5 n C tt e=some f->MI X ad tg e f/\((∀ x p,e≠ .Name x p)->MIG X ad tg e f)
variable {X:Cx} {C:SK.Ctx} {n:Nat}
theorem rS (hE:y9 ad n) (O:CtxOk X ad C): ∀ {es:List Expr} {fs:List F},cS (bD n C) es=some fs->MA X ad es fs/\ ∀ e∈es,nN e
 | [],fs,h=>by
  cases h
  exact⟨aCp,fun _ h=>by cases h⟩
 | e::es,fs,h=>by
  unfold cS at h
  cases e1:bD n C e with
  | none=>rw [e1] at h;cases h
  | some f=>
   rw [e1] at h
   obtain⟨r,h1,h2⟩:=zMd h
   subst h2
   obtain⟨q1,q2⟩:=rS hE O h1
   have ns:=(aJ e1).1
   exact⟨q8 (hE X C e f O e1).1 q1 (aL ns),fun a ha=>by
    rcases aq.mp ha with rfl | ha
    ·exact ns
    ·exact q2 a ha⟩
theorem jO {α β:Type} {f:α->Option β}: ∀ {l:List α} {r:List β},cS f l=some r->r.length=l.length
 | [],r,h=>by cases h;rfl
 | x::l,r,h=>by
  unfold cS at h
  cases e:f x with
  | none=>rw [e] at h;cases h
  | some y=>
   rw [e] at h
   obtain⟨r',h1,h2⟩:=zMd h
   subst h2
   simp [jO h1]
theorem hX {env:PySem.Env} {pos:Pos}: ∀ {es:List Expr},(∀ e∈es,nN e)->(backTo pos (starEach es env)).any (·.1)=false
 | [],_=>rfl
 | e::es,h=>by
  rw [aL (h e (.head _))]
  show(false||(backTo pos (starEach es env)).any (·.1))=false
  rw [hX fun a ha=>h a (.tail _ ha)]
  rfl
theorem aL1 (hE:y9 ad n) (hL:aG4 ad n) (O:CtxOk X ad C) {x:Str} {p:Py} {as:List Expr} {f:F} {np pos:Pos} (hg:glo C x=some (.py p)) (h:aD4 (bD n C) (vR n C) C p as=some f):ME X ad (.Call (.Name x np) as [] pos) f:=by
 obtain⟨g1,g2,g3,g4⟩:=O.gl hg
 unfold aD4 at h
 split at h
 ·have hx:=zBd h
  clear h
  obtain⟨a,h0,h⟩:=hx
  cases cV h0
  obtain⟨fa,h1,rfl⟩:=zMd h
  subst g3
  exact iO aEk g1 g4 (by decide+kernel) (hL X C _ fa O h1) (by decide) g2 (aL (bO h1).1)
 ·have hx:=zBd h
  clear h
  obtain⟨a,h0,h⟩:=hx
  cases cV h0
  obtain⟨fa,h1,rfl⟩:=zMd h
  subst g3
  exact wR aEl g1 g4 (by decide+kernel) (hL X C _ fa O h1) (by decide) g2 (aL (bO h1).1)
 ·have hx:=zBd h
  clear h
  obtain⟨a,h0,h⟩:=hx
  cases cV h0
  obtain⟨fa,h1,rfl⟩:=zMd h
  subst g3
  exact wR wS g1 g4 (by decide+kernel) (hL X C _ fa O h1) (by decide) g2 (aL (bO h1).1)
 ·have hx:=zBd h
  clear h
  obtain⟨a,h0,h⟩:=hx
  cases cV h0
  subst g3
  cases h1:vR n C a with
  | some fa=>
   rw [h1] at h
   cases h
   exact wR aAr g1 g4 (by decide+kernel) (hL X C _ fa O h1) (by decide) g2 (aL (bO h1).1)
  | none=>
   rw [h1] at h
   obtain⟨fa,h2,rfl⟩:=zMd h
   obtain⟨y,yp,b,yq,rfl,e1,e2⟩:=aBp h2
   obtain⟨r1,r2,r3,r4⟩:=O.gl e1
   subst r3
   exact nD r1 r4 g1 g4 O.calm (hE X C _ fa O e2).1 (aL (aJ e2).1)
 ·have hx:=zBd h
  clear h
  obtain⟨a,h0,h⟩:=hx
  cases cV h0
  obtain⟨fa,h1,rfl⟩:=zMd h
  subst g3
  exact iO (aEn O.hd) g1 g4 (by decide+kernel) (hL X C _ fa O h1) (by decide) g2 (aL (bO h1).1)
 ·have hx:=zBd h
  clear h
  obtain⟨a,h0,h⟩:=hx
  cases cV h0
  obtain⟨fa,h1,rfl⟩:=zMd h
  subst g3
  exact iO (aEo O.hd) g1 g4 (by decide+kernel) (hL X C _ fa O h1) (by decide) g2 (aL (bO h1).1)
 ·cases h
 ·have hx:=zBd h
  clear h
  obtain⟨a,h0,h⟩:=hx
  cases cV h0
  obtain⟨fa,h1,rfl⟩:=zMd h
  subst g3
  exact iO aEm g1 g4 (by decide+kernel) (hL X C _ fa O h1) (by decide) g2 (aL (bO h1).1)
 ·have hx:=zBd h
  clear h
  obtain⟨a,h0,h⟩:=hx
  cases cV h0
  subst g3
  cases h1:vR n C a with
  | some fa=>
   rw [h1] at h
   cases h
   exact iO (vK O.un) g1 g4 (by decide+kernel) (hL X C _ fa O h1) (by decide) g2 (aL (bO h1).1)
  | none=>
   rw [h1] at h
   obtain⟨fa,h2,rfl⟩:=zMd h
   obtain⟨y,yp,b,yq,rfl,e1,e2⟩:=aBq h2
   obtain⟨r1,r2,r3,r4⟩:=O.gl e1
   subst r3
   exact nM r1 r4 g1 g4 O.hd O.un (hL X C _ fa O e2) (aL (bO e2).1)
 ·cases h
 ·split at h
  ·rename_i a
   obtain⟨fa,h1,rfl⟩:=zMd h
   subst g3
   exact iO (aBd O.hd) g1 g4 (by decide+kernel) (hL X C _ fa O h1) (by decide) g2 (aL (bO h1).1)
  ·have hx:=zBd h
   clear h
   obtain⟨⟨a,b⟩,h0,h⟩:=hx
   cases pU h0
   obtain⟨fa,h1,h⟩:=zBd h
   obtain⟨fb,h2,rfl⟩:=zMd h
   subst g3
   exact uZ (r:=aMl) (op:=fun i j=>if j > i then j else i) (fun _ _=>rfl) (fun x y Q E G H k=>by cases x<;>cases y<;>first | exact⟨_,_,rfl,rfl⟩ | exact k.elim) (vZ O.calm) g1 g4 (by decide+kernel) (hE X C _ fa O h1).1 (hE X C _ fb O h2).1 (by decide) g2 (aL (aJ h1).1) (aL (aJ h2).1)
 ·have hx:=zBd h
  clear h
  obtain⟨⟨a,b⟩,h0,h⟩:=hx
  cases pU h0
  have hx:=zBd h
  clear h
  obtain⟨⟨tn,tp⟩,hv,h⟩:=hx
  cases bL hv
  obtain⟨fa,h1,h⟩:=zBd h
  obtain⟨g,h2,h⟩:=zBd h
  obtain⟨P,h3,rfl⟩:=zMd h
  subst g3
  obtain⟨cv,c1,c2⟩:=aJg O h2 h3
  by_cases hb:bsN C a=true
  ·rw [if_pos hb] at h1
   exact xL O.exc g1 g4 c1 c2 (hL X C _ fa O h1) (aL (bO h1).1)
  ·rw [if_neg hb] at h1
   exact xL O.exc g1 g4 c1 c2 (hE X C _ fa O h1).1.ml (aL (aJ h1).1)
 ·cases h
theorem vS {e:Expr} {f:F} (h:ME X ad e f) (ht: ∀ whole,isTrue e X.env whole=(do let v<-whole;standAt e.pos;holding [v] (truthy v))) (hb: ∀ op es p,e≠ .BoolOp op es p):ME X ad e f/\MT X ad e f/\ ∀ op es p,e= .BoolOp op es p->MW X ad e f:=
 ⟨h,aIr h ht,fun op es p z=>absurd z (hb op es p)⟩
theorem aBs {e:Expr} {f:F} (h:MW X ad e f):MT X ad e f:=fun pins s σ H Q I t=>h _ pins s σ H Q I t
theorem aC2 {tg:Expr} {xs:List Str} {k:Nat} (h:bU tg=some (xs,k)):xs.length=(if k=0 then 1 else k)/\((k != 0)=true-> ∃ es j p,tg= .Tuple es j p):=by
 cases tg<;>try (cases h;done)
 ·cases h
  exact⟨rfl,fun z=>absurd z (by decide)⟩
 ·rename_i es j p
  unfold bU at h
  obtain⟨ys,e1,e2⟩:=zBd h
  by_cases hl:2<=ys.length
  ·rw [if_pos hl] at e2
   cases e2
   exact⟨by rw [if_neg (by omega)],fun _=>⟨es,j,p,rfl⟩⟩
  ·rw [if_neg hl] at e2
   cases e2
theorem iV (hE:y9 ad n) (hI:aJ0 ad n) (O:CtxOk X ad C) {elt tg it:Expr} {ifs:List Expr} {sc:Scope} {pos:Pos} {f:F} (h:bD (n+1) C (.ListComp elt [⟨tg,it,ifs,0⟩] sc pos)=some f):
  ∃ xs k cs fi fc fe,f=aP k cs fi fc fe/\(bU tg=some (xs,k)/\bD n { C with sc:=sc,N:=xs++aX sc } elt=some fe)/\CompSc X C sc xs cs/\MI X ad tg it fi/\(∀ a b c,it≠ .Set a b c)/\xs.length=(if k=0 then 1 else k)/\(∀ fp s3 H3 pins',PG (cX X (xs++aX sc) sc s3 H3 fp pins') tg (gTg X.K k))/\
   (∀ fp s3 H3 pins',MTs (cX X (xs++aX sc) sc s3 H3 fp pins') ad ifs fc)/\ ∀ fp s3 H3 pins',ME (cX X (xs++aX sc) sc s3 H3 fp pins') ad elt fe:=by
 have h':((bU tg).bind fun(xs,k)=>(aD5 n C (k != 0) it).bind fun fi=>if jZ sc xs then
    (cS (fun x=>eY C x) (aX sc)).bind fun cs=>(match ifs with
    | []=>some none
    | [c]=>(bD n { C with sc:=sc,N:=xs++aX sc } c).map some
    | _=>none).bind fun c=>(bD n { C with sc:=sc,N:=xs++aX sc } elt).map fun e=>aP k cs fi c e
   else none)=some f:=h
 clear h
 obtain⟨⟨xs,k⟩,e1,h⟩:=zBd h'
 obtain⟨fi,e2,h⟩:=zBd h
 obtain⟨l1,l2⟩:=aC2 e1
 by_cases hc:jZ sc xs=true
 ·rw [if_pos hc] at h
  obtain⟨cs,e3,h⟩:=zBd h
  obtain⟨fc,e4,h⟩:=zBd h
  obtain⟨fe,e5,e6⟩:=zMd h
  obtain⟨c1,c2,c3,c4,c5,c6,c7⟩:=iR hc
  have inn: ∀ fp s3 H3 pins',CtxOk (cX X (xs++aX sc) sc s3 H3 fp pins') ad { C with sc:=sc,N:=xs++aX sc }:=fun fp s3 H3 pins'=>aJh O hc e3
  refine⟨xs,k,cs,fi,fc,fe,e6.symm,⟨e1,e5⟩,xO O hc e3,(hI X C tg it _ fi O l2 e2).1,fun a b c z=> ?_,l1,fun fp s3 H3 pins'=> ?_,fun fp s3 H3 pins'=> ?_,fun fp s3 H3 pins'=>(hE _ _ elt fe (inn fp s3 H3 pins') e5).1⟩
  ·subst z
   exact pX e2
  ·by_cases hcel:oU sc=[]
   case neg=>
    rcases c2 with z | ⟨z,l⟩
    ·exact absurd z hcel
    ·obtain⟨x,rfl⟩:=List.length_eq_one_iff.mp l
     refine aFc (X:=cX X ([x]++aX sc) sc s3 H3 fp pins') (x:=x) c5 e1 rfl rfl ?_ (decide_eq_true z)
     show(relabel sc X.env).names.lookup x=some .cell
     have e7:=bR (env:=X.env) (x:=x) (names:=sc.names)
     rw [c3 x (.head _),z] at e7
     exact e7
   refine aLr (X:=cX X (xs++aX sc) sc s3 H3 fp pins') O.calm c5 e1 fun i x hx=>⟨?_, ?_⟩
   ·show(xs++aX sc)[i]? =some x
    rw [bq (av.mp hx).1]
    exact hx
   ·show(relabel sc X.env).names.lookup x=some .local
    have e7:=bR (env:=X.env) (x:=x) (names:=sc.names)
    rw [c3 x (List.mem_of_getElem? hx),hcel] at e7
    exact e7
  ·split at e4
   ·cases e4
    trivial
   ·obtain⟨g,e8,rfl⟩:=zMd e4
    exact(hE _ _ _ g (inn fp s3 H3 pins') e8).2.1
   ·cases e4
 ·rw [if_neg hc] at h
  cases h
theorem aL2 (hE:y9 ad n) (hL:aG4 ad n) (hI:aJ0 ad n):y9 ad (n+1):=by
 intro X C e f O h
 unfold bD at h
 split at h
 ·-- a name
  rename_i x pos
  refine vS ?_ (fun _=>rfl) (fun _ _ _ z=>nomatch z)
  cases e1:loc C x with
  | some i=>
   rw [e1] at h
   cases h
   obtain⟨v1,v2,v3,v4⟩:=O.vis x i e1
   exact wM v1 v2 v3 v4
  | none=>
   rw [e1] at h
   simp only at h
   split at h
   ·rename_i d e2
    cases h
    obtain⟨g1,g2,u,v,g3,g4,g5⟩:=O.gl e2
    exact wN g1 g3 g4 g5 g2
   ·rename_i k0 n0 f0 e2
    cases h
    obtain⟨g1,g2,r,f,T,hr,hf⟩:=O.gl e2
    subst hf
    exact wN (v:= .ref (ad.fnA k0)) g1 T.mg rfl (fun G=>by unfold Rep;rfl) g2
   ·cases h
 ·obtain⟨d,h1,rfl⟩:=zMd h
  exact vS (mU h1) (fun _=>rfl) (fun _ _ _ z=>nomatch z)
 ·obtain⟨fa,h1,h⟩:=zBd h
  obtain⟨fb,h2,rfl⟩:=zMd h
  exact vS (aIn (hE X C _ fa O h1).1 (hE X C _ fb O h2).1) (fun _=>rfl) (fun _ _ _ z=>nomatch z)
 ·obtain⟨fa,h1,h⟩:=zBd h
  obtain⟨q1,q2,_⟩:=hE X C _ fa O h1
  split at h
  ·cases h;exact⟨aIo q1,aIt q2,fun _ _ _ z=>nomatch z⟩
  ·cases h;exact vS (aCk q1) (fun _=>rfl) (fun _ _ _ z=>nomatch z)
  ·cases h
 ·rename_i op es pos
  split at h
  ·rename_i a b
   obtain⟨fa,h1,h⟩:=zBd h
   obtain⟨fb,h2,rfl⟩:=zMd h
   obtain⟨q1,q2,_⟩:=hE X C _ fa O h1
   obtain⟨r1,r2,_⟩:=hE X C _ fb O h2
   cases op with
   | And=>
    have W:MW X ad (.BoolOp .And [a,b] pos) (iL fa fb):=aCn q2 (aCo r2)
    exact⟨aCl q1 (aCm r1),aBs W,fun _ _ _ _=>W⟩
   | Or=>
    have W:MW X ad (.BoolOp .Or [a,b] pos) (rOr fa fb):=aIv q2 (aCo r2)
    exact⟨aIq q1 (aCm r1),aBs W,fun _ _ _ _=>W⟩
  ·rename_i a b c r
   obtain⟨fa,h1,h⟩:=zBd h
   obtain⟨fb,h2,rfl⟩:=zMd h
   obtain⟨q1,q2,_⟩:=hE X C _ fa O h1
   obtain⟨r1,r2,r3⟩:=hE X C _ fb O h2
   cases op with
   | And=>
    have W:MW X ad (.BoolOp .And (a::b::c::r) pos) (iL fa fb):=aCn q2 (r3 _ _ _ rfl)
    exact⟨aCl q1 r1,aBs W,fun _ _ _ _=>W⟩
   | Or=>
    have W:MW X ad (.BoolOp .Or (a::b::c::r) pos) (rOr fa fb):=aIv q2 (r3 _ _ _ rfl)
    exact⟨aIq q1 r1,aBs W,fun _ _ _ _=>W⟩
  ·cases h
 ·split at h
  ·have hx:=zBd h
   clear h
   obtain⟨b,h0,h⟩:=hx
   cases cV h0
   obtain⟨fa,h1,h⟩:=zBd h
   obtain⟨fb,h2,rfl⟩:=zMd h
   exact⟨aIw O.un (hE X C _ fa O h1).1 (hE X C _ fb O h2).1 (nO (aJ h2).2.1),aIx O.un (hE X C _ fa O h1).1 (hE X C _ fb O h2).1 (nO (aJ h2).2.1),fun _ _ _ z=>nomatch z⟩
  ·have hx:=zBd h
   clear h
   obtain⟨⟨b,c⟩,h0,h⟩:=hx
   cases pU h0
   obtain⟨fa,h1,h⟩:=zBd h
   obtain⟨fb,h2,h⟩:=zBd h
   obtain⟨fc,h3,rfl⟩:=zMd h
   exact⟨aAo O.un (hE X C _ fa O h1).1 (hE X C _ fb O h2).1 (hE X C _ fc O h3).1 (pW (aJ h3).2.1),aAp O.un (hE X C _ fa O h1).1 (hE X C _ fb O h2).1 (hE X C _ fc O h3).1 (pW (aJ h3).2.1),fun _ _ _ z=>nomatch z⟩
  ·cases h
 ·obtain⟨fc,h1,h⟩:=zBd h
  obtain⟨fa,h2,h⟩:=zBd h
  obtain⟨fb,h3,rfl⟩:=zMd h
  obtain⟨c1,c2,_⟩:=hE X C _ fc O h1
  obtain⟨a1,a2,_⟩:=hE X C _ fa O h2
  obtain⟨b1,b2,_⟩:=hE X C _ fb O h3
  have c3:=aLv c1 c2
  exact⟨aAq c3 a1 b1,aBa c3 a2 b2,fun _ _ _ z=>nomatch z⟩
 ·split at h
  ·rename_i hl
   obtain⟨fs,h1,rfl⟩:=zMd h
   exact vS (aIy (rS hE O h1).1 (by rw [jO h1];exact hl)) (fun _=>rfl) (fun _ _ _ z=>nomatch z)
  ·cases h
 ·split at h
  ·rename_i hl
   obtain⟨fs,h1,rfl⟩:=zMd h
   exact vS (aIz (rS hE O h1).1 (by rw [jO h1];exact hl)) (fun _=>rfl) (fun _ _ _ z=>nomatch z)
  ·cases h
 ·-- o[..]
  rename_i a b pos
  have hx:=zBd h
  clear h
  obtain⟨fa,h1,h⟩:=hx
  split at h
  ·rename_i lo hi hv
   obtain⟨p,rfl⟩:=y8 hv
   obtain⟨fl,h2,h⟩:=zBd h
   obtain⟨fh,h3,rfl⟩:=zMd h
   refine vS (aI1 (hL X C _ fa O h1).lk ?_ ?_) (fun _=>rfl) (fun _ _ _ z=>nomatch z)
   ·split at h2
    ·cases h2;trivial
    ·obtain⟨k,h4,rfl⟩:=zMd h2
     exact(hE X C _ k O h4).1
   ·split at h3
    ·cases h3;trivial
    ·obtain⟨k,h4,rfl⟩:=zMd h3
     exact(hE X C _ k O h4).1
  ·split at h
   ·rename_i hv
    cases h
    obtain⟨j,p2,p3,p4,rfl⟩:=aF4 hv
    exact vS (aJk (hL X C _ fa O h1).lk) (fun _=>rfl) (fun _ _ _ z=>nomatch z)
   split at h
   ·rename_i l hv
    obtain⟨fb,h2,rfl⟩:=zMd h
    obtain⟨j,p2,p4,rfl⟩:=aBo hv
    exact vS (aFh (hL X C _ fa O h1).lk (hE X C _ fb O h2).1) (fun _=>rfl) (fun _ _ _ z=>nomatch z)
   obtain⟨fb,h2,rfl⟩:=zMd h
   exact vS (aLo (hL X C _ fa O h1).lk (hE X C _ fb O h2).1 (aBr (aJ h2).2.2)) (fun _=>rfl) (fun _ _ _ z=>nomatch z)
 ·-- a comprehension
  rename_i elt gens sc pos
  refine vS ?_ (fun _=>rfl) (fun _ _ _ z=>nomatch z)
  split at h
  ·rename_i tg it ifs as
   split at h
   ·rename_i ha
    subst ha
    obtain⟨xs,k,cs,fi,fc,fe,rfl,_,S,hi,hset,hxs,hg,hts,he⟩:=iV (pos:=pos) hE hI O h
    exact aEu O.calm S hi hset hxs hg hts he
   ·cases h
  ·cases h
 ·-- a call
  rename_i f' as kws pos
  refine vS ?_ (fun _=>rfl) (fun _ _ _ z=>nomatch z)
  split at h
  ·rename_i hkw
   cases fS hkw
   split at h
   ·rename_i x np
    split at h
    ·rename_i i e1
     by_cases hem:as.isEmpty=true
     ·rw [if_pos hem] at h;cases h
     rw [if_neg hem] at h
     obtain⟨fs,h1,rfl⟩:=zMd h
     obtain⟨q1,q2⟩:=rS hE O h1
     obtain⟨v1,v2,v3,v4⟩:=O.vis x i e1
     cases as with
     | nil=>exact absurd rfl hem
     | cons a es=>exact sQ O.fnv (wM v1 v2 v3 v4) q1 (aL (q2 a (.head _))) (hX fun e he=>q2 e (.tail _ he)) rfl
    ·split at h
     ·rename_i k1 k2 fn e2
      by_cases hem:as.isEmpty=true
      ·rw [if_pos hem] at h;cases h
      rw [if_neg hem] at h
      obtain⟨fs,h1,h⟩:=zBd h
      split at h
      ·rename_i hk
       cases h
       obtain⟨g1,g2,r,fa,T,hr,_⟩:=O.gl e2
       obtain⟨q1,q2⟩:=rS hE O h1
       cases as with
       | nil=>exact absurd rfl hem
       | cons a es=>exact aEq T hr g1 g2 q1 hk (aL (q2 a (.head _))) (hX fun e he=>q2 e (.tail _ he))
      ·cases h
     ·rename_i p e2
      exact aL1 hE hL O e2 h
     ·cases h
   ·rename_i a b sp
    by_cases hem:as.isEmpty=true
    ·rw [if_pos hem] at h;cases h
    rw [if_neg hem] at h
    obtain⟨g,h1,h⟩:=zBd h
    obtain⟨fs,h2,rfl⟩:=zMd h
    obtain⟨q1,q2⟩:=rS hE O h2
    cases as with
    | nil=>exact absurd rfl hem
    | cons a es=>exact sQ O.fnv (hE X C _ g O h1).1 q1 (aL (q2 a (.head _))) (hX fun e he=>q2 e (.tail _ he)) rfl
   ·rename_i o m ap
    split at h
    ·rename_i hem
     cases fS hem
     split at h
     ·rename_i hc
      obtain⟨rfl,h0,hl⟩:=hc
      obtain⟨fo,h1,rfl⟩:=zMd h
      refine aFi (hE X C _ fo O h1).1 ?_ hl
      cases o<;>first | rfl | (cases h0;done)
     ·cases h
    have hx:=zBd h
    clear h
    obtain⟨a,h0,h⟩:=hx
    cases cV h0
    split at h
    ·rename_i hc
     rw [ar] at hc
     obtain⟨fo,h1,h⟩:=zBd h
     obtain⟨fa,h2,h⟩:=zBd h
     have base: ∀ m,attributeBase o m X.env (eval o X.env)=eval o X.env:=by
      intro m
      have h0:=hc.1
      cases o<;>first | rfl | (cases h0;done)
     split at h
     ·rename_i hm
      cases h
      subst hm
      exact aA7 O.un (hL X C _ fo O h1) (hE X C _ fa O h2).1 (aL (aJ h2).1) (base _) hc.2
     ·split at h
      ·rename_i hm
       cases h
       subst hm
       exact aA8 O.un (hL X C _ fo O h1) (hE X C _ fa O h2).1 (aL (aJ h2).1) (base _) hc.2
      ·cases h
    ·cases h
   ·cases h
  ·cases h
 ·cases h
theorem aL3 (hE:y9 ad n):aG4 ad (n+1):=by
 intro X C e f O h
 unfold vR at h
 split at h
 ·rename_i x p
  cases e1:loc C x with
  | some i=>
   rw [e1] at h
   cases h
   obtain⟨v1,v2,v3,v4⟩:=O.vis x i e1
   exact aEj v1 v2 v3 v4
  | none=>
   rw [e1] at h
   exact(hE X C _ f O h).1.ml
 ·exact(hE X C _ f O h).1.ml
theorem aF5 (hE: ∀ m,m<n->y9 ad m) {X:Cx} {C:SK.Ctx} {e:Expr} {f:F} (O:CtxOk X ad C) (hn: ∀ x p,e≠ .Name x p) (h:vR n C e=some f):ME X ad e f:=by
 cases n with
 | zero=>cases h
 | succ n=>
  have:bD n C e=some f:=by
   rw [<-h]
   cases e<;>first | rfl | exact absurd rfl (hn _ _)
  exact(hE n (Nat.lt_succ_self _) X C e f O this).1
theorem aL4 (hE: ∀ m,m<n+1->y9 ad m) (hL:aG4 ad n):aJ0 ad (n+1):=by
 intro X C tg e tt f O htt h
 have hEn:=hE n (Nat.lt_succ_self _)
 unfold aD5 at h
 have it: ∀ {x:Str} {as:List Expr} {np q:Pos},wH (bD n C) C tt x as=some f->MI X ad tg (.Call (.Name x np) as [] q) f/\MIG X ad tg (.Call (.Name x np) as [] q) f:=by
  intro x as np q h
  unfold wH at h
  split at h
  ·rename_i a eg
   obtain⟨fa,h1,rfl⟩:=zMd h
   obtain⟨g1,g2,g3,g4⟩:=O.gl eg
   subst g3
   have me:=(hEn X C _ fa O h1).1
   exact⟨aAv g1 g4 me (aL (aJ h1).1),xB g1 g4 me (aL (aJ h1).1)⟩
  ·rename_i a b eg
   split at h
   ·rename_i ht
    obtain⟨fa,h1,h⟩:=zBd h
    obtain⟨fb,h2,rfl⟩:=zMd h
    obtain⟨g1,g2,g3,g4⟩:=O.gl eg
    subst g3
    obtain⟨es,k,p,rfl⟩:=htt ht
    have ma:=(hEn X C _ fa O h1).1
    have mb:=(hEn X C _ fb O h2).1
    exact⟨aJi g1 g4 ma mb (aL (aJ h1).1) (aL (aJ h2).1),aFe g1 g4 ma mb (aL (aJ h1).1) (aL (aJ h2).1)⟩
   ·cases h
  ·rename_i a eg
   split at h
   ·rename_i ht
    obtain⟨fa,h1,rfl⟩:=zMd h
    obtain⟨g1,g2,g3,g4⟩:=O.gl eg
    subst g3
    obtain⟨es,k,p,rfl⟩:=htt ht
    have ma:=(hEn X C _ fa O h1).1
    exact⟨aFf g1 g4 ma (aL (aJ h1).1),aA9 g1 g4 ma (aL (aJ h1).1)⟩
   ·cases h
  ·cases h
 split at h
 ·rename_i f' as kws q
  split at h
  ·rename_i x p
   split at h
   ·exact⟨(it h).1,fun _=>(it h).2⟩
   ·exact⟨(it h).1,fun _=>(it h).2⟩
   ·exact⟨(it h).1,fun _=>(it h).2⟩
   ·have me:=(hEn X C _ f O h).1
    exact⟨w8 me.ml,fun _=>m9 me⟩
  ·have me:=(hEn X C _ f O h).1
   exact⟨w8 me.ml,fun _=>m9 me⟩
 ·refine⟨w8 (hL X C _ f O h),fun hn=>m9 (aF5 (fun m hm=>hE m (by omega)) O hn h)⟩
theorem iW: ∀ n,y9 ad n/\aG4 ad n/\aJ0 ad n:=by
 have main: ∀ n, ∀ m,m<=n->y9 ad m/\aG4 ad m/\aJ0 ad m:=by
  intro n
  induction n with
  | zero=>
   intro m hm
   have:m=0:=by omega
   subst this
   refine⟨?_, ?_, ?_⟩
   ·intro X C e f O h
    unfold bD at h
    cases h
   ·intro X C e f O h
    unfold vR at h
    cases h
   ·intro X C tg e tt f O _ h
    unfold aD5 at h
    cases h
  | succ n ih=>
   intro m hm
   by_cases hmn:m<=n
   ·exact ih m hmn
   ·have:m=n+1:=by omega
    subst this
    obtain⟨a,b,c⟩:=ih n (aj _)
    exact⟨aL2 a b c,aL3 a,aL4 (fun m hm=>(ih m (by omega)).1) b⟩
 exact fun n=>main n n (aj _)
end
noncomputable abbrev aKk:List Value:=[.type "ValueError", .type "Exception", .type "BaseException", .type "object"]
structure StOk (X:Cx) (ad:Ad) (C:SK.Ctx):Prop where
 cx:CtxOk X ad C
 fn: ∀ x,X.fn x=true
 sc:X.env.scope=C.sc
 lc: ∀ x i,loc C x=some i->Loc X.env.scope x
 exm: ∀ c,exmOne X.K (.ref (ad.cls c)) (.ref (ad.cls 0))=some true
 exi: ∀ c,excIn X.K (ad.cls c) aKk "ValueError.__new__"=true
noncomputable def Zt (ad:Ad) (E₀:XK) (t:Bool):(St->Nat->Hp->Prop)->Prop:=fun E=>t=false-> ∀ σ c H,E σ c H->E₀ (.ref (ad.cls c)) none H
section
variable {X:Cx} {ad:Ad} {C:SK.Ctx} {E₀:XK} {t:Bool} {e it tg:Expr} {f:F} {g h:FS} {x:Str} {i:Nat} {pos pos':Pos} {st:Stmt}
theorem StOk.nm (O:StOk X ad C) (h:loc C x=some i):aCs X x i:=⟨(O.cx.vis x i h).1,O.lc x i h, .inl (O.fn x)⟩
theorem StOk.nms (O:StOk X ad C): ∀ {xs:List Str} {is:List Nat},cS (fun x=>loc C x) xs=some is->NmsOk X xs is
 | [],_,h=>by cases h;exact .nil
 | x::xs,is,h=>by
  unfold cS at h
  cases e:loc C x with
  | none=>rw [e] at h;cases h
  | some j=>
   rw [e] at h
   obtain⟨r,h1,h2⟩:=zMd h
   subst h2
   exact .cons (O.nm e) (O.nms h1)
theorem mB {elt:Expr} {gens:List Comprehension} {sc:Scope} {cpos:Pos} {line:Nat} {env:PySem.Env}: ∃ b,swapsWith (.ListComp elt gens sc cpos) (some (.Name x pos')) line env=pure b:=⟨_,rfl⟩
theorem zA (O:StOk X ad C) (h:bD 50 C e=some f) (hi:loc C x=some i):PS X (.Assign [.Name x pos'] e pos) (zZ (tE X ad f) (gO i)):=by
 obtain⟨h1,h2,h3⟩:=iW (ad:=ad) 49
 obtain⟨k1,_,_⟩:=iW (ad:=ad) 50
 have nm:=O.nm hi
 have me:=(k1 X C e f O.cx h).1
 by_cases hc: ∃ elt gens sc cpos,e= .ListComp elt gens sc cpos
 ·obtain⟨elt,gens,sc,cpos,rfl⟩:=hc
  obtain⟨b,hb⟩:=mB (x:=x) (pos':=pos') (elt:=elt) (gens:=gens) (sc:=sc) (cpos:=cpos) (line:=pos.line) (env:=X.env)
  cases b with
  | false=>exact lJ O.cx.nd nm.1 nm.2.1 me hb nm.2.2
  | true=>
   have hgen: ∃ tg it ifs,gens=[⟨tg,it,ifs,0⟩]:=by
    unfold bD at h
    simp only at h
    split at h
    ·rename_i tg it ifs as
     split at h
     ·rename_i ha
      subst ha
      exact⟨_,_,_,rfl⟩
     ·cases h
    ·cases h
   obtain⟨tg,it,ifs,rfl⟩:=hgen
   obtain⟨xs,k,cs,fi,fc,fe,rfl,_,S,hi',hset,hxs,hg,hts,he⟩:=iV h1 h3 O.cx h
   exact aE9 O.cx.nd nm O.cx.calm S hi' hset hxs hg hts he hb
 ·refine lJ O.cx.nd nm.1 nm.2.1 me ?_ nm.2.2
  have nf:=aJ h
  cases e<;>first | rfl | exact absurd ⟨_,_,_,_,rfl⟩ hc | (unfold bD at h;cases h;done)
theorem aF6 {Z:(St->Nat->Hp->Prop)->Prop} (P:PS X st (zZ (tE X ad f) (gO i))):MS X ad Z st (bX i f):=by
 refine PS.imp P ?_
 rintro D' σ H ⟨G₀,G,ρ,E,S,hx,hr⟩
 exact d9 S hx hr fun v d G1 H1 st r k=>k _ G1 H1 ((S.step st).set r)
theorem aF7 {Z:(St->Nat->Hp->Prop)->Prop} (P:PS X st (zZ (tE X ad f) (gO i))):MS X ad Z st (jH i f):=by
 refine PS.imp P ?_
 rintro D' σ H ⟨G₀,G,ρ,E,S,hx,hr⟩
 exact aI5 S hx hr
noncomputable def aJ1 (K:PySem.W.Frag) (n:Nat) (t:TGs):TG:=fun v σ H Q=> ∃ a xs,v= .ref a/\SqL K H a xs/\xs.length=n/\t xs σ H Q
theorem aF8 {es:List Expr} {k:Nat} {t:TGs} {n:Nat} (hc:X.calm=true) (h:PGs X es t) (hn:(assignEach es X.env).length=n) (hst:(assignEach es X.env).findIdx? (·.1)=none):PG X (.Tuple es k pos) (aJ1 X.K n t):=by
 intro pins s σ H v u Q I r hw
 obtain⟨a,xs,e1,hq,hl,hw⟩:=hw
 subst e1
 cases r
 obtain⟨its,rv,ht,hz⟩:=I.list hq
 have hlen:its.toArray.size=n:=by simp [<-hl,rv.length]
 rw [assign_Tuple]
 refine aa (wpAny_standAt ?_)
 unfold unpack
 rw [hn,hst, <-hlen]
 refine aa (wpAny_holding (kun_itemsOf (I.ok.hd hc) ht.isList fun h' hx=> ?_))
 have I1:Inv X pins σ H { s with heap:=h' }:=I.kept (t':=s.toks) fun b o e=>hx b o (bf (ah e)) e
 exact h pins _ σ H xs _ Q I1 (by simpa using rv) hw
theorem aL5 {g1 g2:TG} (h1:PG X tg g1) (h2:PG X tg g2):PG X tg (fun v σ H Q=>g1 v σ H Q\/g2 v σ H Q):=by
 intro pins s σ H v u Q I r h
 rcases h with h | h
 ·exact h1 pins s σ H v u Q I r h
 ·exact h2 pins s σ H v u Q I r h
theorem zB {Z:(St->Nat->Hp->Prop)->Prop} {es:List Expr} {k j:Nat} {tp:Pos} {xs:List Str} {is:List Nat} (O:StOk X ad C) (he:ME X ad e f) (hs:swapsWithSole [.Tuple es j tp] e pos.line X.env=pure false) (hw:swappedStores [.Tuple es j tp] e X.env=pure none) (ht:bU (.Tuple es j tp)=some (xs,k)) (hn:NmsOk X xs is):MS X ad Z (.Assign [.Tuple es j tp] e pos) (jD is f):=by
 obtain⟨P,hk⟩:=aI9 O.cx.calm O.cx.nd ht hn
 have k0:k≠0:=by
  unfold bU at ht
  obtain⟨ys,e1,e2⟩:=zBd ht
  by_cases hl:2<=ys.length
  ·rw [if_pos hl] at e2
   cases e2
   omega
  ·rw [if_neg hl] at e2
   cases e2
 have hb:(k==0)=false:=by simpa using k0
 have PL:PG X (.Tuple es j tp) (aJ1 X.K is.length (gIs is)):=by
  unfold bU at ht
  obtain⟨ys,e1,e2⟩:=zBd ht
  by_cases hl:2<=ys.length
  ·rw [if_pos hl] at e2
   cases e2
   obtain⟨q1,q2⟩:=iQ (X:=X) e1
   exact aF8 O.cx.calm (xD O.cx.nd e1 hn) (by rw [q1,hn.len]) q2
  ·rw [if_neg hl] at e2
   cases e2
 refine PS.imp (aB7 he (aL5 P PL) hs hw rfl) ?_
 rintro D' σ H ⟨G₀,G,ρ,E,S,hx,hr⟩
 unfold jD at hr
 refine d9 S hx hr fun v d G1 H1 st r q=> ?_
 cases d<;>try exact ax q
 case lst ds=>
  have q':OKo X ad G₀ (if ds.length=is.length then .nx (setN is ds ρ) else .rt .bad) D' E:=q
  by_cases hl:ds.length=is.length
  ·rw [if_pos hl] at q'
   unfold Rep at r
   obtain⟨a,vs,rfl,hq,rq⟩:=r
   exact .inr ⟨a,vs,rfl,st.gh.seq hq,by rw [rq.length,hl],xC (by rw [rq.length,hl]) (q' _ G1 H1 ((S.step st).setN rq))⟩
  ·rw [if_neg hl] at q'
   exact q'.elim
 rename_i ds
 refine .inl ?_
 have q':OKo X ad G₀ (if ds.length=is.length then .nx (setN is ds ρ) else .rt .bad) D' E:=q
 by_cases hl:ds.length=is.length
 ·rw [if_pos hl] at q'
  refine aCt (ρ1:=setN is ds ρ) hk ?_ (S.step st) r fun σ1 S1=>q' σ1 G1 H1 S1
  rw [hb]
  have e0:wF is false (.tup ds) ρ=if ds.length=is.length then some (setN is ds ρ) else none:=by
   cases is with
   | nil=>rfl
   | cons _ _=>rfl
  rw [e0,if_pos hl]
 ·rw [if_neg hl] at q'
  exact q'.elim
theorem pY {env:PySem.Env} {x y:Str} {px py pt pt2:Pos} {a b:Expr} {kt k2:Nat} {p q:Prop} (h:((env.scope.names.lookup x=some .cell\/env.scope.names.lookup y=some .cell)/\p)/\q):swappedStores [.Tuple [.Name x px, .Name y py] kt pt] (.Tuple [a,b] k2 pt2) env=pure none:=by
 unfold swappedStores
 have kx:env.kindOf x=env.scope.names.lookup x:=rfl
 have ky:env.kindOf y=env.scope.names.lookup y:=rfl
 rcases h.1.1 with e | e
 ·simp [kx,ky,e,List.filterMap,Expr.pos]
  intro _ _ _ h2
  exfalso;revert h2
  (repeat' split)<;>simp
 ·simp [kx,ky,e,List.filterMap,Expr.pos]
  intro _ _ _ h2
  exfalso;revert h2
  (repeat' split)<;>simp
theorem rT {env:PySem.Env} {x y:Str} {px py pt pt2:Pos} {a b:Expr} {kt k2:Nat} (hb:env.scope.kind= .function) (hx:env.scope.names.lookup x=some .local) (hy:env.scope.names.lookup y=some .local) (hne:x≠y) (hl:px.line=py.line)
  (sa:nN a) (sb:nN b) (h1:[a,b].all (foldedForSure 8)=false) (h2:[a,b].all (constantsAlone 8)=false):swappedStores [.Tuple [.Name x px, .Name y py] kt pt] (.Tuple [a,b] k2 pt2) env=pure (some [x,y]):=by
 have hbk:env.blockKind= .function:=by unfold PySem.Env.blockKind;rw [hb];rfl
 have kx:env.kindOf x=some .local:=hx
 have ky:env.kindOf y=some .local:=hy
 have nd:[x,y].eraseDups.length=2:=by
  have:(y==x)=false:=by simpa using fun z=>hne z.symm
  simp [List.eraseDups_cons,this]
 have h1': ¬ (foldedForSure 8 a=true/\foldedForSure 8 b=true):=fun⟨p,q⟩=>by simp [p,q] at h1
 have h2': ¬ (constantsAlone 8 a=true/\constantsAlone 8 b=true):=fun⟨p,q⟩=>by simp [p,q] at h2
 unfold swappedStores
 simp [Expr.pos,kx,ky, <-hl,hbk,nd,h1',h2',List.filterMap]
 intro h
 rcases h with h | h
 ·cases a<;>first | exact sa.elim | cases h
 ·cases b<;>first | exact sb.elim | cases h
theorem aBt {i j:Nat} {fa fb:F} {ρ:Rho}:jD [i,j] (dH [fa,fb]) ρ=jC ρ (fa ρ) fun x=>jC ρ (fb ρ) fun y=> .nx ((ρ.set i (.sh x)).set j (.sh y)):=by
 unfold jD dH mM args args args
 cases fa ρ<;>simp [jC,RA.then]<;>cases fb ρ<;>simp [RA.cons,setN]
theorem aJ2 {Z:(St->Nat->Hp->Prop)->Prop} {a b:Expr} {fa fb:F} {i j kt k2:Nat} {y:Str} {px py pt pt2:Pos} (O:StOk X ad C) (ha:ME X ad a fa) (hb:ME X ad b fb) (sa:nN a) (sb:nN b) (hi:loc C x=some i) (hj:loc C y=some j) (ok:aD6 C x y px py a b=true):
  MS X ad Z (.Assign [.Tuple [.Name x px, .Name y py] kt pt] (.Tuple [a,b] k2 pt2) pos) (jD [i,j] (dH [fa,fb])):=by
 unfold aD6 at ok
 simp only [ar,Bool.not_eq_true'] at ok
 obtain⟨⟨⟨⟨⟨⟨⟨o1,o2⟩,o3⟩,o4⟩,o5⟩,o6⟩,_⟩,_⟩:=ok
 have l1:X.env.scope.names.lookup x=some .local:=by rw [O.sc];exact cL o1
 have l2:X.env.scope.names.lookup y=some .local:=by rw [O.sc];exact cL o2
 have hne:x≠y:=by simpa using o3
 have nx:=(O.cx.vis x i hi).1
 have ny:=(O.cx.vis y j hj).1
 have hij:i≠j:=fun z=>by subst z;rw [nx] at ny;exact hne (Option.some.inj ny)
 intro pins s σ H D' I ⟨G₀,G,ρ,E,S,hx,hr⟩
 refine aHp (ta:=jU (tE X ad fa) (jU (tE X ad fb) aCb)) O.cx.calm O.cx.nd nx ny hij l1 l2 (bS ha (bS hb dB (aL sb)) (aL sa)) (rT I.ok.kind l1 l2 hne (by simpa using o4) sa sb o5 o6) rfl pins s σ H D' I ?_
 rw [aBt] at hr
 show tE X ad fa σ H fun v H1=>tE X ad fb σ H1 fun w H2=> ∃ v' w',[v,w]=[v',w']/\D'.nx ((σ.set i (some v')).set j (some w')) H2
 exact d9 S hx hr fun v d G1 H1 st r k=>d9 (S.step st) hx k fun w d2 G2 H2 st2 r2 k2=>⟨v,w,rfl,k2 _ G2 H2 ((((S.step st).step st2).set (r.mono st2.sg)).set r2)⟩
theorem aF9 {op:Operator} (h:aMt op=true):op= .Add:=by
 cases op<;>first | rfl | (cases h;done)
theorem zC {op:Operator} (h:aCi op=true):op= .Add\/op= .Sub:=by
 cases op<;>first | exact .inl rfl | exact .inr rfl | (cases h;done)
theorem aBu {pins:List (Addr×Obj)} {D':Ends} {hd:ExceptHandler} (O:StOk X ad C):StOk (tX X pins D' hd) ad C:=by
 refine⟨⟨O.cx.N,O.cx.nd,O.cx.vis,O.cx.gk,fun x g e=> ?_,O.cx.cap,O.cx.calm,O.cx.un,O.cx.hd,O.cx.exc,O.cx.kin,O.cx.kve,fun j n F e=>let ⟨r,T,hr⟩:=O.cx.fnv j n F e;⟨r,⟨T.kp,T.ok⟩,hr⟩⟩,O.fn,O.sc,O.lc,O.exm,O.exi⟩
 obtain⟨e1,e2⟩:=O.cx.gt x g e
 refine⟨e1, ?_⟩
 cases g with
 | fn k n F=>
  obtain⟨r,f,T,hr,hf⟩:=e2
  exact⟨r,f,⟨T.mg,T.kp,T.ok⟩,hr,hf⟩
 | exc c=>exact e2
 | verr=>exact e2
 | val d=>exact e2
 | tbl kvs=>exact e2
 | py p=>exact e2
theorem aGa {es:List Expr} {e a b:Expr} {x y:Str} {px py:Pos} (h:aLh es e=some ⟨x,px,y,py,a,b⟩): ∃ k p,es=[.Name x px, .Name y py]/\e= .Tuple [a,b] k p:=by
 unfold aLh at h
 obtain⟨⟨u,v⟩,h1,h⟩:=zBd h
 obtain⟨⟨x',px'⟩,h2,h⟩:=zBd h
 obtain⟨⟨y',py'⟩,h3,h⟩:=zBd h
 obtain⟨⟨vs,k,p⟩,h4,h⟩:=zBd h
 obtain⟨⟨a',b'⟩,h5,h6⟩:=zMd h
 cases h6
 rw [pU h1,bL h2,bL h3,aF2 h4,pU h5]
 exact⟨k,p,rfl,rfl⟩
theorem aBv {e:Expr} (h:aIl e=true): ∃ s k p,e= .Constant (.str s) k p:=by
 cases e<;>try (cases h;done)
 rename_i c k p
 cases c<;>try (cases h;done)
 exact⟨_,k,p,rfl⟩
theorem aGb {hs:List ExceptHandler} {i j:Nat} (h:aLi C hs=some (i,j)): ∃ cx p1 e x p2 p3 p4 p5,hs=[.ExceptHandler (some (.Name cx p1)) (some e) [.Assign [.Name x p2] (.Name e p3) p4] p5]/\glo C cx=some (.exc 0)/\loc C e=some i/\loc C x=some j/\
  (C.sc.names.lookup e==some .local&&i != j&&C.bs.isEmpty)=true:=by
 unfold aLi at h
 split at h
 ·rename_i ty nm b p5
  obtain⟨te,ht,h⟩:=zBd h
  obtain⟨e,hn,h⟩:=zBd h
  obtain⟨⟨cx,p1⟩,h1,h⟩:=zBd h
  obtain⟨s,h2,h⟩:=zBd h
  obtain⟨⟨x,e'⟩,h3,h⟩:=zBd h
  have hb:b=[s]:=by
   unfold aMx at h2
   split at h2
   ·cases h2;rfl
   ·cases h2
  obtain⟨p2,p3,p4,hs'⟩: ∃ p2 p3 p4,s= .Assign [.Name x p2] (.Name e' p3) p4:=by
   unfold aMy at h3
   split at h3
   ·rename_i ts ee p4
    obtain⟨tt,k1,h3⟩:=zBd h3
    obtain⟨⟨x',p2⟩,k2,h3⟩:=zBd h3
    obtain⟨⟨y',p3⟩,k3,h3⟩:=zMd h3
    cases h3
    rw [cV k1,bL k2,bL k3]
    exact⟨p2,p3,p4,rfl⟩
   ·cases h3
  dsimp only at h
  split at h
  ·rename_i c e1 e2
   split at h
   ·rename_i hce
    obtain⟨hc0,hee⟩:=hce
    subst hc0 hee
    obtain⟨i',k1,h⟩:=zBd h
    obtain⟨j',k2,h⟩:=zBd h
    split at h
    ·rename_i hc
     cases h
     exact⟨cx,p1,e,x,p2,p3,p4,p5,by rw [ht,hn,bL h1,hb,hs'],e2,k1,k2,hc⟩
    ·cases h
   ·cases h
  ·cases h
 ·cases h
def aL6 (ad:Ad) (E₀:XK) (n:Nat):Prop:= ∀ (X:Cx) (C:SK.Ctx) (t:Bool) (s:Stmt) (g:FS),StOk X ad C->(t=false->DefX X E₀/\PassesOwn (model X.prog X.w) X.A X.env X.xe)->zS n t C s=some g->MS X ad (Zt ad E₀ t) s g
def aBw (ad:Ad) (E₀:XK) (n:Nat):Prop:= ∀ (X:Cx) (C:SK.Ctx) (t:Bool) (s:List Stmt) (g:FS),StOk X ad C->(t=false->DefX X E₀/\PassesOwn (model X.prog X.w) X.A X.env X.xe)->iM n t C s=some g->MSs X ad (Zt ad E₀ t) s g
theorem Zt.imp {Z Z':(St->Nat->Hp->Prop)->Prop} (h:MS X ad Z st g) (k: ∀ E,Z' E->Z E):MS X ad Z' st g:=PS.imp h fun D' σ H ⟨G₀,G,ρ,E,S,hx,hr⟩=>⟨G₀,G,ρ,E,S,⟨hx.1,k E hx.2⟩,hr⟩
theorem Zts.imp {Z Z':(St->Nat->Hp->Prop)->Prop} {sts:List Stmt} (h:MSs X ad Z sts g) (k: ∀ E,Z' E->Z E):MSs X ad Z' sts g:=PSs.imp h fun D' σ H ⟨G₀,G,ρ,E,S,hx,hr⟩=>⟨G₀,G,ρ,E,S,⟨hx.1,k E hx.2⟩,hr⟩
theorem aGc {C:SK.Ctx} {x:Str} {e:Expr} {j:Nat} (h:aLj C x e=some j): ∃ y p,e= .Name y p/\loc C y=some j:=by
 unfold aLj at h
 split at h
 ·obtain⟨⟨y,p⟩,h1,h2⟩:=zBd h
  cases bL h1
  simp only at h2
  split at h2
  ·exact⟨y,p,rfl,h2⟩
  ·cases h2
 ·cases h
theorem aL7 {n:Nat} (hS:aBw ad E₀ n):aL6 ad E₀ (n+1):=by
 intro X C t s g O hd h
 obtain⟨kE,kL,kI⟩:=iW (ad:=ad) 50
 unfold zS at h
 split at h
 ·cases h;exact aEy
 ·cases h;exact aAw
 ·cases h;exact rE
 ·-- return
  split at h
  ·cases h;exact aE1
  ·split at h
   ·rename_i x p hv
    cases bL hv
    split at h
    ·rename_i i e1
     obtain⟨v1,v2,v3,v4⟩:=O.cx.vis x i e1
     split at h
     ·cases h;exact aE2 v1 v2 v3 v4
     ·cases h;exact xA (wM v1 v2 v3 v4)
    ·obtain⟨f,h1,rfl⟩:=zMd h
     exact xA (kE X C _ f O.cx h1).1
   ·obtain⟨f,h1,rfl⟩:=zMd h
    exact dO (xA (kE X C _ f O.cx h1).1)
 ·-- an assignment
  rename_i ts e pos
  have hx:=zBd h
  clear h
  obtain⟨tg,h0,h⟩:=hx
  cases cV h0
  split at h
  ·-- x=e
   obtain⟨i,h1,h⟩:=zBd h
   split at h
   ·-- made=grown
    rename_i j hm
    cases h
    obtain⟨y,p,rfl,h3⟩:=aGc hm
    obtain⟨v1,v2,v3,v4⟩:=O.cx.vis y j h3
    exact aFk O.cx.nd (O.nm h1) v1 v2 v3 v4
   ·obtain⟨f,h2,rfl⟩:=zMd h
    split
    ·exact aFj (zA O h2 h1)
    ·refine dO ?_
     split
     ·exact aF7 (zA O h2 h1)
     ·exact aF6 (zA O h2 h1)
  ·split at h
   ·-- a,b=x,y
    rename_i x px y py a b hp
    obtain⟨k2,tp2,rfl,rfl⟩:=aGa hp
    split at h
    ·rename_i hok
     obtain⟨i,h1,h⟩:=zBd h
     obtain⟨j,h2,h⟩:=zBd h
     obtain⟨fa,h3,h⟩:=zBd h
     obtain⟨fb,h4,rfl⟩:=zMd h
     exact dO (aJ2 O (kE X C _ fa O.cx h3).1 (kE X C _ fb O.cx h4).1 (aJ h3).1 (aJ h4).1 h1 h2 hok)
    ·split at h
     ·rename_i hc
      obtain⟨i,h1,h⟩:=zBd h
      obtain⟨j,h2,h⟩:=zBd h
      obtain⟨f,h3,rfl⟩:=zMd h
      have hm:cS (fun x=>loc C x) [x,y]=some [i,j]:=by simp [cS,h1,h2]
      exact dO (zB (xs:=[x,y]) (k:=2) O (kE X C _ f O.cx h3).1 rfl (pY (by rw [O.sc];simpa [wJ] using hc)) rfl (O.nms hm))
     ·cases h
   ·-- a,b=e
    obtain⟨u,h0,h⟩:=zBd h
    obtain⟨⟨xs,k⟩,h1,h⟩:=zBd h
    obtain⟨is,h2,h⟩:=zBd h
    split at h
    ·obtain⟨f,h3,rfl⟩:=zMd h
     have hf:wI e=true:=by
      split at h0
      ·assumption
      ·cases h0
     exact dO (zB O (kE X C _ f O.cx h3).1 (by cases e<;>first | rfl | (cases hf;done)) (by cases e<;>first | rfl | (cases hf;done)) h1 (O.nms h2))
    ·cases h
  ·-- x[k]=e
   rename_i o k tp
   have hx:=zBd h
   clear h
   obtain⟨⟨x,p⟩,hv,h⟩:=hx
   cases bL hv
   obtain⟨i,h1,h⟩:=zBd h
   obtain⟨v1,v2,v3,v4⟩:=O.cx.vis x i h1
   split at h
   ·obtain⟨f,h2,h⟩:=zBd h
    obtain⟨g,h3,rfl⟩:=zMd h
    refine dO (aJz O.cx.un v1 v2 v3 v4 (kE X C _ f O.cx h2).1 (kE X C _ g O.cx h3).1 (fun v=> ?_) ?_ ?_)
    ·have ns:=(aJ h3).2.2
     cases k<;>first | rfl | exact absurd rfl (ns _ _ _ _)
    ·cases e<;>rfl
    ·cases e<;>rfl
   ·cases h
  ·cases h
 ·-- x += e
  split at h
  ·rename_i o k tp
   have hx:=zBd h
   clear h
   obtain⟨⟨x,p⟩,hv,h⟩:=hx
   cases bL hv
   obtain⟨i,h1,h⟩:=zBd h
   obtain⟨v1,v2,v3,v4⟩:=O.cx.vis x i h1
   split at h
   ·rename_i hc
    obtain⟨f,h2,h⟩:=zBd h
    obtain⟨g,h3,rfl⟩:=zMd h
    cases aF9 (Bool.and_eq_true_iff.mp hc).2
    refine dO (aE8 v1 v2 v3 v4 (kE X C _ f O.cx h2).1 (kE X C _ g O.cx h3).1 (fun _ _ _=> ?_))
    have ns:=(aJ h3).2.2
    cases k<;>first | rfl | exact absurd rfl (ns _ _ _ _)
   ·cases h
  ·have hx:=zBd h
   clear h
   obtain⟨⟨x,p⟩,hv,h⟩:=hx
   cases bL hv
   obtain⟨u,h0,h⟩:=zBd h
   obtain⟨i,h1,h⟩:=zBd h
   obtain⟨f,h2,rfl⟩:=zMd h
   refine dO (aJc O.cx.nd (O.nm h1) (kE X C _ f O.cx h2).1 ?_)
   split at h0
   ·exact zC ‹_›
   ·cases h0
 ·-- an expression
  split at h
  ·rename_i f' as kws cp
   split at h
   ·rename_i hkw
    cases fS hkw
    split at h
    ·-- x.append(e)
     rename_i o m ap
     have hx:=zBd h
     clear h
     obtain⟨⟨x,p⟩,hv,h⟩:=hx
     cases bL hv
     have hx:=zBd h
     clear h
     obtain⟨e,ho,h⟩:=hx
     cases cV ho
     obtain⟨i,h1,h⟩:=zBd h
     obtain⟨v1,v2,v3,v4⟩:=O.cx.vis x i h1
     split at h
     ·rename_i hc
      rw [ar] at hc
      obtain⟨f,h2,h⟩:=zBd h
      have me:=(kE X C _ f O.cx h2).1
      have ns:=aL (es:=[]) (env:=X.env) (aJ h2).1
      split at h
      ·rename_i hm
       cases h
       subst hm
       exact dO (aI6 v1 v2 v3 v4 me ns hc.2)
      ·split at h
       ·rename_i hm
        cases h
        subst hm
        exact dO (aI8 v1 v2 v3 v4 me ns hc.2)
       ·cases h
     ·cases h
    ·obtain⟨f,h1,rfl⟩:=zMd h
     exact dO (aE3 (kE X C _ f O.cx h1).1 rfl)
    ·cases h
   ·cases h
  ·cases h
 ·obtain⟨f,h1,h⟩:=zBd h
  obtain⟨ga,h2,h⟩:=zBd h
  obtain⟨gb,h3,rfl⟩:=zMd h
  exact dO (aLs (kE X C _ f O.cx h1).2.1 (hS X C t _ ga O hd h2) (hS X C t _ gb O hd h3))
 ·-- for
  rename_i tg it b els pos
  cases t with
  | true=>cases h
  | false=>
   cases els with
   | cons _ _=>cases h
   | nil=>
    simp only [Bool.false_or,List.isEmpty_nil,Bool.not_true,aw,if_false] at h
    obtain⟨⟨xs,k⟩,h1,h⟩:=zBd h
    obtain⟨f,h2,h⟩:=zBd h
    obtain⟨is,h3,h⟩:=zBd h
    split at h
    ·obtain⟨gb,h4,rfl⟩:=zMd h
     have mig:MIG X ad tg it f/\ ∀ a b c,it≠ .Set a b c:=by
      unfold aMu at h2
      split at h2
      ·exact⟨m9 (kE X C _ f O.cx h2).1,fun _ _ _ z=>nomatch z⟩
      ·rename_i hn
       exact⟨(kI X C tg _ _ f O.cx (aC2 h1).2 h2).2 (fun x p z=>hn x p z),fun a b c z=>by subst z;exact pX h2⟩
     exact dO (aJa (hd rfl).2 O.cx.calm O.cx.nd mig.1 h1 (O.nms h3) (hS X C false _ gb O hd h4) (aEt mig.2))
    ·cases h
 ·-- while
  rename_i c b els pos
  cases t with
  | true=>cases h
  | false=>
   cases els with
   | cons _ _=>cases h
   | nil=>
    simp only [Bool.false_or,List.isEmpty_nil,Bool.not_true,aw,if_false] at h
    obtain⟨f,h1,h⟩:=zBd h
    obtain⟨gb,h2,rfl⟩:=zMd h
    exact dO (aAy (hd rfl).2 (kE X C _ f O.cx h1).2.1 (hS X C false _ gb O hd h2))
 ·-- raise
  rename_i x c pos
  cases t with
  | true=>cases h
  | false=>
   cases c with
   | some _=>cases h
   | none=>
    simp only [Bool.false_or,Option.isSome_none,aw,if_false] at h
    have hx:=zBd h
    clear h
    obtain⟨e,rfl,h⟩:=hx
    split at h
    ·rename_i f' as kws cp
     split at h
     ·rename_i hkw
      cases fS hkw
      have hx:=zBd h
      clear h
      obtain⟨⟨x,p⟩,hv,h⟩:=hx
      cases bL hv
      have hx:=zBd h
      clear h
      obtain⟨a,ho,h⟩:=hx
      cases cV ho
      split at h
      ·rename_i hstr
       obtain⟨sx,k1,k2,rfl⟩:=aBv hstr
       split at h
       ·rename_i c e1 e2
        cases h
        obtain⟨g1,g2,g3,g4⟩:=O.cx.gl e2
        exact Zt.imp (aA3 (hd rfl).1 O.cx.calm g1 g3 g2 (O.exi c)) fun E z=>z rfl
       ·cases h
      ·cases h
     ·cases h
    ·cases h
 ·-- try
  rename_i b hs els fin pos
  cases t with
  | true=>cases h
  | false=>
   cases els with
   | cons _ _=>cases h
   | nil=>
    cases fin with
    | cons _ _=>cases h
    | nil=>
     simp only [Bool.false_or,List.isEmpty_nil,Bool.not_true,aw,if_false] at h
     obtain⟨⟨i,j⟩,hh,h⟩:=zBd h
     obtain⟨gb,h3,rfl⟩:=zMd h
     obtain⟨cx,p1,e,x,p2,p3,p4,p5,rfl,e2,h1,h2,hc⟩:=aGb hh
     simp only [ar] at hc
     obtain⟨g1,g2,g3,g4⟩:=O.cx.gl e2
     obtain⟨v1,v2,v3,v4⟩:=O.cx.vis _ i h1
     refine aJe ⟨(hd rfl).1.ex,(hd rfl).1.stk,(hd rfl).1.fr⟩ O.cx.nd v1 ?_ (O.nm h2) (by simpa using hc.1.2) g1 g3 g2 v3 O.exm fun pins D'=> ?_
     ·rw [O.sc]
      exact cL hc.1.1
     ·exact Zts.imp (hS _ C true _ gb (aBu O) (fun z=>nomatch z) h3) fun E _ z=>nomatch z
 ·cases h
theorem aJ3 {n:Nat} (hS:aL6 ad E₀ n) (hSs:aBw ad E₀ n):aBw ad E₀ (n+1):=by
 intro X C t s g O hd h
 have hB: ∀ a:Stmt,MS X ad (Zt ad E₀ t) a ((zS n t C a).getD aKh):=fun a=>by
  cases e:zS n t C a with
  | none=>exact aJb
  | some f=>exact hS X C t a f O hd e
 unfold iM at h
 split at h
 ·cases h;exact aEz
 ·cases h;exact aE0 (hB _)
 ·obtain⟨r,h2,rfl⟩:=zMd h
  exact jL (hB _) (hSs X C t _ r O hd h2)
theorem pZ: ∀ n,aL6 ad E₀ n/\aBw ad E₀ n:=by
 intro n
 induction n with
 | zero=>
  refine⟨?_, ?_⟩
  ·intro X C t s g O hd h
   unfold zS at h
   cases h
  ·intro X C t s g O hd h
   unfold iM at h
   cases h
 | succ n ih=>exact⟨aL7 ih.2,aJ3 ih.1 ih.2⟩
end
noncomputable def GlT (P:Program) (w:World) (K:Frag) (mg:Str->Option Value) (base:Heap) (ad:Ad) (k:Nat) (x:Str):SK.Gl->Prop
 | .fn j n F=> ∃ r f,r<=k/\mg x=some (.ref f)/\keepIn K (.ref f)=true/\(∃ fd ps,FnOk P w K mg base (CXe P w) r f fd ps (zT K ad n F)/\gA K fd ps [])/\f=ad.fnA j
 | .exc c=>mg x=some (.ref (ad.cls c))/\c<ad.nb
 | .verr=>x="ValueError"/\mg x=none
 | .val d=> ∃ u v,mg x=some u/\bF v u/\ ∀ G,Rep K ad G d v
 | .py p=>x=o9 p/\mg x=none
 | .tbl kvs=> ∃ A,mg x=some (.ref A)/\aJf P w K ad A kvs
def dU (P:Program) (w:World) (K:Frag) (mg:Str->Option Value) (base:Heap) (ad:Ad) (k:Nat) (tab:List (Str×SK.Gl)):Prop:= ∀ x g,tab.lookup x=some g->(x==("__debug__":Str))=false/\GlT P w K mg base ad k x g
def iA (P:Program) (w:World) (K:Frag) (mg:Str->Option Value) (base:Heap) (ad:Ad) (k:Nat) (fns:List (Nat×Fn)):Prop:= ∀ j n F,fns[j]? =some (n,F)-> ∃ r,r<=k/\keepIn K (.ref (ad.fnA j))=true/\ ∃ fd ps,FnOk P w K mg base (CXe P w) r (ad.fnA j) fd ps (zT K ad n F)/\gA K fd ps []
structure ExcK (K:Frag) (ad:Ad):Prop where
 exc: ∀ c,ExcCls K (ad.cls c)
 kin: ∀ c e,c<ad.nb->kitOne K (.ref (ad.cls e)) (.ref (ad.cls c))=some (hit c e)
 kve: ∀ e,kitOne K (.ref (ad.cls e)) (.type "ValueError")=some true
 exm: ∀ c,exmOne K (.ref (ad.cls c)) (.ref (ad.cls 0))=some true
 exi: ∀ c,excIn K (ad.cls c) aKk "ValueError.__new__"=true
section
variable {P:Program} {w:World} {K:Frag} {mg:Str->Option Value} {base:Heap} {ad:Ad} {k:Nat} {tab:List (Str×SK.Gl)}
theorem GlT.mono {x:Str} {g:SK.Gl} {j:Nat} (h:GlT P w K mg base ad k x g) (hk:k<=j):GlT P w K mg base ad j x g:=by
 cases g with
 | fn i n F=>
  obtain⟨r,f,a,b⟩:=h
  exact⟨r,f,Nat.le_trans a hk,b⟩
 | exc c=>exact h
 | verr=>exact h
 | val d=>exact h
 | tbl kvs=>exact h
 | py p=>exact h
theorem dU.mono {j:Nat} (h:dU P w K mg base ad k tab) (hk:k<=j):dU P w K mg base ad j tab:=fun x g e=>⟨(h x g e).1,(h x g e).2.mono hk⟩
theorem p0 {G:Hp}: ∀ ss:List Str,aE K ad G (ss.map D.str) (ss.map V.str)
 | []=>aE.nil
 | x::ss=>aE.cons (by unfold Rep;rfl) (p0 ss)
theorem aBx {a:Addr} {o:Obj} {its:Array Value} {n:Nat} {ss:List Str} (h:K.lookup a=some o) (hc:o.cls= .type "tuple") (hd:o.dict=none) (hs:o.data= .seq its n) (hz:its.size<=sizeLine) (hv:aZ (ss.map V.str) its.toList) (G:Hp):Rep K ad G (.tup (ss.map D.str)) (.ref a):=by
 unfold Rep
 exact⟨a,ss.map V.str,rfl, .inr ⟨o,its,n,h,hc,hd,hs,hz,hv⟩,p0 ss⟩
theorem dU.nil:dU P w K mg base ad k []:=fun x g e=>by cases e
theorem dU.cons {x:Str} {g:SK.Gl} (h:dU P w K mg base ad k tab) (hd:(x==("__debug__":Str))=false) (hg:GlT P w K mg base ad k x g):dU P w K mg base ad k ((x,g)::tab):=by
 intro y g' e
 rw [List.lookup_cons] at e
 cases q:y==x with
 | true=>
  rw [q] at e
  cases e
  have:y=x:=by simpa using q
  subst this
  exact⟨hd,hg⟩
 | false=>
  rw [q] at e
  exact h y g' e
theorem iA.nil:iA P w K mg base ad k []:=fun j n F e=>by simp at e
theorem iA.snoc {fns:List (Nat×Fn)} {j n:Nat} {F:Fn} {r k':Nat} {f:Addr} {fd:FuncData} {ps:List Str} (h:iA P w K mg base ad k fns) (hk:k<=k') (hl:fns.length=j) (hf:f=ad.fnA j) (hr:r<=k') (kp:keepIn K (.ref f)=true) (ok:FnOk P w K mg base (CXe P w) r f fd ps (zT K ad n F)) (hb:gA K fd ps []):
  iA P w K mg base ad k' (fns++[(n,F)]):=by
 intro i m G e
 subst hf
 by_cases hi:i<fns.length
 ·rw [bq hi] at e
  obtain⟨r',h1,h2⟩:=h i m G e
  exact⟨r',Nat.le_trans h1 hk,h2⟩
 ·rw [bh (by omega)] at e
  cases hq:i - fns.length with
  | zero=>
   rw [hq] at e
   cases e
   have:i=j:=by omega
   subst this
   exact⟨r,hr,kp,fd,ps,ok,hb⟩
  | succ q=>rw [hq] at e;simp at e
theorem eS {N Ps:List Str} {sc:Scope} (h:dC N Ps sc=true):FnScope N Ps sc/\ ∀ x∈N,(x==("__debug__":Str))=false/\(x==("__classdict__":Str))=false:=by
 unfold dC at h
 simp only [ar] at h
 obtain⟨⟨⟨⟨⟨⟨⟨h1,h2⟩,h3⟩,h4⟩,h5⟩,h6⟩,h7⟩,h8⟩:=h
 refine⟨⟨by simpa using h1,by simpa using h2,by simpa using h3,of_decide_eq_true h4,of_decide_eq_true h5,fun x hx=> ?_,fun y hy z=> ?_⟩,fun x hx=> ?_⟩
 ·have:=zAd h6 x hx
  rcases(Bool.or_eq_true _ _).mp this with z | z
  ·exact .inl (cL z)
  ·exact .inr (cL z)
 ·have:=zAd h7 y hy
  rw [z] at this
  simp at this
 ·have:=zAd h8 x hx
  simpa using this
theorem nP {X:Cx} {G:Hp} {ds:List D} {vs:List V} {n:Nat} (hG:Same G X.H₀) (r:aE X.K ad G ds vs):SS X ad G G X.H₀ (ds.map Slot.sh++ak n .no) (vs.map some++ak n none):=by
 have hl:=r.length
 have key: ∀ (i:Nat) (sl:Slot),(ds.map Slot.sh++ak n .no)[i]? =some sl->(∃ d v,sl= .sh d/\(vs.map some++ak n none)[i]? =some (some v)/\Rep X.K ad G d v)\/(sl= .no/\ ∃ ov,(vs.map some++ak n none)[i]? =some ov):=fun i sl e=>by
  by_cases hi:i<ds.length
  ·rw [bq (by simpa using hi),List.getElem?_map] at e
   cases e1:ds[i]? with
   | none=>rw [e1] at e;cases e
   | some d=>
    rw [e1] at e
    cases e
    obtain⟨v,e2,q⟩:=r.get e1
    refine .inl ⟨d,v,rfl, ?_,q⟩
    rw [bq (by rw [am];omega),List.getElem?_map,e2]
    rfl
  ·rw [bh (by simpa using hi),List.getElem?_replicate] at e
   split at e
   ·cases e
    refine .inr ⟨rfl,none, ?_⟩
    rename_i hlt
    rw [bh (by rw [am];omega),List.getElem?_replicate,if_pos]
    rw [am] at hlt ⊢
    omega
   ·cases e
 refine⟨Step.refl hG,⟨by simp [hl],fun i sl e=> ?_⟩,fun i xs a e w h=> ?_,fun i j xs ys a e1 e2 w1 w2 h1 h2=> ?_⟩
 ·rcases key i sl e with ⟨d,v,rfl,e1,q⟩ | ⟨rfl,ov,e1⟩
  ·exact⟨some v,e1,v,rfl,q⟩
  ·exact⟨ov,e1,trivial⟩
 ·rcases key i _ e with ⟨d,v,z,_⟩ | ⟨z,_⟩<;>(subst z;exact(ba w).elim)
 ·rcases key i _ e1 with ⟨d,v,z,_⟩ | ⟨z,_⟩<;>(subst z;exact(ba w1).elim)
theorem rV {qual:Str} {f:Addr} {cdv:Value} {A:Around} {outer:List PySem.Env} {s:Shared} {H:Hp} {E:XK} {fns:List (Nat×Fn)} {sc:Scope} {ps bs:List Str} (B:ExcK K ad) (TB:dU P w K mg base ad k tab) (FB:iA P w K mg base ad k fns) (hs:dC (aC sc) ps sc=true) (hr:Room k (A.deeper (envOfC qual sc s.heap.objs.size f cdv))):
  StOk (k9 (CXe P w) P w K mg base (aC sc) qual sc f cdv A outer s H E) ad ⟨tab,fns,sc,aC sc,bs⟩:=by
 obtain⟨S,nm⟩:=eS hs
 let C:SK.Ctx:=⟨tab,fns,sc,aC sc,bs⟩
 have vis: ∀ x i,loc C x=some i->(aC sc)[i]? =some x/\Loc sc x/\x∈aC sc:=fun x i e=>by
  obtain⟨e1,e2⟩:=xN e
  refine⟨j9 e1, ?_,xM e1⟩
  rcases e2 with e2 | e2 | e2
  ·exact .inl e2
  ·exact .inr e2
  ·exact absurd rfl (S.nofree _ (lX e2))
 refine⟨⟨rfl,S.nd,fun x i e=> ?_,fun x e=>e,fun x g e=> ?_,fun x i e=> ?_,rfl, ?_,hr.hd,B.exc,B.kin,B.kve,fun j m F' e=> ?_⟩,fun _=>rfl,rfl,fun x i e=>(vis x i e).2.1,B.exm,B.exi⟩
 ·obtain⟨a,b,c⟩:=vis x i e
  exact⟨a,b.elim .inl fun z=> .inr (.inl z),(nm x c).1,(nm x c).2⟩
 ·obtain⟨a,b⟩:=TB x g e
  refine⟨a, ?_⟩
  cases g with
  | fn j m F'=>
   obtain⟨r',f',h1,h2,h3,h4,h5⟩:=b
   exact⟨r',f',⟨h2,h3,h4⟩,hr.mono h1,h5⟩
  | exc c=>exact b
  | verr=>exact b
  | val d=>exact b
  | tbl kvs=>exact b
  | py p=>exact b
 ·obtain⟨e1,e2⟩:=lW e
  rcases e2 with e2 | e2
  ·exact .inl e2
  ·exact absurd rfl (S.nofree _ (lX e2))
 ·exact Nat.lt_of_le_of_lt (Nat.add_le_add_left (by decide:62<=64) _) hr.units
 ·obtain⟨r',h1,h2,h3⟩:=FB j m F' e
  exact⟨r',⟨h2,h3⟩,hr.mono h1⟩
theorem aC3 {x qual:Str} {st:Stmt} {f:Addr} {fd:FuncData} {fns:List (Nat×Fn)} {n:Nat} {F:Fn} {ps:List Str} (B:ExcK K ad) (TB:dU P w K mg base ad k tab) (FB:iA P w K mg base ad k fns) (Fu:Fun K x qual st f fd) (hps:fY (defArgs st)=some ps)
  (hd:wK tab fns st=some (n,F)):FnOk P w K mg base (CXe P w) (k+1) f fd ps (zT K ad n F):=by
 obtain⟨oc,od,kV,doc,pm,an,cdv,ct,osl,rfl,lk,hcd⟩:=Fu.ex
 cases st with
 | FunctionDef nm as b dl re tp sc ts bi pos=>
  have hd':((fY as).bind fun Ps=>if dC (aC sc) Ps sc then(iM 100 false ⟨tab,fns,sc,aC sc,lO 50 b⟩ b).map fun g=>(Ps.length,SK.fnOf (aC sc).length g) else none)=some (n,F):=hd
  have hps':fY as=some ps:=hps
  rw [hps'] at hd'
  have hd2:(if dC (aC sc) ps sc then(iM 100 false ⟨tab,fns,sc,aC sc,lO 50 b⟩ b).map fun g=>(ps.length,SK.fnOf (aC sc).length g) else none)=some (n,F):=hd'
  by_cases hs:dC (aC sc) ps sc=true
  ·rw [if_pos hs] at hd2
   obtain⟨g,hg,e⟩:=zMd hd2
   cases e
   obtain⟨S,nm⟩:=eS hs
   refine aDq lk hcd S (fun vs H Q E ⟨G,ds,_,r,hl,_⟩=>by rw [r.length,hl]) fun A outer s H vs Q E hr hz_=> ?_
   obtain⟨G,ds,hG,r,hl,hq⟩:=hz_
   let C:SK.Ctx:=⟨tab,fns,sc,aC sc,lO 50 b⟩
   have O:StOk (k9 (CXe P w) P w K mg base (aC sc) qual sc f cdv A outer s H E) ad C:=rV B TB FB hs hr
   have T:DefX (k9 (CXe P w) P w K mg base (aC sc) qual sc f cdv A outer s H E) E:=⟨rfl,rfl,rfl,fun e s' h=>h⟩
   refine⟨_,(pZ (ad:=ad) (E₀:=E) 100).2 _ C false b g O (fun _=>⟨T,PassesOwn.leaving (Q₁:=fun e s''=>CXe P w outer H s E e s'')⟩) hg, ?_⟩
   refine⟨G,G,ds.map Slot.sh++ak ((aC sc).length - ds.length) .no,fun σ c H'=>E (.ref (ad.cls c)) none H', ?_,⟨fun σ=>xI T,fun _ σ c H h=>h⟩, ?_⟩
   ·have:=nP (X:=k9 (CXe P w) P w K mg base (aC sc) qual sc f cdv A outer s H E) (ad:=ad) (n:=(aC sc).length - ds.length) hG r
    unfold L2.start
    rw [r.length]
    exact this
   ·have hq':RK K ad G H (match g (ds.map Slot.sh++ak ((aC sc).length - ds.length) .no) with
     | .rt (.ok d)=> .ok d
     | .rt (.ow xs)=> .ow xs
     | .rt _=> .bad
     | .nx _=> .ok .non
     | .ex c _=> .ex c
     | _=> .bad) Q (fun c H'=>E (.ref (ad.cls c)) none H'):=hq
    cases e:g (ds.map Slot.sh++ak ((aC sc).length - ds.length) .no) with
    | nx ρ=>rw [e] at hq';exact fun σ G' H' S'=>hq' .non G' H' S'.st (by unfold Rep;rfl)
    | bk ρ=>rw [e] at hq';exact hq'.elim
    | ct ρ=>rw [e] at hq';exact hq'.elim
    | ex c ρ=>rw [e] at hq';exact fun σ G' H' S'=>hq' G' H' S'.st
    | rt r'=>
     rw [e] at hq'
     cases r' with
     | ok d=>exact hq'
     | ow xs=>exact hq'
     | ex c=>exact hq'.elim
     | bad=>exact hq'.elim
  ·rw [if_neg hs] at hd2
   cases hd2
 | _=>cases hd
noncomputable def uC (K:Frag) (cs:List Addr) (C0:Addr):Bool:=
 decide (cs.length<=100)&&cs.head?==some C0&&cs.all fun C=>(clsIn K C).isSome&&mroIn K C (.type "object")==some true&&mroIn K C (.type "BaseException")==some true&&findIn K (.ref C) "__class__"==some (some (.builtin "object.__class__"))&&
  findIn K (.ref C) "__getattribute__"==some (some (.builtin "BaseException.__getattribute__"))&&findIn K (.ref C) "__getattr__"==some none&&kitOne K (.ref C) (.type "ValueError")==some true&&exmOne K (.ref C) (.ref C0)==some true&&
  excIn K C aKk "ValueError.__new__"
noncomputable def uD (K:Frag) (cs:List Addr):Bool:=cs.zipIdx.all fun p=>cs.zipIdx.all fun q=>kitOne K (.ref p.1) (.ref q.1)==some (hit q.2 p.2)
noncomputable def aGd (cs:List Addr) (C0:Addr) (fs:List Addr):Ad:=⟨fun c=>cs.getD c C0,fun k=>if k<1000 then fs.getD k 0 else k - 1000,cs.length⟩
theorem aGe {cs fs:List Addr} {C0:Addr} (h:uC K cs C0=true) (h2:uD K cs=true):ExcK K (aGd cs C0 fs):=by
 unfold uC at h
 rw [ar,ar] at h
 obtain⟨⟨hl,hh⟩,ha⟩:=h
 have hl:cs.length<=100:=of_decide_eq_true hl
 have hh:cs.head?=some C0:=by simpa using hh
 have mem0:C0∈cs:=List.mem_of_mem_head? (by rw [hh];rfl)
 have get: ∀ c,(aGd cs C0 fs).cls c∈cs:=fun c=>by
  show cs.getD c C0∈cs
  rw [bt]
  cases e:cs[c]? with
  | none=>exact mem0
  | some a=>exact List.mem_of_getElem? e
 have z0:cs[0]? =some C0:=by rw [<-List.head?_eq_getElem?];exact hh
 have c0:(aGd cs C0 fs).cls 0=C0:=by
  show cs.getD 0 C0=C0
  rw [bt,z0]
  rfl
 have all: ∀ C∈cs,ExcCls K C/\kitOne K (.ref C) (.type "ValueError")=some true/\exmOne K (.ref C) (.ref C0)=some true/\excIn K C aKk "ValueError.__new__"=true:=fun C hC=>by
  have:=zAd ha C hC
  simp only [ar,beq_iff_eq] at this
  obtain⟨⟨⟨⟨⟨⟨⟨⟨h1,h2⟩,h3⟩,h4⟩,h5⟩,h6⟩,h7⟩,h8⟩,h9⟩:=this
  exact⟨⟨h1,h2,h3,h4,h5,h6⟩,h7,h8,h9⟩
 have pair: ∀ (c e:Nat) (a b:Addr),cs[e]? =some a->cs[c]? =some b->kitOne K (.ref a) (.ref b)=some (hit c e):=fun c e a b ea eb=>by
  unfold uD at h2
  have m1:(a,e)∈cs.zipIdx:=List.mem_zipIdx_iff_getElem?.mpr ea
  have m2:(b,c)∈cs.zipIdx:=List.mem_zipIdx_iff_getElem?.mpr eb
  have:=zAd (zAd h2 _ m1) _ m2
  simpa using this
 refine⟨fun c=>(all _ (get c)).1,fun c e hc=> ?_,fun e=>(all _ (get e)).2.1,fun c=> ?_,fun c=>(all _ (get c)).2.2.2⟩
 ·have hc':c<cs.length:=hc
  obtain⟨b,eb⟩: ∃ b,cs[c]? =some b:=⟨_,az hc'⟩
  have e1:(aGd cs C0 fs).cls c=b:=by
   show cs.getD c C0=b
   rw [bt,eb]
   rfl
  rw [e1]
  cases ea:cs[e]? with
  | some a=>
   have e2:(aGd cs C0 fs).cls e=a:=by
    show cs.getD e C0=a
    rw [bt,ea]
    rfl
   rw [e2]
   exact pair c e a b ea eb
  | none=>
   have e2:(aGd cs C0 fs).cls e=C0:=by
    show cs.getD e C0=C0
    rw [bt,ea]
    rfl
   have hel:cs.length<=e:=List.getElem?_eq_none_iff.mp ea
   rw [e2,pair c 0 C0 b z0 eb]
   congr 1
   unfold hit
   have n1:(c==e)=false:=by simp;omega
   rw [n1]
   cases c<;>simp
 ·rw [c0]
  exact(all _ (get c)).2.2.1
end
noncomputable def zD:List FS->FS->FS
 | [],k=>k
 | a::r,k=>aI a (zD r k)
noncomputable def lH:R->Option (List D)
 | .ow xs=>some xs
 | _=>none
noncomputable def dW (fs:List F) (ρ:Rho):Option (List (List D)):=cS (fun f=>lH (f ρ)) fs
noncomputable def cY:Slot->Bool
 | .no=>true
 | .sh _=>true
 | _=>false
noncomputable def nQ (m:Nat) (fs as:List F) (ρ:Rho):Option (List (List D)):=match args as ρ with
 | .ok ds=>dW fs (ds.map Slot.sh++ak m .no)
 | _=>none
noncomputable def kT (xss:List (List D)):Bool:=decide (xss.length<=1000)&&xss.all fun xs=>decide (xs.length<=1000)
noncomputable def aC4 (it ie ip m:Nat) (fs as:List F):FS:=fun ρ=>if ρ.all cY=true/\it<ρ.length/\ip<ρ.length/\ie<ρ.length then(match nQ m fs as ρ with
 | some xss=>if kT xss then .nx (((ρ.set it .no).set ip (.sh (.lst (xss.map D.lst)))).set ie .no) else .rt .bad
 | none=> .rt .bad) else .rt .bad
noncomputable def uE (K:PySem.W.Frag) (ad:Ad) (H G' H':Hp):List (List D)->List Addr->Prop:=Paired fun xs p=>H p=none/\G' p=none/\ ∃ vs,H' p=some (.lst vs)/\aE K ad G' xs vs
section
variable {K:PySem.W.Frag} {ad:Ad} {H H1 G1 G2 H2:Hp} {xss:List (List D)} {ps:List Addr}
theorem uE.step (h:uE K ad H G1 H1 xss ps) (st:Step G1 H1 G2 H2):uE K ad H G2 H2 xss ps:=Paired.mapP h fun _ _ ⟨a,b,vs,c,d⟩=>⟨a,st.gnone b c,vs,st.sh _ _ c,d.mono st.sg⟩
theorem uE.old (h:uE K ad H1 G2 H2 xss ps) (s:Same H H1):uE K ad H G2 H2 xss ps:=Paired.mapP h fun _ _ ⟨a,b,c⟩=>⟨s.free a,b,c⟩
theorem Paired.app {α β:Type} {R:α->β->Prop}: ∀ {a c:List α} {b d:List β},Paired R a b->Paired R c d->Paired R (a++c) (b++d)
 | _,_,_,_, .nil,t=>t
 | _,_,_,_, .cons h r,t=> .cons h (Paired.app r t)
theorem Paired.mem {α β:Type} {R:α->β->Prop}: ∀ {a:List α} {b:List β} {y:β},Paired R a b->y∈b-> ∃ x,x∈a/\R x y
 | _,_,_, .cons h r,m=>by
  rcases aq.mp m with rfl | m
  ·exact⟨_, .head _,h⟩
  ·obtain⟨x,h1,h2⟩:=Paired.mem r m
   exact⟨x, .tail _ h1,h2⟩
theorem rW {fs gs:List F} {ρ:Rho}: ∀ {xss:List (List D)},dW (fs++gs) ρ=some xss-> ∃ a b,dW fs ρ=some a/\dW gs ρ=some b/\xss=a++b:=by
 induction fs with
 | nil=>exact fun {xss} h=>⟨[],xss,rfl,h,rfl⟩
 | cons f fs ih=>
  intro xss h
  have h':cS (fun f=>lH (f ρ)) (f::(fs++gs))=some xss:=h
  unfold cS at h'
  cases e:lH (f ρ) with
  | none=>rw [e] at h';cases h'
  | some xs=>
   rw [e] at h'
   obtain⟨r,h1,rfl⟩:=zMd h'
   obtain⟨a,b,h2,h3,rfl⟩:=ih h1
   refine⟨xs::a,b, ?_,h3,rfl⟩
   show cS (fun f=>lH (f ρ)) (f::fs)=some (xs::a)
   unfold cS
   simp only [e]
   have h2':cS (fun f=>lH (f ρ)) fs=some a:=h2
   rw [h2']
   rfl
end
section
variable {X:Cx} {ad:Ad} {n:Nat} {C:SK.Ctx}
noncomputable def tAO (X:Cx) (ad:Ad) (fs:List F):TA:=fun σ H Q=> ∃ G ρ E xss,Same G H/\SL X.K ad G H ρ σ/\XP X ad σ E/\dW fs ρ=some xss/\ ∀ ps G' H',Step G H G' H'->uE X.K ad H G' H' xss ps->Q (ps.map V.ref) H'
theorem zE (hE:y9 ad n) (O:CtxOk X ad C): ∀ {es:List Expr} {fs:List F},cS (bD n C) es=some fs->PA X es (tAO X ad fs)
 | [],fs,h=>by
  cases h
  exact PA.imp dB fun σ H Q ⟨G,ρ,E,xss,hG,hS,hx,e,k⟩=>by cases e;exact k [] G H (Step.refl hG) .nil
 | e::es,fs,h=>by
  unfold cS at h
  cases e1:bD n C e with
  | none=>rw [e1] at h;cases h
  | some f=>
   rw [e1] at h
   obtain⟨r,h1,h2⟩:=zMd h
   subst h2
   have ns:=(aJ e1).1
   refine PA.imp (bS (hE X C e f O e1).1 (zE hE O h1) (aL ns)) ?_
   rintro σ H Q ⟨G,ρ,E,xss,hG,hS,hx,e0,k⟩
   have e':cS (fun f=>lH (f ρ)) (f::r)=some xss:=e0
   unfold cS at e'
   cases e2:f ρ with
   | ow xs=>
    rw [e2] at e'
    obtain⟨yss,e3,rfl⟩:=zMd (show(cS (fun f=>lH (f ρ)) r).map (xs:: ·)=some xss from e')
    refine⟨G,ρ,E,hG,hS,hx, ?_⟩
    rw [e2]
    intro p vs G1 H1 st n0 m0 e4 r0
    refine⟨G1,ρ,E,yss,st.gh,hS.step st,hx,e3,fun ps G2 H2 st2 nw=> ?_⟩
    exact k (p::ps) G2 H2 (st.trans st2) (.cons ⟨n0,st2.gnone m0 e4,vs,st2.sh _ _ e4,r0.mono st2.sg⟩ (nw.old st.sh))
   | ok d=>rw [e2] at e';cases e'
   | ex c=>rw [e2] at e';cases e'
   | bad=>rw [e2] at e';cases e'
end
noncomputable def spN (K:PySem.W.Frag) (ad:Ad) (n m:Nat) (fs:List F):Sp:=fun vs H Q E=> ∃ G ds xss,Same G H/\aE K ad G ds vs/\ds.length=n/\dW fs (ds.map Slot.sh++ak m .no)=some xss/\
 ∀ L ps G' H',Step G H G' H'->H L=none->G' L=none->H' L=some (.lst (ps.map V.ref))->L∉ps->uE K ad H G' H' xss ps->Q (.ref L) H'
theorem SL.setNo {K:PySem.W.Frag} {ad:Ad} {G H:Hp} {ρ:Rho} {σ:St} {i:Nat} {ov:Option V} (h:SL K ad G H ρ σ) (e:ρ[i]? =some .no\/ρ[i]? =none):SL K ad G H ρ (σ.set i ov):=by
 refine⟨by rw [List.length_set];exact h.len,fun j s q=> ?_⟩
 obtain⟨ov',h1,h2⟩:=h.at_ j s q
 by_cases z:j=i
 ·subst z
  rcases e with e | e
  ·rw [q] at e
   cases e
   refine⟨ov,bg (av.mp h1).1,trivial⟩
  ·rw [q] at e;cases e
 ·exact⟨ov',by rw [ay (Ne.symm z)];exact h1,h2⟩
section
variable {P:Program} {w:World} {K:Frag} {mg:Str->Option Value} {base:Heap} {ad:Ad} {k:Nat} {tab:List (Str×SK.Gl)}
theorem aBy {x qual:Str} {st:Stmt} {f:Addr} {fd:FuncData} {ps:List Str} {xm:Str} {es1 es2:List Expr} {p1 p2 p3 p4 p5 p6 p7:Pos} {i:Nat} {fs1 fs2:List F} (B:ExcK K ad) (TB:dU P w K mg base ad k tab) (Fu:Fun K x qual st f fd) (hps:fY (defArgs st)=some ps)
  (hs:dC (aC (defScope st)) ps (defScope st)=true)
  (hb:defBody st=[.Assign [.Name xm p1] (.List es1 p2) p3, .Return (some (.BinOp (.Name xm p4) .Add (.List es2 p5) p6)) p7])
  (hi:loc ⟨tab,[],defScope st,aC (defScope st),[]⟩ xm=some i) (hpi:ps.length<=i)
  (h1:cS (bD 50 ⟨tab,[],defScope st,aC (defScope st),[]⟩) es1=some fs1) (h2:cS (bD 50 ⟨tab,[],defScope st,aC (defScope st),[]⟩) es2=some fs2) (hl1:fs1.length<=100) (hl2:fs2.length<=100) {m:Nat} (hmm:(aC (defScope st)).length - ps.length=m):
  FnOk P w K mg base (CXe P w) (k+1) f fd ps (spN K ad ps.length m (fs1++fs2)):=by
 subst hmm
 obtain⟨oc,od,kV,doc,pm,an,cdv,ct,osl,rfl,lk,hcd⟩:=Fu.ex
 cases st with
 | FunctionDef nm as b dl re tp sc ts bi pos=>
  have hb':b=[.Assign [.Name xm p1] (.List es1 p2) p3, .Return (some (.BinOp (.Name xm p4) .Add (.List es2 p5) p6)) p7]:=hb
  subst hb'
  have hs':dC (aC sc) ps sc=true:=hs
  clear hs
  obtain⟨S,nm'⟩:=eS hs'
  refine aDq lk hcd S (fun vs H Q E ⟨G,ds,xss,_,r,hl,_⟩=>by rw [r.length,hl]) fun A outer s H vs Q E hr hz_=> ?_
  obtain⟨G,ds,xss,hG,r,hl,hn,hq⟩:=hz_
  let C:SK.Ctx:=⟨tab,[],sc,aC sc,[]⟩
  have O:StOk (k9 (CXe P w) P w K mg base (aC sc) qual sc f cdv A outer s H E) ad C:=rV B TB iA.nil hs' hr
  have T:DefX (k9 (CXe P w) P w K mg base (aC sc) qual sc f cdv A outer s H E) E:=⟨rfl,rfl,rfl,fun e s' h=>h⟩
  obtain⟨kE,kL,kI⟩:=iW (ad:=ad) 50
  have nmi:=O.nm hi
  obtain⟨v1,v2,v3,v4⟩:=O.cx.vis xm i hi
  refine⟨_,fN (lJ O.cx.nd nmi.1 nmi.2.1 (v5 (zE kE O.cx h1)) rfl nmi.2.2) (qL (vV (aKz aIb (d6 v1 v2 v3 v4) (v5 (zE kE O.cx h2))))), ?_⟩
  obtain⟨a,b,n1,n2,rfl⟩:=rW hn
  have sl0:SL K ad G H (ds.map Slot.sh++ak ((aC sc).length - ps.length) .no) (L2.start (aC sc) vs):=by
   have:=(nP (X:=k9 (CXe P w) P w K mg base (aC sc) qual sc f cdv A outer s H E) (ad:=ad) (n:=(aC sc).length - ps.length) hG r).sl
   unfold L2.start
   rw [r.length,hl]
   exact this
  have hlen:(L2.start (aC sc) vs).length=(aC sc).length:=by
   have q1:=sl0.len
   rw [bj,am,List.length_replicate,hl] at q1
   have q2:ps.length<=(aC sc).length:=by
    have:=congrArg List.length S.pre
    rw [List.length_take] at this
    omega
   omega
  have il:i<(aC sc).length:=(av.mp v1).1
  have xp: ∀ σ,XP (k9 (CXe P w) P w K mg base (aC sc) qual sc f cdv A outer s H E) ad σ (fun c H'=>E (.ref (ad.cls c)) none H'):=fun σ=>xI T
  have no:(ds.map Slot.sh++ak ((aC sc).length - ps.length) Slot.no)[i]? =some .no:=by
   rw [bh (by rw [am,hl];exact hpi),am,hl,List.getElem?_replicate,if_pos (by omega)]
  have newLen: ∀ {fs:List F} {ρ:Rho} {xs:List (List D)} {qs:List Addr} {Ha Ga Hb:Hp},dW fs ρ=some xs->uE K ad Ha Ga Hb xs qs->qs.length=fs.length:=fun {fs ρ xs qs Ha Ga Hb} e h=>by
   have:=Paired.length h
   rw [<-this]
   exact jO e
  refine⟨G,_,_,a,hG,sl0,xp _,n1,fun qs G1 H1 st1 nw1=>⟨?_,fun m hm=> ?_⟩⟩
  ·rw [am,newLen n1 nw1]
   exact Nat.le_trans hl1 (by decide)
  ·have own1:Step G1 H1 G1 (upd H1 m (.lst (qs.map V.ref))):=Step.own st1.gh hm
   refine⟨.ref m,bg (show i<(L2.start (aC sc) vs).length by rw [hlen];exact il), ?_⟩
   refine⟨G1,_,_,b,own1.gh,((sl0.step st1).step own1).setNo (.inl no),xp _,n2,fun rs G2 H2 st2 nw2=>⟨?_,fun q hq2=> ?_⟩⟩
   ·rw [am,newLen n2 nw2]
    exact Nat.le_trans hl2 (by decide)
   ·have own2:Step G2 H2 G2 (upd H2 q (.lst (rs.map V.ref))):=Step.own st2.gh hq2
    have e1:upd H2 q (.lst (rs.map V.ref)) m=some (.lst (qs.map V.ref)):=own2.sh _ _ (st2.sh _ _ aM)
    refine⟨m,q,qs.map V.ref,rs.map V.ref,rfl,rfl,e1,aM, ?_,fun L hL=> ?_⟩
    ·rw [am,am,newLen n1 nw1,newLen n2 nw2]
     exact Nat.le_trans (Nat.add_le_add hl1 hl2) (by decide)
    ·have own3:Step G2 (upd H2 q (.lst (rs.map V.ref))) G2 (upd (upd H2 q (.lst (rs.map V.ref))) L (.lst (qs.map V.ref++rs.map V.ref))):=Step.own own2.gh hL
     have t2:Step G1 H1 G2 (upd H2 q (.lst (rs.map V.ref))):=(own1.trans st2).trans own2
     have t3:=t2.trans own3
     have w1:uE K ad H G2 (upd H2 q (.lst (rs.map V.ref))) a qs:=nw1.step t2
     have w2:uE K ad H G2 (upd H2 q (.lst (rs.map V.ref))) b rs:=(nw2.step own2).old (st1.trans own1).sh
     have w:=Paired.app w1 w2
     refine hq L (qs++rs) G2 _ (st1.trans t3) ((st1.trans t2).sh.free hL) (own2.gh.free hL) (by rw [aM,List.map_append]) (fun z=> ?_) (uE.step w own3)
     obtain⟨xs,_,_,_,vs',e,_⟩:=Paired.mem w z
     rw [hL] at e
     cases e
 | _=>cases hb
end
noncomputable def opq:V->D
 | .non=> .non
 | .bl b=> .bl b
 | .int i=> .int i
 | .str x=> .str x
 | .ref a=> .fn (1000+a)
 | _=> .non
section
variable {K:PySem.W.Frag} {ad:Ad} {G G':Hp}
theorem aGf (hf: ∀ p,ad.fnA (1000+p)=p): ∀ {d:D} {v:V},Rep K ad G d v->Rep K ad G' (opq v) v:=by
 intro d v h
 cases d<;>unfold Rep at h
 case non=>subst h;unfold opq Rep;rfl
 case bl=>subst h;unfold opq Rep;rfl
 case int=>subst h;unfold opq Rep;rfl
 case str=>subst h;unfold opq Rep;rfl
 case tup=>obtain⟨a,vs,rfl,_⟩:=h;unfold opq Rep;rw [hf]
 case lst=>obtain⟨a,vs,rfl,_⟩:=h;unfold opq Rep;rw [hf]
 case exc=>obtain⟨a,rfl,_⟩:=h;unfold opq Rep;rw [hf]
 case fn=>subst h;unfold opq Rep;rw [hf]
theorem uF (hf: ∀ p,ad.fnA (1000+p)=p): ∀ {ds:List D} {vs:List V},aE K ad G ds vs->aE K ad G' (vs.map opq) vs
 | [],vs,h=>by
  unfold aE at h
  subst h
  exact aE.nil
 | d::ds,vs,h=>by
  unfold aE at h
  obtain⟨v,r,rfl,h2,h3⟩:=h
  exact aE.cons (aGf hf h2) (uF hf h3)
theorem aJ4 (hf: ∀ p,ad.fnA (1000+p)=p) {d:D} {v w:V} (h:Rep K ad G d v) (h':Rep K ad G' (opq v) w):w=v:=by
 cases d<;>unfold Rep at h
 case non=>subst h;unfold opq Rep at h';exact h'
 case bl=>subst h;unfold opq Rep at h';exact h'
 case int=>subst h;unfold opq Rep at h';exact h'
 case str=>subst h;unfold opq Rep at h';exact h'
 case tup=>obtain⟨a,vs,rfl,_⟩:=h;unfold opq Rep at h';rw [hf] at h';exact h'
 case lst=>obtain⟨a,vs,rfl,_⟩:=h;unfold opq Rep at h';rw [hf] at h';exact h'
 case exc=>obtain⟨a,rfl,_⟩:=h;unfold opq Rep at h';rw [hf] at h';exact h'
 case fn=>subst h;unfold opq Rep at h';rw [hf] at h';exact h'
theorem uG (hf: ∀ p,ad.fnA (1000+p)=p): ∀ {ds:List D} {vs ws:List V},aE K ad G ds vs->aE K ad G' (vs.map opq) ws->ws=vs
 | [],vs,ws,h,h'=>by
  unfold aE at h
  subst h
  unfold aE at h'
  exact h'
 | d::ds,vs,ws,h,h'=>by
  unfold aE at h
  obtain⟨v,r,rfl,h2,h3⟩:=h
  rw [List.map_cons] at h'
  unfold aE at h'
  obtain⟨w,q,rfl,h4,h5⟩:=h'
  rw [aJ4 hf h2 h4,uG hf h3 h5]
end
noncomputable def eF (H:Hp) (p:Addr):List V:=match H p with
 | some (.lst vs)=>vs
 | _=>[]
noncomputable def zF (H:Hp) (ps:List Addr):List D:=ps.map fun p=> .lst ((eF H p).map opq)
noncomputable def shr (S:List Addr) (G H:Hp):Hp:=fun b=>if b∈S then H b else G b
theorem qC {S:List Addr} {G H:Hp} {b:Addr} (h:b∈S):shr S G H b=H b:=if_pos h
theorem nR {S:List Addr} {G H:Hp} {b:Addr} (h:b∉S):shr S G H b=G b:=if_neg h
theorem aC5 {S:List Addr} {G H:Hp} (h: ∀ b∈S,G b=none):Same G (shr S G H):=fun b o e=>by
 rw [nR fun z=>by rw [h b z] at e;cases e]
 exact e
theorem uH {S:List Addr} {G H H':Hp} (h:Same G H') (h':Same H H'):Same (shr S G H) H':=fun b o e=>by
 by_cases z:b∈S
 ·rw [qC z] at e;exact h' b o e
 ·rw [nR z] at e;exact h b o e
section
variable {X:Cx} {ad:Ad} {Z:(St->Nat->Hp->Prop)->Prop} {σ:St} {H G G₀:Hp} {ρ:Rho}
theorem rX (hc:ρ.all cY=true) {i:Nat} {sl:Slot} (e:ρ[i]? =some sl):sl= .no\/ ∃ d,sl= .sh d:=by
 have:=zAd hc sl (List.mem_of_getElem? e)
 cases sl with
 | no=>exact .inl rfl
 | sh d=>exact .inr ⟨d,rfl⟩
 | _=>cases this
theorem SS.calm (hc:ρ.all cY=true) (st:Step G₀ X.H₀ G H) (sl:SL X.K ad G H ρ σ):SS X ad G₀ G H ρ σ:=by
 refine⟨st,sl,fun i sl a e w _=> ?_,fun i j sl sl' a e _ w _=> ?_⟩
 ·rcases rX hc e with rfl | ⟨d,rfl⟩<;>cases w
 ·rcases rX hc e with rfl | ⟨d,rfl⟩<;>cases w
theorem SL.calm {K:PySem.W.Frag} {G1 H1:Hp} (hc:ρ.all cY=true) (h:SL K ad G H ρ σ) (le:Same G G1):SL K ad G1 H1 ρ σ:=by
 refine⟨h.len,fun i s e=> ?_⟩
 obtain⟨ov,h1,h2⟩:=h.at_ i s e
 rcases rX hc e with rfl | ⟨d,rfl⟩
 ·exact⟨ov,h1,trivial⟩
 ·obtain⟨v,h3,h4⟩:=h2
  exact⟨ov,h1,v,h3,h4.mono le⟩
theorem nS {i:Nat} {sl:Slot} (hc:ρ.all cY=true) (h:cY sl=true):(ρ.set i sl).all cY=true:=by
 rw [List.all_eq_true] at hc ⊢
 intro s m
 rcases List.mem_or_eq_of_mem_set m with m | rfl
 ·exact hc s m
 ·exact h
theorem SL.setSh {K:PySem.W.Frag} {i:Nat} {d:D} {v:V} (h:SL K ad G H ρ σ) (r:Rep K ad G d v):SL K ad G H (ρ.set i (.sh d)) (σ.set i (some v)):=by
 refine⟨by rw [List.length_set,List.length_set];exact h.len,fun j s e=> ?_⟩
 by_cases z:j=i
 ·subst z
  have hl:j<ρ.length:=by have:=(av.mp e).1;rwa [List.length_set] at this
  rw [bg hl] at e
  cases e
  exact⟨some v,bg (by rw [<-h.len];exact hl),v,rfl,r⟩
 ·rw [ay (Ne.symm z)] at e ⊢
  exact h.at_ j s e
theorem SL.dropNo {K:PySem.W.Frag} {i:Nat} {ov:Option V} (h:SL K ad G H ρ σ):SL K ad G H (ρ.set i .no) (σ.set i ov):=by
 refine⟨by rw [List.length_set,List.length_set];exact h.len,fun j s e=> ?_⟩
 by_cases z:j=i
 ·subst z
  have hl:j<ρ.length:=by have:=(av.mp e).1;rwa [List.length_set] at this
  rw [bg hl] at e
  cases e
  exact⟨ov,bg (by rw [<-h.len];exact hl),trivial⟩
 ·rw [ay (Ne.symm z)] at e ⊢
  exact h.at_ j s e
end
theorem uI: ∀ {xs:List V} {us:List Value},aZ xs us->aZ xs.reverse us.reverse
 | _,_, .nil=> .nil
 | _,_, .cons r t=>by
  rw [List.reverse_cons,List.reverse_cons]
  exact(uI t).append (.cons r .nil)
section
variable {X:Cx}
noncomputable def aL8:V->List V->Hp->VK->Prop:=fun x vs H Q=> ∃ l xs,x= .ref l/\vs=[]/\H l=some (.lst xs)/\Q .non (upd H l (.lst xs.reverse))
theorem aJ5:MtM X "list.reverse" aL8:=by
 intro pins s σ H x vs v us Q I rx rv h
 obtain⟨l,xs,rfl,rfl,hH,q⟩:=h
 cases rx
 cases rv
 obtain⟨z,its,n,r,hl,e⟩:=I.lstM hH
 refine call_meets F.slot_list_reverse ⟨_,e,rfl⟩ F.entry_list_reverse (F.args_list_reverse_1 _) (AutoSeq1.list_reverse_list_0 l its.toArray n (by rw [au];omega)) ⟨e, ?_⟩
 refine⟨.non,_,I.lset (its':=its.reverse) hH e (by simp) (uI r) ?_,rfl,q⟩
 rw [List.length_reverse]
 exact z
end
section
variable {X:Cx} {ad:Ad} {Z:(St->Nat->Hp->Prop)->Prop} {C:SK.Ctx} {pos pos' cpos p:Pos} {a elt it:Expr} {es:List Expr} {fs as:List F} {x xe:Str} {f:Addr} {k n m i:Nat}
noncomputable def tCN (X:Cx) (ad:Ad) (m:Nat) (fs as:List F):TE:=fun σ H Q=> ∃ G ρ E ds xss,Same G H/\SL X.K ad G H ρ σ/\XP X ad σ E/\args as ρ= .ok ds/\dW fs (ds.map Slot.sh++ak m .no)=some xss/\
 ∀ L ps G' H',Step G H G' H'->H L=none->G' L=none->H' L=some (.lst (ps.map V.ref))->L∉ps->uE X.K ad H G' H' xss ps->Q (.ref L) H'
theorem aBz (hm:X.mg x=some (.ref f)) (kp:keepIn X.K (.ref f)=true) (T: ∃ fd ps,FnOk X.prog X.w X.K X.mg X.base (CXe X.prog X.w) k f fd ps (spN X.K ad n m fs)/\gA X.K fd ps []) (hr:Room k X.A) (hg:L2.Gl X x) (hdb:(x==("__debug__":Str))=false) (ha:MA X ad (a::es) as) (hn:as.length=n)
  (he:starEach (a::es) X.env=(false,eval a X.env)::starEach es X.env) (hpl:(backTo pos (starEach es X.env)).any (·.1)=false):PE X (.Call (.Name x p) (a::es) [] pos) (tCN X ad m fs as):=by
 intro pins s σ H Q I ⟨G,ρ,E,ds,xss,hG,hS,hx,ea,hnw,hq⟩
 refine wpAny_Call_Name_kw (jQ I hg hm ?_ hdb)
 refine PySem.W.callWith_K (h₀:=X.base) I.ok.mod.kin kp (L2.thn (ha pos pins s σ H (fun vs H1=> ∃ G1,Step G H G1 H1/\aE X.K ad G1 ds vs) I ⟨G,ρ,E,hG,hS,hx,by rw [ea];exact fun vs G1 H1 st rq=>⟨G1,st,rq⟩⟩) fun us s1 ⟨vs,H1,I1,r,G1,st,rq⟩=>⟨I1.kIn, ?_⟩) he hpl
 obtain⟨fd,ps,F',hb⟩:=T
 exact rC (E:=xk ad E) F' hr hb I1 r ⟨G1,ds,xss,st.gh,rq,(jJ ea).trans hn,hnw,fun L qs G' H' st' hL gL hL' nL nw=>hq L qs G' H' (st.trans st') (st.sh.free hL) gL hL' nL (nw.old st.sh)⟩ fun e s' hc=>hx pins H1 s1 e s' I1 hc
theorem aGg {sc:Scope} {ifs:List Expr} {pe:Pos} {g fe:F} (O:StOk X ad C) (h:bD 50 C (.ListComp elt [⟨.Name xe pe,it,ifs,0⟩] sc cpos)=some g) (h5:bD 49 { C with sc:=sc,N:=[xe]++aX sc } elt=some fe) (hw: ∀ ρ y,fe ρ≠ .ok y) (hi:loc C x=some i):
  PS X (.Assign [.Name x pos'] (.ListComp elt [⟨.Name xe pe,it,ifs,0⟩] sc cpos) pos) (zZ (tEW X ad True g) (gO i)):=by
 obtain⟨h1,h2,h3⟩:=iW (ad:=ad) 49
 have nm:=O.nm hi
 obtain⟨xs,kk,cs,fi,fc,fe',rfl,⟨e1,e2⟩,S,hi',hset,hxs,hg,hts,he⟩:=iV h1 h3 O.cx h
 cases e1
 have e3:fe'=fe:=Option.some.inj (e2.symm.trans h5)
 subst e3
 obtain⟨b,hb⟩:=mB (x:=x) (pos':=pos') (elt:=elt) (gens:=[⟨.Name xe pe,it,ifs,0⟩]) (sc:=sc) (cpos:=cpos) (line:=pos.line) (env:=X.env)
 cases b with
 | false=>exact lJ O.cx.nd nm.1 nm.2.1 (sT (U:=True) (fun _=>hw) O.cx.calm S hi' hset hxs hg hts he) hb nm.2.2
 | true=>exact sV (U:=True) (fun _=>hw) O.cx.nd nm O.cx.calm S hi' hset hxs hg hts he hb
theorem aB0 {h:F} (ρ:Rho) (y:D):aA eL [h] ρ≠ .ok y:=by
 intro e
 unfold aA at e
 rw [gU] at e
 cases q:h ρ with
 | ok d=>
  rw [q] at e
  have e':(match items d with | some xs=>R.ow xs | none=> .bad)= .ok y:=e
  cases z:items d with
  | none=>rw [z] at e';cases e'
  | some xs=>rw [z] at e';cases e'
 | ow xs=>rw [q] at e;cases e
 | ex c=>rw [q] at e;cases e
 | bad=>rw [q] at e;cases e
theorem aGh {ls:List (List D)}:bM (dI 0 [] none (aA eL [aD 0])) (ls.map D.lst)=some (ls.map D.lst):=by
 induction ls with
 | nil=>rfl
 | cons l ls ih=>
  rw [List.map_cons]
  unfold bM
  have:dI 0 [] none (aA eL [aD 0]) (D.lst l)=some (some (.lst l)):=rfl
  rw [this]
  simp only [ih,Option.map_some]
end
section
variable {X:Cx} {ad:Ad} {Z:(St->Nat->Hp->Prop)->Prop} {C:SK.Ctx} {p1 p2 p3 p4 p5 p6 p7 p8 p9 p10 p11 p12 p13 p14 p15 p16 p17 p18 p19 p20 p21:Pos} {a elt:Expr} {es:List Expr} {fs as:List F} {xl xt xp xe:Str} {f:Addr} {k n m it ie ip:Nat} {cR:List Stmt} {g:FS} {sc:Scope} {j1:Nat}
theorem aGi (O:StOk X ad C) (hpo:PassesOwn (model X.prog X.w) X.A X.env X.xe) (hf: ∀ p,ad.fnA (1000+p)=p)
  (hm:X.mg xl=some (.ref f)) (kp:keepIn X.K (.ref f)=true) (T: ∃ fd ps,FnOk X.prog X.w X.K X.mg X.base (CXe X.prog X.w) k f fd ps (spN X.K ad n m fs)/\gA X.K fd ps []) (hr:Room k X.A) (hg:L2.Gl X xl) (hdb:(xl==("__debug__":Str))=false)
  (ha:cS (bD 50 C) (a::es)=some as) (hn:as.length=n)
  (ht:loc C xt=some it) (hp:loc C xp=some ip) (he:loc C xe=some ie) (n1:it≠ip) (n2:it≠ie) (n3:ip≠ie)
  (hB:bD 50 C (.ListComp elt [⟨.Name xe p4, .Name xt p5,[],0⟩] sc p6)=some (aP 0 [] (aD it) none (aA eL [aD 0]))) (h5:bD 49 { C with sc:=sc,N:=[xe]++aX sc } elt=some (aA eL [aD 0]))
  (hl1:(p13.endLine==p15.line)=true) (hl2:(p17.endLine==p18.line)=true)
  (hrest:MSs X ad Z cR g):
  MSs X ad Z (.Assign [.Name xt p1] (.Call (.Name xl p2) (a::es) [] p3) p7:: .Assign [.Name xp p8] (.ListComp elt [⟨.Name xe p4, .Name xt p5,[],0⟩] sc p6) p9::
   .For (.Name xe p10) (.Name xt p11) [.Expr (.Call (.Attribute (.Name xe p12) "append" p13) [.Constant .none j1 p14] [] p15) p16, .Expr (.Call (.Attribute (.Name xe p20) "reverse" p17) [] [] p18) p21] [] p19::cR) (aI (aC4 it ie ip m fs as) g):=by
 obtain⟨kE,kL,kI⟩:=iW (ad:=ad) 50
 have nt:=O.nm ht
 have ne:=O.nm he
 obtain⟨t1,t2,t3,t4⟩:=O.cx.vis xt it ht
 obtain⟨v1,v2,v3,v4⟩:=O.cx.vis xe ie he
 obtain⟨MAa,nst⟩:=rS kE O.cx ha
 have PAc:=aBz (p:=p2) (pos:=p3) hm kp T hr hg hdb MAa hn (aL (nst a (.head _))) (hX fun e h=>nst e (.tail _ h))
 have PA:=lJ (pos':=p1) (pos:=p7) O.cx.nd nt.1 nt.2.1 PAc rfl nt.2.2
 have PB:=aGg (pos':=p8) (pos:=p9) O hB h5 aB0 hp
 have body:PSs X [.Expr (.Call (.Attribute (.Name xe p12) "append" p13) [.Constant .none j1 p14] [] p15) p16, .Expr (.Call (.Attribute (.Name xe p20) "reverse" p17) [] [] p18) p21] _:=
  fN (jR (aDu (T:="list") PySem.F.plainAttrs_list PySem.F.slot_list_append PySem.F.type_list_append jW (d6 v1 v2 v3 v4) (bS aB5 dB) rfl rfl hl1 rfl rfl) rfl)
   (qL (jR (aIa (T:="list") PySem.F.plainAttrs_list PySem.F.slot_list_reverse PySem.F.type_list_reverse aJ5 (d6 v1 v2 v3 v4) rfl hl2) rfl))
 have PC:=aCa (pos:=p19) hpo O.cx.calm (aDn (d6 (pos:=p11) t1 t2 t3 t4)) (iJ (pos:=p10) O.cx.nd ne.1 ne.2.1 ne.2.2) body
 refine PSs.imp (fN PA (fN PB (fN PC hrest))) ?_
 rintro D' σ H ⟨G₀,G,ρ,E,S,hx,hr'⟩
 unfold aI aC4 at hr'
 by_cases hc:ρ.all cY=true/\it<ρ.length/\ip<ρ.length/\ie<ρ.length
 case neg=>rw [if_neg hc] at hr';exact hr'.elim
 rw [if_pos hc] at hr'
 obtain⟨hc,hit,hip,hie⟩:=hc
 cases hb:nQ m fs as ρ with
 | none=>rw [hb] at hr';exact hr'.elim
 | some xss=>
 rw [hb] at hr'
 by_cases hfew:kT xss=true
 case neg=>simp only [if_neg hfew] at hr';exact hr'.elim
 simp only [if_pos hfew] at hr'
 unfold nQ at hb
 unfold kT at hfew
 rw [ar] at hfew
 obtain⟨hfew1,hfew2⟩:=hfew
 have hfew1:=of_decide_eq_true hfew1
 cases ea:args as ρ with
 | ex c=>rw [ea] at hb;cases hb
 | bad=>rw [ea] at hb;cases hb
 | ok ds=>
 rw [ea] at hb
 refine⟨G,ρ,E σ,ds,xss,S.st.gh,S.sl,hx.1 σ,ea,hb,fun L ps G1 H1 st hL gL hL' nL nw=> ?_⟩
 -- told's list, as it stands
 have hlp: ∀ q∈ps,G1 q=none/\H q=none/\ ∃ xs vs,xs∈xss/\H1 q=some (.lst vs)/\aE X.K ad G1 xs vs:=fun q hq=>by
  obtain⟨xs,m1,a1,a2,vs,a3,a4⟩:=Paired.mem nw hq
  exact⟨a2,a1,xs,vs,m1,a3,a4⟩
 have gS: ∀ b∈L::ps,G1 b=none:=fun b hb=>by
  rcases aq.mp hb with rfl | hb
  ·exact gL
  ·exact(hlp b hb).1
 have le1:Same G1 (shr (L::ps) G1 H1):=aC5 gS
 have le2:Same (shr (L::ps) G1 H1) H1:=uH st.gh (Same.refl _)
 have rtl: ∀ qs:List Addr,(∀ q∈qs,q∈ps)->aE X.K ad (shr (L::ps) G1 H1) (zF H1 qs) (qs.map V.ref):=fun qs=>by
  induction qs with
  | nil=>exact fun _=>aE.nil
  | cons q qs ih=>
   intro hs
   obtain⟨_,_,xs,vs,_,a3,a4⟩:=hlp q (hs q (.head _))
   have ev:eF H1 q=vs:=by unfold eF;rw [a3]
   refine aE.cons ?_ (ih fun q' h=>hs q' (.tail _ h))
   unfold Rep
   refine⟨q,vs,rfl,SqL.of ?_, ?_⟩
   ·rw [qC (List.mem_cons_of_mem _ (hs q (.head _)))]
    exact a3
   ·rw [ev]
    exact uF hf a4
 have rL:Rep X.K ad (shr (L::ps) G1 H1) (.lst (zF H1 ps)) (.ref L):=by
  unfold Rep
  exact⟨L,ps.map V.ref,rfl,SqL.of (by rw [qC (.head _)];exact hL'),rtl ps fun q h=>h⟩
 have sl1:SL X.K ad (shr (L::ps) G1 H1) H1 (ρ.set it (.sh (.lst (zF H1 ps)))) (σ.set it (some (.ref L))):=(S.sl.calm hc (st.sg.trans le1)).setSh rL
 have fB:aP 0 [] (aD it) none (aA eL [aD 0]) (ρ.set it (.sh (.lst (zF H1 ps))))= .ow (zF H1 ps):=by
  unfold aP aD
  rw [bg hit]
  have e1:zF H1 ps=(ps.map fun q=>(eF H1 q).map opq).map D.lst:=by unfold zF;rw [List.map_map];rfl
  show(match bM (dI 0 (qT [] _) none (aA eL [aD 0])) (zF H1 ps) with | some xs=>R.ow xs | none=> .bad)= .ow (zF H1 ps)
  rw [e1]
  have:=aGh (ls:=ps.map fun q=>(eF H1 q).map opq)
  show(match bM (dI 0 [] none (aA eL [aD 0])) ((ps.map fun q=>(eF H1 q).map opq).map D.lst) with | some xs=>R.ow xs | none=> .bad)=_
  rw [this]
 refine⟨shr (L::ps) G1 H1,_,E (σ.set it (some (.ref L))),le2,sl1,hx.1 _, ?_⟩
 rw [fB]
 intro P ws G2 H2 st2 hP gP hP' _ rn
 have key: ∀ (qs:List Addr) (us:List V),(∀ q∈qs,q∈ps)->RN X.K ad H1 G2 (zF H1 qs) us-> ∃ rs,us=rs.map V.ref/\Paired (fun q r=>H1 r=none/\G2 r=some (.lst (eF H1 q))) qs rs:=fun qs=>by
  induction qs with
  | nil=>intro us _ h;cases h;exact⟨[],rfl, .nil⟩
  | cons q qs ih=>
   intro us hs h
   have h':RN X.K ad H1 G2 (.lst ((eF H1 q).map opq)::zF H1 qs) us:=h
   cases h' with
   | cons h1 h2=>
    obtain⟨rs,rfl,h3⟩:=ih _ (fun q' h=>hs q' (.tail _ h)) h2
    obtain⟨l,r,ws',e1,rfl,e3,e4,e5⟩:=h1
    cases e1
    obtain⟨_,_,xs,vs,_,a3,a4⟩:=hlp q (hs q (.head _))
    have ev:eF H1 q=vs:=by unfold eF;rw [a3]
    rw [ev] at e5
    have ew:=uG hf a4 e5
    refine⟨r::rs,rfl, .cons ⟨e3, ?_⟩ h3⟩
    rw [ev, <-ew]
    exact e4
 obtain⟨rs,rfl,prs⟩:=key ps ws (fun q h=>h) (rn trivial)
 have hrs: ∀ b∈P::rs,H1 b=none:=fun b hb=>by
  rcases aq.mp hb with rfl | hb
  ·exact hP
  ·obtain⟨_,_,h,_⟩:=Paired.mem prs hb
   exact h
 have gP1: ∀ b∈P::rs,G1 b=none:=fun b hb=>st.gh.free (hrs b hb)
 have le3:Same G1 (shr (P::rs) G1 H2):=aC5 gP1
 have rp: ∀ (qs:List Addr) (yss:List (List D)) (ts:List Addr),(∀ t∈ts,t∈rs)->uE X.K ad H G1 H1 yss qs->Paired (fun q r=>H1 r=none/\G2 r=some (.lst (eF H1 q))) qs ts->aE X.K ad (shr (P::rs) G1 H2) (yss.map D.lst) (ts.map V.ref):=fun qs=>by
  induction qs with
  | nil=>intro yss ts _ h1 h2;cases h1;cases h2;exact aE.nil
  | cons q qs ih=>
   intro yss ts hs h1 h2
   cases h1 with
   | cons a1 h1=>
   cases h2 with
   | cons b1 h2=>
    obtain⟨_,_,vs,a3,a4⟩:=a1
    have ev:eF H1 q=vs:=by unfold eF;rw [a3]
    refine aE.cons ?_ (ih _ _ (fun t h=>hs t (.tail _ h)) h1 h2)
    unfold Rep
    refine⟨_,vs,rfl,SqL.of ?_,a4.mono le3⟩
    rw [qC (List.mem_cons_of_mem _ (hs _ (.head _)))]
    have:=st2.gh _ _ b1.2
    rw [ev] at this
    exact this
 have rP:Rep X.K ad (shr (P::rs) G1 H2) (.lst (xss.map D.lst)) (.ref P):=by
  unfold Rep
  exact⟨P,rs.map V.ref,rfl,SqL.of (by rw [qC (.head _)];exact hP'),rp ps xss rs (fun t h=>h) nw prs⟩
 have st12:Step G H G1 H2:=⟨st.sg,st.gh.trans st2.sh,st.sh.trans st2.sh,st.nw⟩
 have st3:Step G₀ X.H₀ (shr (P::rs) G1 H2) H2:=by
  have s0:=S.st.trans st12
  refine⟨s0.sg.trans le3,uH s0.gh (Same.refl _),s0.sh,fun b h1 h2=> ?_⟩
  by_cases z:b∈P::rs
  ·exact(S.st.sh.trans st.sh).free (hrs b z)
  ·rw [nR z] at h2
   exact s0.nw b h1 h2
 have gps: ∀ b∈L::ps,shr (P::rs) G1 H2 b=none/\X.H₀ b=none:=fun b hb=>by
  have hb1:H1 b≠none:=by
   rcases aq.mp hb with rfl | hb
   ·rw [hL'];exact fun z=>nomatch z
   ·obtain⟨_,_,_,_,_,a3,_⟩:=hlp b hb
    rw [a3];exact fun z=>nomatch z
  refine⟨?_,S.st.sh.free ?_⟩
  ·rw [nR fun z=>hb1 (hrs b z)]
   exact gS b hb
  ·rcases aq.mp hb with rfl | hb
   ·exact hL
   ·exact(hlp b hb).2.1
 -- the state at the loop
 have cal3:(((ρ.set it .no).set ip (.sh (.lst (xss.map D.lst)))).set ie .no).all cY=true:=nS (nS (nS hc rfl) rfl) rfl
 have sl3: ∀ ov,SL X.K ad (shr (P::rs) G1 H2) H2 (((ρ.set it .no).set ip (.sh (.lst (xss.map D.lst)))).set ie .no) (((σ.set it (some (.ref L))).set ip (some (.ref P))).set ie ov):=fun ov=>by
  have s1:SL X.K ad (shr (P::rs) G1 H2) H2 ρ σ:=S.sl.calm hc (st.sg.trans le3)
  exact((s1.dropNo (i:=it)).setSh rP).dropNo
 have few: ∀ q∈ps, ∃ us,H2 q=some (.lst us)/\us.length<=1000:=fun q hq=>by
  obtain⟨_,_,xs,vs,m1,a3,a4⟩:=hlp q hq
  refine⟨vs,st2.sh _ _ a3, ?_⟩
  rw [a4.length]
  exact of_decide_eq_true (zAd hfew2 xs m1)
 have hlen:σ.length=ρ.length:=S.sl.len.symm
 let Pv:Nat->St->Hp->Prop:=fun i σ' H'=>i<=ps.length/\SL X.K ad (shr (P::rs) G1 H2) H' (((ρ.set it .no).set ip (.sh (.lst (xss.map D.lst)))).set ie .no) (σ'.set ie none)/\Step G₀ X.H₀ (shr (P::rs) G1 H2) H'/\σ'.length=σ.length/\H' L=some (.lst (ps.map V.ref))/\ ∀ q∈ps, ∃ us,H' q=some (.lst us)/\us.length<=1000+i
 refine⟨.ref L, ?_,L,rfl,⟨_,SqL.of (st2.sh _ _ hL')⟩,aAb (xs:=ps.map V.ref) Pv ⟨bp _,sl3 none,st3,by simp,st2.sh _ _ hL',few⟩ (fun i σ' H' _ h=>SqL.of h.2.2.2.2.1) (fun i x σ' H' e h=> ?_) fun σ' H' h=> ?_⟩
 ·rw [ay (Ne.symm n1)]
  exact bg (by rw [hlen];exact hit)
 ·obtain⟨i1,h1,h2,h3,h4,h5⟩:=h
  rw [List.getElem?_map] at e
  cases eq:ps[i]? with
  | none=>rw [eq] at e;cases e
  | some q=>
   rw [eq] at e
   cases e
   have hq:q∈ps:=List.mem_of_getElem? eq
   obtain⟨us,u1,u2⟩:=h5 q hq
   have lps:xss.length=ps.length:=Paired.length nw
   have il:i<ps.length:=(av.mp eq).1
   have hs1:(σ'.set ie (some (.ref q)))[ie]? =some (some (.ref q)):=bg (by rw [h3,hlen];exact hie)
   obtain⟨g0,h0⟩:=gps q (List.mem_cons_of_mem _ hq)
   refine⟨.ref q,hs1, .inl ⟨rfl,us,SqL.of u1⟩,q,us, .non,rfl,rfl,u1, ?_, ?_⟩
   ·exact Nat.lt_of_le_of_lt (show us.length<=2000 by omega) (by decide)
   ·refine⟨.ref q,hs1, .inl ⟨rfl,_,SqL.of aM⟩,q,_,rfl,rfl,aM, ?_⟩
    have t1:Step G₀ X.H₀ (shr (P::rs) G1 H2) (upd (upd H' q (.lst (us++[.non]))) q (.lst (us++[V.non]).reverse)):=gW (gW h2 h0 g0) h0 g0
    refine⟨il, ?_,t1,by rw [List.length_set];exact h3, ?_,fun r hr=> ?_⟩
    ·rw [List.set_set]
     exact h1.calm cal3 (Same.refl _)
    ·have nq:L≠q:=fun z=>nL (by rw [z];exact hq)
     rw [aO nq,aO nq]
     exact h4
    ·by_cases z:r=q
     ·subst z
      refine⟨_,aM, ?_⟩
      rw [List.length_reverse,bj,List.length_singleton]
      omega
     ·obtain⟨ws,w1,w2⟩:=h5 r hr
      exact⟨ws,by rw [aO z,aO z];exact w1,by omega⟩
 ·obtain⟨_,h1,h2,h3,_,_⟩:=h
  have sl4:SL X.K ad (shr (P::rs) G1 H2) H' (((ρ.set it .no).set ip (.sh (.lst (xss.map D.lst)))).set ie .no) σ':=by
   have e4:(σ'.set ie none).set ie ((σ'[ie]?).getD none)=σ':=by
    rw [List.set_set]
    refine List.ext_getElem? fun j=> ?_
    by_cases z:j=ie
    ·subst z
     have hj:j<σ'.length:=by rw [h3,hlen];exact hie
     rw [bg hj]
     simp [hj]
    ·rw [ay (Ne.symm z)]
   have:=h1.setNo (i:=ie) (ov:=(σ'[ie]?).getD none) (.inl (bg (by simpa using hie)))
   rwa [e4] at this
  exact⟨G₀,_,_,E,SS.calm cal3 h2 sl4,hx,hr'⟩
end
section
variable {P:Program} {w:World} {K:Frag} {mg:Str->Option Value} {base h:Heap} {ad:Ad} {k:Nat} {tab:List (Str×SK.Gl)} {fns:List (Nat×Fn)}
theorem aC6 {x qual:Str} {st:Stmt} {f:Addr} {fd:FuncData} {n j:Nat} {m:Fn->Fn} {ps:List Str} (B:ExcK K ad) (TB:dU P w K mg base ad k tab) (Fu:Fun K x qual st f fd) (hps:fY (defArgs st)=some ps) (hb:gA K fd ps []) (hm:mg x=some (.ref f))
  (hdb:(x==("__debug__":Str))=false) (hj:f=ad.fnA j) (hd: ∀ F,wK ((x, .fn j n F)::tab) [] st=some (n,m F)): ∀ i,FnOk P w K mg base (CXe P w) (k+i) f fd ps (zT K ad n (aD9 m i))
 | 0=>⟨fun vs H Q E ⟨G,ds,_,_,_,z⟩=>z.elim,fun A outer s H args us vs Q E _ _ _ _ ⟨G,ds,_,_,_,z⟩=>z.elim⟩
 | i+1=>aC3 (k:=k+i) B ((TB.mono (Nat.le_add_right k i)).cons (g:= .fn j n (aD9 m i)) hdb ⟨k+i,f,aj _,hm,Fu.kp,⟨fd,ps,aC6 B TB Fu hps hb hm hdb hj hd i,hb⟩,hj⟩) iA.nil Fu hps (hd (aD9 m i))
structure PQ (P:Program) (w:World) (K:Frag) (mg:Str->Option Value) (base h:Heap) (ad:Ad) (k:Nat) (tab:List (Str×SK.Gl)) (fns:List (Nat×Fn)):Prop where
 t:dU P w K mg base ad k tab
 u:iA P w K mg base ad k fns
 X:K.In h
 G:h.Ns mainGlobals mg
 B:ExcK K ad
def Bnd (x:Str) (st:Stmt) (ps:List Str):Prop:= ∀ (kV doc pm:Value) (an:Option Addr) (cdv ct:Value) (us:List Value),us.length=ps.length->bindArgs (PySem.W.fnOf x x (defArgs st) (defBody st) (defScope st) .none kV doc pm an cdv ct) ⟨us,[]⟩=pure (ps.zip us)
theorem PQ.cons (T:PQ P w K mg base h ad k tab fns) {x:Str} {f:Addr} {fd:FuncData} {ps:List Str} {n r:Nat} {M:Fn} (hr:k<=r) (ok:FnOk P w K mg base (CXe P w) r f fd ps (zT K ad n M)) (hb:gA K fd ps []) (kp:keepIn K (.ref f)=true) (hm:mg x=some (.ref f)) (hj:f=ad.fnA fns.length) (hdb:(x==("__debug__":Str))=false):
  PQ P w K mg base h ad r ((x, .fn fns.length n M)::tab) (fns++[(n,M)]):=
 ⟨dU.cons (T.t.mono hr) hdb ⟨r,f,aj _,hm,kp,⟨_,_,ok,hb⟩,hj⟩,iA.snoc T.u hr rfl hj (aj _) kp ok hb,T.X,T.G,T.B⟩
theorem PQ.addV (T:PQ P w K mg base h ad k tab fns) (x:Str) (st:Stmt) (f:Addr) (ps:List Str) (n:Nat) (M:Fn) {oc:Value} {od an:Option Addr} {osl:Array (Option Value)} {kV doc pm cdv ct:Value} (l:K.lookup f=some ⟨oc,od, .func (PySem.W.fnOf x x (defArgs st) (defBody st) (defScope st) .none kV doc pm an cdv ct),osl⟩)
  (fns':List (Nat×Fn)) (hf:fns'=fns\/fns'=[]) (d:wK tab fns' st=some (n,M):=by kernel_rfl) (c:codeIn K cdv x=true:=by kernel_rfl) (kp:keepIn K (.ref f)=true:=by kernel_rfl) (hm:nsIn K mainGlobals x=some (some (.ref f)):=by kernel_rfl) (hj:f=ad.fnA fns.length:=by rfl)
  (hdb:(x==("__debug__":Str))=false:=by decide) (hps:fY (defArgs st)=some ps:=by rfl) (hb:Bnd x st ps:=by intro _ _ _ _ _ _ us hl;rcases us with _ | ⟨u0,_ | ⟨u1,_ | ⟨u2,_ | ⟨u3,_ | ⟨u4,us⟩⟩⟩⟩⟩<;>first | rfl | (simp at hl)):
  PQ P w K mg base h ad (k+1) ((x, .fn fns.length n M)::tab) (fns++[(n,M)]):=by
 have F:=oN (st:=st) l c kp
 refine T.cons (Nat.le_succ _) (aC3 (ps:=ps) T.B T.t ?_ F hps d) (F.binds hb) kp (PySem.W.mg_of T.X T.G hm) hj hdb
 rcases hf with rfl | rfl
 ·exact T.u
 ·exact iA.nil
theorem PQ.add (T:PQ P w K mg base h ad k tab fns) (x:Str) (st:Stmt) (f:Addr) (ps:List Str) (n:Nat) (M:Fn) {oc:Value} {od an:Option Addr} {osl:Array (Option Value)} {kV doc pm cdv ct:Value} (l:K.lookup f=some ⟨oc,od, .func (PySem.W.fnOf x x (defArgs st) (defBody st) (defScope st) .none kV doc pm an cdv ct),osl⟩)
  (d:wK tab [] st=some (n,M):=by kernel_rfl) (c:codeIn K cdv x=true:=by kernel_rfl) (kp:keepIn K (.ref f)=true:=by kernel_rfl) (hm:nsIn K mainGlobals x=some (some (.ref f)):=by kernel_rfl) (hj:f=ad.fnA fns.length:=by rfl)
  (hdb:(x==("__debug__":Str))=false:=by decide) (hps:fY (defArgs st)=some ps:=by rfl) (hb:Bnd x st ps:=by intro _ _ _ _ _ _ us hl;rcases us with _ | ⟨u0,_ | ⟨u1,_ | ⟨u2,_ | ⟨u3,_ | ⟨u4,us⟩⟩⟩⟩⟩<;>first | rfl | (simp at hl)):
  PQ P w K mg base h ad (k+1) ((x, .fn fns.length n M)::tab) (fns++[(n,M)]):=T.addV x st f ps n M l [] (.inr rfl) d c kp hm hj hdb hps hb
theorem PQ.addR (T:PQ P w K mg base h ad k tab fns) (x:Str) (st:Stmt) (f:Addr) (ps:List Str) (n:Nat) (m:Fn->Fn) (i:Nat) {oc:Value} {od an:Option Addr} {osl:Array (Option Value)} {kV doc pm cdv ct:Value} (l:K.lookup f=some ⟨oc,od, .func (PySem.W.fnOf x x (defArgs st) (defBody st) (defScope st) .none kV doc pm an cdv ct),osl⟩)
  (d: ∀ F,wK ((x, .fn fns.length n F)::tab) [] st=some (n,m F):=by intro F;kernel_rfl) (c:codeIn K cdv x=true:=by kernel_rfl) (kp:keepIn K (.ref f)=true:=by kernel_rfl) (hm:nsIn K mainGlobals x=some (some (.ref f)):=by kernel_rfl) (hj:f=ad.fnA fns.length:=by rfl)
  (hdb:(x==("__debug__":Str))=false:=by decide) (hps:fY (defArgs st)=some ps:=by rfl) (hb:Bnd x st ps:=by intro _ _ _ _ _ _ us hl;rcases us with _ | ⟨u0,_ | ⟨u1,_ | ⟨u2,_ | ⟨u3,_ | ⟨u4,us⟩⟩⟩⟩⟩<;>first | rfl | (simp at hl)):
  PQ P w K mg base h ad (k+i) ((x, .fn fns.length n (aD9 m i))::tab) (fns++[(n,aD9 m i)]):=
 have F:=oN (st:=st) l c kp
 T.cons (Nat.le_add_right _ _) (aC6 T.B T.t F hps (F.binds hb) (PySem.W.mg_of T.X T.G hm) hdb hj d i) (F.binds hb) kp (PySem.W.mg_of T.X T.G hm) hj hdb
theorem PQ.py (T:PQ P w K mg base h ad 0 tab []) (p:Py) (hm:nsIn K mainGlobals (o9 p)=some none:=by kernel_rfl) (hdb:(o9 p==("__debug__":Str))=false:=by decide):PQ P w K mg base h ad 0 ((o9 p, .py p)::tab) []:=⟨dU.cons T.t hdb ⟨rfl,PySem.W.mg_none_of T.X T.G hm⟩,T.u,T.X,T.G,T.B⟩
theorem PQ.verr (T:PQ P w K mg base h ad 0 tab []) (hm:nsIn K mainGlobals "ValueError"=some none:=by kernel_rfl):PQ P w K mg base h ad 0 (("ValueError", .verr)::tab) []:=⟨dU.cons T.t (by decide) ⟨rfl,PySem.W.mg_none_of T.X T.G hm⟩,T.u,T.X,T.G,T.B⟩
theorem PQ.exc (T:PQ P w K mg base h ad 0 tab []) (x:Str) (c:Nat) (hm:nsIn K mainGlobals x=some (some (.ref (ad.cls c))):=by kernel_rfl) (hc:c<ad.nb:=by decide) (hdb:(x==("__debug__":Str))=false:=by decide):PQ P w K mg base h ad 0 ((x, .exc c)::tab) []:=⟨dU.cons T.t hdb ⟨PySem.W.mg_of T.X T.G hm,hc⟩,T.u,T.X,T.G,T.B⟩
theorem PQ.int (T:PQ P w K mg base h ad 0 tab []) (x:Str) (i:Int) (t:Tok) (hm:nsIn K mainGlobals x=some (some (.int i t)):=by kernel_rfl) (hdb:(x==("__debug__":Str))=false:=by decide):PQ P w K mg base h ad 0 ((x, .val (.int i))::tab) []:=⟨dU.cons T.t hdb ⟨.int i t, .int i,PySem.W.mg_of T.X T.G hm,⟨_,rfl⟩,fun G=>by unfold Rep;rfl⟩,T.u,T.X,T.G,T.B⟩
theorem PQ.val (T:PQ P w K mg base h ad 0 tab []) (x:Str) {d:D} {u:Value} {v:V} (hv:bF v u) (hr: ∀ G,Rep K ad G d v) (hm:nsIn K mainGlobals x=some (some u):=by kernel_rfl) (hdb:(x==("__debug__":Str))=false:=by decide):PQ P w K mg base h ad 0 ((x, .val d)::tab) []:=⟨dU.cons T.t hdb ⟨u,v,PySem.W.mg_of T.X T.G hm,hv,hr⟩,T.u,T.X,T.G,T.B⟩
theorem PQ.nil (X:K.In h) (G:h.Ns mainGlobals mg) (B:ExcK K ad):PQ P w K mg base h ad 0 [] []:=⟨dU.nil,iA.nil,X,G,B⟩
end
noncomputable def aB1 (K:Frag):Sp:=fun vs H Q _=> ∃ (a:Addr) (ns:List Int),vs=[.ref a]/\SqL K H a (ns.map V.int)/\ns.length<=63/\ ∀ H',Q (.bl true) H'
theorem aGj {P:Program} {w:World} {K:Frag} {mg:Str->Option Value} {base:Heap} {ad:Ad} {k:Nat} {f:Addr} {fd:FuncData} {ps:List Str} {M:Fn} (g:FnOk P w K mg base (CXe P w) k f fd ps (zT K ad 1 M)) (hm: ∀ ns:List Int,M [.lst (ns.map D.int)]= .ok (.bl true)):FnOk P w K mg base (CXe P w) k f fd ps (aB1 K):=by
 refine g.imp fun vs H Q E ⟨a,ns,e,hS,hl,hQ⟩=>⟨H,[.lst (ns.map D.int)],Same.refl _, ?_,rfl, ?_⟩
 ·subst e
  exact aE.cons (by unfold Rep;exact⟨a,_,rfl,hS,aE.map_int⟩) aE.nil
 ·rw [hm ns]
  intro v G' H' _ r
  unfold Rep at r;subst r
  exact hQ H'
theorem walk {l:PySem.W.OpenLaw} {q:Program} {loose:List Str} {XP:(Str->Option Value)->Heap->Prop} {YP:World->Heap->Prop} {d:DefRec} {K:Params->PySem.W.Frag} (r:Nat) (hn:l.most=some 63) (hdf:d.params.defaults=[]) (hr:Room r callerA)
  (hY: ∀ (w:World) (h:Heap),YP w h->(K w.params).In h)
  (F: ∀ (w:World) (mg:Str->Option Value) (fa:Addr) (h:Heap),(K w.params).In h->h.Ns mainGlobals mg->mg d.name=some (.ref fa)->
   ∃ fd:FuncData,(∀ (s:Shared) (u:Value),BindsTo s fd ⟨[u],[]⟩ [("_law_script",u)])/\ ∀ base:Heap,(K w.params).In base->base.Ns mainGlobals mg->FnOk l.prog w (K w.params) mg base (CXe l.prog w) r fa fd ["_law_script"] (aB1 (K w.params))):
  PySem.W.WalkO q loose XP YP l.row.toRowW d [] (fun f vs=>PySem.call f vs):=
 L2.walk_of (n:=63) (k:=r) (x:="_law_script") (CX:=fun w=>CXe l.prog w) (sp:=fun w=>aB1 (K w.params)) hn (by decide) hdf hr hY F (fun _ _ a ns hl _ hS=>⟨a,ns,rfl,hS,hl,fun _=>rfl⟩)
  fun _ _ _ _ _ h=>by obtain⟨_,_,_,_,_,_,_,_,_,_,_,_,_,_,z⟩:=h;exact z
section
variable {P:Program} {w:World} {K:Frag} {mg:Str->Option Value} {base:Heap} {ad:Ad} {k:Nat} {tab:List (Str×SK.Gl)}
variable {p1 p2 p3 p4 p5 p6 p7 p8 p9 p10 p11 p12 p13 p14 p15 p16 p17 p18 p19 p20 p21:Pos} {a elt:Expr} {es:List Expr} {fs as:List F} {xl xt xp xe:Str} {fl:Addr} {kl n m it ie ip:Nat} {cR:List Stmt} {g1 g2 g3 g:FS} {sc:Scope} {j1:Nat} {s1 s2 s3:Stmt}
theorem aGk {x qual:Str} {st:Stmt} {f:Addr} {fd:FuncData} {ps:List Str} (B:ExcK K ad) (TB:dU P w K mg base ad k tab) (Fu:Fun K x qual st f fd) (hps:fY (defArgs st)=some ps) (hs:dC (aC (defScope st)) ps (defScope st)=true)
  (hf: ∀ p,ad.fnA (1000+p)=p) (hm:mg xl=some (.ref fl)) (kp:keepIn K (.ref fl)=true) (T: ∃ fd ps,FnOk P w K mg base (CXe P w) kl fl fd ps (spN K ad n m fs)/\gA K fd ps []) (hkl:kl<=k)
  (hg:(defScope st).names.lookup xl=some .globalImplicit) (hdb:(xl==("__debug__":Str))=false)
  (hb:defBody st=s1::s2::s3:: .Assign [.Name xt p1] (.Call (.Name xl p2) (a::es) [] p3) p7:: .Assign [.Name xp p8] (.ListComp elt [⟨.Name xe p4, .Name xt p5,[],0⟩] sc p6) p9::
   .For (.Name xe p10) (.Name xt p11) [.Expr (.Call (.Attribute (.Name xe p12) "append" p13) [.Constant .none j1 p14] [] p15) p16, .Expr (.Call (.Attribute (.Name xe p20) "reverse" p17) [] [] p18) p21] [] p19::cR)
  (d1:zS 90 false ⟨tab,[],defScope st,aC (defScope st),lO 50 (defBody st)⟩ s1=some g1) (d2:zS 90 false ⟨tab,[],defScope st,aC (defScope st),lO 50 (defBody st)⟩ s2=some g2) (d3:zS 90 false ⟨tab,[],defScope st,aC (defScope st),lO 50 (defBody st)⟩ s3=some g3)
  (dr:iM 90 false ⟨tab,[],defScope st,aC (defScope st),lO 50 (defBody st)⟩ cR=some g)
  (ha:cS (bD 50 ⟨tab,[],defScope st,aC (defScope st),lO 50 (defBody st)⟩) (a::es)=some as) (hn:as.length=n)
  (ht:loc ⟨tab,[],defScope st,aC (defScope st),lO 50 (defBody st)⟩ xt=some it) (hp:loc ⟨tab,[],defScope st,aC (defScope st),lO 50 (defBody st)⟩ xp=some ip) (he:loc ⟨tab,[],defScope st,aC (defScope st),lO 50 (defBody st)⟩ xe=some ie) (n1:it≠ip) (n2:it≠ie) (n3:ip≠ie)
  (hB:bD 50 ⟨tab,[],defScope st,aC (defScope st),lO 50 (defBody st)⟩ (.ListComp elt [⟨.Name xe p4, .Name xt p5,[],0⟩] sc p6)=some (aP 0 [] (aD it) none (aA eL [aD 0])))
  (h5:bD 49 ⟨tab,[],sc,[xe]++aX sc,lO 50 (defBody st)⟩ elt=some (aA eL [aD 0]))
  (hl1:(p13.endLine==p15.line)=true) (hl2:(p17.endLine==p18.line)=true) {NN:Nat} (hNN:(aC (defScope st)).length=NN):
  FnOk P w K mg base (CXe P w) (k+1) f fd ps (zT K ad ps.length (SK.fnOf NN (aI g1 (aI g2 (aI g3 (aI (aC4 it ie ip m fs as) g)))))):=by
 subst hNN
 obtain⟨oc,od,kV,doc,pm,an,cdv,ct,osl,rfl,lk,hcd⟩:=Fu.ex
 cases st with
 | FunctionDef nm as' b dl re tp scp ts bi pos=>
  have hb':b=_:=hb
  have hs':dC (aC scp) ps scp=true:=hs
  clear hs
  obtain⟨S,nm'⟩:=eS hs'
  refine aDq lk hcd S (fun vs H Q E ⟨G,ds,_,r,hl,_⟩=>by rw [r.length,hl]) fun A outer s H vs Q E hr hz_=> ?_
  obtain⟨G,ds,hG,r,hl,hq⟩:=hz_
  let C:SK.Ctx:=⟨tab,[],scp,aC scp,lO 50 b⟩
  have O:StOk (k9 (CXe P w) P w K mg base (aC scp) qual scp f cdv A outer s H E) ad C:=rV B TB iA.nil hs' hr
  have T':DefX (k9 (CXe P w) P w K mg base (aC scp) qual scp f cdv A outer s H E) E:=⟨rfl,rfl,rfl,fun e s' h=>h⟩
  have PO:PassesOwn (model P w) (k9 (CXe P w) P w K mg base (aC scp) qual scp f cdv A outer s H E).A (k9 (CXe P w) P w K mg base (aC scp) qual scp f cdv A outer s H E).env (k9 (CXe P w) P w K mg base (aC scp) qual scp f cdv A outer s H E).xe:=PassesOwn.leaving (Q₁:=fun e s''=>CXe P w outer H s E e s'')
  have key:=fun(n:Nat)=>pZ (ad:=ad) (E₀:=E) n
  have m1:=(key 90).1 _ C false s1 g1 O (fun _=>⟨T',PO⟩) d1
  have m2:=(key 90).1 _ C false s2 g2 O (fun _=>⟨T',PO⟩) d2
  have m3:=(key 90).1 _ C false s3 g3 O (fun _=>⟨T',PO⟩) d3
  have mr:=(key 90).2 _ C false cR g O (fun _=>⟨T',PO⟩) dr
  have mb:=aGi (X:=k9 (CXe P w) P w K mg base (aC scp) qual scp f cdv A outer s H E) (p1:=p1) (p2:=p2) (p3:=p3) (p7:=p7) (p8:=p8) (p9:=p9) (p10:=p10) (p11:=p11) (p12:=p12) (p14:=p14) (p16:=p16) (p19:=p19) (p20:=p20) (p21:=p21) (j1:=j1) O PO hf hm kp T (hr.mono hkl) hg hdb ha hn ht hp he n1 n2 n3 hB h5 hl1 hl2 mr
  have mm:MSs (k9 (CXe P w) P w K mg base (aC scp) qual scp f cdv A outer s H E) ad (Zt ad E false) b (aI g1 (aI g2 (aI g3 (aI (aC4 it ie ip m fs as) g)))):=by
   rw [hb']
   exact jL m1 (jL m2 (jL m3 mb))
  refine⟨_,mm, ?_⟩
  refine⟨G,G,ds.map Slot.sh++ak ((aC scp).length - ds.length) .no,fun σ c H'=>E (.ref (ad.cls c)) none H', ?_,⟨fun σ=>xI T',fun _ σ c H h=>h⟩, ?_⟩
  ·have:=nP (X:=k9 (CXe P w) P w K mg base (aC scp) qual scp f cdv A outer s H E) (ad:=ad) (n:=(aC scp).length - ds.length) hG r
   unfold L2.start
   rw [r.length]
   exact this
  ·generalize aI g1 (aI g2 (aI g3 (aI (aC4 it ie ip m fs as) g)))=gg at hq ⊢
   have hq':RK K ad G H (match gg (ds.map Slot.sh++ak ((aC scp).length - ds.length) .no) with
    | .rt (.ok d)=> .ok d
    | .rt (.ow xs)=> .ow xs
    | .rt _=> .bad
    | .nx _=> .ok .non
    | .ex c _=> .ex c
    | _=> .bad) Q (fun c H'=>E (.ref (ad.cls c)) none H'):=hq
   cases e:gg (ds.map Slot.sh++ak ((aC scp).length - ds.length) .no) with
   | nx ρ=>rw [e] at hq';exact fun σ G' H' S'=>hq' .non G' H' S'.st (by unfold Rep;rfl)
   | bk ρ=>rw [e] at hq';exact hq'.elim
   | ct ρ=>rw [e] at hq';exact hq'.elim
   | ex c ρ=>rw [e] at hq';exact fun σ G' H' S'=>hq' G' H' S'.st
   | rt r'=>
    rw [e] at hq'
    cases r' with
    | ok d=>exact hq'
    | ow xs=>exact hq'
    | ex c=>exact hq'.elim
    | bad=>exact hq'.elim
 | _=>cases hb
end
theorem bV {a b:FS} {ρ ρ':Rho} (h:a ρ= .nx ρ'):aI a b ρ=b ρ':=by simp [aI,h]
theorem zG {a b:FS} {ρ:Rho} {r:R} (h:a ρ= .rt r):aI a b ρ= .rt r:=by simp [aI,h]
theorem gI {i:Nat} {e:F} {ρ:Rho} {d:D} (h:e ρ= .ok d):bX i e ρ= .nx (ρ.set i (.sh d)):=by simp [bX,h,jC]
theorem aGl {i:Nat} {e:F} {ρ:Rho} {d:List D} (h:e ρ= .ow d):bX i e ρ= .nx (ρ.set i (.sh (.lst d))):=by simp [bX,h,jC]
theorem nT {i:Nat} {e:F} {ρ:Rho} {d:List D} (h:e ρ= .ow d):jH i e ρ= .nx (ρ.set i (.ow d)):=by simp [jH,h]
theorem zH {is:List Nat} {e:F} {ρ:Rho} {ds:List D} (h:e ρ= .ok (.tup ds)) (l:ds.length=is.length):jD is e ρ= .nx (setN is ds ρ):=by simp [jD,h,jC,l]
theorem gJ {e:F} {ρ:Rho} {d:D} (h:e ρ= .ok d):bA e ρ= .rt (.ok d):=by simp [bA,h]
theorem aGm {e:F} {ρ:Rho} {d:List D} (h:e ρ= .ow d):bA e ρ= .rt (.ow d):=by simp [bA,h]
theorem vL {c:F} {a b:FS} {ρ:Rho} (h:c ρ= .ok (.bl true)):sIf c a b ρ=a ρ:=by simp [sIf,h]
theorem lI {c:F} {a b:FS} {ρ:Rho} (h:c ρ= .ok (.bl false)):sIf c a b ρ=b ρ:=by simp [sIf,h]
theorem gK {n:Nat} {b:FS} {ds:List D} {d:D} (h:b (ds.map Slot.sh++ak (n - ds.length) .no)= .rt (.ok d)):fnOf n b ds= .ok d:=by simp [fnOf,h]
theorem aGn {n:Nat} {b:FS} {ds:List D} {d:List D} (h:b (ds.map Slot.sh++ak (n - ds.length) .no)= .rt (.ow d)):fnOf n b ds= .ow d:=by simp [fnOf,h]
theorem qD {xs:List Int}:cI (xs.map D.int)=some xs:=by
 induction xs with
 | nil=>rfl
 | cons x r ih=>simp [cI,ih]
theorem a8 {op:Operator} {a b:F} {ρ:Rho} {x y:D} (h:a ρ= .ok x) (k:b ρ= .ok y):aU op a b ρ=k7 op x y:=by simp [aU,h,k,R.bind]
theorem iX {op:CmpOp} {a b:F} {ρ:Rho} {x y:D} (h:a ρ= .ok x) (k:b ρ= .ok y):bE op a b ρ=mL op x y:=by simp [bE,h,k,R.bind]
theorem aGo {op:CmpOp} {a b:F} {ρ:Rho} {x:List D} {y:D} (h:a ρ= .ow x) (k:b ρ= .ok y):bE op a b ρ=mL op (.lst x) y:=by simp [bE,h,k,R.bind]
theorem uJ {a b:F} {ρ:Rho} {x y:D} (h:a ρ= .ok x) (k:b ρ= .ok y):rIx a b ρ=dIx x y:=by simp [rIx,h,k,R.bind]
theorem aC7 {a b:F} {ρ:Rho} {x:List D} {y:D} (h:a ρ= .ow x) (k:b ρ= .ok y):rIx a b ρ=dIx (.lst x) y:=by simp [rIx,h,k,R.bind]
theorem aC8 {a b:F} {ρ:Rho} (h:a ρ= .ok (.bl true)):iL a b ρ=b ρ:=by simp [iL,h,R.bind]
theorem aC9 {a b:F} {ρ:Rho} (h:a ρ= .ok (.bl false)):iL a b ρ= .ok (.bl false):=by simp [iL,h,R.bind]
theorem aL9 {a b:F} {ρ:Rho} (h:a ρ= .ok (.bl false)):rOr a b ρ=b ρ:=by simp [rOr,h,R.bind]
theorem mC {f:Fn} {a:F} {ρ:Rho} {x:D} (h:a ρ= .ok x):aA f [a] ρ=f [x]:=by simp [aA,mM,args,h,RA.cons,RA.then]
theorem qE {f:Fn} {a:F} {ρ:Rho} {x:List D} (h:a ρ= .ow x):aA f [a] ρ=f [.lst x]:=by simp [aA,mM,args,h,RA.cons,RA.then]
theorem mD {f:Fn} {a b:F} {ρ:Rho} {x y:D} (h:a ρ= .ok x) (k:b ρ= .ok y):aA f [a,b] ρ=f [x,y]:=by simp [aA,mM,args,h,k,RA.cons,RA.then]
theorem f8 {f:Fn} {a b c:F} {ρ:Rho} {x y z:D} (h:a ρ= .ok x) (k:b ρ= .ok y) (l:c ρ= .ok z):aA f [a,b,c] ρ=f [x,y,z]:=by simp [aA,mM,args,h,k,l,RA.cons,RA.then]
theorem aJ6 {a b:F} {ρ:Rho} {x y:D} (h:a ρ= .ok x) (k:b ρ= .ok y):dH [a,b] ρ= .ok (.tup [x,y]):=by simp [dH,mM,args,h,k,RA.cons,RA.then]
theorem mF {f:D->Option (Option D)} {P:D->Prop}: ∀ {ds:List D},(∀ d∈ds, ∃ x,f d=some (some x)/\P x)-> ∃ xs,bM f ds=some xs/\xs.length=ds.length/\ ∀ x∈xs,P x
 | [],_=>⟨[],rfl,rfl,nofun⟩
 | d::r,h=>by
  obtain⟨x,e,p⟩:=h d (.head _)
  obtain⟨xs,e',l,q⟩:=mF (ds:=r) fun x m=>h x (.tail _ m)
  refine⟨x::xs,by simp [bM,e,e'],by simp [l], ?_⟩
  intro y m;cases m with
  | head=>exact p
  | tail _ m=>exact q y m
theorem eG {n:Nat} {cs:List Nat} {it e:F} {ρ:Rho} {ds:List D} {P:D->Prop} (hi:it ρ= .ok (.lst ds)\/it ρ= .ok (.tup ds)\/it ρ= .ow ds) (h: ∀ d∈ds, ∃ ts x,tgt n d=some ts/\e (ts++qT cs ρ)= .ok x/\P x):
  ∃ xs,aP n cs it none e ρ= .ow xs/\xs.length=ds.length/\ ∀ x∈xs,P x:=by
 obtain⟨xs,k,l,q⟩:=mF (f:=dI n (qT cs ρ) none e) (P:=P) (ds:=ds) fun d m=>by
  obtain⟨ts,x,a,b,c⟩:=h d m
  exact⟨x,by simp [dI,a,b],c⟩
 refine⟨xs, ?_,l,q⟩
 rcases hi with hi | hi | hi<;>simp [aP,hi,R.bind,items,lN,k]
theorem fG {a:F} {ρ:Rho} {n:Nat} (h:a ρ= .ok (.int n)) (l:n<=100000):aT a ρ= .ok (.lst (mO n)):=by
 have:(-100000:Int)<=(n:Int)/\(n:Int)<=100000:=by omega
 simp [aT,h,R.bind,aCe,this]
theorem iB {n:Nat} {d:D} (h:d∈mO n): ∃ k:Nat,k<n/\d= .int k:=by
 simp only [mO,ao,List.mem_range] at h
 obtain⟨k,a,b⟩:=h;exact⟨k,a,b.symm⟩
theorem dF {n:Nat}:(mO n).length=n:=by simp [mO]
theorem kU {xs:List D} {n:Nat} {x:D} (h:xs[n]? =some x):dIx (.lst xs) (.int n)= .ok x:=by
 obtain⟨l,e⟩:=av.1 h
 simp [dIx,items,ixD,l,e]
theorem aDa {i j:Int} (h:sml j=true):k7 .Mult (.int i) (.int j)= .ok (.int (i * j)):=by simp [k7,d7,h]
theorem nU {i j:Int} (h:0<j):k7 .Mod (.int i) (.int j)= .ok (.int (i % j)):=by simp [k7,d7,h]
theorem zI {i j:Int} (h:0<j) (l:j<1073741824):k7 .FloorDiv (.int i) (.int j)= .ok (.int (i / j)):=by simp [k7,d7,h,l]
theorem aJ7 {i:Int} (a: -18446744073709551616<i) (b:i<18446744073709551616):sml i=true:=by simp [sml,a,b]
theorem vM {xs:List D}:aS xs=true↔ ∀ x∈xs,plain x=true:=by
 induction xs with
 | nil=>simp [aS]
 | cons x r ih=>simp [aS,ih]
theorem aGp {x y:D} (a:plain x=true) (b:plain y=true) (c:dep y<=60):nY x y=true:=by
 have:min (dep x) (dep y)<=60:=Nat.le_trans (Nat.min_le_right ..) c
 simp [nY,a,b,this]
theorem rY {x y:D} (h:nY x y=true):mL .Eq x y= .ok (.bl (deq x y)):=by simp [mL,h]
mutual
theorem aB2: ∀ d:D,plain d=true->deq d d=true
 | .non,_=>rfl
 | .bl b,_=>by simp [deq]
 | .int i,_=>by simp [deq]
 | .str x,_=>by simp [deq]
 | .tup xs,h=>by simp only [deq];exact iC xs h
 | .lst xs,h=>by simp only [deq];exact iC xs h
 | .exc _,h=>by simp [plain] at h
 | .fn _,h=>by simp [plain] at h
theorem iC: ∀ xs:List D,aS xs=true->uV xs xs=true
 | [],_=>rfl
 | x::r,h=>by
  simp only [aS,ar] at h
  simp [uV,aB2 x h.1,iC r h.2]
end
end SK
namespace SK.k70
open SK
noncomputable def iY:Fn:=fnOf 1 (bA (iL (rIs (aIm) (aB 0)) (jF (rIs (aD8) (aB 0)))))
noncomputable def aQ:Fn:=fnOf 2 (bA (iL (aA iY [aB 0]) (sG .LtE .Lt (rK (.int 0)) (aB 0) (aB 1))))
noncomputable def bW:Fn:=fnOf 2 (bA (aA aGy [aP 0 [1] (aD 0) none (aA aQ [aB 0,aB 1])]))
noncomputable def fH:Fn:=fnOf 1 (bA (aA aQ [aB 0,aU .Add (rK (.int 4)) (rK (.int 1))]))
noncomputable def bP:Fn:=fnOf 1 (bA (aA aQ [aB 0,aU .Add (rK (.int 3)) (rK (.int 1))]))
noncomputable def fT:Fn:=fnOf 3 (bA (iL (rIs (mR) (aB 0)) (iL (bE .Eq (aA qJ [aD 0]) (aB 1)) (aA bW [aB 0,aB 2]))))
noncomputable def fU:Fn:=fnOf 5 (aI (bX 1 (cF [dH []]))
 (aI (oT [2] true (aT (aB 0))
 (aI (jH 3 (cF []))
  (aI (oT [4] true (aB 1)
  (aI (aAk 3 (aU .Add (aB 4) (dH [rK (.int 0)])))
   (aAk 3 (aU .Add (aB 4) (dH [rK (.int 1)])))))
  (aIg [3] (bX 1 (aB 3))))))
 (bA (aB 1))))
noncomputable def aG:Fn:=fnOf 1 (bA (aU .LShift (rK (.int 1)) (aB 0)))
noncomputable def dQ:Fn:=fnOf 2 (bA (aA cG [aP 0 [1] (aT (aB 0)) none (aU .BitAnd (aU .RShift (aB 1) (aB 0)) (rK (.int 1)))]))
noncomputable def cM:Fn:=fnOf 1 (bA (aA uW [aP 2 [] (oR (aB 0)) none (aU .LShift (aB 1) (aB 0))]))
noncomputable def bY:Fn:=fnOf 1 (bA (aP 0 [0] (aT (aA aG [aB 0])) none (aA dQ [aB 1,aB 0])))
noncomputable def b8:Fn:=fnOf 1 (bA (aA uW [aA dQ [rK (.int 4),aB 0]]))
noncomputable def gM:Fn:=fnOf 1 (aI (sIf (rOr (jF (rIs (mR) (aB 0))) (rOr (bE .NotEq (aA qJ [aD 0]) (rK (.int 2))) (jF (aA fH [rIx (aD 0) (rK (.int 0))]))))
 (bA (rK (.bl false)))
 (a9))
 (bA (aA fT [rIx (aD 0) (rK (.int 1)),aA aG [rIx (aD 0) (rK (.int 0))],rK (.int 2)])))
noncomputable def aF:Fn:=fnOf 1 (sIf (jF (aA gM [aB 0]))
 (cH 1)
 (a9))
noncomputable def cZ:Fn:=fnOf 2 (aI (bN (aA aF [aB 0]))
 (aI (bN (aA aF [aB 1]))
 (sIf (bE .NotEq (rIx (aD 0) (rK (.int 0))) (rIx (aD 1) (rK (.int 0))))
 (cH 4)
 (a9))))
noncomputable def dR:Fn:=fnOf 1 (sIf (jF (aA fH [aB 0]))
 (cH 2)
 (a9))
noncomputable def bH:Fn:=fnOf 2 (sIf (jF (aA aQ [aB 1,aB 0]))
 (cH 2)
 (a9))
noncomputable def eT:Fn:=fnOf 1 (sIf (jF (aA aQ [aB 0,rK (.int 2)]))
 (cH 2)
 (a9))
noncomputable def mG:Fn:=fnOf 2 (aI (bN (aA aF [aB 0]))
 (aI (sIf (jF (aA fT [aB 1,rIx (aD 0) (rK (.int 0)),rK (.int 2)]))
 (cH 2)
 (a9))
 (bA (rIx (rIx (aD 0) (rK (.int 1))) (aA cM [aB 1])))))
noncomputable def mH:Fn:=fnOf 1 (aI (bN (aA aF [aB 0]))
 (bA (aP 2 [] (oR (rIx (aD 0) (rK (.int 1)))) (some (bE .Eq (aB 1) (rK (.int 1)))) (aB 0))))
noncomputable def iD:Fn:=fnOf 3 (aI (bN (aA dR [aB 0]))
 (aI (bX 2 (aA aG [aB 0]))
 (aI (sIf (rOr (jF (rIs (wL) (aB 1))) (jF (aA bW [aB 1,aB 2])))
 (cH 2)
 (a9))
 (bA (dH [aB 0,aA cG [aP 0 [1] (aT (aB 2)) none (rIf (bE .In (aB 0) (aB 1)) (rK (.int 1)) (rK (.int 0)))]])))))
noncomputable def nV:Fn:=fnOf 2 (aI (bN (aA dR [aB 0]))
 (aI (bN (aA bH [aB 0,aB 1]))
 (bA (dH [aB 0,aA cG [aP 0 [1] (aT (aA aG [aB 0])) none (aU .BitAnd (aU .RShift (aB 0) (aB 1)) (rK (.int 1)))]]))))
noncomputable def bZ:Fn:=fnOf 1 (aI (sIf (jF (aA bP [aB 0]))
 (cH 2)
 (a9))
 (bA (aP 0 [0] (aA fU [aA aG [aB 0]]) none (dH [aB 1,aB 0]))))
noncomputable def uK (self:Fn):Fn:=fnOf 4 (aI (sIf (bE .Eq (aA qJ [aD 0]) (rK (.int 1)))
 (bA (qS 0))
 (a9))
 (aI (bX 1 (aU .FloorDiv (aA qJ [aD 0]) (rK (.int 2))))
 (aI (bX 2 (aA self [wD (aD 0) none (some (aB 1))]))
 (aI (bX 3 (aA self [wD (aD 0) (some (aB 1)) none]))
 (bA (aU .Add (aP 2 [] (vP (aB 2) (aB 3)) none (aU .Add (aB 0) (aB 1))) (aP 2 [] (vP (aB 2) (aB 3)) none (aU .Sub (aB 0) (aB 1)))))))))
noncomputable def uL:Fn:=aD9 uK 12
noncomputable def uM:Fn:=fnOf 1 (aI (bN (aA aF [aB 0]))
 (bA (aA cG [aA uL [aP 0 [] (rIx (aD 0) (rK (.int 1))) none (aU .Sub (rK (.int 1)) (aU .Mult (rK (.int 2)) (aB 0)))]])))
noncomputable def cT:Fn:=fnOf 4 (aI (bN (aA aF [aB 0]))
 (aI (jH 1 (aU .Mult (cF [rK (.int 0)]) (aU .Add (rIx (aD 0) (rK (.int 0))) (rK (.int 1)))))
 (aI (oT [2,3] false (oR (aA uM [aB 0]))
 (aAm 1 (aA b8 [aB 2]) (aU .Mult (aB 3) (aB 3))))
 (bA (qS 1)))))
noncomputable def dX:Fn:=fnOf 4 (aI (bX 3 (aP 0 [1] (aT (aA aG [aB 0])) none (aA b8 [aU .BitAnd (aB 1) (aB 0)])))
 (bA (dH [aB 0,aA cG [aP 0 [2] (aD 3) none (aU .Mod (aU .Add (aB 0) (aB 1)) (rK (.int 2)))]])))
noncomputable def kW:Fn:=fnOf 6 (aI (bX 1 (aA uM [aB 0]))
 (aI (bX 2 (aP 0 [] (aD 1) none (aA aLc [aD 0])))
 (aI (bX 3 (aA aDx [aD 2]))
 (aI (bX 4 (oQ oS (aD 2) (aB 3)))
 (aI (bX 5 (rIf (bE .Lt (rIx (aD 1) (aB 4)) (rK (.int 0))) (rK (.int 1)) (rK (.int 0))))
 (bA (dH [aA dX [rIx (aD 0) (rK (.int 0)),aB 4,aB 5],aU .FloorDiv (aU .Sub (aA qJ [aD 1]) (aB 3)) (rK (.int 2))])))))))
noncomputable def kX:Fn:=fnOf 1 (bA (rIx (aA kW [aB 0]) (rK (.int 1))))
noncomputable def nW:Fn:=fnOf 1 (bA (bE .Eq (aA kX [aB 0]) (rK (.int 0))))
noncomputable def bQ:Fn:=fnOf 2 (aI (sIf (jF (rIs (wL) (aB 0)))
 (cH 1)
 (a9))
 (oT [1] true (aB 0)
 (bN (aA aF [aB 1]))))
noncomputable def dY:Fn:=fnOf 5 (aI (bX 1 (aA mH [aB 0]))
 (aI (jH 2 (cF []))
 (aI (oT [3] true (aT (aA qJ [rIx (aD 0) (rK (.int 1))]))
 (aI (bX 4 (aP 0 [3] (aD 1) (some (bE .Eq (aU .BitAnd (aB 0) (aB 1)) (aB 0))) (aB 0)))
  (aAk 2 (rIf (aKf (aB 4)) (rK (.int 1)) (rK (.int 0))))))
 (bA (dH [rIx (aD 0) (rK (.int 0)),aA cG [aD 2]])))))
noncomputable def b9:Fn:=fnOf 2 (aI (bX 1 (rIx (aD 0) (rK (.int 1))))
 (bA (aA aGy [aP 2 [] (vP (aB 1) (aLf (aD 1))) none (bE .NotEq (aB 0) (aB 1))])))
noncomputable def eI:Fn:=fnOf 4 (aI (bN (aA aF [aB 0]))
 (aI (bX 1 (rIx (aD 0) (rK (.int 1))))
 (aI (bX 2 (bE .Eq (aA dY [aB 0]) (aB 0)))
 (aI (bX 3 (dH [bE .Eq (rIx (aD 1) (rK (.int 0))) (rK (.int 0)),bE .Eq (rIx (aD 1) (aKd (rK (.int 1)))) (rK (.int 1)),aA b9 [aB 0],aB 2,aA nW [aB 0]]))
 (bA (aP 2 [] (vP (rK (.tup [.str "keeps 0", .str "keeps 1", .str "turned", .str "rising", .str "sum"])) (aB 3)) (some (aB 1)) (aB 0)))))))
noncomputable def fI:Fn:=fnOf 2 (aI (bN (aA bQ [aB 0]))
 (aI (bX 1 (aP 0 [] (aD 0) none (aA eI [aB 0])))
 (bA (aP 0 [1] (rK (.tup [.str "keeps 0", .str "keeps 1", .str "turned", .str "rising", .str "sum"])) (some (aA aGy [aP 0 [0] (aD 1) none (bE .In (aB 1) (aB 0))])) (aB 0)))))
noncomputable def cP:Fn:=fnOf 2 (bA (aA cG [aP 2 [] (vP (aB 0) (rIx (aD 1) (rK (.int 1)))) none (aDy (aD 0) (aB 1))]))
noncomputable def jP:Fn:=fnOf 5 (aI (bN (aA aF [aB 0]))
 (aI (bN (aA bQ [aB 1]))
 (aI (sIf (rOr (bE .Eq (aB 1) (cF [])) (bE .NotEq (aA qJ [aD 1]) (rIx (aD 0) (rK (.int 0)))))
 (cH 2)
 (a9))
 (aI (bX 2 (rIx (rIx (aD 1) (rK (.int 0))) (rK (.int 0))))
 (aI (sIf (jF (aA aGy [aP 0 [2] (aD 1) none (bE .Eq (rIx (aD 0) (rK (.int 0))) (aB 1))]))
 (cH 2)
 (a9))
 (aI (bX 4 (aU .Mult (dH [rIx (aD 0) (rK (.int 1))]) (aA aG [aB 2])))
 (aI (oT [3] true (aB 1)
 (bX 4 (aA cP [aB 4,aB 3])))
 (bA (dH [aB 2,aA cG [aP 0 [] (aD 4) none (rIx (aD 0) (rK (.int 0)))]])))))))))
noncomputable def fJ:Fn:=fnOf 7 (aI (bX 3 (cF [aU .Mult (dH [rIx (aD 0) (rK (.int 1))]) (aA aG [aB 1])]))
 (aI (oT [4] true (aT (rIx (aD 0) (rK (.int 0))))
 (aI (jH 5 (cF []))
  (aI (oT [6] true (aB 3)
  (aD0 5 (aP 0 [6] (aD 2) none (aA cP [aB 1,aB 0]))))
  (aIg [5] (bX 3 (aA dSS [aD 5]))))))
 (bA (aP 0 [1] (aD 3) none (dH [aB 1,aA cG [aP 0 [] (aD 0) none (rIx (aD 0) (rK (.int 0)))]])))))
noncomputable def fV:Fn:=fnOf 5 (aI (jH 3 (aA eL [aD 2]))
 (aI (oT [4] true (aB 0)
 (aD0 3 (aA fJ [aB 4,aB 1,aB 2])))
 (aIg [3] (bA (aA dSS [aD 3])))))
noncomputable def dG:Fn:=fnOf 4 (aI (bN (aA bQ [aB 0]))
 (aI (sIf (jF (aA aQ [aB 1,aU .Add (rK (.int 2)) (rK (.int 1))]))
 (cH 2)
 (a9))
 (aI (jH 2 (aA mQ [aP 0 [1] (aT (aB 1)) none (aA nV [aB 1,aB 0])]))
 (aI (wE [2] 3 (aA fV [aB 0,aB 1,aB 2]))
 (aI (wG (bE .Gt (aA qJ [aD 3]) (aA qJ [aD 2]))
 (aI (aAj 3 2)
  (wE [2] 3 (aA fV [aB 0,aB 1,aB 2]))))
 (bA (qS 2)))))))
noncomputable def iZ:Fn:=fnOf 2 (bA (iL (aA fT [aB 1,aB 0,aB 0]) (bE .Eq (aA mQ [aD 1]) (aA eL [aT (aB 0)]))))
noncomputable def kY:Fn:=fnOf 2 (aI (sIf (rOr (jF (aA fH [aB 0])) (rOr (jF (rIs (mR) (aB 1))) (bE .NotEq (aA qJ [aD 1]) (rK (.int 3)))))
 (bA (rK (.bl false)))
 (a9))
 (bA (iL (aA iZ [aB 0,rIx (aD 1) (rK (.int 0))]) (iL (aA fT [rIx (aD 1) (rK (.int 1)),aB 0,rK (.int 2)]) (aA aQ [rIx (aD 1) (rK (.int 2)),rK (.int 2)])))))
noncomputable def fK:Fn:=fnOf 2 (sIf (jF (aA kY [aB 0,aB 1]))
 (cH 3)
 (a9))
noncomputable def aGq:Fn:=fnOf 2 (bA (aA cG [aP 2 [0] (vP (rIx (aD 1) (rK (.int 0))) (rIx (aD 1) (rK (.int 1)))) none (aU .BitXor (rIx (aD 2) (aB 0)) (aB 1))]))
noncomputable def kZ:Fn:=fnOf 4 (aI (bN (aA aF [aB 0]))
 (aI (bX 2 (rIx (aD 0) (rK (.int 0))))
 (aI (bN (aA fK [aB 2,aB 1]))
 (aI (bX 3 (aP 0 [1] (aA bY [aB 2]) none (aA cM [aA aGq [aB 0,aB 1]])))
 (bA (dH [aB 2,aA cG [aP 0 [1,0] (aD 3) none (aU .BitXor (rIx (rIx (aD 2) (rK (.int 1))) (aB 0)) (rIx (aD 1) (rK (.int 2))))]]))))))
noncomputable def fL:Fn:=fnOf 5 (aI (bX 1 (cF [dH []]))
 (aI (oT [2] true (aT (aB 0))
 (aI (jH 3 (cF []))
  (aI (oT [4] true (aB 1)
  (aD0 3 (aP 0 [4] (aT (aB 0)) (some (bE .NotIn (aB 0) (aB 1))) (aU .Add (aB 1) (dH [aB 0])))))
  (aIg [3] (bX 1 (aB 3))))))
 (bA (aB 1))))
noncomputable def b4:Fn:=fnOf 4 (aI (sIf (jF (aA bP [aB 0]))
 (cH 2)
 (a9))
 (aI (jH 1 (cF []))
 (aI (oT [2] true (aA fL [aB 0])
 (oT [3] true (aA fU [aB 0])
  (aI (aAk 1 (dH [aB 2,aB 3,rK (.int 0)]))
   (aAk 1 (dH [aB 2,aB 3,rK (.int 1)])))))
 (bA (qS 1)))))
noncomputable def i0:Fn:=fnOf 3 (aI (bN (aA aF [aB 0]))
 (aI (bN (aA bH [rIx (aD 0) (rK (.int 0)),aB 1]))
 (aI (bX 2 (rIx (aD 0) (rK (.int 1))))
 (bA (aA uW [aP 2 [1,2] (oR (aB 2)) none (aU .BitXor (aB 1) (rIx (aD 3) (aU .BitXor (aB 0) (aU .LShift (rK (.int 1)) (aB 2)))))])))))
noncomputable def iE:Fn:=fnOf 1 (aI (bN (aA aF [aB 0]))
 (bA (aP 0 [0] (aT (rIx (aD 0) (rK (.int 0)))) (some (bE .Gt (aA i0 [aB 1,aB 0]) (rK (.int 0)))) (aB 0))))
noncomputable def i3:Fn:=fnOf 5 (aI (bN (aA aF [aB 0]))
 (aI (bN (aA bH [rIx (aD 0) (rK (.int 0)),aB 1]))
 (aI (bN (aA eT [aB 2]))
 (aI (bX 3 (aU .Sub (rIx (aD 0) (rK (.int 0))) (rK (.int 1))))
 (aI (bX 4 (aP 0 [1,2] (aA bY [aB 3]) none (aA cM [aU .Add (aU .Add (wD (aD 0) none (some (aB 1))) (dH [aB 2])) (wD (aD 0) (some (aB 1)) none)])))
 (bA (dH [aB 3,aA cG [aP 0 [0] (aD 4) none (rIx (rIx (aD 1) (rK (.int 1))) (aB 0))]])))))))
noncomputable def dZ:Fn:=fnOf 7 (aI (bN (aA cZ [aB 0,aB 1]))
 (aI (bX 3 (aU .Add (rIx (aD 0) (rK (.int 0))) (rK (.int 1))))
 (aI (sIf (bE .Gt (aB 3) (rK (.int 4)))
 (cH 2)
 (a9))
 (aI (bN (aA bH [aB 3,aB 2]))
 (aI (jH 4 (cF []))
 (aI (oT [5] true (aA bY [aB 3])
 (aI (bX 6 (rIf (bE .Eq (rIx (aD 5) (aB 2)) (rK (.int 1))) (aB 1) (aB 0)))
  (aAk 4 (rIx (rIx (aD 6) (rK (.int 1))) (aA cM [aU .Add (wD (aD 5) none (some (aB 2))) (wD (aD 5) (some (aU .Add (aB 2) (rK (.int 1)))) none)])))))
 (bA (dH [aB 3,aA cG [aD 4]]))))))))
noncomputable def eU:Fn:=fnOf 5 (aI (bN (aA aF [aB 0]))
 (aI (bX 3 (rIx (aD 0) (rK (.int 0))))
 (aI (bN (aA bH [aB 3,aB 1]))
 (aI (bN (aA bH [aB 3,aB 2]))
 (aI (jH 4 (aA eL [aT (aB 3)]))
 (aI (aAl 4 (aB 1) (aB 2))
 (aI (aAl 4 (aB 2) (aB 1))
 (bA (aA kZ [aB 0,dH [aA cG [aD 4],aU .Mult (dH [rK (.int 0)]) (aB 3),rK (.int 0)]])))))))))
noncomputable def i5:Fn:=fnOf 2 (bA (aP 0 [1,0] (aT (rIx (aD 0) (rK (.int 0)))) (some (bE .Eq (aA eU [aB 2,aB 1,aB 0]) (aB 2))) (aB 0)))
noncomputable def cD:Fn:=fnOf 2 (aI (bN (aA aF [aB 0]))
 (aI (bX 1 (aP 0 [0] (aT (rIx (aD 0) (rK (.int 0)))) none (aA i5 [aB 1,aB 0])))
 (bA (aP 2 [] (oR (aB 1)) (some (bE .Eq (rIx (aD 1) (rK (.int 0))) (aB 0))) (aB 1)))))
noncomputable def cQ:Fn:=fnOf 1 (sIf (jF (aA bP [aB 0]))
 (cH 2)
 (a9))
noncomputable def gN:Fn:=fnOf 1 (aI (bN (aA aF [aB 0]))
 (bN (aA cQ [rIx (aD 0) (rK (.int 0))])))
noncomputable def eV:Fn:=fnOf 2 (aI (bN (aA cZ [aB 0,aB 1]))
 (bN (aA cQ [rIx (aD 0) (rK (.int 0))])))
noncomputable def iF:Fn:=fnOf 1 (bA (aP 0 [0] (aA b4 [rIx (aD 0) (rK (.int 0))]) none (aA kZ [aB 1,aB 0])))
noncomputable def iG:Fn:=fnOf 1 (aI (bN (aA gN [aB 0]))
 (bA (aA dSS [aA iF [aB 0]])))
noncomputable def dA:Fn:=fnOf 2 (aI (bN (aA eV [aB 0,aB 1]))
 (bA (aP 0 [0,1] (aA b4 [rIx (aD 0) (rK (.int 0))]) (some (bE .Eq (aA kZ [aB 1,aB 0]) (aB 2))) (aB 0))))
noncomputable def fM:Fn:=fnOf 1 (bA (aA dA [aB 0,aB 0]))
noncomputable def qF:Fn:=fnOf 2 (aI (bN (aA eV [aB 0,aB 1]))
 (bA (bE .In (aB 1) (aA iF [aB 0]))))
noncomputable def eJ:Fn:=fnOf 2 (aI (sIf (bE .Lt (aB 1) (aA qJ [aD 0]))
 (bA (rIx (aD 0) (aB 1)))
 (a9))
 (aI (sIf (bE .Eq (aB 0) (cF []))
 (bA (rK (.int 0)))
 (a9))
 (bA (aU .Add (aU .Mult (rIx (aD 0) (aU .Mod (aB 1) (aA qJ [aD 0]))) (rK (.int 31))) (aB 1)))))
noncomputable def aK:Fn:=fnOf 4 (aI (bX 3 (aU .Mod (aU .Mult (aU .Add (aA eJ [aB 0,aB 1]) (aU .Mult (rK (.int 6151)) (aU .Add (aB 1) (rK (.int 1))))) (rK (.int 40692))) (rK (.int 2147483399))))
 (bA (aU .Mod (aU .Mod (aU .Add (aU .Mult (aB 3) (aB 3)) (aU .FloorDiv (aB 3) (rK (.int 31)))) (rK (.int 2147483629))) (aB 2))))
noncomputable def aR:Fn:=fnOf 2 (bA (aA cG [aP 0 [1] (aT (aB 0)) none (aU .Mod (aU .FloorDiv (aB 1) (rIx (cF [rK (.int 1),rK (.int 2),rK (.int 4),rK (.int 8)]) (aB 0))) (rK (.int 2)))]))
noncomputable def eK:Fn:=fnOf 2 (bA (aU .Mod (aA uW [aP 2 [] (vP (aA aR [rK (.int 4),aB 0]) (aA aR [rK (.int 4),aB 1])) none (aU .Mult (aB 0) (aB 1))]) (rK (.int 2))))
noncomputable def cU:Fn:=fnOf 9 (aI (bX 3 (rIx (cF [rK (.int 1),rK (.int 2),rK (.int 4),rK (.int 8),rK (.int 16)]) (aB 2)))
 (aI (bX 4 (aA aK [aB 0,aB 1,rK (.int 6)]))
 (aI (jH 5 (aP 0 [1,0] (aT (aB 3)) none (aA aK [aB 2,aU .Add (aU .Add (aB 1) (rK (.int 1))) (aB 0),rK (.int 2)])))
 (aI (sIf (iL (bE .Eq (aB 4) (rK (.int 0))) (bE .Gt (aB 2) (rK (.int 0))))
 (aI (bX 6 (aA aK [aB 0,aU .Add (aB 1) (rK (.int 20)),aB 3]))
  (jH 5 (aP 0 [6] (aT (aB 3)) none (aA eK [aB 1,aB 0]))))
 (sIf (bE .Eq (aB 4) (rK (.int 1)))
  (jH 5 (aP 0 [1,2,0] (aT (aB 3)) none (aA aId [bE .GtE (aA uW [aA aR [aB 2,aB 0]]) (aU .Add (rK (.int 1)) (aA aK [aB 3,aU .Add (aB 1) (rK (.int 21)),rK (.int 3)]))])))
  (sIf (iL (bE .Eq (aB 4) (rK (.int 2))) (bE .Gt (aB 2) (rK (.int 0))))
   (aI (bX 7 (aA aK [aB 0,aU .Add (aB 1) (rK (.int 22)),aB 2]))
    (jH 5 (aP 0 [7,5] (aT (aB 3)) none (rIx (aD 2) (aU .Sub (aB 0) (aU .Mult (aU .Mod (aU .FloorDiv (aB 0) (rIx (cF [rK (.int 1),rK (.int 2),rK (.int 4),rK (.int 8)]) (aB 1))) (rK (.int 2))) (rIx (cF [rK (.int 1),rK (.int 2),rK (.int 4),rK (.int 8)]) (aB 1))))))))
   (a9))))
 (aI (sIf (iL (bE .Lt (aB 4) (rK (.int 3))) (bE .Eq (aA aK [aB 0,aU .Add (aB 1) (rK (.int 23)),rK (.int 3)]) (rK (.int 0))))
 (aI (bX 8 (aA aK [aB 0,aU .Add (aB 1) (rK (.int 24)),aB 3]))
  (aAl 5 (aB 8) (aU .Sub (rK (.int 1)) (rIx (aD 5) (aB 8)))))
 (a9))
 (bA (dH [aB 2,aA cG [aD 5]])))))))
noncomputable def i6:Fn:=fnOf 2 (aI (jH 1 (cF [rIs (qV 3) (aB 0),rIs (qV 2) (aB 0),rIs (qV 5) (aB 0),rIs (qV 1) (aB 0)]))
 (aI (aD0 1 (cF [rIs (qV 6) (aB 0),rIs (qV 4) (aB 0)]))
 (aI (sIf (rOr (bE .NotEq (oQ sJ (aD 1) (rK (.bl true))) (rK (.int 1))) (jF (rIs (qV 100) (aB 0))))
 (bA (rK (.str "wrong")))
 (a9))
 (bA (rIx (cF [rK (.str "no move"),rK (.str "no name"),rK (.str "no sums"),rK (.str "no switch"),rK (.str "no text"),rK (.str "unlike")]) (oQ oS (aD 1) (rK (.bl true))))))))
noncomputable def aN3:List (Nat×Fn):=[(1,iY),(2,aQ),(2,bW),(1,fH),(1,bP),(3,fT),(1,fU),(1,aG),(2,dQ),(1,cM),(1,bY),(1,b8),(1,gM),(1,aF),(2,cZ),(1,dR),(2,bH),(1,eT),(2,mG),(1,mH),(2,iD),(2,nV),(1,bZ),(1,uL),(1,uM),(1,cT),(3,dX),(1,kW),(1,kX),(1,nW),(1,bQ),(1,dY),(1,b9),(1,eI),(1,fI),(2,cP),(2,jP),(3,fJ),(3,fV),(2,dG),(2,iZ),(2,kY),(2,fK),(2,aGq),(2,kZ),(1,fL),(1,b4),(2,i0),(1,iE),(3,i3),(3,dZ),(3,eU),(2,i5),(1,cD),(1,cQ),(1,gN),(2,eV),(1,iF),(1,iG),(2,dA),(1,fM),(2,qF),(2,eJ),(3,aK),(2,aR),(2,eK),(3,cU),(1,i6)]
noncomputable def bT:Fn:=fnOf 7 (aI (bX 4 (rK .non))
 (aI (bX 5 (rK .non))
 (aI (aKi 6 4 (fun _=>true)
 (sIf (bE .Lt (aB 0) (rK (.int 4)))
  (bX 5 (sH aN3 (rIx (cF [rK (.fn 44),rK (.fn 61),rK (.fn 18),rK (.fn 36)]) (aB 0)) [aB 1,aB 2]))
  (sIf (bE .Eq (aB 0) (rK (.int 4)))
   (bX 5 (aA i3 [aB 1,aB 2,aB 3]))
   (bX 5 (rIf (bE .Eq (aB 0) (rK (.int 5))) (aA dZ [aB 1,aB 2,aB 3]) (aA eU [aB 1,aB 2,aB 3]))))))
 (aI (sIf (bE .Is (aB 4) (rK .non))
 (bA (aB 5))
 (a9))
 (bA (aA i6 [aB 4]))))))
noncomputable def cN:Fn:=fnOf 3 (aI (bX 2 (cF [aA mH [aB 0],aA bZ [rK (.int 1)],aA b4 [rK (.int 2)],aA fM [aB 0],aA dA [aB 0,aB 0],aA iG [aB 0],aA iE [aB 0]]))
 (bA (aU .Add (aB 2) (cF [aA cD [aB 0],aA cT [aB 0],aA eI [aB 0],aA fI [aB 1],aA dG [aB 1,rK (.int 1)]]))))
noncomputable def qG:List F:=[aA mH [aB 0],aA bZ [rK (.int 1)],aA b4 [rK (.int 2)],aA fM [aB 0],aA dA [aB 0,aB 0],aA iG [aB 0],aA iE [aB 0]]
noncomputable def nX:List F:=[aA cD [aB 0],aA cT [aB 0],aA eI [aB 0],aA fI [aB 1],aA dG [aB 1,rK (.int 1)]]
noncomputable def lw1:FS:=bX 1 (aU .Add (rK (.int 1)) (aA aK [aB 0,rK (.int 0),rK (.int 2)]))
noncomputable def lw2:FS:=jD [2,3] (dH [aA cU [aB 0,rK (.int 10),aB 1],aA cU [aB 0,rK (.int 50),aB 1]])
noncomputable def lw3:FS:=bX 4 (cF [aB 3,aB 2,aB 3])
noncomputable def q1:FS:=sIf (rOr (bE .NotEq (aA cN [aB 2,aB 4]) (aB 7)) (bE .NotEq (aB 4) (cF [aB 3,aB 2,aB 3])))
 (bA (rK (.bl false)))
 (a9)
noncomputable def qA:List FS:=[bX 8 (wD (cF [aB 3,aB 2]) none (some (aB 1))),
 bX 9 (cF [rK (.int 3),rK (.int 0),rK (.int 1),rK (.int 3)]),
 bX 10 (dH [aA jP [aB 2,aB 8],aA iD [rK (.int 2),aB 9],aA dG [aB 4,rK (.int 1)]]),
 sIf (bE .NotEq (aB 10) (dH [aA jP [aB 2,aB 8],aA iD [rK (.int 2),aB 9],aA dG [aB 4,rK (.int 1)]]))
 (bA (rK (.bl false)))
 (a9),
 sIf (rOr (bE .NotEq (aB 8) (wD (cF [aB 3,aB 2]) none (some (aB 1)))) (rOr (bE .NotEq (aB 9) (cF [rK (.int 3),rK (.int 0),rK (.int 1),rK (.int 3)])) (bE .NotEq (rIx (aD 10) (rK (.int 1))) (dH [rK (.int 2),dH [rK (.int 1),rK (.int 1),rK (.int 0),rK (.int 1)]]))))
 (bA (rK (.bl false)))
 (a9)]
noncomputable def qB:List FS:=[jD [11,12] (dH [dH [rK (.int 1),dH [rK (.int 0),rK (.int 1),rK (.int 1)]],dH [rK (.int 4),aU .Mult (dH [rK (.int 0),rK (.int 1)]) (rK (.int 8))]]),
 sIf (bE .NotEq (aP 0 [11] (dH [rK (.int 0),rK (.int 2),rK (.int 4),rK (.int 6)]) none (aA bT [aB 0,aB 1,rK .non,rK .non])) (aU .Mult (cF [rK (.str "no switch")]) (rK (.int 4))))
 (bA (rK (.bl false)))
 (a9),
 bX 5 (cF [aA bT [rK (.int 1),aB 11,aB 12,rK .non],aA bT [rK (.int 1),aB 12,aB 11,rK .non],aA bT [rK (.int 5),aB 11,aB 12,rK (.int 9)]]),
 sIf (bE .NotEq (aU .Add (aB 5) (cF [aA bT [rK (.int 3),aB 2,cF [aB 12,aB 11],rK .non],aA bT [rK (.int 3),aB 11,cF [],rK .non]])) (aU .Mult (cF [rK (.str "no switch")]) (rK (.int 5))))
 (bA (rK (.bl false)))
 (a9),
 bX 5 (cF [aA bT [rK (.int 1),aB 2,aB 12,rK .non],aA bT [rK (.int 5),aB 2,aB 12,rK (.int 9)],aA bT [rK (.int 1),aB 12,aB 12,rK .non]]),
 sIf (bE .NotEq (aB 5) (cF [rK (.str "unlike"),rK (.str "unlike"),rK (.str "no name")]))
 (bA (rK (.bl false)))
 (a9),
 bX 5 (cF [aA bT [rK (.int 4),aB 2,rK (.int 9),rK (.int 9)],aA bT [rK (.int 5),aB 12,aB 12,rK (.int 0)],aA bT [rK (.int 6),aB 2,rK (.int 9),rK (.int 0)]]),
 sIf (bE .NotEq (aU .Add (aB 5) (cF [aA bT [rK (.int 2),aB 2,aU .Mult (dH [rK (.int 0)]) (rK (.int 5)),rK .non]])) (aU .Mult (cF [rK (.str "no name")]) (rK (.int 4))))
 (bA (rK (.bl false)))
 (a9)]
noncomputable def qZ:FS:=bA (bE .Eq (aA cN [aB 2,aB 4]) (aB 7))
noncomputable def lwR:FS:=aI q1 (zD qA (zD qB qZ))
noncomputable def aMa:Fn:=fnOf 13 (aI lw1 (aI lw2 (aI lw3 (aI (aC4 5 6 7 1 (qG++nX) [aB 2,aB 4]) lwR))))
open PySem
noncomputable abbrev Sc (ns:List Int):D:= .lst (ns.map D.int)
theorem aB3 (ns:List Int):plain (Sc ns)=true:=by
 show aS (ns.map D.int)=true
 rw [vM];intro x m;obtain⟨i,_,rfl⟩:=ao.1 m;rfl
noncomputable def vN (ns:List Int) (k:Nat):Int:=if k<ns.length then ns.getD k 0 else if ns=[] then 0 else ns.getD (k % ns.length) 0 * 31+k
theorem aGr (ns:List Int) (k:Nat):eJ [Sc ns, .int k]= .ok (.int (vN ns k)):=by
 have h0:qJ [Sc ns]= .ok (.int ns.length):=by simp [qJ,items]
 by_cases h:k<ns.length
 ·have e:(ns.map D.int)[k]? =some (D.int (vN ns k)):=by simp [vN,h]
  refine gK (zG ((vL ?_).trans (gJ ((uJ rfl rfl).trans (kU e)))))
  refine(iX rfl ((mC rfl).trans h0)).trans ?_
  simp [mL,h]
 ·refine gK ((bV ((lI ((iX rfl ((mC rfl).trans h0)).trans ?_)).trans rfl)).trans ?_)
  ·simp [mL];omega
  have he:bE .Eq (aB 0) (cF []) [.sh (Sc ns), .sh (.int k)]= .ok (.bl (decide (ns=[]))):=by
   show mL .Eq (Sc ns) (.lst [])=_
   rw [rY (aGp (aB3 ns) rfl (by decide))]
   cases ns<;>simp [deq,uV]
  by_cases h1:ns=[]
  ·subst h1
   exact zG ((vL (he.trans rfl)).trans rfl)
  ·refine(bV ((lI (he.trans (by simp [h1]))).trans rfl)).trans (gJ ?_)
   have l:0<ns.length:=List.length_pos_iff.2 h1
   have e:(ns.map D.int)[k % ns.length]? =some (D.int (ns.getD (k % ns.length) 0)):=by simp [Nat.mod_lt _ l]
   have e2:k7 .Mod (.int k) (.int ns.length)= .ok (.int ((k % ns.length:Nat):Int)):=by
    have:(0:Int)<ns.length:=by omega
    simp [k7,d7,this];omega
   refine(a8 ((a8 ((uJ rfl ((a8 rfl ((mC rfl).trans h0)).trans e2)).trans (kU e)) rfl).trans (aDa rfl)) rfl).trans ?_
   simp [k7,d7,vN,h,h1]
noncomputable def f9 (ns:List Int) (k:Nat):Int:=(vN ns k+6151 * (k+1)) * 40692 % 2147483399
noncomputable def zJ (ns:List Int) (k:Nat) (m:Int):Int:=(f9 ns k * f9 ns k+f9 ns k / 31) % 2147483629 % m
theorem aGs (ns:List Int) (k:Nat) {m:Int} (hm:0<m):aK [Sc ns, .int k, .int m]= .ok (.int (zJ ns k m)):=by
 have h1:aU .Mod (aU .Mult (aU .Add (aA eJ [aB 0,aB 1]) (aU .Mult (rK (.int 6151)) (aU .Add (aB 1) (rK (.int 1))))) (rK (.int 40692))) (rK (.int 2147483399)) [.sh (Sc ns), .sh (.int k), .sh (.int m), .no]= .ok (.int (f9 ns k)):=by
  refine(a8 ((a8 ((a8 ((mD rfl rfl).trans (aGr ns k)) (y:= .int (6151 * (k+1))) ?_).trans rfl) rfl).trans (?_:_=R.ok (.int ((vN ns k+6151 * (k+1)) * 40692)))) rfl).trans ?_
  ·refine(a8 rfl rfl).trans ?_;simp [k7,d7,sml]
  ·simp [k7,d7,sml]
  ·simp [k7,d7,f9]
 refine gK ((bV (gI h1)).trans (gJ ?_))
 unfold zJ
 have hs:sml (f9 ns k)=true:=by
  have:0<=f9 ns k/\f9 ns k<2147483399:=by unfold f9;omega
  simp [sml];omega
 generalize f9 ns k=x at *
 have h2:aU .FloorDiv (aB 3) (rK (.int 31)) [.sh (Sc ns), .sh (.int k), .sh (.int m), .sh (.int (x))]= .ok (.int (x / 31)):=by
  refine(a8 rfl rfl).trans ?_;simp [k7,d7]
 have h3:aU .Mult (aB 3) (aB 3) [.sh (Sc ns), .sh (.int k), .sh (.int m), .sh (.int x)]= .ok (.int (x * x)):=by
  refine(a8 rfl rfl).trans ?_;simp [k7,d7,hs]
 refine(a8 ((a8 ((a8 h3 h2).trans rfl) rfl).trans (?_:_=R.ok (.int ((x * x+x / 31) % 2147483629)))) rfl).trans ?_
 ·simp [k7,d7]
 ·exact nU hm
theorem rZ (ns:List Int) (k:Nat) {m:Int} (hm:0<m):0<=zJ ns k m/\zJ ns k m<m:=⟨Int.emod_nonneg _ (by omega),Int.emod_lt_of_pos _ hm⟩
def bit (d:D):Prop:=d= .int 0\/d= .int 1
theorem zK (i:Int):bit (.int (i % 2)):=by
 unfold bit
 rcases(show i % 2=0\/i % 2=1 by omega) with h | h<;>simp [h]
theorem ix4 {a:F} {ρ:Rho} {j:Nat} (h:a ρ= .ok (.int j)) (l:j<4):rIx (cF [rK (.int 1),rK (.int 2),rK (.int 4),rK (.int 8)]) a ρ= .ok (.int ((2 ^ j:Nat):Int)):=by
 refine(aC7 rfl h).trans (kU ?_)
 rcases(show j=0\/j=1\/j=2\/j=3 by omega) with rfl | rfl | rfl | rfl<;>rfl
theorem ix5 {a:F} {ρ:Rho} {j:Nat} (h:a ρ= .ok (.int j)) (l:j<=4):rIx (cF [rK (.int 1),rK (.int 2),rK (.int 4),rK (.int 8),rK (.int 16)]) a ρ= .ok (.int ((2 ^ j:Nat):Int)):=by
 refine(aC7 rfl h).trans (kU ?_)
 rcases(show j=0\/j=1\/j=2\/j=3\/j=4 by omega) with rfl | rfl | rfl | rfl | rfl<;>rfl
theorem zL {m:Nat} (h:m<=4):1<=2 ^ m/\2 ^ m<=16:=by
 rcases(show m=0\/m=1\/m=2\/m=3\/m=4 by omega) with rfl | rfl | rfl | rfl | rfl<;>decide
theorem i7 {m:Nat} (hm:m<=4) (k:Int): ∃ xs,aR [.int m, .int k]= .ok (.tup xs)/\xs.length=m/\ ∀ x∈xs,bit x:=by
 obtain⟨xs,e,l,b⟩:=eG (n:=0) (cs:=[1]) (it:=aT (aB 0)) (e:=aU .Mod (aU .FloorDiv (aB 1) (rIx (cF [rK (.int 1),rK (.int 2),rK (.int 4),rK (.int 8)]) (aB 0))) (rK (.int 2))) (ρ:=[.sh (.int m), .sh (.int k)]) (ds:=mO m) (P:=bit)
  (.inl (fG rfl (by omega))) fun d h=>by
   obtain⟨j,hj,rfl⟩:=iB h
   have hp:=zL (m:=j) (by omega)
   refine⟨[.sh (.int j)],_,rfl,(a8 ((a8 rfl (ix4 (a:=aB 0) (j:=j) rfl (by omega))).trans (zI ?_ ?_)) rfl).trans (nU (by decide)),zK _⟩<;>omega
 exact⟨xs,gK (gJ ((qE e).trans rfl)),l.trans dF,b⟩
theorem zM: ∀ {xs:List D},(∀ x∈xs, ∃ i,x=D.int i)-> ∃ is:List Int,xs=is.map D.int
 | [],_=>⟨[],rfl⟩
 | x::r,h=>by
  obtain⟨i,rfl⟩:=h x (.head _)
  obtain⟨is,rfl⟩:=zM (xs:=r) fun y m=>h y (.tail _ m)
  exact⟨i::is,rfl⟩
theorem aGt {d:D} (h:bit d): ∃ i,d= .int i:=by rcases h with rfl | rfl<;>exact⟨_,rfl⟩
theorem aB4 (is:List Int):uW [.lst (is.map D.int)]= .ok (.int is.sum):=by simp [uW,items,qD]
theorem aGu (is:List Int):uW [.tup (is.map D.int)]= .ok (.int is.sum):=by simp [uW,items,qD]
theorem aJ8 (a b:Int): ∃ r,eK [.int a, .int b]= .ok r/\bit r:=by
 obtain⟨xs,e1,l1,b1⟩:=i7 (m:=4) (by decide) a
 obtain⟨ys,e2,l2,b2⟩:=i7 (m:=4) (by decide) b
 have hz:vP (aA aR [rK (.int 4),aB 0]) (aA aR [rK (.int 4),aB 1]) [.sh (.int a), .sh (.int b)]= .ok (.lst ((xs.zip ys).map fun p=>D.tup [p.1,p.2])):=by
  have h1:aA aR [rK (.int 4),aB 0] [.sh (.int a), .sh (.int b)]= .ok (.tup xs):=(mD rfl rfl).trans e1
  have h2:aA aR [rK (.int 4),aB 1] [.sh (.int a), .sh (.int b)]= .ok (.tup ys):=(mD rfl rfl).trans e2
  simp [vP,h1,h2,R.bind]
 obtain⟨zs,e,l,q⟩:=eG (n:=2) (cs:=[]) (e:=aU .Mult (aB 0) (aB 1)) (P:=fun x=> ∃ i,x=D.int i) (.inl hz) fun d h=>by
  obtain⟨⟨x,y⟩,hm,rfl⟩:=ao.1 h
  obtain⟨mx,my⟩:=List.of_mem_zip hm
  have hx:=b1 x mx;have hy:=b2 y my
  refine⟨[.sh x, .sh y], ?_⟩
  rcases hx with rfl | rfl<;>rcases hy with rfl | rfl<;>exact⟨_,rfl,rfl,_,rfl⟩
 obtain⟨is,rfl⟩:=zM q
 exact⟨_,gK (gJ ((a8 ((qE e).trans (aB4 is)) rfl).trans (nU (by decide)))),zK _⟩
theorem dS (ns:List Int) (k:Nat) {m:Nat} (hm:0<m): ∃ p:Nat,aK [Sc ns, .int k, .int m]= .ok (.int p)/\p<m:=by
 have h:(0:Int)<m:=by omega
 have r:=rZ ns k h
 refine⟨(zJ ns k m).toNat,(aGs ns k h).trans ?_,by omega⟩
 rw [Int.toNat_of_nonneg r.1]
theorem aJ9 {p:Nat} (h:p<2):bit (.int p):=by
 rcases(show p=0\/p=1 by omega) with rfl | rfl
 ·exact .inl rfl
 ·exact .inr rfl
theorem aDb {ws:List D} (h: ∀ w∈ws,bit w) {p:Nat} (hp:p<ws.length): ∃ w,dIx (.lst ws) (.int p)= .ok w/\bit w:=
 ⟨ws[p],kU (az hp),h _ (List.getElem_mem hp)⟩
theorem qH (ns:List Int) (at':Nat) {m:Nat} (hm:m<=4): ∃ ws,cU [Sc ns, .int at', .int m]= .ok (.tup [.int m, .tup ws])/\ws.length=2 ^ m/\ ∀ w∈ws,bit w:=by
 have hp:=zL hm
 obtain⟨way,hw,lw⟩:=dS ns at' (m:=6) (by decide)
 -- the drawn worths
 obtain⟨ws0,e0,l0,b0⟩:=eG (n:=0) (cs:=[1,0]) (it:=aT (aB 3)) (e:=aA aK [aB 2,aU .Add (aU .Add (aB 1) (rK (.int 1))) (aB 0),rK (.int 2)]) (P:=bit) (ds:=mO (2 ^ m))
  (ρ:=[.sh (Sc ns), .sh (.int at'), .sh (.int m), .sh (.int (2 ^ m:Nat)), .sh (.int way), .no, .no, .no, .no]) (.inl (fG rfl (by omega))) fun d h=>by
   obtain⟨j,hj,rfl⟩:=iB h
   obtain⟨p,hp,lp⟩:=dS ns (at'+1+j) (m:=2) (by decide)
   exact⟨[.sh (.int j)],_,rfl,(f8 (x:=Sc ns) (y:= .int ((at'+1+j:Nat):Int)) (z:= .int 2) rfl rfl rfl).trans hp,aJ9 lp⟩
 rw [dF] at l0
 -- the ways
 have h4: ∃ ws a b,(sIf (iL (bE .Eq (aB 4) (rK (.int 0))) (bE .Gt (aB 2) (rK (.int 0))))
   (aI (bX 6 (aA aK [aB 0,aU .Add (aB 1) (rK (.int 20)),aB 3]))
    (jH 5 (aP 0 [6] (aT (aB 3)) none (aA eK [aB 1,aB 0]))))
   (sIf (bE .Eq (aB 4) (rK (.int 1)))
    (jH 5 (aP 0 [1,2,0] (aT (aB 3)) none (aA aId [bE .GtE (aA uW [aA aR [aB 2,aB 0]]) (aU .Add (rK (.int 1)) (aA aK [aB 3,aU .Add (aB 1) (rK (.int 21)),rK (.int 3)]))])))
    (sIf (iL (bE .Eq (aB 4) (rK (.int 2))) (bE .Gt (aB 2) (rK (.int 0))))
     (aI (bX 7 (aA aK [aB 0,aU .Add (aB 1) (rK (.int 22)),aB 2]))
      (jH 5 (aP 0 [7,5] (aT (aB 3)) none (rIx (aD 2) (aU .Sub (aB 0) (aU .Mult (aU .Mod (aU .FloorDiv (aB 0) (rIx (cF [rK (.int 1),rK (.int 2),rK (.int 4),rK (.int 8)]) (aB 1))) (rK (.int 2))) (rIx (cF [rK (.int 1),rK (.int 2),rK (.int 4),rK (.int 8)]) (aB 1))))))))
     (a9)))) [.sh (Sc ns), .sh (.int at'), .sh (.int m), .sh (.int (2 ^ m:Nat)), .sh (.int way), .ow ws0, .no, .no, .no]
   = .nx [.sh (Sc ns), .sh (.int at'), .sh (.int m), .sh (.int (2 ^ m:Nat)), .sh (.int way), .ow ws,a,b, .no]/\ws.length=2 ^ m/\ ∀ w∈ws,bit w:=by
  have hgt: ∀ ρ:Rho,ρ[2]? =some (.sh (.int m))->bE .Gt (aB 2) (rK (.int 0)) ρ= .ok (.bl (decide (0<m))):=fun ρ h=>by
   refine(iX (x:= .int m) (by simp [aB,h]) rfl).trans ?_
   simp [mL]
  have hway: ∀ (c:Nat) (ρ:Rho),ρ[4]? =some (.sh (.int way))->bE .Eq (aB 4) (rK (.int c)) ρ= .ok (.bl (decide (way=c))):=fun c ρ h=>by
   refine(iX (x:= .int way) (by simp [aB,h]) rfl).trans ?_
   rw [rY rfl]
   show R.ok (.bl ((way:Int)==(c:Int)))=_
   congr 2;rw [Bool.eq_iff_iff];simp;omega
  have hand: ∀ c:Nat,iL (bE .Eq (aB 4) (rK (.int c))) (bE .Gt (aB 2) (rK (.int 0))) [.sh (Sc ns), .sh (.int at'), .sh (.int m), .sh (.int (2 ^ m:Nat)), .sh (.int way), .ow ws0, .no, .no, .no]= .ok (.bl (decide (way=c/\0<m))):=fun c=>by
   by_cases h:way=c
   ·refine(aC8 ((hway c _ rfl).trans (by simp [h]))).trans ((hgt _ rfl).trans (by simp [h]))
   ·refine(aC9 ((hway c _ rfl).trans (by simp [h]))).trans (by simp [h])
  by_cases w0:way=0/\0<m
  ·obtain⟨mask,hk,lk⟩:=dS ns (at'+20) (m:=2 ^ m) (by omega)
   obtain⟨ws,e,l,b⟩:=eG (n:=0) (cs:=[6]) (it:=aT (aB 3)) (e:=aA eK [aB 1,aB 0]) (P:=bit) (ds:=mO (2 ^ m))
    (ρ:=[.sh (Sc ns), .sh (.int at'), .sh (.int m), .sh (.int (2 ^ m:Nat)), .sh (.int way), .ow ws0, .sh (.int mask), .no, .no]) (.inl (fG rfl (by omega))) fun d h=>by
     obtain⟨j,hj,rfl⟩:=iB h
     obtain⟨r,hr,br⟩:=aJ8 mask j
     exact⟨[.sh (.int j)],_,rfl,(mD rfl rfl).trans hr,br⟩
   refine⟨ws, .sh (.int mask), .no,(vL ((hand 0).trans (by simp [w0]))).trans ((bV (gI ((f8 rfl rfl rfl).trans hk))).trans (nT e)),l.trans dF,b⟩
  by_cases w1:way=1
  ·obtain⟨q,hq,lq⟩:=dS ns (at'+21) (m:=3) (by omega)
   obtain⟨ws,e,l,b⟩:=eG (n:=0) (cs:=[1,2,0]) (it:=aT (aB 3)) (e:=aA aId [bE .GtE (aA uW [aA aR [aB 2,aB 0]]) (aU .Add (rK (.int 1)) (aA aK [aB 3,aU .Add (aB 1) (rK (.int 21)),rK (.int 3)]))]) (P:=bit) (ds:=mO (2 ^ m))
    (ρ:=[.sh (Sc ns), .sh (.int at'), .sh (.int m), .sh (.int (2 ^ m:Nat)), .sh (.int way), .ow ws0, .no, .no, .no]) (.inl (fG rfl (by omega))) fun d h=>by
     obtain⟨j,hj,rfl⟩:=iB h
     obtain⟨xs,hs,ls,bs⟩:=i7 hm j
     obtain⟨is,rfl⟩:=zM fun x m=>aGt (bs x m)
     refine⟨[.sh (.int j)],_,rfl,(mC ((iX ((mC ((mD rfl rfl).trans hs)).trans (aGu is)) ((a8 rfl ((f8 rfl rfl rfl).trans hq)).trans rfl)).trans rfl)).trans rfl, ?_⟩
     unfold b2i;split
     ·exact .inr rfl
     ·exact .inl rfl
   refine⟨ws, .no, .no,(lI ((hand 0).trans (by simp [w0]))).trans ((vL ((hway 1 _ rfl).trans (by simp [w1]))).trans (nT e)),l.trans dF,b⟩
  by_cases w2:way=2/\0<m
  ·obtain⟨nm,hk,lk⟩:=dS ns (at'+22) (m:=m) (by omega)
   obtain⟨ws,e,l,b⟩:=eG (n:=0) (cs:=[7,5]) (it:=aT (aB 3)) (e:=rIx (aD 2) (aU .Sub (aB 0) (aU .Mult (aU .Mod (aU .FloorDiv (aB 0) (rIx (cF [rK (.int 1),rK (.int 2),rK (.int 4),rK (.int 8)]) (aB 1))) (rK (.int 2))) (rIx (cF [rK (.int 1),rK (.int 2),rK (.int 4),rK (.int 8)]) (aB 1))))) (P:=bit) (ds:=mO (2 ^ m))
    (ρ:=[.sh (Sc ns), .sh (.int at'), .sh (.int m), .sh (.int (2 ^ m:Nat)), .sh (.int way), .ow ws0, .no, .sh (.int nm), .no]) (.inl (fG rfl (by omega))) fun d h=>by
     obtain⟨j,hj,rfl⟩:=iB h
     have hpn:=zL (m:=nm) (by omega)
     have hle:j / 2 ^ nm % 2 * 2 ^ nm<=j:=Nat.le_trans (Nat.mul_le_mul_right _ (Nat.mod_le _ _)) (Nat.div_mul_le_self ..)
     obtain⟨w,hw,bw⟩:=aDb b0 (p:=j - j / 2 ^ nm % 2 * 2 ^ nm) (by omega)
     refine⟨[.sh (.int j)],w,rfl,(uJ (x:= .lst ws0) (y:= .int (j - j / 2 ^ nm % 2 * 2 ^ nm:Nat)) rfl ?_).trans hw,bw⟩
     refine(a8 rfl ((a8 ((a8 ((a8 rfl (ix4 (a:=aB 1) (j:=nm) rfl (by omega))).trans (zI (by omega) (by omega))) rfl).trans (nU (by decide))) (ix4 (a:=aB 1) (j:=nm) rfl (by omega))).trans (aDa (aJ7 (by omega) (by omega))))).trans ?_
     show R.ok (D.int ((j:Int) - (j:Int) / ((2 ^ nm:Nat):Int) % 2 * ((2 ^ nm:Nat):Int)))=_
     rw [Int.ofNat_sub hle,Int.natCast_mul,Int.natCast_emod,Int.natCast_ediv];rfl
   refine⟨ws, .no, .sh (.int nm),(lI ((hand 0).trans (by simp [w0]))).trans ((lI ((hway 1 _ rfl).trans (by simp [w1]))).trans ((vL ((hand 2).trans (by simp [w2]))).trans ((bV (gI ((f8 rfl rfl rfl).trans hk))).trans (nT e)))),l.trans dF,b⟩
  ·exact⟨ws0, .no, .no,(lI ((hand 0).trans (by simp [w0]))).trans ((lI ((hway 1 _ rfl).trans (by simp [w1]))).trans ((lI ((hand 2).trans (by simp [w2]))).trans rfl)),l0,b0⟩
 obtain⟨ws1,a,b,e1,l1,b1⟩:=h4
 -- one worth turned
 have h5: ∃ ws c,(sIf (iL (bE .Lt (aB 4) (rK (.int 3))) (bE .Eq (aA aK [aB 0,aU .Add (aB 1) (rK (.int 23)),rK (.int 3)]) (rK (.int 0))))
   (aI (bX 8 (aA aK [aB 0,aU .Add (aB 1) (rK (.int 24)),aB 3]))
    (aAl 5 (aB 8) (aU .Sub (rK (.int 1)) (rIx (aD 5) (aB 8)))))
   (a9)) [.sh (Sc ns), .sh (.int at'), .sh (.int m), .sh (.int (2 ^ m:Nat)), .sh (.int way), .ow ws1,a,b, .no]
   = .nx [.sh (Sc ns), .sh (.int at'), .sh (.int m), .sh (.int (2 ^ m:Nat)), .sh (.int way), .ow ws,a,b,c]/\ws.length=2 ^ m/\ ∀ w∈ws,bit w:=by
  obtain⟨q,hq,lq⟩:=dS ns (at'+23) (m:=3) (by omega)
  have hc: ∃ t,iL (bE .Lt (aB 4) (rK (.int 3))) (bE .Eq (aA aK [aB 0,aU .Add (aB 1) (rK (.int 23)),rK (.int 3)]) (rK (.int 0))) [.sh (Sc ns), .sh (.int at'), .sh (.int m), .sh (.int (2 ^ m:Nat)), .sh (.int way), .ow ws1,a,b, .no]= .ok (.bl t):=by
   have h1:bE .Lt (aB 4) (rK (.int 3)) [.sh (Sc ns), .sh (.int at'), .sh (.int m), .sh (.int (2 ^ m:Nat)), .sh (.int way), .ow ws1,a,b, .no]= .ok (.bl (decide ((way:Int)<3))):=rfl
   by_cases hh:(way:Int)<3
   ·exact⟨_,(aC8 (h1.trans (by simp [hh]))).trans ((iX ((f8 rfl rfl rfl).trans hq) rfl).trans (rY rfl))⟩
   ·exact⟨_,aC9 (h1.trans (by simp [hh]))⟩
  obtain⟨t,ht⟩:=hc
  cases t with
  | false=>exact⟨ws1, .no,(lI ht).trans rfl,l1,b1⟩
  | true=>
   obtain⟨pl,hl,ll⟩:=dS ns (at'+24) (m:=2 ^ m) (by omega)
   obtain⟨w,hw,bw⟩:=aDb b1 (p:=pl) (by omega)
   have hb: ∃ v,k7 .Sub (.int 1) w= .ok v/\bit v:=by
    rcases bw with rfl | rfl
    ·exact⟨_,rfl, .inr rfl⟩
    ·exact⟨_,rfl, .inl rfl⟩
   obtain⟨v,hv,bv⟩:=hb
   refine⟨ws1.set pl v, .sh (.int pl),(vL ht).trans ((bV (gI ((f8 rfl rfl rfl).trans hl))).trans ?_),by simp [l1],fun x mx=> ?_⟩
   ·have hx:(aU .Sub (rK (.int 1)) (rIx (aD 5) (aB 8))) [.sh (Sc ns), .sh (.int at'), .sh (.int m), .sh (.int (2 ^ m:Nat)), .sh (.int way), .ow ws1,a,b, .sh (.int pl)]= .ok v:=(a8 rfl ((uJ rfl rfl).trans hw)).trans hv
    have hi:ixD ws1.length (pl:Int)=some pl:=by simp [ixD];omega
    show aAl 5 (aB 8) (aU .Sub (rK (.int 1)) (rIx (aD 5) (aB 8))) [.sh (Sc ns), .sh (.int at'), .sh (.int m), .sh (.int (2 ^ m:Nat)), .sh (.int way), .ow ws1,a,b, .sh (.int pl)]=_
    unfold aAl;rw [hx];simp [jC,aB,hi]
   ·rcases List.mem_or_eq_of_mem_set mx with h | rfl
    ·exact b1 x h
    ·exact bv
 obtain⟨ws2,c,e2,l2,b2⟩:=h5
 refine⟨ws2,gK ((bV (gI (ix5 (a:=aB 2) (j:=m) rfl hm))).trans ((bV (gI ((f8 rfl rfl rfl).trans hw))).trans ((bV (nT e0)).trans ((bV e1).trans ((bV e2).trans (gJ (aJ6 rfl ((mC rfl).trans rfl)))))))),l2,b2⟩
noncomputable def bits:Nat->List (List D)
 | 0=>[[]]
 | n+1=>(bits n).flatMap fun t=>[.int 0::t, .int 1::t]
noncomputable def sws (m:Nat):List D:=(bits (2 ^ m)).map fun b=> .tup [.int (m:Nat), .tup b]
noncomputable def okR:R->Bool
 | .ow xs=>aS xs&&decide (iI xs<=50)&&decide (xs.length<=1000)
 | _=>false
noncomputable def iK (a:D):List R:=[mH [a],bZ [.int 1],b4 [.int 2],fM [a],dA [a,a],iG [a],iE [a]]
noncomputable def aGv (a:D):List R:=[cD [a],cT [a],eI [a]]
noncomputable def zN (y:D):List R:=[fI [y],dG [y, .int 1]]
theorem tA (m:Nat) (h:m=1\/m=2):((sws m).all fun a=>(iK a).all okR&&(aGv a).all okR)=true:=by
 rcases h with rfl | rfl<;>kernel_rfl
theorem tB1:((sws 1).all fun a=>(sws 1).all fun b=>(zN (.lst [b,a,b])).all okR)=true:=by kernel_rfl
theorem tB2:((sws 2).all fun a=>(sws 2).all fun b=>(zN (.lst [b,a,b])).all okR)=true:=by kernel_rfl
noncomputable def post (o:Out):Option (Nat×List (Option Slot)):=match o with
 | .nx ρ=>some (ρ.length,[ρ[2]?,ρ[4]?,ρ[7]?])
 | _=>none
noncomputable abbrev stA (s0 s5 s6 s7:Slot) (m:Nat) (a b:D):Rho:=[s0, .sh (.int (m:Nat)), .sh a, .sh b, .sh (.lst [b,a,b]),s5,s6,s7, .no, .no, .no, .no, .no]
theorem tC1 (s0 s5 s6 s7:Slot):((sws 1).map fun a=>(sws 1).map fun b=>post (zD qA a9 (stA s0 s5 s6 s7 1 a b)))=(sws 1).map fun a=>(sws 1).map fun b=>some (13,[some (.sh a),some (.sh (.lst [b,a,b])),some s7]):=by kernel_rfl
theorem tC2 (s0 s5 s6 s7:Slot):((sws 2).map fun a=>(sws 2).map fun b=>post (zD qA a9 (stA s0 s5 s6 s7 2 a b)))=(sws 2).map fun a=>(sws 2).map fun b=>some (13,[some (.sh a),some (.sh (.lst [b,a,b])),some s7]):=by kernel_rfl
theorem tD (m:Nat) (h:m=1\/m=2) (s0 s1 s3 s4 s5 s6 s7 s8 s9 s10 s11 s12:Slot):((sws m).map fun a=>post (zD qB a9 [s0,s1, .sh a,s3,s4,s5,s6,s7,s8,s9,s10,s11,s12]))=(sws m).map fun a=>some (13,[some (.sh a),some s4,some s7]):=by
 rcases h with rfl | rfl<;>kernel_rfl
theorem r8 {k:FS}: ∀ {l:List FS} {ρ ρ':Rho},zD l a9 ρ= .nx ρ'->zD l k ρ=k ρ'
 | [],ρ,ρ',h=>by cases h;rfl
 | a::r,ρ,ρ',h=>by
  have h':aI a (zD r a9) ρ= .nx ρ':=h
  show aI a (zD r k) ρ=k ρ'
  unfold aI at h' ⊢
  cases e:a ρ with
  | nx ρ1=>rw [e] at h';exact r8 h'
  | rt _=>rw [e] at h';cases h'
  | bk _=>rw [e] at h';cases h'
  | ct _=>rw [e] at h';cases h'
  | ex _ _=>rw [e] at h';cases h'
theorem uN: ∀ {n:Nat} {ws:List D},ws.length=n->(∀ w∈ws,bit w)->ws∈bits n
 | 0,[],_,_=> .head _
 | n+1,w::ws,h,hb=>by
  have ih:=uN (n:=n) (ws:=ws) (by simpa using h) fun x m=>hb x (.tail _ m)
  refine List.mem_flatMap.mpr ⟨ws,ih, ?_⟩
  rcases hb w (.head _) with rfl | rfl
  ·exact .head _
  ·exact .tail _ (.head _)
 | 0,_::_,h,_=>by simp at h
 | n+1,[],h,_=>by simp at h
theorem zO {m:Nat} {ws:List D} (h:ws.length=2 ^ m) (hb: ∀ w∈ws,bit w):D.tup [.int m, .tup ws]∈sws m:=ao.mpr ⟨ws,uN h hb,rfl⟩
theorem aKa {r:R} (h:okR r=true): ∃ xs,r= .ow xs/\aS xs=true/\iI xs<=50/\xs.length<=1000:=by
 cases r with
 | ow xs=>
  have h':(aS xs&&decide (iI xs<=50)&&decide (xs.length<=1000))=true:=h
  simp only [ar,decide_eq_true_eq] at h'
  exact⟨xs,rfl,h'.1.1,h'.1.2,h'.2⟩
 | _=>cases h
theorem sA: ∀ {rs:List R},rs.all okR=true-> ∃ xss:List (List D),rs=xss.map R.ow/\ ∀ xs∈xss,aS xs=true/\iI xs<=50/\xs.length<=1000
 | [],_=>⟨[],rfl,fun _ h=>by cases h⟩
 | r::rs,h=>by
  rw [List.all_cons,ar] at h
  obtain⟨xs,rfl,h1⟩:=aKa h.1
  obtain⟨xss,rfl,h2⟩:=sA h.2
  refine⟨xs::xss,rfl,fun y m=> ?_⟩
  rcases aq.mp m with rfl | m
  ·exact h1
  ·exact h2 y m
theorem iH {ρ:Rho}: ∀ {fs:List F} {xss:List (List D)},(fs.map fun f=>f ρ)=xss.map R.ow->args fs ρ= .ok (xss.map D.lst)/\dW fs ρ=some xss
 | [],[],_=>⟨rfl,rfl⟩
 | f::fs,xs::xss,h=>by
  rw [List.map_cons,List.map_cons] at h
  have h1:f ρ= .ow xs:=(List.cons.inj h).1
  obtain⟨i1,i2⟩:=iH (List.cons.inj h).2
  refine⟨?_, ?_⟩
  ·unfold args
   rw [h1]
   simp only [i1]
   rfl
  ·show cS (fun f=>lH (f ρ)) (f::fs)=some (xs::xss)
   unfold cS
   rw [h1]
   have i2':cS (fun f=>lH (f ρ)) fs=some xss:=i2
   show(cS (fun f=>lH (f ρ)) fs).map (xs:: ·)=some (xs::xss)
   rw [i2']
   rfl
 | [],_::_,h=>by simp at h
 | _::_,[],h=>by simp at h
theorem vO {xss:List (List D)} (h: ∀ xs∈xss,aS xs=true/\iI xs<=50/\xs.length<=1000):aS (xss.map D.lst)=true/\iI (xss.map D.lst)<=51:=by
 induction xss with
 | nil=>exact⟨rfl,bp _⟩
 | cons xs xss ih=>
  obtain⟨i1,i2⟩:=ih fun y m=>h y (.tail _ m)
  obtain⟨h1,h2,_⟩:=h xs (.head _)
  rw [List.map_cons]
  refine⟨?_, ?_⟩
  ·show(plain (.lst xs)&&aS (xss.map D.lst))=true
   rw [i1,Bool.and_true]
   exact h1
  ·show max (iI xs+1) (iI (xss.map D.lst))<=51
   omega
section
variable {m:Nat} {a b:D}
theorem rO (hm:m=1\/m=2) (ha:a∈sws m) (hb:b∈sws m): ∃ xss:List (List D),dW (qG++nX) [.sh a, .sh (.lst [b,a,b]), .no]=some xss/\cN [a, .lst [b,a,b]]= .ow (xss.map D.lst)/\kT xss=true/\aS (xss.map D.lst)=true/\iI (xss.map D.lst)<=51:=by
 have h1:=zAd (tA m hm) a ha
 rw [ar] at h1
 have h2:(zN (.lst [b,a,b])).all okR=true:=by
  rcases hm with rfl | rfl
  ·exact zAd (zAd tB1 a ha) b hb
  ·exact zAd (zAd tB2 a ha) b hb
 obtain⟨x1,e1,g1⟩:=sA h1.1
 have h3:(aGv a++zN (.lst [b,a,b])).all okR=true:=by rw [List.all_append,h1.2,h2];rfl
 obtain⟨x2,e2,g2⟩:=sA h3
 have r1: ∀ z:Slot,(qG.map fun f=>f [.sh a, .sh (.lst [b,a,b]),z])=x1.map R.ow:=fun z=>by rw [<-e1];rfl
 have r2: ∀ z:Slot,(nX.map fun f=>f [.sh a, .sh (.lst [b,a,b]),z])=x2.map R.ow:=fun z=>by rw [<-e2];rfl
 have gg: ∀ xs∈x1++x2,aS xs=true/\iI xs<=50/\xs.length<=1000:=fun xs h=>(List.mem_append.mp h).elim (g1 xs) (g2 xs)
 have l1:x1.length=7:=by have:=congrArg List.length e1;simpa [iK] using this.symm
 have l2:x2.length=5:=by have:=congrArg List.length e2;simpa [aGv,zN] using this.symm
 refine⟨x1++x2,(iH ?_).2, ?_, ?_,vO gg⟩
 ·rw [List.map_append,List.map_append,r1,r2]
 ·have q1:bX 2 (cF qG) [.sh a, .sh (.lst [b,a,b]), .no]= .nx [.sh a, .sh (.lst [b,a,b]), .sh (.lst (x1.map D.lst))]:=by
   refine aGl ?_
   unfold cF mM
   rw [(iH (r1 .no)).1]
   rfl
  have q2:bA (aU .Add (aB 2) (cF nX)) [.sh a, .sh (.lst [b,a,b]), .sh (.lst (x1.map D.lst))]= .rt (.ow ((x1++x2).map D.lst)):=by
   refine aGm ?_
   have q3:cF nX [.sh a, .sh (.lst [b,a,b]), .sh (.lst (x1.map D.lst))]= .ow (x2.map D.lst):=by
    unfold cF mM
    rw [(iH (r2 _)).1]
    rfl
   unfold aU
   rw [q3]
   show k7 .Add (.lst (x1.map D.lst)) (.lst (x2.map D.lst))=_
   unfold k7
   rw [List.map_append]
   exact if_pos (by rw [am,am,l1,l2];decide)
  exact aGn ((bV q1).trans q2)
 ·unfold kT
  rw [ar]
  refine⟨decide_eq_true (by rw [bj,l1,l2];decide),List.all_eq_true.mpr fun xs h=>decide_eq_true (gg xs h).2.2⟩
theorem zP {o:Out} {n:Nat} {l:List (Option Slot)} (h:post o=some (n,l)): ∃ ρ,o= .nx ρ/\ρ.length=n/\l=[ρ[2]?,ρ[4]?,ρ[7]?]:=by
 cases o with
 | nx ρ=>cases h;exact⟨ρ,rfl,rfl,rfl⟩
 | _=>cases h
theorem aMb {α:Type} {l:List α} (h:l.length=13): ∃ a b c d e f g h i j k m n,l=[a,b,c,d,e,f,g,h,i,j,k,m,n]:=by
 rcases l with _ | ⟨a,_ | ⟨b,_ | ⟨c,_ | ⟨d,_ | ⟨e,_ | ⟨f,_ | ⟨g,_ | ⟨i,_ | ⟨j,_ | ⟨k,_ | ⟨m,_ | ⟨n,_ | ⟨o,l⟩⟩⟩⟩⟩⟩⟩⟩⟩⟩⟩⟩⟩<;>simp at h
 subst h
 exact⟨_,_,_,_,_,_,_,_,_,_,_,_,_,rfl⟩
theorem zQ {xs:List D} (hp:aS xs=true) (hd:iI xs<=51):mL .Eq (.lst xs) (.lst xs)= .ok (.bl true)/\mL .NotEq (.lst xs) (.lst xs)= .ok (.bl false):=by
 have e1:nY (.lst xs) (.lst xs)=true:=by
  unfold nY
  rw [show plain (.lst xs)=true from hp]
  refine decide_eq_true ?_
  show min (iI xs+1) (iI xs+1)<=60
  omega
 have e2:deq (.lst xs) (.lst xs)=true:=iC xs hp
 constructor
 ·show(if nY _ _ then _ else _)=_
  rw [if_pos e1,e2]
 ·show(if nY _ _ then _ else _)=_
  rw [if_pos e1,e2]
  rfl
theorem aGw {s0:Slot} {xss:List (List D)} (hm:m=1\/m=2) (ha:a∈sws m) (hb:b∈sws m) (hl:cN [a, .lst [b,a,b]]= .ow (xss.map D.lst)) (hp:aS (xss.map D.lst)=true) (hd:iI (xss.map D.lst)<=51):
  lwR [s0, .sh (.int (m:Nat)), .sh a, .sh b, .sh (.lst [b,a,b]), .no, .no, .sh (.lst (xss.map D.lst)), .no, .no, .no, .no, .no]= .rt (.ok (.bl true)):=by
 obtain⟨z1,z2⟩:=zQ hp hd
 have cmp: ∀ {op:CmpOp} {ρ:Rho},ρ[2]? =some (.sh a)->ρ[4]? =some (.sh (.lst [b,a,b]))->ρ[7]? =some (.sh (.lst (xss.map D.lst)))->bE op (aA cN [aB 2,aB 4]) (aB 7) ρ=mL op (.lst (xss.map D.lst)) (.lst (xss.map D.lst)):=fun {op ρ} h2 h4 h7=>by
  refine aGo ((mD (x:=a) (y:= .lst [b,a,b]) ?_ ?_).trans hl) ?_
  ·unfold aB;rw [h2]
  ·unfold aB;rw [h4]
  ·unfold aB;rw [h7]
 have s1:bE .NotEq (aB 4) (cF [aB 3,aB 2,aB 3]) [s0, .sh (.int (m:Nat)), .sh a, .sh b, .sh (.lst [b,a,b]), .no, .no, .sh (.lst (xss.map D.lst)), .no, .no, .no, .no, .no]= .ok (.bl false):=by
  have pl: ∀ {d:D},d∈sws m->plain d=true/\dep d<=5:=fun {d} h=>by
   have hh:((sws m).all fun d=>plain d&&decide (dep d<=5))=true:=by rcases hm with rfl | rfl<;>kernel_rfl
   have:=zAd hh d h
   rw [ar] at this
   exact⟨this.1,of_decide_eq_true this.2⟩
  obtain⟨a1,a2⟩:=pl ha
  obtain⟨b1,b2⟩:=pl hb
  have e:cF [aB 3,aB 2,aB 3] [s0, .sh (.int (m:Nat)), .sh a, .sh b, .sh (.lst [b,a,b]), .no, .no, .sh (.lst (xss.map D.lst)), .no, .no, .no, .no, .no]= .ow [b,a,b]:=rfl
  unfold bE
  rw [e]
  have hq:aS [b,a,b]=true:=by
   show(plain b&&(plain a&&(plain b&&true)))=true
   rw [a1,b1];rfl
  have hq2:iI [b,a,b]<=51:=by
   show max (dep b) (max (dep a) (max (dep b) 0))<=51
   omega
  exact(zQ hq hq2).2
 have hq1:q1 [s0, .sh (.int (m:Nat)), .sh a, .sh b, .sh (.lst [b,a,b]), .no, .no, .sh (.lst (xss.map D.lst)), .no, .no, .no, .no, .no]= .nx [s0, .sh (.int (m:Nat)), .sh a, .sh b, .sh (.lst [b,a,b]), .no, .no, .sh (.lst (xss.map D.lst)), .no, .no, .no, .no, .no]:=
  lI ((aL9 ((cmp rfl rfl rfl).trans z2)).trans s1)
 have hA:post (zD qA a9 (stA s0 .no .no (.sh (.lst (xss.map D.lst))) m a b))=some (13,[some (.sh a),some (.sh (.lst [b,a,b])),some (.sh (.lst (xss.map D.lst)))]):=by
  rcases hm with rfl | rfl
  ·exact List.map_inj_left.mp ((List.map_inj_left.mp (tC1 s0 .no .no (.sh (.lst (xss.map D.lst))))) a ha) b hb
  ·exact List.map_inj_left.mp ((List.map_inj_left.mp (tC2 s0 .no .no (.sh (.lst (xss.map D.lst))))) a ha) b hb
 obtain⟨ρA,eA,lA,kA⟩:=zP hA
 obtain⟨t0,t1,t2,t3,t4,t5,t6,t7,t8,t9,t10,t11,t12,rfl⟩:=aMb lA
 cases kA
 have hB:=List.map_inj_left.mp (tD m hm t0 t1 t3 (.sh (.lst [b,a,b])) t5 t6 (.sh (.lst (xss.map D.lst))) t8 t9 t10 t11 t12) a ha
 obtain⟨ρB,eB,lB,kB⟩:=zP hB
 have kB':=List.cons.inj kB
 have kB2:=List.cons.inj kB'.2
 have kB3:=List.cons.inj kB2.2
 have hZ:qZ ρB= .rt (.ok (.bl true)):=gJ ((cmp kB'.1.symm kB2.1.symm kB3.1.symm).trans z1)
 exact(bV hq1).trans ((r8 eA).trans ((r8 eB).trans hZ))
end
theorem law_true (ns:List Int):aMa [.lst (ns.map D.int)]= .ok (.bl true):=by
 obtain⟨p,ep,lp⟩:=dS ns 0 (m:=2) (by decide)
 have hm:1+p=1\/1+p=2:=by omega
 obtain⟨w1,e1,l1,b1⟩:=qH ns 10 (m:=1+p) (by omega)
 obtain⟨w2,e2,l2,b2⟩:=qH ns 50 (m:=1+p) (by omega)
 have ha:=zO l1 b1
 have hb:=zO l2 b2
 generalize D.tup [.int ((1+p:Nat):Int), .tup w1]=a at e1 ha
 generalize D.tup [.int ((1+p:Nat):Int), .tup w2]=b at e2 hb
 obtain⟨xss,h1,h2,h3,h4,h5⟩:=rO hm ha hb
 refine gK ?_
 have s1:lw1 [.sh (Sc ns), .no, .no, .no, .no, .no, .no, .no, .no, .no, .no, .no, .no]= .nx [.sh (Sc ns), .sh (.int ((1+p:Nat):Int)), .no, .no, .no, .no, .no, .no, .no, .no, .no, .no, .no]:=by
  refine gI ((a8 rfl ((f8 (y:= .int ((0:Nat):Int)) (z:= .int ((2:Nat):Int)) rfl rfl rfl).trans ep)).trans ?_)
  simp [k7,d7]
 have s2:lw2 [.sh (Sc ns), .sh (.int ((1+p:Nat):Int)), .no, .no, .no, .no, .no, .no, .no, .no, .no, .no, .no]= .nx [.sh (Sc ns), .sh (.int ((1+p:Nat):Int)), .sh a, .sh b, .no, .no, .no, .no, .no, .no, .no, .no, .no]:=
  zH (aJ6 ((f8 (y:= .int ((10:Nat):Int)) rfl rfl rfl).trans e1) ((f8 (y:= .int ((50:Nat):Int)) rfl rfl rfl).trans e2)) rfl
 have s3:lw3 [.sh (Sc ns), .sh (.int ((1+p:Nat):Int)), .sh a, .sh b, .no, .no, .no, .no, .no, .no, .no, .no, .no]= .nx [.sh (Sc ns), .sh (.int ((1+p:Nat):Int)), .sh a, .sh b, .sh (.lst [b,a,b]), .no, .no, .no, .no, .no, .no, .no, .no]:=rfl
 have s4:aC4 5 6 7 1 (qG++nX) [aB 2,aB 4] [.sh (Sc ns), .sh (.int ((1+p:Nat):Int)), .sh a, .sh b, .sh (.lst [b,a,b]), .no, .no, .no, .no, .no, .no, .no, .no]= .nx [.sh (Sc ns), .sh (.int ((1+p:Nat):Int)), .sh a, .sh b, .sh (.lst [b,a,b]), .no, .no, .sh (.lst (xss.map D.lst)), .no, .no, .no, .no, .no]:=by
  unfold aC4
  rw [if_pos ⟨rfl,by show 5<13;decide,by show 7<13;decide,by show 6<13;decide⟩]
  have e:nQ 1 (qG++nX) [aB 2,aB 4] [.sh (Sc ns), .sh (.int ((1+p:Nat):Int)), .sh a, .sh b, .sh (.lst [b,a,b]), .no, .no, .no, .no, .no, .no, .no, .no]=some xss:=h1
  rw [e]
  simp only [h3,if_true]
  rfl
 exact(bV s1).trans ((bV s2).trans ((bV s3).trans ((bV s4).trans (aGw hm ha hb h2 h4 h5))))
open PySem.Spec PyProof.Rows L2 PySem.W
noncomputable abbrev KK (w:World):PySem.W.Frag:=kK w.params
set_option maxHeartbeats 0 in
theorem all_mk {l:PySem.W.OpenLaw} {w:World} {h:Heap} {mg:Str->Option Value} {fa:Addr} (X:(KK w).In h) (G:h.Ns mainGlobals mg) (hfa:mg "law"=some (.ref fa)):
  ∃ fd:FuncData,(∀ (s:Shared) (v:Value),BindsTo s fd ⟨[v],[]⟩ [("_law_script",v)])/\ ∀ base:Heap,(KK w).In base->base.Ns mainGlobals mg->FnOk l.prog w (KK w) mg base (CXe l.prog w) 82 fa fd ["_law_script"] (aB1 (KK w)):=by
 cases hfa.symm.trans (PySem.W.mg_of X G (n:="law") (v:= .ref 561) (by kernel_rfl))
 refine⟨PySem.W.fnOf "law" "law" (defArgs (top 96)) (defBody (top 96)) (defScope (top 96)) .none .none .none (.str "law_switchkinds_k70_whole_again" 769) none (.ref 560) .none,fun s v=> .of_eq rfl,fun base _ _=> ?_⟩
 have t:PQ l.prog w (KK w) mg base h (aGd [24,37,49,61,73,85,97] 24 [106,113,118,125,132,139,146,153,158,163,168,175,182,189,196,203,210,217,224,229,234,239,244,249,254,261,266,271,278,285,293,298,303,308,313,318,323,328,335,340,347,354,361,366,371,376,383,388,393,398,405,412,417,422,429,436,443,448,455,460,467,474,481,488,498,508,493,542,549,556,561]) 0 [] []:= .nil X G (aGe (by kernel_rfl) (by kernel_rfl))
 have t:=t.int "MOST_NAMES" 4 305
 have t:=t.int "MOST_NAMES_LISTED" 3 307
 have t:=t.int "MOST_NAMES_MADE" 2 532
 have t:=t.val "WORDS" (u:= .ref 286) (v:= .ref 286) rfl (aBx (ss:=["keeps 0","keeps 1","turned","rising","sum"]) rfl rfl rfl rfl (by decide) (by repeat (first | exact .nil | refine .cons ⟨_,rfl⟩ ?_)))
 have t:=t.exc "SwitchError" 0
 have t:=t.exc "NoSwitch" 1
 have t:=t.exc "NoName" 2
 have t:=t.exc "NoMove" 3
 have t:=t.exc "Unlike" 4
 have t:=t.exc "NoSums" 5
 have t:=t.exc "NoText" 6
 have t:=t.verr
 have t:=t.py .len
 have t:=t.py .range
 have t:=t.py .enum
 have t:=t.py .zip
 have t:=t.py .isin
 have t:=t.py .int
 have t:=t.py .bool
 have t:=t.py .tuple
 have t:=t.py .list
 have t:=t.py .sum
 have t:=t.py .all
 have t:=t.py .sorted
 have t:=t.py .max
 have t:=t.py .abs
 have t:=t.py .set
 have t:=t.add "is_whole" (top 11) 106 ["thing"] 1 iY rfl
 have t:=t.add "is_whole_below" (top 12) 113 ["thing","bound"] 2 aQ rfl
 have t:=t.add "are_whole_below" (top 13) 118 ["things","bound"] 2 bW rfl
 have t:=t.add "is_many" (top 14) 125 ["thing"] 1 fH rfl
 have t:=t.add "is_many_listed" (top 15) 132 ["thing"] 1 bP rfl
 have t:=t.add "is_row" (top 16) 139 ["thing","length","bound"] 3 fT rfl
 have t:=t.add "all_rows" (top 17) 146 ["length"] 1 fU rfl
 have t:=t.add "how_many_settings" (top 18) 153 ["many"] 1 aG rfl
 have t:=t.add "setting_at" (top 19) 158 ["many","number"] 2 dQ rfl
 have t:=t.add "number_of" (top 20) 163 ["setting"] 1 cM rfl
 have t:=t.add "all_settings" (top 21) 168 ["many"] 1 bY rfl
 have t:=t.add "how_many_ones" (top 22) 175 ["number"] 1 b8 rfl
 have t:=t.add "is_switch" (top 24) 182 ["thing"] 1 gM rfl
 have t:=t.add "check_switch" (top 25) 189 ["thing"] 1 aF rfl
 have t:=t.add "check_alike" (top 26) 196 ["one","other"] 2 cZ rfl
 have t:=t.add "check_many" (top 27) 203 ["thing"] 1 dR rfl
 have t:=t.add "check_name" (top 28) 210 ["many","thing"] 2 bH rfl
 have t:=t.add "check_worth" (top 29) 217 ["thing"] 1 eT rfl
 have t:=t.add "worth_at" (top 30) 224 ["switch","setting"] 2 mG rfl
 have t:=t.add "ones" (top 31) 229 ["switch"] 1 mH rfl
 have t:=t.add "of_ones" (top 32) 234 ["many","numbers"] 2 iD rfl
 have t:=t.add "single" (top 33) 239 ["many","name"] 2 nV rfl
 have t:=t.add "all_switches" (top 34) 244 ["many"] 1 bZ rfl
 have t:=t.addR "summed" (top 36) 249 ["numbers"] 1 uK 12 rfl
 have t:=t.add "sums" (top 37) 254 ["switch"] 1 uM rfl
 have t:=t.add "by_weights" (top 38) 261 ["switch"] 1 cT rfl
 have t:=t.add "sum_of_names" (top 39) 266 ["many","number","turn"] 3 dX rfl
 have t:=t.add "nearest" (top 40) 271 ["switch"] 1 kW rfl
 have t:=t.add "how_far" (top 41) 278 ["switch"] 1 kX rfl
 have t:=t.add "is_sum" (top 42) 285 ["switch"] 1 nW rfl
 have t:=t.add "check_switches" (top 46) 293 ["things"] 1 bQ rfl
 have t:=t.add "rising_above" (top 47) 298 ["switch"] 1 dY rfl
 have t:=t.add "turns_with_names" (top 48) 303 ["switch"] 1 b9 rfl
 have t:=t.add "classes" (top 49) 308 ["switch"] 1 eI rfl
 have t:=t.add "missing" (top 50) 313 ["some"] 1 fI rfl
 have t:=t.add "first_put_in" (top 51) 318 ["rests","other"] 2 cP rfl
 have t:=t.add "put_in" (top 52) 323 ["switch","others"] 2 jP rfl
 have t:=t.add "all_put_in" (top 53) 328 ["switch","many","parts"] 3 fJ rfl
 have t:=t.add "grown_by" (top 54) 335 ["some","many","made"] 3 fV rfl
 have t:=t.add "made_of" (top 55) 340 ["some","many"] 2 dG rfl
 have t:=t.add "is_order" (top 57) 347 ["many","thing"] 2 iZ rfl
 have t:=t.add "is_move" (top 58) 354 ["many","thing"] 2 kY rfl
 have t:=t.add "check_move" (top 59) 361 ["many","thing"] 2 fK rfl
 have t:=t.add "led" (top 60) 366 ["setting","move"] 2 aGq rfl
 have t:=t.add "moved" (top 61) 371 ["switch","move"] 2 kZ rfl
 have t:=t.add "all_orders" (top 62) 376 ["many"] 1 fL rfl
 have t:=t.add "all_moves" (top 63) 383 ["many"] 1 b4 rfl
 have t:=t.add "how_much" (top 65) 388 ["switch","name"] 2 i0 rfl
 have t:=t.add "needed" (top 66) 393 ["switch"] 1 iE rfl
 have t:=t.add "with_set" (top 67) 398 ["switch","name","one"] 3 i3 rfl
 have t:=t.add "put_together" (top 68) 405 ["low","high","name"] 3 dZ rfl
 have t:=t.add "exchanged" (top 69) 412 ["switch","one","other"] 3 eU rfl
 have t:=t.add "alike_to" (top 70) 417 ["switch","name"] 2 i5 rfl
 have t:=t.add "alike_names" (top 71) 422 ["switch"] 1 cD rfl
 have t:=t.add "check_listed" (top 73) 429 ["many"] 1 cQ rfl
 have t:=t.add "check_one" (top 74) 436 ["switch"] 1 gN rfl
 have t:=t.add "check_two" (top 75) 443 ["one","other"] 2 eV rfl
 have t:=t.add "all_led" (top 76) 448 ["switch"] 1 iF rfl
 have t:=t.add "kin_of" (top 77) 455 ["switch"] 1 iG rfl
 have t:=t.add "moves_to" (top 78) 460 ["one","other"] 2 dA rfl
 have t:=t.add "keepers" (top 79) 467 ["switch"] 1 fM rfl
 have t:=t.add "are_kin" (top 80) 474 ["one","other"] 2 qF rfl
 have t:=t.add "_law_cell" (top 82) 481 ["_law_script","_law_k"] 2 eJ rfl
 have t:=t.add "_law_pick" (top 83) 488 ["_law_script","_law_k","_law_many"] 3 aK rfl
 have t:=t.add "_law_setting" (top 85) 498 ["_law_many","_law_number_here"] 2 aR rfl
 have t:=t.add "_law_odd" (top 87) 508 ["_law_one","_law_other"] 2 eK rfl
 have t:=t.add "_law_switch" (top 84) 493 ["_law_script","_law_at","_law_many"] 3 cU rfl
 have t:=t.add "_law_word" (top 93) 542 ["_law_kept"] 1 i6 rfl
 have t:=t.addV "_law_do" (top 94) 549 ["_law_what","_law_one","_law_other","_law_third"] 4 bT rfl _ (.inl rfl)
 have tL:=t
 have t:=t.add "_law_lists" (top 95) 556 ["_law_one","_law_some"] 2 cN rfl
 have LK:=aBy (ps:=["_law_one","_law_some"]) (xm:="_law_made") (i:=2) (fs1:=qG) (fs2:=nX) (m:=1) tL.B tL.t (oN (x:="_law_lists") (st:=top 95) (f:=556) rfl (by kernel_rfl) (by kernel_rfl)) rfl (by kernel_rfl) rfl (by kernel_rfl) (by decide) (by kernel_rfl) (by kernel_rfl) (by decide) (by decide) (by kernel_rfl)
 have LB:gA (KK w) _ ["_law_one","_law_some"] []:=(oN (x:="_law_lists") (qual:="_law_lists") (st:=top 95) (f:=556) rfl (by kernel_rfl) (by kernel_rfl)).binds (show Bnd "_law_lists" (top 95) ["_law_one","_law_some"] by intro _ _ _ _ _ _ us hl;rcases us with _ | ⟨u0,_ | ⟨u1,_ | ⟨u2,us⟩⟩⟩<;>first | rfl | (simp at hl))
 have FB:=aGk (ps:=["_law_script"]) (g1:=lw1) (g2:=lw2) (g3:=lw3) (g:=lwR) (as:=[aB 2,aB 4]) (fs:=qG++nX) (n:=2) (m:=1) (it:=5) (ip:=7) (ie:=6) (NN:=13) (xl:="_law_lists") (xt:="_law_told") (xp:="_law_plain") (xe:="_law_each") t.B t.t (oN (x:="law") (st:=top 96) (f:=561) rfl (by kernel_rfl) (by kernel_rfl)) rfl (by kernel_rfl)
  (fun p=>by show(if 1000+p<1000 then _ else 1000+p - 1000)=p;rw [if_neg (by omega)];omega) (PySem.W.mg_of t.X t.G (n:="_law_lists") (v:= .ref 556) (by kernel_rfl)) (by kernel_rfl) ⟨_,_,LK,LB⟩ (by decide) (by kernel_rfl) (by decide) rfl (by kernel_rfl) (by kernel_rfl) (by kernel_rfl) (by kernel_rfl) (by kernel_rfl) rfl (by kernel_rfl) (by kernel_rfl) (by kernel_rfl) (by decide) (by decide) (by decide) (by kernel_rfl) (by kernel_rfl) (by kernel_rfl) (by kernel_rfl) (by kernel_rfl)
 exact aGj FB law_true
end SK.k70
open PySem PySem.W PyProof.Rows
set_option maxRecDepth 100000 in
set_option maxHeartbeats 0 in
theorem PySem.Challenge.cw_switchkinds_k70_whole_again_holds : PySem.Challenge.rw_switchkinds_k70_whole_again.Holds := by
 w_on
 refine PySem.W.holds_law zSd fun said=>?_
 refine PySem.W.holds_open (q:=SK.k70.kq) (loose:=[]) (Xt:=fun s=>PySem.W.xlAt SK.k70.kq [] s&&PySem.W.recOk (PySem.W.RowW.records (PySem.W.OpenRow.toRowW PySem.Challenge.rw_switchkinds_k70_whole_again.row)) s) (XP:=PySem.W.XL SK.k70.kq []) (Yf:=PySem.W.Hook.obs (PySem.W.kHook SK.k70.kK SK.k70.kas (fun _=>by kernel_rfl))) (Ya:=PySem.W.Hook.val (PySem.W.kHook SK.k70.kK SK.k70.kas (fun _=>by kernel_rfl))) (YP:=PySem.W.Hook.says (PySem.W.kHook SK.k70.kK SK.k70.kas (fun _=>by kernel_rfl))) (N:=7632) SK.k70.left (PySem.W.Hook.of (PySem.W.kHook SK.k70.kK SK.k70.kas (fun _=>by kernel_rfl))) (PySem.W.Hook.keeps (PySem.W.kHook SK.k70.kK SK.k70.kas (fun _=>by kernel_rfl))) (fun s e=>PySem.W.xl_of s (Bool.and_eq_true_iff.mp e).1) PySem.W.XL.keeps (by rfl) (by rfl) (by rfl) (fun s e=>PySem.W.recFacts_of (Bool.and_eq_true_iff.mp e).2) (by rfl) (by first | assumption | decide+kernel) (by decide+kernel) ⟨rfl,rfl,rfl,rfl,rfl,by decide+kernel⟩ ?hw ?hc
 (case hw=>w_witness2)
 refine SK.walk (l:=PySem.Challenge.rw_switchkinds_k70_whole_again) 82 rfl rfl ⟨rfl,by decide,by decide⟩ (fun w h Y=>PySem.W.kIn_of Y) ?F
 case F=>
  intro w mg fa h KX G hmg
  exact SK.k70.all_mk KX G hmg
