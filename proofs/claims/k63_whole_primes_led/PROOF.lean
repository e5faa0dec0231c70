import PyProof.Rows.All
import Wide.All
import OpenK.AllK
import Wide.FinOn
import Lean
import PyProof.EqAt
import PyProof.EqKinds
import PyProof.TupleCall
import PySem.Syntax
import PySem.Builtin.Int.W1All
import PySem.Eval
import PyProof.StrBlockL
import PyProof.StrBlock2
import PyProof.P3Eq
import PyProof.NeData
import PyProof.TupleKey
import PyProof.FactsAll.NoneType
import PyProof.DictDisplay
import PyProof.Rows.IntBool
import KE.KxIndex
import PyProof.FString5
import KE.KIntText
import PyProof.ExcArgs
import PyProof.RulesAs
import PyProof.RulesDel
import KE.KTryMore
import PyProof.StrCalls2
import PyProof.StrLawsOcc
import PyProof.FitsReplace
import PyProof.DictKinds
import PyProof.MeetsDict
import PyProof.DictList
import PyProof.ZipIter
import PyProof.EnumStmt
import PyProof.ListRange
import PyProof.TupleOfSeq
import PyProof.ConsumeS
import PyProof.Rows.MinMaxGenD
import PyProof.Rows.RuleM_int
import KE.KRevSl
import PyProof.SetNew
import PyProof.Rows.SetFrom
import KE.KSortTup
import PyProof.Rows.CallKwBuiltin
import PyProof.DictRoadsH
import PyProof.DictWalks
import KE.KUnpack
import KE.KLam
import KE.KSortAsk
import KE.KSortKey
import PySem.Challenge.RW_switchkinds_k63_whole_primes_led
open PySem renaming wpAny_bind->aa,wpAny_pure->ae
open PySem.Heap renaming get?_push_of_some->af,get?_push_size->ag,lt_size->ah,size_push->ai
open Nat renaming le_refl->aj,lt_of_lt_of_le->bf,ne_of_lt->bg,zero_le->bq
open List renaming replicate->ak,length_map->am,mem_map->ao,mem_cons->aq,size_toArray->av,getElem?_eq_some_iff->aw,getElem?_set_ne->az,getElem?_eq_getElem->ba,getElem?_set_self->bh,getElem?_append_right->bj,length_append->bn,length_cons->bo,mem_append_right->bp,getElem?_append_left->bt,getD_eq_getElem?_getD->bu
open Bool renaming and_eq_true->au,false_eq_true->ax,false_ne_true->bd
open False renaming elim->ay
theorem zBd {α β:Type} {o:Option α} {f:α->Option β} {b:β} (h:o.bind f=some b): ∃ a,o=some a/\f a=some b:=Option.bind_eq_some_iff.mp h
theorem zMd {α β:Type} {o:Option α} {f:α->β} {b:β} (h:o.map f=some b): ∃ a,o=some a/\f a=b:=Option.map_eq_some_iff.mp h
theorem zAd {α:Type} {l:List α} {p:α->Bool} (h:l.all p=true): ∀ x,x∈l->p x=true:=List.all_eq_true.mp h
theorem zPd {m n:Nat} (h:m<n):m∈List.range n:=List.mem_range.mpr h
theorem zRd {m n:Nat} (h:m∈List.range n):m<n:=List.mem_range.mp h
set_option Elab.async false
set_option linter.all false
set_option maxRecDepth 100000
namespace SK
open PySem PySem.W PyProof.Rows PySem.Calls
noncomputable def aL7 (tb:String->Option Builtin) (p:Program) (w:World) (m:Nat) (ann:Option Value) (n:Nat):SharedT->Thread->Option SharedT:=
 Nat.rec (fun _ _=>none) (fun _ ih s t=>match through t with
  | true=>some s
  | false=>match stepOk m ann t with
   | false=>none
   | true=>match stepT (denote tb) p w s t with
    | some r=>ih r.1 r.2
    | none=>none) n
theorem mX {tb:String->Option Builtin} {p:Program} {w:World} {m:Nat} {ann:Option Value}: ∀ (n:Nat) (s s':SharedT) (t:Thread),aL7 tb p w m ann n s t=some s'->topRun tb p w m ann n s.abs t=some s'.abs
 | 0,_,_,_,h=>nomatch h
 | n+1,s,s',t,h=>by
  have h:(match through t with
   | true=>some s
   | false=>match stepOk m ann t with
    | false=>none
    | true=>match stepT (denote tb) p w s t with
     | some r=>aL7 tb p w m ann n r.1 r.2
     | none=>none)=some s':=h
  unfold topRun
  cases ht:through t with
  | true=>rw [ht] at h;cases h;rfl
  | false=>
   rw [ht] at h
   cases hk:stepOk m ann t with
   | false=>rw [hk] at h;cases h
   | true=>
    rw [hk] at h
    cases hs:stepT (denote tb) p w s t with
    | none=>rw [hs] at h;cases h
    | some r=>obtain⟨s₂,t₂⟩:=r;rw [hs] at h;rw [stepT_spec hs];exact mX n _ _ _ h
noncomputable def BTl:Nat->List Obj->BT
 | 0,_=> .nil
 | n+1,l=>match l with
  | []=> .nil
  | v::r=> .node v (BTl n (ev true r)) (BTl n (ev false r))
where
 ev:Bool->List Obj->List Obj
 | _,[]=>[]
 | true,v::r=>v::ev false r
 | false,_::r=>ev true r
noncomputable def bt0 (P:Params):BT:=BTl 12 (boot_heap P).objs.toList
noncomputable def sT0 (P:Params) (os:OsState):SharedT:=⟨bt0 P,(boot_heap P).objs.size,(boot_heap P).life, #[],boot_drawn,boot_toks,os⟩
theorem aGm (P:Params):absHeap (bt0 P) (boot_heap P).objs.size (boot_heap P).life=boot_heap P:=by kernel_rfl
theorem aCq (P:Params):(boot_heap P).isNs mainGlobals=true:=by kernel_rfl
noncomputable def aCr (p q:Program) (loose:List Str) (Xt:Shared->Bool) {α:Type} (Yf:Shared->α) (P:Params) (s:Shared):=
 (staticsOk (importedModules p.main.body) (boot_heap P) s.heap&&namesBound p s.heap&&gensDone s&&laidKept (boot_heap P) s.heap,openSeen q loose (importedModules p.main.body) Xt true s,Yf s)
noncomputable def aO5 (p:Program) (N:Nat) (w:World) (os:OsState):Option SharedT:=aL7 treeTable p w (boot_heap w.params).objs.size ((boot_heap w.params).nsMap mainGlobals "__annotations__") N (sT0 w.params os) (topStub p)
theorem left_tree {p q:Program} {loose:List Str} {Xt:Shared->Bool} {α:Type} {Yf:Shared->α} {Ya:World->α} {N:Nat}
  (e:opening p=plainProg p.main.scope.names) (hN:Nat.ble 600 N=true) (f: ∀ s,fenceModules? p s=some s)
  (hk: ∀ w os,(aO5 p N w os).map (fun s=>aCr p q loose Xt Yf w.params s.abs)=some (true,openGood q loose,Ya w)):LeftO p q loose Xt Yf Ya N:=fun w=>by
 obtain⟨s0,b1,b2⟩:=zMd (boot_open e hN f w)
 obtain⟨h,gs,d,k,os⟩:=s0
 obtain⟨rfl,rfl,rfl,rfl⟩:h=boot_heap w.params/\gs=Array.mk []/\d=boot_drawn/\k=boot_toks:=by simpa using b2
 obtain⟨s,r,l⟩:=zMd (hk w os)
 obtain⟨l1,l2,l3⟩:_/\_/\_:=by simpa only [aCr,Prod.mk.injEq] using l
 have r':=mX _ _ _ _ r
 have h0:(sT0 w.params os).abs=⟨boot_heap w.params,Array.mk [],boot_drawn,boot_toks,os⟩:=by
  show(⟨absHeap (bt0 w.params) (boot_heap w.params).objs.size (boot_heap w.params).life, #[],boot_drawn,boot_toks,os⟩:Shared)=_
  rw [aGm]
 rw [h0] at r'
 have t:topFrom treeTable p w N ⟨boot_heap w.params,Array.mk [],boot_drawn,boot_toks,os⟩=some s.abs:=by
  unfold topFrom
  dsimp only
  rw [aCq,r']
  show(match staticsOk (importedModules p.main.body) (boot_heap w.params) s.abs.heap&&namesBound p s.abs.heap&&gensDone s.abs&&laidKept (boot_heap w.params) s.abs.heap with | true=>_ | false=>_)=_
  rw [l1]
 unfold openEnds
 rw [b1]
 show(topFrom treeTable p w N _).map _=_
 rw [t]
 exact congrArg some (Prod.ext l2 l3)
universe u
noncomputable def kt {α:Sort u} (_:α):Bool:=true
noncomputable def q1 (p q:Program) (lo:List Str) (N:Nat) (c:WRecords) (a:List Addr) (w:World) (os:OsState):=(aO5 p N w os).map fun s=>aCr p q lo (fun s=>xlAt q [] s&&recOk c s) (fun s=>a.map s.heap.get?) w.params s.abs
theorem tg:kt q1=true:=by k_qdec
end SK
set_option maxHeartbeats 0
namespace L2
open PySem
noncomputable def defArgs (s:Stmt):Arguments:=match s with
 | .FunctionDef _ a _ _ _ _ _ _ _ _=>a
 | _=>{ posonlyargs:=[],args:=[],vararg:=none,kwonlyargs:=[],kw_defaults:=[],kwarg:=none,defaults:=[] }
noncomputable def defBody (s:Stmt):List Stmt:=match s with
 | .FunctionDef _ _ b _ _ _ _ _ _ _=>b
 | _=>[]
noncomputable def defScope (s:Stmt):Scope:=match s with
 | .FunctionDef _ _ _ _ _ _ sc _ _ _=>sc
 | _=>{ kind:= .function,names:=[],isGenerator:=false,isCoroutine:=false }
end L2
namespace SK.k63
open PySem
noncomputable def top (i:Nat):Stmt:=PySem.Challenge.pw_switchkinds_k63_whole_primes_led.main.body.getD i (.Pass ⟨0,0,0,0⟩)
noncomputable abbrev en (P:Params) (k:Str) (t:Nat) (v:Value):DictEntry:=⟨PyData.keyHash P k, .str k t,v⟩
noncomputable abbrev fo (st:Stmt) (x m:Str) (t c:Nat):Obj:={ cls:= .type "function",data:= .func { name:=x,qualname:=x,params:=L2.defArgs st,body:= .stmts (L2.defBody st),scope:=L2.defScope st,globals:=3,closure:=[],defaults:= .none,kwdefaults:= .none,pyModule:= .str m t,code:= .ref c } }
noncomputable abbrev co (vs:Array Value):Obj:={ cls:= .type "code",data:= .fields vs }
noncomputable abbrev cC (x:Str) (a l n r e:Nat) (u v w:Value):Obj:=co #[.str x a, .str x (a+1), .str "/claim/cut.py" (a+2), .int l 0, .int n 0, .int 0 0, .int 0 0, .int 3 0, .ref r, .bool true, .int 181 0, .ref (r+1), .none,u,v,w, .int e 0, .int l 0, .str "/claim/cut.py" (e+1)]
noncomputable abbrev cA (x:Str) (a l n r e:Nat):Obj:=cC x a l n r e .none .none (.ref (r+2))
noncomputable abbrev cB (x:Str) (a l n r e:Nat):Obj:=cC x a l n r e (.ref (r+2)) (.ref (r+3)) (.ref (r+4))
noncomputable abbrev cK (x:Str) (f c ns s a b:Nat):Obj:={ cls:= .type "type",data:= .cls { name:=x,bases:=[.ref c],mro:=[.ref f, .ref c, .type "ValueError", .type "Exception", .type "BaseException", .type "object"],ns:=ns,qualname:=x },slots:= #[some (.ref s),none,some (.str x a),some (.str x b),some (.builtin "ValueError.__new__"),some (.bool true)] }
noncomputable abbrev dK (P:Params) (m:Str) (q a l r:Nat):Obj:={ cls:= .type "dict",data:= .dict #[en P "__module__" a (.str m q),en P "__firstlineno__" (a+4) (.int l (a+3)),en P "__static_attributes__" (a+5) (.ref r),en P "__doc__" (a+6) .none] 2 }
noncomputable def kK:Params->PySem.W.Frag:=fun P=>[
(3,{ cls:= .type "dict",data:= .dict #[en P "__name__" 165 (.str "law_switchkinds_k63_whole_primes_led" 589),en P "__doc__" 166 .none,en P "__package__" 167 .none,en P "__loader__" 168 (.builtin "__main__.__loader__#opaque"),en P "__spec__" 169 .none,en P "__annotations__" 170 (.ref 6),en P "__builtins__" 171 (.ref 4),en P "__file__" 173 (.str "/claim/cut.py" 172),en P "__cached__" 174 .none,en P "SwitchError" 206 (.ref 24),en P "NoSwitch" 222 (.ref 37),en P "NoName" 238 (.ref 49),en P "NoMove" 254 (.ref 61),en P "Unlike" 270 (.ref 73),en P "NoTerm" 286 (.ref 85),en P "MOST_NAMES" 290 (.int 4 289),en P "is_whole" 297 (.ref 94),en P "is_whole_below" 305 (.ref 101),en P "are_whole_below" 311 (.ref 106),en P "is_many" 318 (.ref 113),en P "is_row" 327 (.ref 120),en P "how_many_settings" 334 (.ref 127),en P "setting_at" 340 (.ref 132),en P "number_of" 346 (.ref 137),en P "all_settings" 352 (.ref 142),en P "how_many_ones" 359 (.ref 149),en P "is_switch" 368 (.ref 156),en P "check_switch" 375 (.ref 163),en P "check_alike" 383 (.ref 170),en P "check_name" 391 (.ref 177),en P "ones" 397 (.ref 182),en P "both" 403 (.ref 187),en P "PARTS" 408 (.ref 188),en P "is_part" 415 (.ref 195),en P "is_term" 421 (.ref 200),en P "check_term" 429 (.ref 207),en P "held_at" 435 (.ref 212),en P "all_terms" 441 (.ref 217),en P "widened" 447 (.ref 222),en P "primes" 453 (.ref 227),en P "essentials" 459 (.ref 232),en P "summed" 467 (.ref 237),en P "sums" 473 (.ref 242),en P "sum_of_names" 479 (.ref 247),en P "nearest" 485 (.ref 252),en P "how_far" 492 (.ref 259),en P "is_sum" 499 (.ref 266),en P "WORDS" 507 (.ref 267),en P "rising_above" 513 (.ref 272),en P "turns_with_names" 519 (.ref 277),en P "classes" 525 (.ref 282),en P "is_order" 535 (.ref 289),en P "is_move" 543 (.ref 296),en P "check_move" 551 (.ref 303),en P "led" 557 (.ref 308),en P "moved" 563 (.ref 313),en P "how_much" 571 (.ref 318),en P "needed" 577 (.ref 323),en P "exchanged" 588 (.ref 330),en P "_law_cell" 598 (.ref 337),en P "_law_pick" 608 (.ref 344),en P "_law_switch" 614 (.ref 349),en P "_law_setting" 620 (.ref 354),en P "_law_odd" 626 (.ref 359),en P "_law_names" 634 (.ref 366),en P "law" 640 (.ref 371)] 66 }),
(23,{ cls:= .type "dict",data:= .dict #[en P "__module__" 196 (.str "switchkinds.errors" 187),en P "__firstlineno__" 200 (.int 2 199),en P "__static_attributes__" 201 (.ref 22),en P "__weakref__" 203 (.ref 25),en P "__doc__" 204 .none] 3 }),
(24,{ cls:= .type "type",data:= .cls { name:="SwitchError",bases:=[.type "ValueError"],mro:=[.ref 24, .type "ValueError", .type "Exception", .type "BaseException", .type "object"],ns:=23,qualname:="SwitchError",subclasses:=[.ref 37, .ref 49, .ref 61, .ref 73, .ref 85] },slots:= #[some (.ref 15),none,some (.str "SwitchError" 189),some (.str "SwitchError" 197),some (.builtin "ValueError.__new__"),some (.bool true)] }),
(25,{ cls:= .type "getset_descriptor",data:= .fields #[.str "__weakref__" 202, .ref 24, .builtin "ExceptionGroup.__weakref__", .none] }),
(36,dK P "switchkinds.errors" 187 214 4 35),
(37,cK "NoSwitch" 37 24 36 28 207 215),
(48,dK P "switchkinds.errors" 187 230 6 47),
(49,cK "NoName" 49 24 48 40 223 231),
(60,dK P "switchkinds.errors" 187 246 8 59),
(61,cK "NoMove" 61 24 60 52 239 247),
(72,dK P "switchkinds.errors" 187 262 10 71),
(73,cK "Unlike" 73 24 72 64 255 263),
(84,dK P "switchkinds.errors" 187 278 12 83),
(85,cK "NoTerm" 85 24 84 76 271 279),
(93,cB "is_whole" 291 16 1 88 295),
(94,fo (top 9) "is_whole" "switchkinds.wholes" 287 93),
(100,cB "is_whole_below" 298 18 2 95 303),
(101,fo (top 10) "is_whole_below" "switchkinds.wholes" 287 100),
(105,cA "are_whole_below" 306 20 2 102 309),
(106,fo (top 11) "are_whole_below" "switchkinds.wholes" 287 105),
(112,cB "is_many" 312 22 1 107 316),
(113,fo (top 12) "is_many" "switchkinds.wholes" 287 112),
(119,cB "is_row" 319 24 3 114 325),
(120,fo (top 13) "is_row" "switchkinds.wholes" 287 119),
(126,cB "how_many_settings" 328 26 1 121 332),
(127,fo (top 14) "how_many_settings" "switchkinds.wholes" 287 126),
(131,cA "setting_at" 335 28 2 128 338),
(132,fo (top 15) "setting_at" "switchkinds.wholes" 287 131),
(136,cA "number_of" 341 30 1 133 344),
(137,fo (top 16) "number_of" "switchkinds.wholes" 287 136),
(141,cA "all_settings" 347 32 1 138 350),
(142,fo (top 17) "all_settings" "switchkinds.wholes" 287 141),
(148,cB "how_many_ones" 353 34 1 143 357),
(149,fo (top 18) "how_many_ones" "switchkinds.wholes" 287 148),
(155,cB "is_switch" 362 37 1 150 366),
(156,fo (top 20) "is_switch" "switchkinds.switches" 360 155),
(162,cB "check_switch" 369 41 1 157 373),
(163,fo (top 21) "check_switch" "switchkinds.switches" 360 162),
(169,cB "check_alike" 376 44 2 164 381),
(170,fo (top 22) "check_alike" "switchkinds.switches" 360 169),
(176,cB "check_name" 384 49 2 171 389),
(177,fo (top 23) "check_name" "switchkinds.switches" 360 176),
(181,cA "ones" 392 52 1 178 395),
(182,fo (top 24) "ones" "switchkinds.switches" 360 181),
(186,cA "both" 398 55 2 183 401),
(187,fo (top 25) "both" "switchkinds.switches" 360 186),
(188,{ cls:= .type "tuple",data:= .seq #[.int 0 406, .int 1 407, .none] 0 }),
(194,cB "is_part" 409 60 1 189 413),
(195,fo (top 28) "is_part" "switchkinds.terms" 404 194),
(199,cA "is_term" 416 62 2 196 419),
(200,fo (top 29) "is_term" "switchkinds.terms" 404 199),
(206,cB "check_term" 422 66 2 201 427),
(207,fo (top 30) "check_term" "switchkinds.terms" 404 206),
(211,cA "held_at" 430 69 1 208 433),
(212,fo (top 31) "held_at" "switchkinds.terms" 404 211),
(216,cA "all_terms" 436 79 1 213 439),
(217,fo (top 32) "all_terms" "switchkinds.terms" 404 216),
(221,cA "widened" 442 87 1 218 445),
(222,fo (top 33) "widened" "switchkinds.terms" 404 221),
(226,cA "primes" 448 89 1 223 451),
(227,fo (top 34) "primes" "switchkinds.terms" 404 226),
(231,cA "essentials" 454 96 1 228 457),
(232,fo (top 35) "essentials" "switchkinds.terms" 404 231),
(236,cA "summed" 462 104 1 233 465),
(237,fo (top 37) "summed" "switchkinds.sums" 460 236),
(241,cA "sums" 468 111 1 238 471),
(242,fo (top 38) "sums" "switchkinds.sums" 460 241),
(246,cA "sum_of_names" 474 114 3 243 477),
(247,fo (top 39) "sum_of_names" "switchkinds.sums" 460 246),
(251,cA "nearest" 480 117 1 248 483),
(252,fo (top 40) "nearest" "switchkinds.sums" 460 251),
(258,cB "how_far" 486 124 1 253 490),
(259,fo (top 41) "how_far" "switchkinds.sums" 460 258),
(265,cB "is_sum" 493 126 1 260 497),
(266,fo (top 42) "is_sum" "switchkinds.sums" 460 265),
(267,{ cls:= .type "tuple",data:= .seq #[.str "keeps 0" 502, .str "keeps 1" 503, .str "turned" 504, .str "rising" 505, .str "sum" 506] 0 }),
(271,cA "rising_above" 508 130 1 268 511),
(272,fo (top 45) "rising_above" "switchkinds.classes" 500 271),
(276,cA "turns_with_names" 514 137 1 273 517),
(277,fo (top 46) "turns_with_names" "switchkinds.classes" 500 276),
(281,cA "classes" 520 140 1 278 523),
(282,fo (top 47) "classes" "switchkinds.classes" 500 281),
(288,cB "is_order" 528 147 2 283 533),
(289,fo (top 49) "is_order" "switchkinds.moves" 526 288),
(295,cB "is_move" 536 149 2 290 541),
(296,fo (top 50) "is_move" "switchkinds.moves" 526 295),
(302,cB "check_move" 544 153 2 297 549),
(303,fo (top 51) "check_move" "switchkinds.moves" 526 302),
(307,cA "led" 552 156 2 304 555),
(308,fo (top 52) "led" "switchkinds.moves" 526 307),
(312,cA "moved" 558 158 2 309 561),
(313,fo (top 53) "moved" "switchkinds.moves" 526 312),
(317,cA "how_much" 566 165 2 314 569),
(318,fo (top 55) "how_much" "switchkinds.hanging" 564 317),
(322,cA "needed" 572 170 1 319 575),
(323,fo (top 56) "needed" "switchkinds.hanging" 564 322),
(329,cB "exchanged" 578 173 3 324 586),
(330,fo (top 57) "exchanged" "switchkinds.hanging" 564 329),
(336,cB "_law_cell" 591 183 2 331 596),
(337,fo (top 59) "_law_cell" "law_switchkinds_k63_whole_primes_led" 589 336),
(343,cB "_law_pick" 599 189 3 338 606),
(344,fo (top 60) "_law_pick" "law_switchkinds_k63_whole_primes_led" 589 343),
(348,cA "_law_switch" 609 192 3 345 612),
(349,fo (top 61) "_law_switch" "law_switchkinds_k63_whole_primes_led" 589 348),
(353,cA "_law_setting" 615 208 2 350 618),
(354,fo (top 62) "_law_setting" "law_switchkinds_k63_whole_primes_led" 589 353),
(358,cA "_law_odd" 621 210 2 355 624),
(359,fo (top 63) "_law_odd" "law_switchkinds_k63_whole_primes_led" 589 358),
(365,cB "_law_names" 627 212 2 360 632),
(366,fo (top 64) "_law_names" "law_switchkinds_k63_whole_primes_led" 589 365),
(370,cA "law" 635 214 1 367 638),
(371,fo (top 65) "law" "law_switchkinds_k63_whole_primes_led" 589 370)]
noncomputable def kas:List Addr:=[3,23,24,25,36,37,48,49,60,61,72,73,84,85,93,94,100,101,105,106,112,113,119,120,126,127,131,132,136,137,141,142,148,149,155,156,162,163,169,170,176,177,181,182,186,187,188,194,195,199,200,206,207,211,212,216,217,221,222,226,227,231,232,236,237,241,242,246,247,251,252,258,259,265,266,267,271,272,276,277,281,282,288,289,295,296,302,303,307,308,312,313,317,318,322,323,329,330,336,337,343,344,348,349,353,354,358,359,365,366,370,371]
noncomputable def kq:Program:={ PySem.Challenge.pw_switchkinds_k63_whole_primes_led with main:={ PySem.Challenge.pw_switchkinds_k63_whole_primes_led.main with body:=[top 1,top 2,top 3,top 4,top 5,top 6,top 8,top 9,top 10,top 11,top 12,top 13,top 14,top 15,top 16,top 17,top 18,top 20,top 21,top 22,top 23,top 24,top 25,top 27,top 28,top 29,top 30,top 31,top 32,top 33,top 34,top 35,top 37,top 38,top 39,top 40,top 41,top 42,top 44,top 45,top 46,top 47,top 49,top 50,top 51,top 52,top 53,top 55,top 56,top 57,top 59,top 60,top 61,top 62,top 63,top 64,top 65] } }
theorem sd:PySem.Challenge.rw_switchkinds_k63_whole_primes_led.wellSaid=true:=by kernel_rfl
theorem lk (w:World) (os:OsState):SK.q1 PySem.Challenge.rw_switchkinds_k63_whole_primes_led.row.prog kq [] 5520 (PySem.W.RowW.records (PySem.W.OpenRow.toRowW PySem.Challenge.rw_switchkinds_k63_whole_primes_led.row)) kas w os=some (true,PySem.W.openGood kq [],(kK w.params).map fun p=>some p.2):=by
 have _:=SK.tg
 rw [PySem.W.Fast.te11324695928718235439]
 kernel_rfl
theorem left:PySem.W.LeftO PySem.Challenge.rw_switchkinds_k63_whole_primes_led.row.prog kq [] (fun s=>PySem.W.xlAt kq [] s&&PySem.W.recOk (PySem.W.RowW.records (PySem.W.OpenRow.toRowW PySem.Challenge.rw_switchkinds_k63_whole_primes_led.row)) s) (PySem.W.Hook.obs (PySem.W.kHook kK kas (fun _=>by kernel_rfl))) (PySem.W.Hook.val (PySem.W.kHook kK kas (fun _=>by kernel_rfl))) 5520:=SK.left_tree (by kernel_rfl) (by kernel_rfl) (fun _=>by kernel_rfl) lk
end SK.k63
namespace L2
open PySem PySem.Spec PyProof.Rows
abbrev Key:=Sum Int Str
noncomputable def aGn:Key->Value->Bool
 | .inl k,v=>Value.isInt k v
 | .inr x,v=>Value.isStrOf x v
noncomputable def aP1 (w:World):Key->Int
 | .inl k=>hashInt k
 | .inr x=>hashStr w x
theorem bK: ∀ {k:Key} {v:Value},aGn k v=true->(∃ i t,k=Sum.inl i/\v=Value.int i t)\/(∃ x t,k=Sum.inr x/\v=Value.str x t)
 | .inl i,v,h=>by
  obtain⟨t,e⟩:=Value.isInt_shape (k:=i) (v:=v) h
  exact .inl ⟨i,t,rfl,e⟩
 | .inr x,v,h=>by
  obtain⟨t,e⟩:=Value.isStrOf_shape (x:=x) (v:=v) h
  exact .inr ⟨x,t,rfl,e⟩
theorem aGo (a b:Int):decide ((Sum.inl a:Key)=Sum.inl b)=(a==b):=by
 by_cases e:a=b
 ·subst e;simp
 ·have h: ¬ (Sum.inl a:Key)=Sum.inl b:=fun q=>e (Sum.inl.inj q)
  rw [decide_eq_false h]
  exact(beq_eq_false_iff_ne.mpr e).symm
theorem aGp (a b:Str):decide ((Sum.inr a:Key)=Sum.inr b)=decide (a=b):=by
 by_cases e:a=b
 ·subst e;simp
 ·have h: ¬ (Sum.inr a:Key)=Sum.inr b:=fun q=>e (Sum.inr.inj q)
  rw [decide_eq_false h,decide_eq_false e]
theorem aGq (a:Int) (b:Str):decide ((Sum.inl a:Key)=Sum.inr b)=false:=decide_eq_false (fun q=>nomatch q)
theorem aGr (a:Str) (b:Int):decide ((Sum.inr a:Key)=Sum.inl b)=false:=decide_eq_false (fun q=>nomatch q)
noncomputable def uH (prog:Program) (w:World):PySem.KeyKind prog w Key where
 is:=aGn
 hash:=aP1 w
 inj:=fun v a b ha hb=>by
  rcases bK ha with ⟨i,t,rfl,rfl⟩ | ⟨x,t,rfl,rfl⟩
  ·rcases bK hb with ⟨j,u,rfl,e⟩ | ⟨y,u,rfl,e⟩
   ·injection e with e1 _;rw [e1]
   ·exact nomatch e
  ·rcases bK hb with ⟨j,u,rfl,e⟩ | ⟨y,u,rfl,e⟩
   ·exact nomatch e
   ·injection e with e1 _;rw [e1]
 byValue:=fun k v h=>by
  rcases bK h with ⟨i,t,rfl,rfl⟩ | ⟨x,t,rfl,rfl⟩<;>rfl
 pyHash:=fun hv h=>by
  rcases bK hv with ⟨i,t,rfl,rfl⟩ | ⟨x,t,rfl,rfl⟩
  ·exact wpAny_pyHash_int h
  ·exact wpAny_pyHash_str h
 eqBool:=fun hu hv h=>by
  rcases bK hu with ⟨i,t,rfl,rfl⟩ | ⟨x,t,rfl,rfl⟩
  ·rcases bK hv with ⟨j,u,rfl,rfl⟩ | ⟨y,u,rfl,rfl⟩
   ·rw [aGo] at h;exact wpAny_eqBool_int h
   ·rw [aGq] at h;exact SeqAt.EqAt.int_str i t y u _ _ _ _ h
  ·rcases bK hv with ⟨j,u,rfl,rfl⟩ | ⟨y,u,rfl,rfl⟩
   ·rw [aGr] at h;exact SeqAt.EqAt.str_int x t j u _ _ _ _ h
   ·rw [aGp] at h;exact wpAny_eqBool_str h
 «strs»:=fun k x t v h=>by
  rcases bK h with ⟨i,u,rfl,e⟩ | ⟨y,u,rfl,e⟩
  ·exact nomatch e
  ·injection e with e1 _
   subst e1
   cases v<;>rfl
inductive V where
 | non | bl (b:Bool) | int (i:Int) | str (x:Str) | byt (b:Array UInt8) | flt (b:UInt64) | ref (a:Addr) | ty (n:String)
 deriving DecidableEq
noncomputable def bA:V->Value->Prop
 | .non,u=>u=Value.none
 | .bl b,u=>u=Value.bool b
 | .int i,u=> ∃ t,u=Value.int i t
 | .str x,u=> ∃ t,u=Value.str x t
 | .byt b,u=> ∃ t,u=Value.bytes b t
 | .flt b,u=> ∃ t,u=Value.float b t
 | .ref a,u=>u=Value.ref a
 | .ty n,u=>u=Value.type n
noncomputable abbrev bF:List V->List Value->Prop:=Paired bA
theorem bF.length {xs:List V} {us:List Value} (r:bF xs us):xs.length=us.length:=Paired.length r
theorem bF.get: ∀ {xs:List V} {us:List Value} {i:Nat} {x:V},bF xs us->xs[i]? =some x-> ∃ u,us[i]? =some u/\bA x u
 | _,_,_,_, .nil,e=>by simp at e
 | _,_,0,_, .cons r _,e=>by simp at e;subst e;exact⟨_,rfl,r⟩
 | _,_,i+1,x, .cons _ t,e=>by
  obtain⟨u,h1,h2⟩:=bF.get (i:=i) (x:=x) t (by simpa using e)
  exact⟨u,by simpa using h1,h2⟩
theorem bF.set {x:V} {u:Value} (r:bA x u): ∀ {xs:List V} {us:List Value} (i:Nat),bF xs us->bF (xs.set i x) (us.set i u)
 | _,_,_, .nil=> .nil
 | _,_,0, .cons _ t=> .cons r t
 | _,_,i+1, .cons q t=> .cons q (bF.set r i t)
theorem bF.append: ∀ {xs ys:List V} {us ws:List Value},bF xs us->bF ys ws->bF (xs++ys) (us++ws)
 | _,_,_,_, .nil,s=>s
 | _,_,_,_, .cons r t,s=> .cons r (bF.append t s)
theorem bF.take: ∀ {xs:List V} {us:List Value} (n:Nat),bF xs us->bF (xs.take n) (us.take n)
 | _,_,0,_=> .nil
 | _,_,_+1, .nil=> .nil
 | _,_,n+1, .cons r t=> .cons r (bF.take n t)
theorem bF.drop: ∀ {xs:List V} {us:List Value} (n:Nat),bF xs us->bF (xs.drop n) (us.drop n)
 | _,_,0,r=>r
 | _,_,_+1, .nil=> .nil
 | _,_,n+1, .cons _ t=>bF.drop n t
noncomputable def aO6:Option V->Option Value->Prop
 | some v,some u=>bA v u
 | none,none=>True
 | _,_=>False
noncomputable def KV {κ:Type}:List (κ×V)->List (κ×Value)->Prop:=Paired fun(p:κ×V) (q:κ×Value)=>p.1=q.1/\bA p.2 q.2
noncomputable def kV:Key->V
 | .inl i=> .int i
 | .inr x=> .str x
inductive HO where
 /-- a list -/
 | lst (xs:List V)
 /-- a tuple (never changes) -/
 | tup (xs:List V)
 /-- a dict whose keys are ints and texts;one whose keys are tuples of ints and texts (the empty one is both) -/
 | dK (kvs:List (Key×V)) | dT (kvs:List (List Key×V))
 /-- a set of ints:its members,its size -/
 | set (S:Int->Bool) (n:Nat)
 /-- an instance of the class at C,its dict at dx,its attributes -/
 | ins (C dx:Addr) (fs:List (Str×V))
 /-- the dict of the instance at x -/
 | own (x:Addr)
 /-- the dict of an exception -/
 | xd (fs:List (Str×V))
 /-- a bound method,f of x -/
 | met (f x:Addr)
 /-- a range object lo,lo+1, .. below hi -/
 | rng (lo hi:Int)
 /-- a thing that is known to the object (the script;a dict while a loop walks it):read,never written while it is so -/
 | frz (o:Obj) (u:HO)
 /-- a code object's table -/
 | tbl (ps:Array Value)
 /-- any other thing,by what is true of its one object (a def of one's own:SetO a S n:=HO.ext fun h=> ..) -/
 | ext (φ:Heap->Prop)
abbrev Hp:=Addr->Option HO
noncomputable def upd (H:Hp) (a:Addr) (o:HO):Hp:=fun b=>if b=a then some o else H b
theorem aN {H:Hp} {a:Addr} {o:HO}:upd H a o a=some o:=by unfold upd;rw [if_pos rfl]
theorem aI {H:Hp} {a b:Addr} {o:HO} (h:b≠a):upd H a o b=H b:=by unfold upd;rw [if_neg h]
theorem bB {H:Hp} {a b:Addr} {o:HO} (h:H a=some o) (h':H b=none):a≠b:=by
 intro e;subst e;rw [h] at h';cases h'
def aGs (h:Heap) (a:Addr):Prop:= ∃ o,h.get? a=some o/\o.dict=none
section
variable (P:Program) (w:World)
noncomputable def ObjOk (H:Hp) (h:Heap) (a:Addr):HO->Prop
 | .lst xs=>xs.length<=sizeLine/\ ∃ (its:List Value) (n:Nat),bF xs its/\h.get? a=some { cls:= .type "list",data:= .seq its.toArray n }
 | .tup xs=>xs.length<=sizeLine/\ ∃ its:List Value,bF xs its/\IsTup h a its.toArray/\aGs h a
 | .dK kvs=>kvs.length<=sizeLine/\(a==sysModules)=false/\ ∃ vs,KV kvs vs/\h.DictOf (uH P w) a vs
 | .dT kvs=>kvs.length<=sizeLine/\(a==sysModules)=false/\ ∃ xs:List (List Key×Addr×Value),
   Paired (fun(p:List Key×V) (q:List Key×Addr×Value)=>p.1=q.1/\H q.2.1=some (.tup (p.1.map kV))/\bA p.2 q.2.2) kvs xs/\
   ∃ o es ep,h.get? a=some o/\o.ExactDict/\o.data= .dict es ep/\es.toList=xs.map (entryOfKey (tupleKind (uH P w)))/\(xs.map (·.1)).Nodup
 | .set S n=>h.SetOf (intKind P w) a S n
 | .ins C dx fs=>H dx=some (.own a)/\fs.length<=1000/\dx≠a/\h.get? a=some (PySem.W.instObj C dx)/\
   ∃ mA,h.Ns1 dx mA/\(∀ f,aO6 (fs.lookup f) (mA f))/\PySem.Within mA (fs.map (·.1))
 | .own _=> ∃ o,h.get? a=some o
 | .xd fs=> ∃ mA,h.Ns1 a mA/\ ∀ f,aO6 (fs.lookup f) (mA f)
 | .rng lo hi=> ∃ t u v,h.get? a=some { cls:= .type "range",data:= .fields #[.int lo t, .int hi u, .int 1 v] }
 | .frz o u=>h.get? a=some o/\ObjOk H h a u
 | .tbl ps=>h.get? a=some { cls:= .none,data:= .fields ps }
 | .met f x=>h.get? a=some (PySem.W.methodObj (.ref f) (.ref x))
 | .ext φ=>φ h/\(∃ o,h.get? a=some o)/\ ∀ h1 h2:Heap,φ h1->(∀ o,h1.get? a=some o->h2.get? a=some o)->φ h2
def HOk (H:Hp) (h:Heap):Prop:= ∀ a o,H a=some o->ObjOk P w H h a o
end
section
variable {P:Program} {w:World} {H H':Hp} {h h':Heap} {a:Addr} {o:HO}
theorem ObjOk.lt (x:ObjOk P w H h a o):a<h.objs.size:=by
 cases o with
 | lst xs=>obtain⟨_,_,_,_,e⟩:=x;exact ah e
 | tup xs=>obtain⟨_,_,_,p,_⟩:=x;exact p.lt
 | dK kvs=>obtain⟨_,_,_,_,o,_,_,e,_⟩:=x;exact ah e
 | dT kvs=>obtain⟨_,_,_,_,o,_,_,e,_⟩:=x;exact ah e
 | set S n=>obtain⟨o,_,_,_,e,_⟩:=x;exact ah e
 | ins C dx fs=>obtain⟨_,_,_,e,_⟩:=x;exact ah e
 | own y=>obtain⟨_,e⟩:=x;exact ah e
 | xd fs=>obtain⟨_,⟨_,_,_,e,_⟩,_⟩:=x;exact ah e
 | rng lo hi=>obtain⟨_,_,_,e⟩:=x;exact ah e
 | frz ob u=>obtain⟨e,_⟩:=x;exact ah e
 | tbl ps=>exact ah (show h.get? a=some _ from x)
 | met f y=>exact ah (show h.get? a=some _ from x)
 | ext φ=>obtain⟨_,⟨_,e⟩,_⟩:=x;exact ah e
theorem Paired.mapP {α β:Type} {F G:α->β->Prop}: ∀ {l₁:List α} {l₂:List β},Paired F l₁ l₂->(∀ a b,F a b->G a b)->Paired G l₁ l₂
 | _,_, .nil,_=> .nil
 | _,_, .cons r t,f=> .cons (f _ _ r) (Paired.mapP t f)
theorem ObjOk.stay (x:ObjOk P w H h a o) (k: ∀ b u,(b=a\/H b=some (.own a))->h.get? b=some u->h'.get? b=some u)
  (ho: ∀ b,H b=some (.own a)->H' b=some (.own a)) (ht: ∀ b xs,H b=some (.tup xs)->H' b=some (.tup xs)):ObjOk P w H' h' a o:=by
 induction o with
 | lst xs=>obtain⟨z,its,n,r,e⟩:=x;exact⟨z,its,n,r,k _ _ (.inl rfl) e⟩
 | tup xs=>obtain⟨z,its,r,⟨ob,e,c⟩,od,e',d⟩:=x;exact⟨z,its,r,⟨ob,k _ _ (.inl rfl) e,c⟩,od,k _ _ (.inl rfl) e',d⟩
 | dK kvs=>obtain⟨z,y,vs,r,ob,es,ep,e,c⟩:=x;exact⟨z,y,vs,r,ob,es,ep,k _ _ (.inl rfl) e,c⟩
 | dT kvs=>
  obtain⟨z,y,xs,r,ob,es,ep,e,c⟩:=x
  exact⟨z,y,xs,Paired.mapP r fun p q z=>⟨z.1,ht _ _ z.2.1,z.2.2⟩,ob,es,ep,k _ _ (.inl rfl) e,c⟩
 | set S n=>obtain⟨ob,es,ep,t,e,c⟩:=x;exact⟨ob,es,ep,t,k _ _ (.inl rfl) e,c⟩
 | ins C dx fs=>
  obtain⟨d,z,ne,e,mA,⟨od,es,ep,e2,c⟩,r⟩:=x
  exact⟨ho _ d,z,ne,k _ _ (.inl rfl) e,mA,⟨od,es,ep,k _ _ (.inr d) e2,c⟩,r⟩
 | own y=>obtain⟨ob,e⟩:=x;exact⟨ob,k _ _ (.inl rfl) e⟩
 | xd fs=>obtain⟨mA,⟨od,es,ep,e,c⟩,r⟩:=x;exact⟨mA,⟨od,es,ep,k _ _ (.inl rfl) e,c⟩,r⟩
 | rng lo hi=>obtain⟨t,u,v,e⟩:=x;exact⟨t,u,v,k _ _ (.inl rfl) e⟩
 | frz ob u ih=>obtain⟨e,q⟩:=x;exact⟨k _ _ (.inl rfl) e,ih q⟩
 | tbl ps=>
  have e:h.get? a=some { cls:= .none,data:= .fields ps }:=x
  show h'.get? a=some { cls:= .none,data:= .fields ps }
  exact k a _ (.inl rfl) e
 | met f y=>
  have e:h.get? a=some (PySem.W.methodObj (.ref f) (.ref y)):=x
  show h'.get? a=some (PySem.W.methodObj (.ref f) (.ref y))
  exact k a _ (.inl rfl) e
 | ext φ=>obtain⟨p,⟨o,e⟩,st⟩:=x;exact⟨st _ _ p fun o q=>k _ _ (.inl rfl) q,⟨o,k _ _ (.inl rfl) e⟩,st⟩
theorem HOk.lt (x:HOk P w H h) (e:H a=some o):a<h.objs.size:=(x a o e).lt
theorem HOk.fresh (x:HOk P w H h) (e:h.objs.size<=a):H a=none:=by
 cases q:H a with
 | none=>rfl
 | some u=>exact absurd (bf (x.lt q) e) (Nat.lt_irrefl _)
theorem HOk.kept (x:HOk P w H h) (k: ∀ b u,h.get? b=some u->h'.get? b=some u):HOk P w H h':=fun a o e=>
 (x a o e).stay (fun b u _ q=>k b u q) (fun _ q=>q) fun _ _ q=>q
theorem HOk.laid (x:HOk P w H h) (k: ∀ b u,h.get? b=some u->h'.get? b=some u) (hp:h.objs.size<=a) (new:ObjOk P w (upd H a o) h' a o):HOk P w (upd H a o) h':=fun b u e=>by
 have hn:=x.fresh hp
 by_cases hb:b=a
 ·subst hb;rw [aN] at e;cases e;exact new
 ·rw [aI hb] at e
  exact(x b u e).stay (fun c v _ q=>k c v q) (fun c q=>by rw [aI (bB q hn)];exact q) fun c xs q=>by rw [aI (bB q hn)];exact q
end
def Rd (H:Hp) (a:Addr) (u:HO):Prop:=H a=some u\/ ∃ o,H a=some (.frz o u)
theorem Rd.ok {P:Program} {w:World} {H:Hp} {h:Heap} {a:Addr} {u:HO} (r:Rd H a u) (x:HOk P w H h):ObjOk P w H h a u:=by
 rcases r with r | ⟨o,r⟩
 ·exact x a u r
 ·obtain⟨_,q⟩:=x a _ r
  exact q
noncomputable def Mut:Option HO->Prop
 | some (.lst _)=>True
 | some (.dK _)=>True
 | some (.dT _)=>True
 | some (.set _ _)=>True
 | some (.ins _ _ _)=>True
 | some (.ext _)=>True
 | _=>False
section
variable {P:Program} {w:World} {H:Hp} {h h':Heap} {x e:Addr} {o':HO}
theorem HOk.write (ok:HOk P w H h) (mu:Mut (H x)) (he:e=x\/H e=some (.own x)) (k: ∀ b u,b≠e->h.get? b=some u->h'.get? b=some u) (heo: ∃ u,h'.get? e=some u)
  (new:ObjOk P w (upd H x o') h' x o'):HOk P w (upd H x o') h':=fun b u q=>by
 have nown: ∀ c y,H c=some (.own y)->c≠x:=fun c y r z=>by subst z;rw [r] at mu;exact mu
 have ntup: ∀ c xs,H c=some (.tup xs)->c≠x:=fun c xs r z=>by subst z;rw [r] at mu;exact mu
 by_cases hb:b=x
 ·subst hb;rw [aN] at q;cases q;exact new
 ·rw [aI hb] at q
  by_cases hbe:b=e
  ·have q':H b=some (.own x):=by
    rcases he with z | z
    ·exact absurd (hbe.trans z) hb
    ·rw [hbe];exact z
   rw [q] at q';cases q'
   obtain⟨v,hv⟩:=heo
   exact⟨v,by rw [hbe];exact hv⟩
  ·refine(ok b u q).stay (fun c v hc r=>k c v ?_ r) (fun c r=>by rw [aI (nown c b r)];exact r) fun c xs r=>by rw [aI (ntup c xs r)];exact r
   rcases hc with rfl | hc
   ·exact hbe
   ·rintro rfl
    rcases he with z | z
    ·exact nown c b hc z
    ·rw [hc] at z;cases z;exact hb rfl
end
structure Un (fs ex:List Addr) (H H':Hp) (h h':Heap):Prop where
 keep: ∀ b o,h.get? b=some o->H b=none->b∉fs->b∉ex->h'.get? b=some o
 slot: ∀ b o,h.get? b=some o->H b=none->b∈fs->b∉ex-> ∃ sl,h'.get? b=some { o with slots:=sl }
 free: ∀ b o,h.get? b=some o->H b=none->b∉ex->H' b=none
 there: ∀ b o,h.get? b=some o->b∉ex-> ∃ o',h'.get? b=some o'
 tups: ∀ b xs,H b=some (.tup xs)->H' b=some (.tup xs)
 frzs: ∀ b o u,H b=some (.frz o u)->H' b=some (.frz o u)
 tbls: ∀ b ps,H b=some (.tbl ps)-> ∃ more,H' b=some (.tbl (ps++more))
section
variable {fs fs' ex ex':List Addr} {H H1 H2:Hp} {h h1 h2 h':Heap} {a x e:Addr} {o:HO}
theorem Un.any (u:Un fs ex H H1 h h1) {b:Addr} {ob:Obj} (q:h.get? b=some ob) (n:H b=none) (hx:b∉ex): ∃ sl,h1.get? b=some { ob with slots:=sl }:=by
 by_cases hb:b∈fs
 ·exact u.slot b ob q n hb hx
 ·exact⟨ob.slots,u.keep b ob q n hb hx⟩
theorem Un.kept (k: ∀ b u,h.get? b=some u->h'.get? b=some u):Un fs ex H H h h':=
 ⟨fun b ob q _ _ _=>k b ob q,fun b ob q _ _ _=>⟨ob.slots,k b ob q⟩,fun _ _ _ n _=>n,fun b ob q _=>⟨ob,k b ob q⟩,fun _ _ q=>q,fun _ _ _ q=>q,fun _ ps q=>⟨#[],by rw [q];simp⟩⟩
theorem Un.refl:Un fs ex H H h h:=Un.kept fun _ _ q=>q
theorem Un.laid (k: ∀ b u,h.get? b=some u->h'.get? b=some u) (hp:h.objs.size<=a) (hn:H a=none):Un fs ex H (upd H a o) h h' where
 keep:=fun b u q _ _ _=>k b u q
 slot:=fun b u q _ _ _=>⟨u.slots,k b u q⟩
 free:=fun b u q n _=>by rw [aI (bg (bf (ah q) hp))];exact n
 there:=fun b u q _=>⟨u,k b u q⟩
 tups:=fun b xs q=>by rw [aI (bB q hn)];exact q
 frzs:=fun b u xs q=>by rw [aI (bB q hn)];exact q
 tbls:=fun b ps q=>⟨#[],by rw [aI (bB q hn),q];simp⟩
theorem Un.write (mu:Mut (H x)) (he:e=x\/H e=some (.own x)) (k: ∀ b u,b≠e->h.get? b=some u->h'.get? b=some u) (heo: ∃ u,h'.get? e=some u):Un fs ex H (upd H x o) h h':=by
 have hx: ∀ b,H b=none->b≠x:=fun b n z=>by subst z;rw [n] at mu;exact mu
 have hb: ∀ b,H b=none->b≠e:=fun b n z=>by
  subst z
  rcases he with r | r
  ·exact hx b n r
  ·rw [n] at r;cases r
 have hm: ∀ b u,H b=some u-> ¬ Mut (some u)->b≠x:=fun b u q nm z=>by subst z;rw [q] at mu;exact nm mu
 refine⟨fun b u q n _ _=>k b u (hb b n) q,fun b u q n _ _=>⟨u.slots,k b u (hb b n) q⟩,fun b u q n _=>by rw [aI (hx b n)];exact n,fun b u q _=> ?_,
  fun b xs q=>by rw [aI (hm b _ q fun z=>z)];exact q,fun b u xs q=>by rw [aI (hm b _ q fun z=>z)];exact q,fun b ps q=>⟨#[],by rw [aI (hm b _ q fun z=>z),q];simp⟩⟩
 by_cases hbe:b=e
 ·subst hbe;exact heo
 ·exact⟨u,k b u hbe q⟩
end
noncomputable def trk (h:Heap) (H:Hp):List Addr:=(List.range h.objs.size).filter fun a=>(H a).isSome
noncomputable def aGt (h:Heap) (H:Hp):Heap:=PySem.W.hideAll h (trk h H)
theorem uI (h:Heap) (H:Hp):(aGt h H).objs.size=h.objs.size:=PySem.W.hideAll_size _ _
theorem yK {h:Heap} {H:Hp} {b:Addr} {o:Obj} (e:h.get? b=some o) (n:H b=none):(aGt h H).get? b=some o:=
 PySem.W.hideAll_get _ e fun hm=>by
  have q:(H b).isSome=true:=(List.mem_filter.mp hm).2
  rw [n] at q;simp at q
theorem pE {h:Heap} {H:Hp} {b:Addr} {o:Obj} (e:(aGt h H).get? b=some o):h.get? b=some o/\H b=none:=by
 have e':h.get? b=some o:=PySem.W.of_hideAll (trk h H) e
 refine⟨e', ?_⟩
 cases q:H b with
 | none=>rfl
 | some x=>
  have hm:b∈trk h H:=List.mem_filter.mpr ⟨zPd (ah e'),by simp [q]⟩
  have z:(aGt h H).get? b=none:=PySem.W.hideAll_none (trk h H) hm
  rw [z] at e;cases e
noncomputable def aCs (g h:Heap) (L:Addr):List (Addr×Obj):=(List.range h.objs.size).filterMap fun a=>if a=L\/(g.get? a).isSome=true then none else(h.get? a).map fun o=>(a,o)
noncomputable def gO (g h:Heap) (L d:Addr):List (Addr×Obj):=(aCs g h L).filter fun p=>decide (p.1≠d)
structure Mod (K:PySem.W.Frag) (mg:Str->Option Value) (base:Heap):Prop where
 kin:K.In base
 glob:base.Ns mainGlobals mg
 blt: ∃ mb,base.Ns builtinsNs mb/\ ∀ x:Str,x≠"__name__"->mb x=bootBuiltins x
 nolimit:base.NoLimit
structure Cx where
 prog:Program
 w:World
 K:PySem.W.Frag
 mg:Str->Option Value
 base:Heap
 A:Around
 N:List Str
 s₀:Shared
 H₀:Hp
 env:Env
 outer:List Env
 stack:List Env
 ex:List Addr
 fn:Str->Bool
 calm:Bool
 pn:List (Addr×Obj)
 xe:Value->Shared->Prop
noncomputable def frs (l:List Env):List Addr:=l.filterMap (·.frame)
noncomputable abbrev Cx.fs (X:Cx):List Addr:=frs X.outer
def Vis (sc:Scope) (x:Str):Prop:=sc.names.lookup x=some .local\/sc.names.lookup x=some .cell\/sc.names.lookup x=some .free
def Loc (sc:Scope) (x:Str):Prop:=sc.names.lookup x=some .local\/sc.names.lookup x=some .cell
def aP2 (env:Env) (h:Heap) (m:Str->Option Value) (x:Str) (u:Value):Prop:=
 (env.kindOf x=some .local/\m x=some u)\/((env.kindOf x=some .cell\/env.kindOf x=some .free)/\ ∃ c,env.cells.lookup x=some c/\h.IsCell c (some u))
structure Cx.Ok (X:Cx):Prop where
 mod:Mod X.K X.mg X.base
 kind:X.env.scope.kind= .function
 glob:X.env.globals=mainGlobals
 blt:X.env.builtins=builtinsNs
 above:X.s₀.heap.objs.size<=X.env.locals
 inj: ∀ x y c,X.env.cells.lookup x=some c->X.env.cells.lookup y=some c->x=y
 has: ∀ x,(X.env.kindOf x=some .cell\/X.env.kindOf x=some .free)-> ∃ c,X.env.cells.lookup x=some c
 cab: ∀ x c,X.fn x=true->X.env.cells.lookup x=some c->X.s₀.heap.objs.size<=c
 hd:X.calm=true->X.A.handled=none
 frames:X.A.frames=some X.stack
 stk:X.stack=X.outer\/(X.stack=X.env::X.outer/\X.env.frame=some X.env.locals)
 exf: ∀ b∈X.ex,b≠X.env.locals/\ ∀ x c,X.env.cells.lookup x=some c->c≠b
 bs: ∀ b o,X.base.get? b=some o->X.s₀.heap.get? b=some o/\X.H₀ b=none
 bsz:X.base.objs.size<=X.s₀.heap.objs.size
 noex: ∀ b o,X.base.get? b=some o->b∉X.ex
 exfs: ∀ b∈X.ex,b∉X.fs
 funs:X.s₀.heap.FunFrames X.base X.outer
 frf: ∀ b∈X.fs,X.H₀ b=none
structure Inv (X:Cx) (pins:List (Addr×Obj)) (σ:List (Option V)) (H:Hp) (s:Shared):Prop where
 ok:X.Ok
 os:s.os=X.s₀.os
 bare:AllBare s.gens
 base:Un X.fs X.ex X.H₀ H X.s₀.heap s.heap
 loc: ∃ m,s.heap.Ns X.env.locals m/\ ∀ (i:Nat) (x:Str) (v:V),X.N[i]? =some x->σ[i]? =some (some v)->Vis X.env.scope x-> ∃ u,bA v u/\aP2 X.env s.heap m x u
 cell: ∀ x c,X.env.cells.lookup x=some c-> ∃ v,s.heap.IsCell c v
 free:H X.env.locals=none
 freeC: ∀ x c,X.env.cells.lookup x=some c->H c=none
 pin: ∀ p∈X.pn++pins,s.heap.get? p.1=some p.2/\H p.1=none/\p.1≠X.env.locals/\p.1∉X.fs/\ ∀ v,p.2.data≠ .cell v
 hok:HOk X.prog X.w H s.heap
 len:σ.length=X.N.length
section
variable {X:Cx} {pins:List (Addr×Obj)} {σ:List (Option V)} {H H':Hp} {s:Shared} {h':Heap}
theorem Cx.Ok.nofr (ok:X.Ok) {b:Addr} {o:Obj} (e:X.base.get? b=some o):b∉X.fs:=fun hb=>by
 have:=(ok.funs.mem hb).1
 rw [e] at this;cases this
theorem Inv.bs (I:Inv X pins σ H s): ∀ b o,X.base.get? b=some o->s.heap.get? b=some o/\H b=none:=fun b o e=>
 ⟨I.base.keep b o (I.ok.bs b o e).1 (I.ok.bs b o e).2 (I.ok.nofr e) (I.ok.noex b o e),I.base.free b o (I.ok.bs b o e).1 (I.ok.bs b o e).2 (I.ok.noex b o e)⟩
theorem Inv.bk (I:Inv X pins σ H s): ∀ b o,X.base.get? b=some o->s.heap.get? b=some o:=fun b o e=>(I.bs b o e).1
theorem Inv.mod (I:Inv X pins σ H s):Mod X.K X.mg X.base:=I.ok.mod
theorem Inv.kIn (I:Inv X pins σ H s):X.K.In s.heap:=I.ok.mod.kin.keeps I.bk
theorem Inv.lt (I:Inv X pins σ H s):X.env.locals<s.heap.objs.size:=let ⟨_,hn,_⟩:=I.loc;hn.lt
theorem Inv.sz (I:Inv X pins σ H s):X.s₀.heap.objs.size<=s.heap.objs.size:=Nat.le_trans I.ok.above (Nat.le_of_lt I.lt)
theorem Inv.nofs (I:Inv X pins σ H s) {a:Addr} (h:s.heap.objs.size<=a):a∉X.fs:=fun hb=>by
 obtain⟨_,o,ho,_⟩:=I.ok.funs.mem hb
 exact absurd (bf (ah ho) (Nat.le_trans I.sz h)) (Nat.lt_irrefl _)
theorem Inv.cne (I:Inv X pins σ H s): ∀ x c,X.env.cells.lookup x=some c->c≠X.env.locals:=fun x c e z=>by
 obtain⟨v,o,ho,hd⟩:=I.cell x c e
 obtain⟨m,⟨o',es,ep,ho',hd',_⟩,_⟩:=I.loc
 rw [z,ho'] at ho;cases ho;rw [hd'] at hd;cases hd
theorem Inv.funs (I:Inv X pins σ H s):s.heap.FunFrames X.base X.outer:=by
 have all: ∀ (l:List Env),(∀ b∈frs l,b∈X.fs)->X.s₀.heap.FunFrames X.base l->s.heap.FunFrames X.base l:=by
  intro l
  induction l with
  | nil=>intro _ _;trivial
  | cons env r ih=>
   intro hs hl
   obtain⟨hk,⟨L,o,hf,hn,ho,hd⟩,hr⟩:=hl
   have hL:L∈X.fs:=hs L (by unfold frs;rw [List.filterMap_cons,hf];exact List.mem_cons_self)
   obtain⟨sl,e⟩:=I.base.slot L o ho (I.ok.frf L hL) hL fun z=>I.ok.exfs L z hL
   exact⟨hk,⟨L,_,hf,hn,e,hd⟩,ih (fun b hb=>hs b (by unfold frs;rw [List.filterMap_cons,hf];exact List.mem_cons_of_mem _ hb)) hr⟩
 exact all X.outer (fun _ hb=>hb) I.ok.funs
theorem Inv.stack (I:Inv X pins σ H s):s.heap.FunFrames X.base X.stack:=by
 rcases I.ok.stk with e | ⟨e,hf⟩
 ·rw [e];exact I.funs
 ·rw [e]
  obtain⟨m,hn,_⟩:=I.loc
  refine .cons (by rw [I.ok.kind];decide) hf hn ?_ I.funs
  exact Heap.get?_none_of_le (Nat.le_trans I.ok.bsz I.ok.above)
theorem Inv.stkSub (I:Inv X pins σ H s): ∀ b∈frs X.stack,b∈X.env.locals::X.fs:=fun b hb=>by
 rcases I.ok.stk with e | ⟨e,hf⟩
 ·rw [e] at hb;exact List.mem_cons_of_mem _ hb
 ·rw [e] at hb
  unfold frs at hb
  rw [List.filterMap_cons,hf] at hb
  exact hb
theorem Inv.stkFree (I:Inv X pins σ H s): ∀ b∈frs X.stack,H b=none:=fun b hb=>by
 rcases aq.mp (I.stkSub b hb) with e | hb
 ·rw [e];exact I.free
 ·obtain⟨_,o,ho,_⟩:=I.ok.funs.mem hb
  exact I.base.free b o ho (I.ok.frf b hb) fun z=>I.ok.exfs b z hb
theorem Inv.step {g':Array GenState} {t':Nat} {d':Drawn} {ch:List Addr} (I:Inv X pins σ H s)
  (hch: ∀ b∈ch,(b∈X.ex\/X.s₀.heap.objs.size<=b)/\b≠X.env.locals/\(∀ x c,X.env.cells.lookup x=some c->c≠b)/\ ∀ p∈X.pn++pins,p.1≠b)
  (keep: ∀ b o,b≠X.env.locals->b∉X.fs->b∉ch->s.heap.get? b=some o->H b=none->h'.get? b=some o)
  (slot: ∀ b o,b≠X.env.locals->b∈X.fs->b∉ch->s.heap.get? b=some o->H b=none-> ∃ sl,h'.get? b=some { o with slots:=sl }) (free: ∀ b o,b∉ch->s.heap.get? b=some o->H b=none->H' b=none)
  (there: ∀ b o,b∉ch->s.heap.get? b=some o-> ∃ o',h'.get? b=some o')
  (tups: ∀ b xs,H b=some (.tup xs)->H' b=some (.tup xs)) (frzs: ∀ b o u,H b=some (.frz o u)->H' b=some (.frz o u)) (tbls: ∀ b ps,H b=some (.tbl ps)-> ∃ more,H' b=some (.tbl (ps++more)))
  (ns: ∀ m,s.heap.Ns X.env.locals m->h'.Ns X.env.locals m) (hok:HOk X.prog X.w H' h') (hg:AllBare g'):
  Inv X pins σ H' { s with heap:=h',gens:=g',drawn:=d',toks:=t' }:=by
 have neL: ∀ b o,X.s₀.heap.get? b=some o->b≠X.env.locals:=fun b o e=>bg (bf (ah e) I.ok.above)
 have neC: ∀ b o,X.s₀.heap.get? b=some o->b∉X.ex->b∉ch:=fun b o e hx hb=>by
  rcases(hch b hb).1 with z | z
  ·exact hx z
  ·exact absurd (bf (ah e) z) (Nat.lt_irrefl _)
 have cellK: ∀ x c,X.env.cells.lookup x=some c-> ∀ v,s.heap.IsCell c v->h'.IsCell c v:=fun x c e v ⟨o,ho,hd⟩=>by
  have nch:c∉ch:=fun z=>(hch c z).2.2.1 x c e rfl
  by_cases hc:c∈X.fs
  ·obtain⟨sl,q⟩:=slot c o (I.cne x c e) hc nch ho (I.freeC x c e)
   exact⟨_,q,hd⟩
  ·exact⟨o,keep c o (I.cne x c e) hc nch ho (I.freeC x c e),hd⟩
 refine⟨I.ok,I.os,hg,⟨fun b o e n hb hx=> ?_,fun b o e n hb hx=> ?_,fun b o e n hx=> ?_,fun b o e hx=> ?_,fun b xs e=>tups b xs (I.base.tups b xs e),fun b o xs e=>frzs b o xs (I.base.frzs b o xs e),fun b ps e=> ?_⟩, ?_,fun x c e=> ?_, ?_,fun x c e=> ?_,fun p hp=> ?_,hok,I.len⟩
 ·exact keep b o (neL b o e) hb (neC b o e hx) (I.base.keep b o e n hb hx) (I.base.free b o e n hx)
 ·obtain⟨sl,e1⟩:=I.base.slot b o e n hb hx
  obtain⟨sl',e2⟩:=slot b _ (neL b o e) hb (neC b o e hx) e1 (I.base.free b o e n hx)
  exact⟨sl',e2⟩
 ·obtain⟨o',e1⟩:=I.base.there b o e hx
  exact free b o' (neC b o e hx) e1 (I.base.free b o e n hx)
 ·obtain⟨o',e1⟩:=I.base.there b o e hx
  exact there b o' (neC b o e hx) e1
 ·obtain⟨m1,e1⟩:=I.base.tbls b ps e
  obtain⟨m2,e2⟩:=tbls b _ e1
  exact⟨m1++m2,by rw [e2,Array.append_assoc]⟩
 ·obtain⟨m,hn,hl⟩:=I.loc
  refine⟨m,ns m hn,fun i x v e1 e2 e3=> ?_⟩
  obtain⟨u,r,l⟩:=hl i x v e1 e2 e3
  refine⟨u,r, ?_⟩
  rcases l with l | ⟨k,c,e,z⟩
  ·exact .inl l
  ·exact .inr ⟨k,c,e,cellK x c e _ z⟩
 ·obtain⟨v,z⟩:=I.cell x c e
  exact⟨v,cellK x c e v z⟩
 ·obtain⟨m,⟨o,_,_,ho,_⟩,_⟩:=I.loc
  exact free _ o (fun z=>(hch _ z).2.1 rfl) ho I.free
 ·obtain⟨v,o,ho,hd⟩:=I.cell x c e
  exact free c o (fun z=>(hch c z).2.2.1 x c e rfl) ho (I.freeC x c e)
 ·obtain⟨e,n,ne,nf,d⟩:=I.pin p hp
  have nch:p.1∉ch:=fun z=>(hch p.1 z).2.2.2 p hp rfl
  exact⟨keep p.1 p.2 ne nf nch e n,free p.1 p.2 nch e n,ne,nf,d⟩
theorem Inv.un {t':Nat} (I:Inv X pins σ H s) (u:Un X.fs [] H H' s.heap h') (hok:HOk X.prog X.w H' h'):Inv X pins σ H' { s with heap:=h',toks:=t' }:=by
 obtain⟨m,⟨o,es,ep,ho,r⟩,_⟩:=id I.loc
 obtain⟨sl,hL⟩:=u.any ho I.free (by simp)
 exact I.step (g':=s.gens) (d':=s.drawn) (ch:=[]) (fun _ z=>nomatch z) (fun b o _ hb _ e n=>u.keep b o e n hb (by simp)) (fun b o _ hb _ e n=>u.slot b o e n hb (by simp)) (fun b o _ e n=>u.free b o e n (by simp)) (fun b o _ e=>u.there b o e (by simp)) u.tups u.frzs u.tbls (fun m' hm=>by
  obtain⟨o',es',ep',ho',r'⟩:=hm
  rw [ho] at ho';cases ho'
  exact⟨_,es',ep',hL,r'⟩) hok I.bare
theorem Inv.call {g':Array GenState} {t':Nat} {d':Drawn} {ch:List Addr} (I:Inv X pins σ H s) (u:Un (frs X.stack) ch H H' s.heap h') (hok:HOk X.prog X.w H' h') (hg:AllBare g')
  (hch: ∀ b∈ch,(b∈X.ex\/X.s₀.heap.objs.size<=b)/\b≠X.env.locals/\(∀ x c,X.env.cells.lookup x=some c->c≠b)/\ ∀ p∈X.pn++pins,p.1≠b):
  Inv X pins σ H' { s with heap:=h',gens:=g',drawn:=d',toks:=t' }:=by
 obtain⟨m,⟨o,es,ep,ho,r⟩,_⟩:=id I.loc
 obtain⟨sl,hL⟩:=u.any ho I.free fun z=>(hch _ z).2.1 rfl
 exact I.step (ch:=ch) hch (fun b o hL hb hc e n=>u.keep b o e n (fun z=>(aq.mp (I.stkSub b z)).elim hL hb) hc) (fun b o _ _ hc e n=>u.any e n hc) (fun b o hc e n=>u.free b o e n hc) (fun b o hc e=>u.there b o e hc) u.tups u.frzs u.tbls (fun m' hm=>by
  obtain⟨o',es',ep',ho',r'⟩:=hm
  rw [ho] at ho';cases ho'
  exact⟨_,es',ep',hL,r'⟩) hok hg
theorem Inv.turned {t':Nat} {it:Addr} (I:Inv X pins σ H s) (k: ∀ b o,b≠it->s.heap.get? b=some o->h'.get? b=some o) (hn:H it=none) (hL:it≠X.env.locals)
  (h1:it∈X.ex\/X.s₀.heap.objs.size<=it) (h2: ∀ x c,X.env.cells.lookup x=some c->c≠it) (h3: ∀ p∈X.pn++pins,p.1≠it):Inv X pins σ H { s with heap:=h',toks:=t' }:=by
 have nit: ∀ b u,H b=some u->b≠it:=fun b u e z=>by rw [z,hn] at e;cases e
 refine I.step (g':=s.gens) (d':=s.drawn) (ch:=[it]) (fun b hb=> ?_) (fun b o _ _ hc e _=>k b o (fun z=>hc (by simp [z])) e) (fun b o _ _ hc e _=>⟨o.slots,k b o (fun z=>hc (by simp [z])) e⟩) (fun _ _ _ _ n=>n)
  (fun b o hc e=>⟨o,k b o (fun z=>hc (by simp [z])) e⟩) (fun _ _ e=>e) (fun _ _ _ e=>e) (fun b ps e=>⟨#[],by rw [e];simp⟩) (fun m hm=> ?_) (fun b u e=> ?_) I.bare
 ·have e:b=it:=by simpa using hb
  subst e
  exact⟨h1,hL,h2,h3⟩
 ·obtain⟨o,es,ep,ho,r⟩:=hm
  exact⟨o,es,ep,k _ o (Ne.symm hL) ho,r⟩
 ·refine(I.hok b u e).stay (fun c v hc q=>k c v ?_ q) (fun _ q=>q) fun _ _ q=>q
  rcases hc with z | z
  ·rw [z];exact nit b u e
  ·exact nit c _ z
theorem Inv.tok (I:Inv X pins σ H s) (t:Nat):Inv X pins σ H { s with toks:=t }:=I.un (h':=s.heap) (t':=t) Un.refl I.hok
theorem Inv.kept {t':Nat} (I:Inv X pins σ H s) (k: ∀ b u,s.heap.get? b=some u->h'.get? b=some u):Inv X pins σ H { s with heap:=h',toks:=t' }:=I.un (Un.kept k) (I.hok.kept k)
theorem Inv.laid {a:Addr} {o:HO} {t':Nat} (I:Inv X pins σ H s) (k: ∀ b u,s.heap.get? b=some u->h'.get? b=some u) (hp:s.heap.objs.size<=a) (new:ObjOk X.prog X.w (upd H a o) h' a o):
  Inv X pins σ (upd H a o) { s with heap:=h',toks:=t' }:=I.un (Un.laid k hp (I.hok.fresh hp)) (I.hok.laid k hp new)
theorem Inv.write {x e:Addr} {o:HO} {t':Nat} (I:Inv X pins σ H s) (mu:Mut (H x)) (he:e=x\/H e=some (.own x)) (k: ∀ b u,b≠e->s.heap.get? b=some u->h'.get? b=some u) (heo: ∃ u,h'.get? e=some u)
  (new:ObjOk X.prog X.w (upd H x o) h' x o):Inv X pins σ (upd H x o) { s with heap:=h',toks:=t' }:=I.un (Un.write mu he k heo) (I.hok.write mu he k heo new)
theorem Inv.pins_of {pins':List (Addr×Obj)} (I:Inv X pins σ H s) (h: ∀ p∈pins',s.heap.get? p.1=some p.2/\H p.1=none/\p.1≠X.env.locals/\p.1∉X.fs/\ ∀ v,p.2.data≠ .cell v):Inv X pins' σ H s:=
 ⟨I.ok,I.os,I.bare,I.base,I.loc,I.cell,I.free,I.freeC,fun p hp=>(List.mem_append.mp hp).elim (fun z=>I.pin p (List.mem_append_left _ z)) (h p),I.hok,I.len⟩
theorem q8 {N:List Str} (hN:N.Nodup) {i j:Nat} {x:Str} (a:N[i]? =some x) (b:N[j]? =some x):i=j:=by
 obtain⟨h1,e1⟩:=aw.mp a
 obtain⟨h2,e2⟩:=aw.mp b
 exact(List.getElem_inj hN).mp (e1.trans e2.symm)
theorem mY {M:Model} {A:Around} {E:Value->Shared->Prop} {i:Nat} {x:Str} {v:V} {u:Value} {Q:Unit->Shared->Prop} (I:Inv X pins σ H s) (hN:X.N.Nodup) (hi:X.N[i]? =some x) (hx:Loc X.env.scope x) (r:bA v u)
  (h: ∀ s',Inv X pins (σ.set i (some v)) H s'->(∃ a,Heap.SameBut a s.heap s'.heap/\(a=X.env.locals\/X.env.cells.lookup x=some a))->Q () s') (hf:X.fn x=true\/X.env.scope.names.lookup x=some .local:=by first | exact .inl rfl | exact .inr rfl | assumption):wpAny M A (storeName X.env x u) Q E s:=by
 obtain⟨m,hn,hl⟩:=id I.loc
 have hcls:(X.env.scope.kind== .class||(X.env.scope.kind== .module&&X.env.locals != X.env.globals))=false:=by rw [I.ok.kind];rfl
 have hiσ:i<σ.length:=by rw [I.len];exact(aw.mp hi).1
 have cne:=I.cne
 have tracked: ∀ {a:Addr} {h':Heap},(∃ o,s.heap.get? a=some o/\H a=none)->Heap.SameBut a s.heap h'->HOk X.prog X.w H h':=fun {a h'} ha hs b ob e=>by
  obtain⟨_,_,hfree⟩:=ha
  refine(I.hok b ob e).stay (fun c w' hc q=>(hs.2 c ?_).trans q) (fun _ q=>q) fun _ _ q=>q
  rintro rfl
  rcases hc with rfl | hc
  ·rw [hfree] at e;cases e
  ·rw [hfree] at hc;cases hc
 rcases hx with hk | hk
 ·refine wpAny_storeName_local hk hn (fun h' hn' hs=> ?_) hcls
  obtain⟨oL,_,_,hoL,_⟩:=id hn
  refine h _ ⟨I.ok,I.os,I.bare,⟨fun b o e n hb hx=> ?_,fun b o e n hb hx=> ?_,I.base.free,fun b o e hx=> ?_,I.base.tups,I.base.frzs,I.base.tbls⟩,⟨_,hn',fun j y v' e1 e2 e3=> ?_⟩,fun y c e=> ?_,I.free,I.freeC,fun p hp=> ?_,tracked ⟨oL,hoL,I.free⟩ hs,by simpa using I.len⟩ ⟨_,hs, .inl rfl⟩
  ·exact(hs.2 b (bg (bf (ah e) I.ok.above))).trans (I.base.keep b o e n hb hx)
  ·obtain⟨sl,e1⟩:=I.base.slot b o e n hb hx
   exact⟨sl,(hs.2 b (bg (bf (ah e) I.ok.above))).trans e1⟩
  ·obtain⟨o',e1⟩:=I.base.there b o e hx
   exact⟨o',(hs.2 b (bg (bf (ah e) I.ok.above))).trans e1⟩
  ·by_cases hj:j=i
   ·subst hj
    rw [hi] at e1;cases e1
    rw [bh hiσ] at e2
    cases e2
    exact⟨u,r, .inl ⟨hk,by simp⟩⟩
   ·rw [az (Ne.symm hj)] at e2
    obtain⟨u',r',q⟩:=hl j y v' e1 e2 e3
    refine⟨u',r', ?_⟩
    rcases q with ⟨k,e⟩ | ⟨k,c,e,z⟩
    ·refine .inl ⟨k, ?_⟩
     have:y≠x:=fun e=>hj (q8 hN e1 (e▸hi))
     simp [this,e]
    ·exact .inr ⟨k,c,e,z.sameBut hs (cne y c e)⟩
  ·obtain⟨w',z⟩:=I.cell y c e
   exact⟨w',z.sameBut hs (cne y c e)⟩
  ·obtain⟨e,n,ne,nf,d⟩:=I.pin p hp
   exact⟨(hs.2 p.1 ne).trans e,n,ne,nf,d⟩
 ·have hfn:X.fn x=true:=by
   rcases hf with z | z
   ·exact z
   ·rw [z] at hk;cases hk
  obtain⟨c,hc⟩:=I.ok.has x (.inl hk)
  obtain⟨w',z⟩:=I.cell x c hc
  refine wpAny_storeName_cell I.ok.kind hk hc z (fun h' hc' hs=> ?_)
  obtain⟨oc,hoc,hocd⟩:=id z
  refine h { s with heap:=h' } ⟨I.ok,I.os,I.bare,⟨fun b o e n hb hx=> ?_,fun b o e n hb hx=> ?_,I.base.free,fun b o e hx=> ?_,I.base.tups,I.base.frzs,I.base.tbls⟩,⟨m,hn.sameBut hs (Ne.symm (cne x c hc)),fun j y v' e1 e2 e3=> ?_⟩,fun y c' e=> ?_,I.free,I.freeC,fun p hp=> ?_,tracked ⟨oc,hoc,I.freeC x c hc⟩ hs,by simpa using I.len⟩ ⟨c,hs, .inr hc⟩
  ·exact(hs.2 b (bg (bf (ah e) (I.ok.cab x c hfn hc)))).trans (I.base.keep b o e n hb hx)
  ·obtain⟨sl,e1⟩:=I.base.slot b o e n hb hx
   exact⟨sl,(hs.2 b (bg (bf (ah e) (I.ok.cab x c hfn hc)))).trans e1⟩
  ·obtain⟨o',e1⟩:=I.base.there b o e hx
   exact⟨o',(hs.2 b (bg (bf (ah e) (I.ok.cab x c hfn hc)))).trans e1⟩
  ·by_cases hj:j=i
   ·subst hj
    rw [hi] at e1;cases e1
    rw [bh hiσ] at e2
    cases e2
    exact⟨u,r, .inr ⟨.inl hk,c,hc,hc'⟩⟩
   ·rw [az (Ne.symm hj)] at e2
    obtain⟨u',r',q⟩:=hl j y v' e1 e2 e3
    refine⟨u',r', ?_⟩
    rcases q with q | ⟨k,c',e,z'⟩
    ·exact .inl q
    ·refine .inr ⟨k,c',e,z'.sameBut hs ?_⟩
     rintro rfl
     exact hj (q8 hN e1 (I.ok.inj _ _ _ e hc▸hi))
  ·by_cases hcc:c'=c
   ·subst hcc;exact⟨_,hc'⟩
   ·obtain⟨w2,z2⟩:=I.cell y c' e
    exact⟨w2,z2.sameBut hs hcc⟩
  ·obtain⟨e,n,ne,nf,d⟩:=I.pin p hp
   refine⟨(hs.2 p.1 ?_).trans e,n,ne,nf,d⟩
   intro q
   rw [q,hoc] at e
   have q':oc=p.2:=Option.some.inj e
   exact d w' (by rw [<-q'];exact hocd)
theorem gP {M:Model} {A:Around} {E:Value->Shared->Prop} {i:Nat} {x:Str} {v:V} {u:Value} {Q:Unit->Shared->Prop} (I:Inv X pins σ H s) (hN:X.N.Nodup) (hi:X.N[i]? =some x) (hx:Loc X.env.scope x) (r:bA v u)
  (h: ∀ s',Inv X pins (σ.set i (some v)) H s'->Q () s') (hf:X.fn x=true\/X.env.scope.names.lookup x=some .local:=by first | exact .inl rfl | exact .inr rfl | assumption):wpAny M A (storeName X.env x u) Q E s:=
 mY I hN hi hx r (fun s' I' _=>h s' I') hf
theorem Inv.call' {s':Shared} {ch:List Addr} (I:Inv X pins σ H s) (ho:s'.os=s.os) (u:Un (frs X.stack) ch H H' s.heap s'.heap) (hok:HOk X.prog X.w H' s'.heap) (hg:AllBare s'.gens)
  (hch: ∀ b∈ch,(b∈X.ex\/X.s₀.heap.objs.size<=b)/\b≠X.env.locals/\(∀ x c,X.env.cells.lookup x=some c->c≠b)/\ ∀ p∈X.pn++pins,p.1≠b):Inv X pins σ H' s':=by
 obtain⟨h',g',d',t',o'⟩:=s'
 have e:o'=s.os:=ho
 subst e
 exact I.call (g':=g') (t':=t') (d':=d') u hok hg hch
end
abbrev XK:=Value->Option Addr->Hp->Prop
abbrev St:=List (Option V)
abbrev VK:=V->Hp->Prop
abbrev TE:=St->Hp->VK->Prop
abbrev TT:=St->Hp->(Bool->Hp->Prop)->Prop
abbrev TA:=St->Hp->(List V->Hp->Prop)->Prop
structure Ends where
 nx:St->Hp->Prop
 rt:VK
 bk:St->Hp->Prop:=fun _ _=>False
 ct:St->Hp->Prop:=fun _ _=>False
abbrev TS:=Ends->St->Hp->Prop
def EP (X:Cx) (pins:List (Addr×Obj)) (σ:St) (Q:VK) (u:Value) (s':Shared):Prop:= ∃ v H',Inv X pins σ H' s'/\bA v u/\Q v H'
def TP (X:Cx) (pins:List (Addr×Obj)) (σ:St) (Q:Bool->Hp->Prop) (b:Bool) (s':Shared):Prop:= ∃ H',Inv X pins σ H' s'/\Q b H'
def AP (X:Cx) (pins:List (Addr×Obj)) (σ:St) (Q:List V->Hp->Prop) (us:List Value) (s':Shared):Prop:= ∃ vs H',Inv X pins σ H' s'/\bF vs us/\Q vs H'
def SP (X:Cx) (pins:List (Addr×Obj)) (D:Ends) (f:Flow) (s':Shared):Prop:=
 match f with
 | .next=> ∃ σ' H',Inv X pins σ' H' s'/\D.nx σ' H'
 | .brk=> ∃ σ' H',Inv X pins σ' H' s'/\D.bk σ' H'
 | .cont=> ∃ σ' H',Inv X pins σ' H' s'/\D.ct σ' H'
 | .ret u=> ∃ v σ' H',Inv X pins σ' H' s'/\bA v u/\D.rt v H'
def PE (X:Cx) (e:Expr) (t:TE):Prop:=
 ∀ (pins:List (Addr×Obj)) (s:Shared) (σ:St) (H:Hp) (Q:VK),Inv X pins σ H s->t σ H Q->wpAny (model X.prog X.w) X.A (eval e X.env) (EP X pins σ Q) X.xe s
def PT (X:Cx) (e:Expr) (t:TT):Prop:=
 ∀ (pins:List (Addr×Obj)) (s:Shared) (σ:St) (H:Hp) (Q:Bool->Hp->Prop),Inv X pins σ H s->t σ H Q->wpAny (model X.prog X.w) X.A (isTrue e X.env (eval e X.env)) (TP X pins σ Q) X.xe s
def PW (X:Cx) (e:Expr) (t:TT):Prop:=
 ∀ (whole:Sem Value) (pins:List (Addr×Obj)) (s:Shared) (σ:St) (H:Hp) (Q:Bool->Hp->Prop),Inv X pins σ H s->t σ H Q->wpAny (model X.prog X.w) X.A (isTrue e X.env whole) (TP X pins σ Q) X.xe s
def PA (X:Cx) (es:List Expr) (t:TA):Prop:=
 ∀ (pos:Pos) (pins:List (Addr×Obj)) (s:Shared) (σ:St) (H:Hp) (Q:List V->Hp->Prop),Inv X pins σ H s->t σ H Q->wpAny (model X.prog X.w) X.A (spliced (backTo pos (starEach es X.env))) (AP X pins σ Q) X.xe s
def PS (X:Cx) (st:Stmt) (t:TS):Prop:=
 ∀ (pins:List (Addr×Obj)) (s:Shared) (σ:St) (H:Hp) (D:Ends),Inv X pins σ H s->t D σ H->wpAny (model X.prog X.w) X.A (exec st X.env) (SP X pins D) X.xe s
def PSs (X:Cx) (st:List Stmt) (t:TS):Prop:=
 ∀ (pins:List (Addr×Obj)) (s:Shared) (σ:St) (H:Hp) (D:Ends),Inv X pins σ H s->t D σ H->wpAny (model X.prog X.w) X.A (execs st X.env) (SP X pins D) X.xe s
theorem thn {α:Type} {t:Sem α} {Q Q':α->Shared->Prop} {M:Model} {A:Around} {E:Value->Shared->Prop} {s:Shared} (h:wpAny M A t Q E s) (hQ: ∀ a s,Q a s->Q' a s):wpAny M A t Q' E s:=wpAny_mono h hQ fun _ _ x=>x
section
variable {X:Cx}
noncomputable def aP3 (i:Nat):TE:=fun σ H Q=> ∃ v,σ[i]? =some (some v)/\Q v H
noncomputable def tC (v:V):TE:=fun _ H Q=>Q v H
theorem eY {i:Nat} {x:Str} {pos:Pos} (hN:X.N[i]? =some x) (hv:Vis X.env.scope x) (hd:(x==("__debug__":Str))=false:=by decide) (hcd:(x==("__classdict__":Str))=false:=by decide):PE X (.Name x pos) (aP3 i):=by
 intro pins s σ H Q I h
 obtain⟨v,e,h⟩:=h
 obtain⟨m,hn,hl⟩:=I.loc
 obtain⟨u,r,l⟩:=hl i x v hN e hv
 have fin:EP X pins σ Q u s:=⟨v,H,I,r,h⟩
 rcases l with ⟨hk,hm⟩ | ⟨hk,c,hc,hcell⟩
 ·exact wpAny_Name (wpAny_loadName_local I.ok.kind hk hn hm fin) hd
 ·rcases hk with hk | hk
  ·exact wpAny_Name (wpAny_loadName_cell I.ok.kind hk hc hcell fin) hd
  ·exact wpAny_Name (wpAny_loadName_free I.ok.kind hk hc hcell fin hcd) hd
theorem aGu {i j pos}:PE X (.Constant (.int i) j pos) (tC (.int i)):=fun _ _ _ H _ I h=>wpAny_Constant_int ⟨.int i,H,I.tok _,⟨_,rfl⟩,h⟩
theorem aL8 {b j pos}:PE X (.Constant (.bool b) j pos) (tC (.bl b)):=fun _ _ _ H _ I h=>Constant_bool ⟨.bl b,H,I,rfl,h⟩
theorem aGv {j pos}:PE X (.Constant .none j pos) (tC .non):=fun _ _ _ H _ I h=>Constant_none ⟨.non,H,I,rfl,h⟩
theorem aGw {x j pos}:PE X (.Constant (.str x) j pos) (tC (.str x)):=fun _ _ _ H _ I h=>Calls.Constant_str ⟨.str x,H,I.tok _,⟨_,rfl⟩,h⟩
def Gl (X:Cx) (x:Str):Prop:=X.env.kindOf x=some .globalImplicit
theorem lY {E:Value->Shared->Prop} {pins:List (Addr×Obj)} {s:Shared} {σ:St} {H:Hp} {x:Str} {u:Value} {pos:Pos} {Q:Value->Shared->Prop} (I:Inv X pins σ H s) (hg:Gl X x) (hm:X.mg x=some u) (h:Q u s)
  (hd:(x==("__debug__":Str))=false:=by decide):wpAny (model X.prog X.w) X.A (eval (.Name x pos) X.env) Q E s:=
 Calls.Name_function_global I.ok.kind hg (Calls.loadGlobal_global (by rw [I.ok.glob];exact I.mod.glob.keeps I.bk) hm h) hd
theorem eG {E:Value->Shared->Prop} {pins:List (Addr×Obj)} {s:Shared} {σ:St} {H:Hp} {x:Str} {u:Value} {pos:Pos} {Q:Value->Shared->Prop} (I:Inv X pins σ H s) (hg:Gl X x) (hm:X.mg x=none) (hv:bootBuiltins x=some u) (h:Q u s)
  (hn:x≠"__name__":=by decide) (hd:(x==("__debug__":Str))=false:=by decide):wpAny (model X.prog X.w) X.A (eval (.Name x pos) X.env) Q E s:=by
 obtain⟨mb,h1,h2⟩:=I.mod.blt
 exact Calls.Name_function_global I.ok.kind hg (Calls.loadGlobal_builtin (by rw [I.ok.glob];exact I.mod.glob.keeps I.bk) hm (by rw [I.ok.blt];exact h1.keeps I.bk) ((h2 x hn).trans hv) h) hd
theorem aCt {x:Str} {v:V} {u:Value} {pos:Pos} (hg:Gl X x) (hm:X.mg x=some u) (r:bA v u) (hd:(x==("__debug__":Str))=false:=by decide):PE X (.Name x pos) (tC v):=
 fun _ _ _ H _ I h=>lY I hg hm ⟨v,H,I,r,h⟩ hd
variable {a b:Expr} {ta tb:TE} {pos:Pos}
noncomputable def tB (t:TE):TT:=fun σ H Q=>t σ H fun x H1=> ∃ c,x= .bl c/\Q c H1
theorem aGx {e:Expr} {t:TE} (h:PE X e t) (he: ∀ whole,isTrue e X.env whole=(do let v<-whole;standAt e.pos;holding [v] (truthy v)):=by intro _;rfl):PT X e (tB t):=by
 intro pins s σ H Q I hw
 refine isTrue_plain (thn (h pins s σ H _ I hw) fun v s1 ⟨x,H1,I1,r1,q1⟩=> ?_) (he _)
 obtain⟨d,rfl,q⟩:=q1
 cases r1
 exact wpAny_truthy_bool ⟨H1,I1,q⟩
variable {tA tB':TT} {gO:List Expr}
noncomputable def aO7 (t u:TT):TT:=fun σ H Q=>t σ H fun c H1=>if c=true then u σ H1 Q else Q false H1
noncomputable def tOr (t u:TT):TT:=fun σ H Q=>t σ H fun c H1=>if c=true then Q true H1 else u σ H1 Q
noncomputable def aO8 (t:TT):TT:=fun σ H Q=>t σ H fun c H1=>Q (!c) H1
theorem pw_and1 (ha:PT X a tA):PW X (.BoolOp .And [a] pos) tA:=by
 intro wh pins s σ H Q I h
 refine isTrue_and (thn (ha pins s σ H Q I h) fun c s1 e=> ?_)
 cases c with
 | true=>exact isTrue_and_nil e
 | false=>exact e
theorem pw_or1 (ha:PT X a tA):PW X (.BoolOp .Or [a] pos) tA:=by
 intro wh pins s σ H Q I h
 refine isTrue_or (thn (ha pins s σ H Q I h) fun c s1 e=> ?_)
 cases c with
 | false=>exact isTrue_or_nil e
 | true=>exact e
theorem pw_and (ha:PT X a tA) (hb:PW X (.BoolOp .And (b::gO) pos) tB'):PW X (.BoolOp .And (a::b::gO) pos) (aO7 tA tB'):=by
 intro wh pins s σ H Q I h
 refine isTrue_and (thn (ha pins s σ H _ I h) fun c s1 hz_=> ?_)
 obtain⟨H1,I1,q1⟩:=hz_
 cases c with
 | true=>exact hb wh pins s1 σ H1 Q I1 q1
 | false=>exact⟨H1,I1,q1⟩
theorem pw_or (ha:PT X a tA) (hb:PW X (.BoolOp .Or (b::gO) pos) tB'):PW X (.BoolOp .Or (a::b::gO) pos) (tOr tA tB'):=by
 intro wh pins s σ H Q I h
 refine isTrue_or (thn (ha pins s σ H _ I h) fun c s1 hz_=> ?_)
 obtain⟨H1,I1,q1⟩:=hz_
 cases c with
 | true=>exact⟨H1,I1,q1⟩
 | false=>exact hb wh pins s1 σ H1 Q I1 q1
theorem aGy (ha:PT X a tA):PT X (.UnaryOp .Not a pos) (aO8 tA):=by
 intro pins s σ H Q I h
 exact isTrue_not (ha pins s σ H (fun c H1=>Q (!c) H1) I h)
noncomputable def aGz (ta tb:TE):TE:=fun σ H Q=>ta σ H fun x H1=> ∃ c,x= .bl c/\if c=true then tb σ H1 Q else Q (.bl false) H1
noncomputable def aO9 (ta tb:TE):TE:=fun σ H Q=>ta σ H fun x H1=> ∃ c,x= .bl c/\if c=true then Q (.bl true) H1 else tb σ H1 Q
noncomputable def aL9 (ta:TE):TE:=fun σ H Q=>ta σ H fun x H1=> ∃ c,x= .bl c/\Q (.bl (!c)) H1
theorem aG0 {op} {t:TE} (h:PE X a t):PE X (.BoolOp op [a] pos) t:=fun pins s σ H Q I hw=>BoolOp_one (h pins s σ H Q I hw)
theorem aG1 (ha:PE X a ta) (hb:PE X (.BoolOp .And (b::gO) pos) tb):PE X (.BoolOp .And (a::b::gO) pos) (aGz ta tb):=by
 intro pins s σ H Q I h
 refine BoolOp_and (thn (ha pins s σ H _ I h) fun v s1 hz_=> ?_)
 obtain⟨x,H1,I1,r1,q1⟩:=hz_
 obtain⟨c,rfl,q1⟩:=q1
 cases r1
 refine wpAny_truthy_bool ?_
 cases c with
 | true=>exact hb pins s1 σ H1 Q I1 q1
 | false=>exact⟨.bl false,H1,I1,rfl,q1⟩
theorem aMa (ha:PE X a ta) (hb:PE X (.BoolOp .Or (b::gO) pos) tb):PE X (.BoolOp .Or (a::b::gO) pos) (aO9 ta tb):=by
 intro pins s σ H Q I h
 refine BoolOp_or (thn (ha pins s σ H _ I h) fun v s1 hz_=> ?_)
 obtain⟨x,H1,I1,r1,q1⟩:=hz_
 obtain⟨c,rfl,q1⟩:=q1
 cases r1
 refine wpAny_truthy_bool ?_
 cases c with
 | false=>exact hb pins s1 σ H1 Q I1 q1
 | true=>exact⟨.bl true,H1,I1,rfl,q1⟩
theorem aG2 (ha:PE X a ta):PE X (.UnaryOp .Not a pos) (aL9 ta):=by
 intro pins s σ H Q I h
 refine UnaryOp_ (thn (ha pins s σ H _ I h) fun v s1 hz_=> ?_)
 obtain⟨x,H1,I1,r1,q1⟩:=hz_
 obtain⟨c,rfl,q1⟩:=q1
 cases r1
 exact not_of (wpAny_truthy_bool ⟨.bl (!c),H1,I1,rfl,q1⟩)
noncomputable def tIf (t:TT) (ta tb:TE):TE:=fun σ H Q=>t σ H fun c H1=>if c=true then ta σ H1 Q else tb σ H1 Q
theorem yL {c:Expr} (hc:PT X c tA) (ha:PE X a ta) (hb:PE X b tb):PE X (.IfExp c a b pos) (tIf tA ta tb):=by
 intro pins s σ H Q I h
 refine wpAny_IfExp (thn (hc pins s σ H _ I h) fun d s1 hz_=> ?_)
 obtain⟨H1,I1,q1⟩:=hz_
 cases d with
 | true=>exact ha pins s1 σ H1 Q I1 q1
 | false=>exact hb pins s1 σ H1 Q I1 q1
end
def SqL (K:PySem.W.Frag) (H:Hp) (a:Addr) (xs:List V):Prop:=
 Rd H a (.lst xs)\/
  ∃ (o:Obj) (its:Array Value) (n:Nat),K.lookup a=some o/\o.cls= .type "list"/\o.dict=none/\o.data= .seq its n/\its.size<=sizeLine/\bF xs its.toList
def SqT (K:PySem.W.Frag) (H:Hp) (a:Addr) (xs:List V):Prop:=
 Rd H a (.tup xs)\/
  ∃ (o:Obj) (its:Array Value) (n:Nat),K.lookup a=some o/\o.cls= .type "tuple"/\o.dict=none/\o.data= .seq its n/\its.size<=sizeLine/\bF xs its.toList
noncomputable def aP4:Value->Option V
 | .none=>some .non
 | .bool b=>some (.bl b)
 | .int i _=>some (.int i)
 | .str x _=>some (.str x)
 | .bytes b _=>some (.byt b)
 | .float b _=>some (.flt b)
 | .ref a=>some (.ref a)
 | .type n=>some (.ty n)
 | _=>none
theorem bA.abs {x:V} {u:Value} (r:bA x u):aP4 u=some x:=by
 cases x with
 | non=>cases r;rfl
 | bl _=>cases r;rfl
 | int _=>obtain⟨t,rfl⟩:=r;rfl
 | str _=>obtain⟨t,rfl⟩:=r;rfl
 | byt _=>obtain⟨t,rfl⟩:=r;rfl
 | flt _=>obtain⟨t,rfl⟩:=r;rfl
 | ref _=>cases r;rfl
 | ty _=>cases r;rfl
theorem bA.inj {x y:V} {u:Value} (r:bA x u) (q:bA y u):x=y:=Option.some.inj (r.abs.symm.trans q.abs)
theorem bF.inj: ∀ {xs ys:List V} {us:List Value},bF xs us->bF ys us->xs=ys
 | _,_,_, .nil, .nil=>rfl
 | _,_,_, .cons r t, .cons r' t'=>by rw [r.inj r',bF.inj t t']
section
variable {X:Cx} {pins:List (Addr×Obj)} {σ:St} {H:Hp} {s:Shared} {a:Addr} {xs ys:List V}
theorem SqL.of {K:PySem.W.Frag} (h:H a=some (.lst xs)):SqL K H a xs:= .inl (.inl h)
theorem SqT.of {K:PySem.W.Frag} (h:H a=some (.tup xs)):SqT K H a xs:= .inl (.inl h)
theorem Inv.list (I:Inv X pins σ H s) (h:SqL X.K H a xs): ∃ its:List Value,bF xs its/\PlainL s.heap a its.toArray/\xs.length<=sizeLine:=by
 rcases h with h | ⟨o,its,n,hk,hc,hd,hs,hz,r⟩
 ·obtain⟨z,its,n,r,e⟩:=h.ok I.hok
  exact⟨its,r,⟨_,n,e,rfl,rfl,rfl⟩,z⟩
 ·refine⟨its.toList,r,⟨o,n,I.kIn a o hk,hc,hd,by simpa using hs⟩, ?_⟩
  have e:=r.length
  simp only [Array.length_toList] at e
  omega
theorem Inv.tuple (I:Inv X pins σ H s) (h:SqT X.K H a xs): ∃ its:List Value,bF xs its/\IsTup s.heap a its.toArray/\xs.length<=sizeLine:=by
 rcases h with h | ⟨o,its,n,hk,hc,_,hs,hz,r⟩
 ·obtain⟨z,its,r,p,_⟩:=h.ok I.hok
  exact⟨its,r,p,z⟩
 ·refine⟨its.toList,r,⟨o,I.kIn a o hk,hc,n,by simpa using hs⟩, ?_⟩
  have e:=r.length
  simp only [Array.length_toList] at e
  omega
theorem Inv.list_inj (I:Inv X pins σ H s) (h:SqL X.K H a xs) (h':SqL X.K H a ys):xs=ys:=by
 obtain⟨its,r,⟨o,n,e,_,_,d⟩,_⟩:=I.list h
 obtain⟨its',r',⟨o',n',e',_,_,d'⟩,_⟩:=I.list h'
 rw [e] at e';cases e'
 rw [d] at d'
 injection d' with d1 _
 have:its=its':=by simpa using congrArg Array.toList d1
 subst this
 exact r.inj r'
theorem Inv.tuple_inj (I:Inv X pins σ H s) (h:SqT X.K H a xs) (h':SqT X.K H a ys):xs=ys:=by
 obtain⟨its,r,⟨o,e,_,n,d⟩,_⟩:=I.tuple h
 obtain⟨its',r',⟨o',e',_,n',d'⟩,_⟩:=I.tuple h'
 rw [e] at e';cases e'
 rw [d] at d'
 injection d' with d1 _
 have:its=its':=by simpa using congrArg Array.toList d1
 subst this
 exact r.inj r'
end
noncomputable abbrev Cx.wish (X:Cx) (E:Value->Shared->Prop):Cx:={ X with xe:=E }
section
variable {X:Cx} {pins:List (Addr×Obj)} {σ:St} {H:Hp} {s:Shared} {E:Value->Shared->Prop}
end
section
variable {X:Cx} {st:Stmt} {gO:List Stmt} {t u:TS} {e:Expr} {te:TE} {pos:Pos}
noncomputable def aG3:TS:=fun D σ H=>D.nx σ H
noncomputable def aPa (t u:TS):TS:=fun D σ H=>t { D with nx:=u D } σ H
theorem aCu:PSs X [] aG3:=fun _ _ σ H _ I h=>wpAny_execs_nil ⟨σ,H,I,h⟩
theorem yM (h1:PS X st t) (h2:PSs X gO u):PSs X (st::gO) (aPa t u):=by
 intro pins s σ H D I h
 refine wpAny_execs_cons (thn (h1 pins s σ H { D with nx:=u D } I h) fun f s1 q=> ?_)
 cases f with
 | next=>
  obtain⟨σ',H',I',q⟩:=q
  exact h2 pins s1 σ' H' D I' q
 | ret v=>exact q
 | brk=>exact q
 | cont=>exact q
theorem aCv (h1:PS X st t):PSs X [st] t:=by
 intro pins s σ H D I h
 refine wpAny_execs_cons (thn (h1 pins s σ H D I h) fun f s1 q=> ?_)
 cases f with
 | next=>exact wpAny_execs_nil q
 | ret v=>exact q
 | brk=>exact q
 | cont=>exact q
noncomputable def aG4:TS:=fun D σ H=>D.bk σ H
noncomputable def aMb:TS:=fun D σ H=>D.ct σ H
theorem aCw:PS X (.Pass pos) aG3:=fun _ _ σ H _ I h=>wpAny_Pass ⟨σ,H,I,h⟩
theorem yN:PS X (.Break pos) aG4:=fun _ _ σ H _ I h=>wpAny_Break ⟨σ,H,I,h⟩
theorem pF:PS X (.Continue pos) aMb:=fun _ _ σ H _ I h=>wpAny_Continue ⟨σ,H,I,h⟩
theorem Inv.quiet {pins:List (Addr×Obj)} {σ:St} {H:Hp} {s:Shared} (I:Inv X pins σ H s):interactive X.env=false:=by simp [interactive,I.ok.kind]
noncomputable def aMc (te:TE):TS:=fun D σ H=>te σ H fun _ H1=>D.nx σ H1
theorem pG (he:PE X e te) (hs:swapsWith e none pos.line X.env=pure false:=by rfl):PS X (.Expr e pos) (aMc te):=by
 intro pins s σ H D I h
 exact wpAny_Expr_any (thn (he pins s σ H _ I h) fun v s1 ⟨x,H1,I1,r1,q1⟩=>⟨σ,H1,I1,q1⟩) I.quiet hs
noncomputable def aP5 (te:TE):TS:=fun D σ H=>te σ H D.rt
theorem aBc (he:PE X e te):PS X (.Return (some e) pos) (aP5 te):=by
 intro pins s σ H D I h
 exact wpAny_Return_some (thn (he pins s σ H _ I h) fun v s1 ⟨x,H1,I1,r1,q1⟩=>⟨x,σ,H1,I1,r1,q1⟩)
noncomputable def aMd:TS:=fun D _ H=>D.rt .non H
theorem aCx:PS X (.Return none pos) aMd:=fun _ _ σ H _ I h=>wpAny_Return_none ⟨.non,σ,H,I,rfl,h⟩
noncomputable def aMe (c:TT) (t u:TS):TS:=fun D σ H=>c σ H fun b H1=>if b=true then t D σ H1 else u D σ H1
theorem aMf {c:Expr} {a b:List Stmt} {tc:TT} (hc:PT X c tc) (ha:PSs X a t) (hb:PSs X b u):PS X (.If c a b pos) (aMe tc t u):=by
 intro pins s σ H D I h
 refine wpAny_If (thn (hc pins s σ H _ I h) fun d s1 hz_=> ?_)
 obtain⟨H1,I1,q1⟩:=hz_
 cases d with
 | true=>exact ha pins s1 σ H1 D I1 q1
 | false=>exact hb pins s1 σ H1 D I1 q1
end
abbrev TG:=V->St->Hp->(St->Hp->Prop)->Prop
abbrev TGs:=List V->St->Hp->(St->Hp->Prop)->Prop
def PG (X:Cx) (target:Expr) (t:TG):Prop:=
 ∀ (pins:List (Addr×Obj)) (s:Shared) (σ:St) (H:Hp) (v:V) (u:Value) (Q:St->Hp->Prop),Inv X pins σ H s->bA v u->t v σ H Q->
  wpAny (model X.prog X.w) X.A (assign target X.env u) (fun _ s'=> ∃ σ' H',Inv X pins σ' H' s'/\Q σ' H') X.xe s
def PGs (X:Cx) (ts:List Expr) (t:TGs):Prop:=
 ∀ (pins:List (Addr×Obj)) (s:Shared) (σ:St) (H:Hp) (vs:List V) (us:List Value) (Q:St->Hp->Prop),Inv X pins σ H s->bF vs us->t vs σ H Q->
  wpAny (model X.prog X.w) X.A (assignInOrder ((assignEach ts X.env).map (·.2)) us) (fun _ s'=> ∃ σ' H',Inv X pins σ' H' s'/\Q σ' H') X.xe s
abbrev aG5:=V->V->V->Hp->(Hp->Prop)->Prop
def aG6 (X:Cx) (t:aG5):Prop:=
 ∀ (pins:List (Addr×Obj)) (s:Shared) (σ:St) (H:Hp) (o i v:V) (ov iv u:Value) (Q:Hp->Prop),Inv X pins σ H s->bA o ov->bA i iv->bA v u->t o i v H Q->
  wpAny (model X.prog X.w) X.A (setItem ov iv u) (fun _ s'=> ∃ H',Inv X pins σ H' s'/\Q H') X.xe s
abbrev TIp:=V->V->Hp->VK->Prop
def PIp (X:Cx) (op:Operator) (t:TIp):Prop:=
 ∀ (pins:List (Addr×Obj)) (s:Shared) (σ:St) (H:Hp) (x y:V) (v u:Value) (Q:VK),Inv X pins σ H s->bA x v->bA y u->t x y H Q->
  wpAny (model X.prog X.w) X.A (inplaceOp op v u) (EP X pins σ Q) X.xe s
section
variable {X:Cx} {pos:Pos}
noncomputable def iY (i:Nat):TG:=fun v σ H Q=>Q (σ.set i (some v)) H
theorem jI {i:Nat} {x:Str} (hN:X.N.Nodup) (hi:X.N[i]? =some x) (hx:Loc X.env.scope x) (hf:X.fn x=true\/X.env.scope.names.lookup x=some .local:=by first | exact .inl rfl | exact .inr rfl | assumption):PG X (.Name x pos) (iY i):=by
 intro pins s σ H v u Q I r h
 exact wpAny_assign_Name (gP I hN hi hx r (fun s' I'=>⟨_,H,I',h⟩) hf)
noncomputable def aMg:TGs:=fun vs σ H Q=>vs=[]/\Q σ H
noncomputable def aCy (t:TG) (u:TGs):TGs:=fun vs σ H Q=> ∃ v r,vs=v::r/\t v σ H fun σ' H'=>u r σ' H' Q
theorem pH:PGs X [] aMg:=by
 intro pins s σ H vs us Q I r h
 obtain⟨e,h⟩:=h
 subst e
 cases r
 exact assignInOrder_nil ⟨σ,H,I,h⟩
theorem i5 {e:Expr} {es:List Expr} {t:TG} {u:TGs} (h1:PG X e t) (h2:PGs X es u)
  (hs:(assignEach (e::es) X.env).map (·.2)=assign e X.env::(assignEach es X.env).map (·.2):=by rfl):PGs X (e::es) (aCy t u):=by
 intro pins s σ H vs us Q I r h
 obtain⟨v,vr,e1,h⟩:=h
 subst e1
 cases r with
 | cons r rr=>
  rw [hs]
  refine assignInOrder_cons (thn (h1 pins s σ H _ _ _ I r h) fun _ s1 hz_=> ?_)
  obtain⟨σ1,H1,I1,q1⟩:=hz_
  exact h2 pins s1 σ1 H1 _ _ Q I1 rr q1
noncomputable def aG7 (K:PySem.W.Frag) (n:Nat) (t:TGs):TG:=fun v σ H Q=> ∃ a xs,v= .ref a/\SqT K H a xs/\xs.length=n/\t xs σ H Q
theorem uJ {es:List Expr} {k:Nat} {t:TGs} {n:Nat} (hc:X.calm=true) (h:PGs X es t)
  (hn:(assignEach es X.env).length=n:=by rfl) (hst:(assignEach es X.env).findIdx? (·.1)=none:=by rfl):PG X (.Tuple es k pos) (aG7 X.K n t):=by
 intro pins s σ H v u Q I r hw
 obtain⟨a,xs,e1,hq,hl,hw⟩:=hw
 subst e1
 cases r
 obtain⟨its,rv,ht,hz⟩:=I.tuple hq
 refine assign_Tuple_tuple (I.ok.hd hc) ht (by simp [hn, <-hl,rv.length]) hst fun h' hx=> ?_
 have I1:Inv X pins σ H { s with heap:=h' }:=I.kept (t':=s.toks) fun b o e=>hx b o (bg (ah e)) e
 exact h pins _ σ H xs _ Q I1 (by simpa using rv) hw
noncomputable def aP6 (to ti:TE) (t:aG5):TG:=fun v σ H Q=>to σ H fun o H1=>ti σ H1 fun i H2=>t o i v H2 fun H3=>Q σ H3
theorem uK {o i:Expr} {to ti:TE} {t:aG5} (ho:PE X o to) (hi:PE X i ti) (hs:aG6 X t)
  (ha: ∀ v,assign (.Subscript o i pos) X.env v=(do
   let ov<-holding [v] (eval o X.env)
   let iv<-holding [v,ov] (eval i X.env)
   standAt pos
   holding [v,ov,iv] (setItem ov iv v)
   release [v,ov,iv] []):=by intro _;rfl):PG X (.Subscript o i pos) (aP6 to ti t):=by
 intro pins s σ H v u Q I r h
 rw [ha]
 refine aa (wpAny_holding (thn (ho pins s σ H _ I h) fun ov s1 hz_=> ?_))
 obtain⟨x,H1,I1,r1,q1⟩:=hz_
 refine aa (wpAny_holding (thn (hi pins s1 σ H1 _ I1 q1) fun iv s2 hz_=> ?_))
 obtain⟨y,H2,I2,r2,q2⟩:=hz_
 refine aa (wpAny_standAt (aa (wpAny_holding (thn (hs pins s2 σ H2 x y v ov iv u _ I2 r1 r2 r q2) fun _ s3 hz_=> ?_))))
 obtain⟨H3,I3,q3⟩:=hz_
 exact wpAny_release ⟨σ,H3,I3,q3⟩
noncomputable def aCz (te:TE) (g:TG):TS:=fun D σ H=>te σ H fun x H1=>g x σ H1 D.nx
theorem uL {tg e:Expr} {te:TE} {g:TG} (he:PE X e te) (hg:PG X tg g) (hs:swapsWithSole [tg] e pos.line X.env=pure false:=by rfl) (hw:swappedStores [tg] e X.env=pure none:=by rfl)
  (h1:(assignEach [tg] X.env).map (·.2)=[assign tg X.env]:=by rfl):PS X (.Assign [tg] e pos) (aCz te g):=by
 intro pins s σ H D I h
 refine wpAny_Assign_stores (thn (he pins s σ H _ I h) fun v s1 ⟨x,H1,I1,r1,q1⟩=> ?_) hs hw
 rw [h1]
 exact thn (hg pins s1 σ H1 x v _ I1 r1 q1) fun _ s2 q=>q
theorem uM {i:Nat} {x:Str} {e:Expr} {te:TE} {pos':Pos} (hN:X.N.Nodup) (hi:X.N[i]? =some x) (hx:Loc X.env.scope x) (he:PE X e te) (hs:swapsWith e (some (.Name x pos')) pos.line X.env=pure false:=by rfl) (hf:X.fn x=true\/X.env.scope.names.lookup x=some .local:=by first | exact .inl rfl | exact .inr rfl | assumption):
  PS X (.Assign [.Name x pos'] e pos) (aCz te (iY i)):=by
 intro pins s σ H D I h
 refine wpAny_Assign_Name (thn (he pins s σ H _ I h) fun v s1 ⟨y,H1,I1,r1,q1⟩=> ?_) hs
 exact gP I1 hN hi hx r1 (fun s2 I2=>⟨_,H1,I2,q1⟩) hf
noncomputable def aP7 (i j:Nat) (ta:TA):TS:=fun D σ H=>ta σ H fun vs H1=> ∃ v w,vs=[v,w]/\D.nx ((σ.set i (some v)).set j (some w)) H1
theorem aG8 {i j:Nat} {x y:Str} {a b:Expr} {ta:TA} {px py pt:Pos} {kt k2 pt2} (hc:X.calm=true) (hN:X.N.Nodup) (hi:X.N[i]? =some x) (hj:X.N[j]? =some y) (hij:i≠j)
  (hx:X.env.scope.names.lookup x=some .local) (hy:X.env.scope.names.lookup y=some .local) (ha:PA X [a,b] ta)
  (hw:swappedStores [.Tuple [.Name x px, .Name y py] kt pt] (.Tuple [a,b] k2 pt2) X.env=pure (some [x,y]))
  (hs:swapsWithSole [.Tuple [.Name x px, .Name y py] kt pt] (.Tuple [a,b] k2 pt2) pos.line X.env=pure false:=by rfl):
  PS X (.Assign [.Tuple [.Name x px, .Name y py] kt pt] (.Tuple [a,b] k2 pt2) pos) (aP7 i j ta):=by
 intro pins s σ H D I h
 rw [exec_Assign_arm]
 refine aa (wpAny_standAt ?_)
 rw [hs]
 refine aa (ae ?_)
 rw [if_neg (by decide)]
 refine aa (Tuple_ (thn (ha _ pins s σ H _ I h) fun us s1 hz_=> ?_))
 obtain⟨vs,H1,I1,r1,q1⟩:=hz_
 obtain⟨v,w,e1,q1⟩:=q1
 subst e1
 obtain⟨u1,u2,rfl,rv,rw'⟩: ∃ u1 u2,us=[u1,u2]/\bA v u1/\bA w u2:=by
  cases r1 with
  | cons p q=>
   cases q with
   | cons p' q'=>
    cases q'
    exact⟨_,_,rfl,p,p'⟩
 refine wpAny_newObj_type ?_ (by show 2<=sizeLine;decide)
 have I2:Inv X pins σ H1 { s1 with heap:=s1.heap.push { cls:= .type "tuple",data:= .seq [u1,u2].toArray } }:=I1.kept (t':=s1.toks) fun b o e=>af _ e
 rw [hw]
 refine aa (ae ?_)
 show wpAny (model X.prog X.w) X.A (do rule "assign.swapped-stores";let items<-unpackItems (.ref s1.heap.objs.size) 2 none;assignInOrder [fun v=>bindName X.env y v,fun v=>bindName X.env x v] items.reverse;pure Flow.next) _ _ _
 refine aa (wpAny_rule (aa (unpackItems_tuple (items:= #[u1,u2]) (I.ok.hd hc) (IsTup.new s1.heap _) fun h' hx'=> ?_)))
 have I3:=I2.kept (h':=h') (t':=s1.toks) fun b o e=>hx' b o (bg (ah e)) e
 show wpAny _ _ (assignInOrder [fun v=>bindName X.env y v,fun v=>bindName X.env x v] [u2,u1] >>= fun _=>pure Flow.next) _ _ _
 refine aa (assignInOrder_cons (wpAny_bindName (gP I3 hN hj (.inl hy) rw' (fun s2 I4=> ?_) (.inr hy))))
 refine assignInOrder_cons (wpAny_bindName (gP I4 hN hi (.inl hx) rv (fun s3 I5=>assignInOrder_nil (ae ?_)) (.inr hx)))
 rw [List.set_comm _ _ (Ne.symm hij)] at I5
 exact⟨_,H1,I5,q1⟩
noncomputable def aP8 (i:Nat) (te:TE) (ti:TIp):TS:=fun D σ H=> ∃ x,σ[i]? =some (some x)/\te σ H fun y H1=>ti x y H1 fun z H2=>D.nx (σ.set i (some z)) H2
theorem aBd {i:Nat} {x:Str} {e:Expr} {te:TE} {op:Operator} {ti:TIp} {pos':Pos} (hN:X.N.Nodup) (hi:X.N[i]? =some x) (hx:Loc X.env.scope x) (he:PE X e te) (ho:PIp X op ti) (hf:X.fn x=true\/X.env.scope.names.lookup x=some .local:=by first | exact .inl rfl | exact .inr rfl | assumption):
  PS X (.AugAssign (.Name x pos') op e pos) (aP8 i te ti):=by
 intro pins s σ H D I h
 obtain⟨v,e1,h⟩:=h
 obtain⟨m,hn,hl⟩:=I.loc
 have vis:Vis X.env.scope x:=by rcases hx with k | k;exact .inl k;exact .inr (.inl k)
 obtain⟨u,r,l⟩:=hl i x v hi e1 vis
 refine wpAny_AugAssign_Name ?_
 have go:wpAny (model X.prog X.w) X.A (eval e X.env) (fun w s₂=>wpAny (model X.prog X.w) X.A (inplaceOp op u w) (fun r s₃=>wpAny (model X.prog X.w) X.A (storeName X.env x r) (fun _=>SP X pins D .next) X.xe s₃) X.xe s₂) X.xe s:=by
  refine thn (he pins s σ H _ I h) fun w s1 hz_=> ?_
  obtain⟨y,H1,I1,r1,q1⟩:=hz_
  refine thn (ho pins s1 σ H1 v y u w _ I1 r r1 q1) fun z s2 hz_=> ?_
  obtain⟨zv,H2,I2,r2,q2⟩:=hz_
  exact gP I2 hN hi hx r2 (fun s3 I3=>⟨_,H2,I3,q2⟩) hf
 rcases l with ⟨hk,hm⟩ | ⟨hk,c,hc,hcell⟩
 ·exact wpAny_loadName_local I.ok.kind hk hn hm go
 ·rcases hk with hk | hk
  ·exact wpAny_loadName_cell I.ok.kind hk hc hcell go
  ·rcases hx with k | k
   ·have:X.env.scope.names.lookup x=some .free:=hk
    rw [k] at this;cases this
   ·have:X.env.scope.names.lookup x=some .free:=hk
    rw [k] at this;cases this
noncomputable def aMh (to ti te:TE) (tget:V->V->Hp->VK->Prop) (tip:TIp) (tset:aG5):TS:=fun D σ H=>to σ H fun o H1=>ti σ H1 fun i H2=>tget o i H2 fun x H3=>te σ H3 fun y H4=>tip x y H4 fun z H5=>tset o i z H5 fun H6=>D.nx σ H6
def aPb (X:Cx) (t:V->V->Hp->VK->Prop):Prop:=
 ∀ (pins:List (Addr×Obj)) (s:Shared) (σ:St) (H:Hp) (o i:V) (ov iv:Value) (Q:VK),Inv X pins σ H s->bA o ov->bA i iv->t o i H Q->
  wpAny (model X.prog X.w) X.A (getItem ov iv) (EP X pins σ Q) X.xe s
theorem aC0 {o i e:Expr} {to ti te:TE} {tget:V->V->Hp->VK->Prop} {tip:TIp} {tset:aG5} {op:Operator} {tpos:Pos} (ho:PE X o to) (hi:PE X i ti) (hg:aPb X tget) (he:PE X e te) (hp:PIp X op tip) (hs:aG6 X tset)
  (ha: ∀ ov iv new,augStore i ov iv new=(do holding [new,ov,iv] (setItem ov iv new);release [new,ov,iv] [];pure .next):=by intros;rfl):PS X (.AugAssign (.Subscript o i tpos) op e pos) (aMh to ti te tget tip tset):=by
 intro pins s σ H D I h
 refine wpAny_AugAssign_SubscriptAny (thn (ho pins s σ H _ I h) fun ov s1 ⟨x1,H1,I1,r1,q1⟩=> ?_) ha
 refine thn (hi pins s1 σ H1 _ I1 q1) fun iv s2 hz_=> ?_
 obtain⟨x2,H2,I2,r2,q2⟩:=hz_
 refine thn (hg pins s2 σ H2 x1 x2 ov iv _ I2 r1 r2 q2) fun old s3 hz_=> ?_
 obtain⟨x3,H3,I3,r3,q3⟩:=hz_
 refine thn (he pins s3 σ H3 _ I3 q3) fun v s4 hz_=> ?_
 obtain⟨x4,H4,I4,r4,q4⟩:=hz_
 refine thn (hp pins s4 σ H4 x3 x4 old v _ I4 r3 r4 q4) fun new s5 hz_=> ?_
 obtain⟨x5,H5,I5,r5,q5⟩:=hz_
 exact thn (hs pins s5 σ H5 x1 x2 x5 ov iv new _ I5 r1 r2 r5 q5) fun _ s6 ⟨H6,I6,q6⟩=>⟨σ,H6,I6,q6⟩
noncomputable def ipI (f:Int->Int->Int):TIp:=fun x y H Q=> ∃ i j,x= .int i/\y= .int j/\Q (.int (f i j)) H
theorem aBe:PIp X .Add (ipI fun i j=>i+j):=by
 intro pins s σ H x y v u Q I r1 r2 h
 obtain⟨i,j,e1,e2,q⟩:=h
 subst e1;subst e2
 obtain⟨t,rfl⟩:=r1
 obtain⟨t',rfl⟩:=r2
 exact iadd_int ⟨.int _,H,I.tok _,⟨_,rfl⟩,q⟩
theorem aG9:PIp X .Sub (ipI fun i j=>i - j):=by
 intro pins s σ H x y v u Q I r1 r2 h
 obtain⟨i,j,e1,e2,q⟩:=h
 subst e1;subst e2
 obtain⟨t,rfl⟩:=r1
 obtain⟨t',rfl⟩:=r2
 exact isub_int ⟨.int _,H,I.tok _,⟨_,rfl⟩,q⟩
end
section
variable {X:Cx} {pos:Pos}
end
structure It where
 go:Nat->Hp->Prop
 yld:Nat->Hp->V->Hp->Prop
 stop:Nat->Hp->Prop
def iR (X:Cx) (pins:List (Addr×Obj)) (H:Hp) (b:Addr):Prop:=
 H b=none/\b≠X.env.locals/\b∉X.fs/\(b∈X.ex\/X.s₀.heap.objs.size<=b)/\(∀ x c,X.env.cells.lookup x=some c->c≠b)/\ ∀ p∈X.pn++pins,p.1≠b
theorem Inv.fpOk {X:Cx} {pins:List (Addr×Obj)} {σ:St} {H H':Hp} {s:Shared} {b:Addr} (I:Inv X pins σ H s) (hb:s.heap.objs.size<=b) (hn:H' b=none):iR X pins H' b:=by
 refine⟨hn,Nat.ne_of_gt (bf I.lt hb),I.nofs hb, .inr (Nat.le_trans I.sz hb),fun x c e z=> ?_,fun p hp z=> ?_⟩
 ·obtain⟨v,q⟩:=I.cell x c e
  exact absurd (bf q.lt (by rw [z];exact hb)) (Nat.lt_irrefl _)
 ·exact absurd (bf (ah (I.pin p hp).1) (by rw [z];exact hb)) (Nat.lt_irrefl _)
structure Turn (P:Program) (w:World) (K:PySem.W.Frag) (tg:Expr) (J:It) (fp:List Addr) (it:Addr) (tn:Nat->Heap->Prop):Prop where
 mem:it∈fp
 obj: ∀ i h,tn i h-> ∀ b∈fp, ∃ o,h.get? b=some o/\ ∀ v,o.data≠ .cell v
 keep: ∀ i h h',tn i h->(∀ b∈fp, ∀ o,h.get? b=some o->h'.get? b=some o)->tn i h'
 item: ∀ (X:Cx),X.prog=P->X.w=w->X.K=K->X.calm=true-> ∀ (i:Nat) (pins:List (Addr×Obj)) (s:Shared) (σ:St) (H:Hp) (E:Value->Shared->Prop),Inv X pins σ H s->(∀ b∈fp,iR X pins H b)->tn i s.heap->J.go i H->
  wpAny (model P w) X.A (pyNext (.ref it)) (fun r s1=> ∃ u,r=some u/\
   wpAny (model P w) X.A (letOwnedTupleGo tg (.ref it) u) (fun _ s2=> ∃ x H',Inv X pins σ H' s2/\bA x u/\J.yld i H x H'/\tn (i+1) s2.heap/\ ∀ b∈fp,H' b=none) E s1) E s
 done: ∀ (X:Cx),X.prog=P->X.w=w->X.K=K->X.calm=true-> ∀ (i:Nat) (pins:List (Addr×Obj)) (s:Shared) (σ:St) (H:Hp) (E:Value->Shared->Prop),Inv X pins σ H s->(∀ b∈fp,iR X pins H b)->tn i s.heap->J.stop i H->
  wpAny (model P w) X.A (pyNext (.ref it)) (fun r s1=>r=none/\Inv X pins σ H s1) E s
 self: ∀ (A:Around) (i:Nat) (s:Shared) (Q:Value->Shared->Prop) (E:Value->Shared->Prop),tn i s.heap->Q (.ref it) s->wpAny (model P w) A (pyIter (.ref it)) Q E s
abbrev TI:=St->Hp->(It->Hp->Prop)->Prop
def PIE (X:Cx) (pins:List (Addr×Obj)) (σ:St) (tg:Expr) (R:It->Hp->Prop) (itv:Value) (s2:Shared):Prop:=
 ∃ (it:Addr) (fp:List Addr) (tn:Nat->Heap->Prop) (J:It) (H':Hp),itv= .ref it/\Inv X pins σ H' s2/\Turn X.prog X.w X.K tg J fp it tn/\tn 0 s2.heap/\(∀ b∈fp,iR X pins H' b)/\R J H'
def PI (X:Cx) (tg iter:Expr) (wi:TI):Prop:=
 ∀ (pins:List (Addr×Obj)) (s:Shared) (σ:St) (H:Hp) (R:It->Hp->Prop),Inv X pins σ H s->wi σ H R->
  wpAny (model X.prog X.w) X.A (eval iter X.env) (fun v s1=>wpAny (model X.prog X.w) X.A (pyIter v) (PIE X pins σ tg R) X.xe s1) X.xe s
theorem yO {M:Model} {A:Around} {E:Value->Shared->Prop} {s:Shared} {tg:Expr} {it:Addr} {u:Value} {o:Obj} {n:String} {vs:Array Value} {Q:Unit->Shared->Prop} (ho:s.heap.get? it=some o) (hc:o.cls= .type n) (hd:o.data= .fields vs)
  (hn:["enumerate","zip","dict_itemiterator","dict_reverseitemiterator","odict_iterator","itertools.zip_longest","itertools.pairwise"].contains n=false) (hQ:Q () s):wpAny M A (letOwnedTupleGo tg (.ref it) u) Q E s:=by
 unfold letOwnedTupleGo
 cases tg<;>first
  | exact ae hQ
  | (cases u<;>first
    | exact ae hQ
    | (refine aa (wpAny_load ho ?_)
       rw [hc,hd]
       show wpAny M A (if(["enumerate","zip","dict_itemiterator","dict_reverseitemiterator","odict_iterator","itertools.zip_longest","itertools.pairwise"].contains n&&vs[0]? ==some (rawInt _))=true then _ else _) Q E s
       rw [if_neg (by intro h;rw [hn,Bool.false_and] at h;cases h)]
       exact ae hQ))
noncomputable def Itl (K:PySem.W.Frag) (a:Addr):It:=
 ⟨fun i H=> ∃ xs x,SqL K H a xs/\xs[i]? =some x,fun i H x H'=>H'=H/\ ∀ xs,SqL K H a xs->xs[i]? =some x,fun i H=> ∃ xs,SqL K H a xs/\xs.length<=i⟩
noncomputable def Itt (K:PySem.W.Frag) (a:Addr):It:=
 ⟨fun i H=> ∃ xs x,SqT K H a xs/\xs[i]? =some x,fun i H x H'=>H'=H/\ ∀ xs,SqT K H a xs->xs[i]? =some x,fun i H=> ∃ xs,SqT K H a xs/\xs.length<=i⟩
noncomputable def Itr (lo:Int) (n:Nat):It:=⟨fun i _=>i<n,fun i H x H'=>H'=H/\x= .int (lo+i),fun i _=>n<=i⟩
theorem mZ {P:Program} {w:World} {K:PySem.W.Frag} {tg:Expr} (a it:Addr):Turn P w K tg (Itl K a) [it] it (fun i h=>h.IsListIter it a i) where
 mem:=by simp
 obj:=fun i h st b hb=>by
  have e:b=it:=by simpa using hb
  subst e
  obtain⟨o,e,c,d⟩:=st
  exact⟨o,e,fun v z=>by rw [d] at z;cases z⟩
 keep:=fun i h h' st k=>st.at fun o e=>k it (by simp) o e
 item:=by
  intro X hP hw hK hc i pins s σ H E I hf st hg
  subst hP hw hK
  obtain⟨xs,x,hq,hx⟩:=hg
  obtain⟨its,rv,p,hz⟩:=I.list hq
  obtain⟨u,hu,ru⟩:=rv.get hx
  obtain⟨f0,f1,f2,f3,f4,f5⟩:=hf it (by simp)
  refine wpAny_pyNext_list_item st p.isList (x:=u) (by simpa using hu) fun h' st' sb=> ?_
  have I1:Inv X pins σ H { s with heap:=h' }:=I.turned (t':=s.toks) (fun b o hb e=>(sb.2 b hb).trans e) f0 f1 f3 f4 f5
  obtain⟨o,e,c,d⟩:=id st'
  exact⟨u,rfl,yO (s:={ s with heap:=h' }) e c d (by decide) ⟨x,H,I1,ru,⟨rfl,fun ys hy=>by rw [I.list_inj hy hq];exact hx⟩,st',fun b hb=>(hf b hb).1⟩⟩
 done:=by
  intro X hP hw hK hc i pins s σ H E I hf st hg
  subst hP hw hK
  obtain⟨xs,hq,hx⟩:=hg
  obtain⟨its,rv,p,hz⟩:=I.list hq
  obtain⟨f0,f1,f2,f3,f4,f5⟩:=hf it (by simp)
  have hl:=rv.length
  exact wpAny_pyNext_list_end (I.ok.hd hc) st p.isList (by simp;omega) fun h' eb=>⟨rfl,I.turned (t':=s.toks) (fun b o hb e=>eb b o hb e) f0 f1 f3 f4 f5⟩
 self:=fun _ _ _ _ _ st h=>wpAny_pyIter_listiter st h
theorem k8 {P:Program} {w:World} {K:PySem.W.Frag} {tg:Expr} (a it:Addr):Turn P w K tg (Itt K a) [it] it (fun i h=>h.IsTupleIter it a i) where
 mem:=by simp
 obj:=fun i h st b hb=>by
  have e:b=it:=by simpa using hb
  subst e
  obtain⟨o,e,c,d⟩:=st
  exact⟨o,e,fun v z=>by rw [d] at z;cases z⟩
 keep:=fun i h h' st k=>st.at fun o e=>k it (by simp) o e
 item:=by
  intro X hP hw hK hc i pins s σ H E I hf st hg
  subst hP hw hK
  obtain⟨xs,x,hq,hx⟩:=hg
  obtain⟨its,rv,p,hz⟩:=I.tuple hq
  obtain⟨u,hu,ru⟩:=rv.get hx
  obtain⟨f0,f1,f2,f3,f4,f5⟩:=hf it (by simp)
  refine wpAny_pyNext_tuple_item st (show s.heap.IsTuple a its.toArray from p) (x:=u) (by simpa using hu) fun h' st' sb=> ?_
  have I1:Inv X pins σ H { s with heap:=h' }:=I.turned (t':=s.toks) (fun b o hb e=>(sb.2 b hb).trans e) f0 f1 f3 f4 f5
  obtain⟨o,e,c,d⟩:=id st'
  exact⟨u,rfl,yO (s:={ s with heap:=h' }) e c d (by decide) ⟨x,H,I1,ru,⟨rfl,fun ys hy=>by rw [I.tuple_inj hy hq];exact hx⟩,st',fun b hb=>(hf b hb).1⟩⟩
 done:=by
  intro X hP hw hK hc i pins s σ H E I hf st hg
  subst hP hw hK
  obtain⟨xs,hq,hx⟩:=hg
  obtain⟨its,rv,p,hz⟩:=I.tuple hq
  obtain⟨f0,f1,f2,f3,f4,f5⟩:=hf it (by simp)
  have hl:=rv.length
  exact wpAny_pyNext_tuple_end (I.ok.hd hc) st (show s.heap.IsTuple a its.toArray from p) (by simp;omega) fun h' eb=>⟨rfl,I.turned (t':=s.toks) (fun b o hb e=>eb b o hb e) f0 f1 f3 f4 f5⟩
 self:=fun _ _ _ _ _ st h=>wpAny_pyIter_tupleiter st h
theorem sT {P:Program} {w:World} {K:PySem.W.Frag} {tg:Expr} (it:Addr) (lo:Int) (n:Nat):Turn P w K tg (Itr lo n) [it] it (fun i h=>IsRangeIter h it (lo+(i:Nat) * 1) ((n:Int) - (i:Nat)) 1) where
 mem:=by simp
 obj:=fun i h st b hb=>by
  have e:b=it:=by simpa using hb
  subst e
  exact⟨_,st,fun v z=>by
   have z':Data.fields _=Data.cell v:=z
   cases z'⟩
 keep:=fun i h h' st k=>k it (by simp) _ st
 item:=by
  intro X hP hw hK hc i pins s σ H E I hf st hg
  subst hP hw hK
  obtain⟨f0,f1,f2,f3,f4,f5⟩:=hf it (by simp)
  have W:=Walks.range (prog:=X.prog) (w:=X.w) (I.ok.hd hc) it lo 1 n
  refine W.item i s _ _ hg st fun v h' tk hv st' kk=> ?_
  obtain⟨t,rfl⟩:=hv
  have I1:Inv X pins σ H { s with heap:=h',toks:=tk }:=I.turned (fun b o hb e=>kk b o (by simpa using hb) e) f0 f1 f3 f4 f5
  refine⟨_,rfl,yO (s:={ s with heap:=h',toks:=tk }) (n:="range_iterator") st' rfl rfl (by decide) ⟨.int (lo+i),H,I1,⟨t, ?_⟩,⟨rfl,rfl⟩,st',fun b hb=>(hf b hb).1⟩⟩
  rw [Int.mul_one]
 done:=by
  intro X hP hw hK hc i pins s σ H E I hf st hg
  subst hP hw hK
  obtain⟨f0,f1,f2,f3,f4,f5⟩:=hf it (by simp)
  exact wpAny_pyNext_range_end (I.ok.hd hc) st (by have:n<=i:=hg;omega) fun h' eb=>⟨rfl,I.turned (t':=s.toks) (fun b o hb e=>eb b o hb e) f0 f1 f3 f4 f5⟩
 self:=fun _ _ _ _ _ st h=>wpAny_pyIter_rangeiter st h
section
variable {X:Cx} {tg:Expr}
theorem yP {pins:List (Addr×Obj)} {σ:St} {H:Hp} {s:Shared} {R:It->Hp->Prop} {E:Value->Shared->Prop} {lo hi:Int} {t u v:Tok} {tk:Nat} (I:Inv X pins σ H s) (h1: -(2 ^ 62)<=lo) (h2:lo<2 ^ 62) (h3: -(2 ^ 62)<=hi) (h4:hi<2 ^ 62)
  (q:R (Itr lo (hi - lo).toNat) H):wpAny (model X.prog X.w) X.A (pyIter (.ref s.heap.objs.size)) (PIE X pins σ tg R) E { s with heap:=s.heap.push { cls:= .type "range",data:= .fields #[.int lo t, .int hi u, .int 1 v] },toks:=tk }:=by
 refine wpAny_pyIter_range (IsRange.new ..) (small_one h1 h2 h3 h4) ?_
 have I1:Inv X pins σ H { s with heap:=s.heap.push { cls:= .type "range",data:= .fields #[.int lo t, .int hi u, .int 1 v] },toks:=tk }:=I.kept fun b o e=>af _ e
 refine⟨(s.heap.push { cls:= .type "range",data:= .fields #[.int lo t, .int hi u, .int 1 v] }).objs.size,[(s.heap.push { cls:= .type "range",data:= .fields #[.int lo t, .int hi u, .int 1 v] }).objs.size],_,_,H,rfl,
  I1.kept (t':=tk) fun b o e=>af _ e,sT _ lo (hi - lo).toNat, ?_,fun b hb=> ?_,q⟩
 ·have e1:lo+((0:Nat):Int) * 1=lo:=by simp
  have e2:(((hi - lo).toNat:Nat):Int) - ((0:Nat):Int)=Builtin.Range.rangeSize lo hi 1:=by rw [rangeSize_one];split<;>omega
  show IsRangeIter _ _ (lo+((0:Nat):Int) * 1) ((((hi - lo).toNat:Nat):Int) - ((0:Nat):Int)) 1
  rw [e1,e2]
  exact ag _ rfl
 ·have e:b=(s.heap.push { cls:= .type "range",data:= .fields #[.int lo t, .int hi u, .int 1 v] }).objs.size:=by simpa using hb
  subst e
  exact I1.fpOk (aj _) (I1.hok.fresh (aj _))
noncomputable def aMi (ta:TA):TI:=fun σ H R=>ta σ H fun vs H1=> ∃ j:Int,vs=[.int j]/\ -(2 ^ 62)<=j/\j<2 ^ 62/\R (Itr 0 j.toNat) H1
theorem m6 {a:Expr} {ta:TA} {p pos:Pos} (hg:Gl X "range") (hm:X.mg "range"=none) (ha:PA X [a] ta) (hs:starEach [a] X.env=[(false,eval a X.env)]:=by rfl):PI X tg (.Call (.Name "range" p) [a] [] pos) (aMi ta):=by
 intro pins s σ H R I h
 refine Call_ (eG I hg hm boot_range (PyProof.Rows.callWith_type1 (thn (ha pos pins s σ H _ I h) fun us s1 ⟨vs,H1,I1,r1,q1⟩=> ?_) hs rfl))
 obtain⟨j,e,q1,q2,q⟩:=q1
 subst e
 cases r1 with
 | cons r rr=>
  cases rr
  obtain⟨t,rfl⟩:=r
  exact call_range_1 (yP I1 (by omega) (by omega) q1 q2 (by simpa using q))
noncomputable def aPc (wi:TI) (g:TG) (tb:TS):TS:=fun D σ H=>wi σ H fun J H1=> ∃ W:Nat->Nat->St->Hp->Prop,(∃ m,W 0 m σ H1)/\ ∀ i m σ H,W i m σ H->
 (J.stop i H/\D.nx σ H)\/(J.go i H/\ ∃ N:St->Hp->Prop,(∀ σ' H',N σ' H'-> ∃ m',m'<m/\W (i+1) m' σ' H')/\ ∀ x H',J.yld i H x H'->g x σ H' fun σ2 H2=>tb { D with nx:=N,ct:=N,bk:=D.nx } σ2 H2)
noncomputable def d9 (fp:List Addr) (h:Heap):List (Addr×Obj):=fp.filterMap fun b=>(h.get? b).map fun o=>(b,o)
theorem dP {fp:List Addr} {h:Heap} {b:Addr} {o:Obj} (hb:b∈fp) (e:h.get? b=some o):(b,o)∈d9 fp h:=List.mem_filterMap.mpr ⟨b,hb,by rw [e];rfl⟩
theorem jJ {fp:List Addr} {h:Heap} {p:Addr×Obj} (hp:p∈d9 fp h):p.1∈fp/\h.get? p.1=some p.2:=by
 obtain⟨b,hb,e⟩:=List.mem_filterMap.mp hp
 cases q:h.get? b with
 | none=>rw [q] at e;cases e
 | some o=>
  rw [q] at e
  have e':(b,o)=p:=Option.some.inj e
  subst e'
  exact⟨hb,q⟩
theorem Inv.pinned {pins:List (Addr×Obj)} {σ:St} {H:Hp} {s:Shared} {fp:List Addr} (I:Inv X pins σ H s) (hf: ∀ b∈fp,iR X pins H b) (ho: ∀ b∈fp, ∃ o,s.heap.get? b=some o/\ ∀ v,o.data≠ .cell v):Inv X (pins++d9 fp s.heap) σ H s:=
 I.pins_of fun p hp=>(List.mem_append.mp hp).elim (fun z=>I.pin p (bp _ z)) fun z=>by
  obtain⟨hb,e⟩:=jJ z
  obtain⟨f0,f1,f2,_⟩:=hf p.1 hb
  obtain⟨o,e',d⟩:=ho p.1 hb
  rw [e] at e';cases e'
  exact⟨e,f0,f1,f2,d⟩
theorem Inv.unpinned {pins pl:List (Addr×Obj)} {σ:St} {H:Hp} {s:Shared} (I:Inv X (pins++pl) σ H s):Inv X pins σ H s:=I.pins_of fun p hp=>I.pin p (bp _ (List.mem_append_left _ hp))
theorem aHa {iter:Expr} {body:List Stmt} {wi:TI} {g:TG} {tb:TS} {pos:Pos} (hp:PassesOwn (model X.prog X.w) X.A X.env X.xe) (hc:X.calm=true) (hi:PI X tg iter wi) (hg:PG X tg g) (hb:PSs X body tb)
  (hs: ∀ x,foldedSetIterable iter X.env x=pure x:=by intro _;rfl):PS X (.For tg iter body [] pos) (aPc wi g tb):=by
 intro pins s σ H D I h
 refine wpAny_For (thn (hi pins s σ H _ I h) fun v s1 h1=>thn h1 fun itv s2 h2=> ?_) hs
 obtain⟨it,fp,tn,J,H2,e,I2,T,st2,f2,W,⟨m0,w0⟩,turn⟩:=h2
 subst e
 -- what stays true of the iterator's objects through the loop
 have stat: ∀ {H':Hp},(∀ b∈fp,H' b=none)-> ∀ b∈fp,iR X pins H' b:=fun hn b hb=>⟨hn b hb,(f2 b hb).2⟩
 refine codeAny_forLoop_any (fun n s'=> ∃ i σ' H',Inv X pins σ' H' s'/\tn i s'.heap/\(∀ b∈fp,H' b=none)/\W i n σ' H') ?_ m0 ⟨0,σ,H2,I2,st2,fun b hb=>(f2 b hb).1,w0⟩
 rintro n s3 ⟨i,σ3,H3,I3,st3,fr3,w3⟩
 rcases turn i n σ3 H3 w3 with ⟨stop,qn⟩ | ⟨go,N,hN,step⟩
 ·refine wpAny_passesOwn hp (thn (T.done X rfl rfl rfl hc i pins s3 σ3 H3 X.xe I3 (stat fr3) st3 stop) fun r s4 hz_=> ?_)
  obtain⟨hr,I4⟩:=hz_
  subst hr
  exact wpAny_execs_nil ⟨σ3,H3,I4,qn⟩
 ·refine wpAny_passesOwn hp (thn (T.item X rfl rfl rfl hc i pins s3 σ3 H3 X.xe I3 (stat fr3) st3 go) fun r s4 hz_=> ?_)
  obtain⟨u,hr,h4⟩:=hz_
  subst hr
  refine wpAny_passesOwn hp (thn h4 fun _ s5 hz_=> ?_)
  obtain⟨x,H5,I5,r5,y5,st5,fr5⟩:=hz_
  have I5':=I5.pinned (stat fr5) (T.obj _ _ st5)
  refine wpAny_passesOwn hp (thn (hg _ s5 σ3 H5 x u _ I5' r5 (step x H5 y5)) fun _ s6 hz_=> ?_)
  obtain⟨σ6,H6,I6,q6⟩:=hz_
  refine wpAny_passesOwn hp (thn (hb _ s6 σ6 H6 _ I6 q6) fun f s7 q7=> ?_)
  have again: ∀ {σ7:St} {H7:Hp},Inv X (pins++d9 fp s5.heap) σ7 H7 s7->N σ7 H7-> ∃ m,m<n/\ ∃ i σ' H',Inv X pins σ' H' s7/\tn i s7.heap/\(∀ b∈fp,H' b=none)/\W i m σ' H':=fun {σ7 H7} I7 n7=>by
   obtain⟨m',hm,w7⟩:=hN σ7 H7 n7
   refine⟨m',hm,i+1,σ7,H7,I7.unpinned,T.keep _ _ _ st5 fun b hb o e=>(I7.pin (b,o) (bp _ (bp _ (dP hb e)))).1,fun b hb=> ?_,w7⟩
   obtain⟨o,e,d⟩:=T.obj _ _ st5 b hb
   exact(I7.pin (b,o) (bp _ (bp _ (dP hb e)))).2.1
  cases f with
  | next=>obtain⟨σ7,H7,I7,n7⟩:=q7;exact again I7 n7
  | cont=>obtain⟨σ7,H7,I7,n7⟩:=q7;exact again I7 n7
  | brk=>obtain⟨σ7,H7,I7,q7⟩:=q7;exact⟨σ7,H7,I7.unpinned,q7⟩
  | ret v=>obtain⟨x7,σ7,H7,I7,r7,q7⟩:=q7;exact⟨x7,σ7,H7,I7.unpinned,r7,q7⟩
end
abbrev R2:=V->V->Hp->VK->Prop
def OpR (X:Cx) (f:Value->Value->Sem Value) (r:R2):Prop:=
 ∀ (pins:List (Addr×Obj)) (s:Shared) (σ:St) (H:Hp) (x y:V) (v u:Value) (Q:VK),Inv X pins σ H s->bA x v->bA y u->r x y H Q->
  wpAny (model X.prog X.w) X.A (f v u) (EP X pins σ Q) X.xe s
def UnR (X:Cx) (f:Value->Sem Value) (r:V->Hp->VK->Prop):Prop:=
 ∀ (pins:List (Addr×Obj)) (s:Shared) (σ:St) (H:Hp) (x:V) (v:Value) (Q:VK),Inv X pins σ H s->bA x v->r x H Q->
  wpAny (model X.prog X.w) X.A (f v) (EP X pins σ Q) X.xe s
def kQ (X:Cx) (f:Value) (r:List V->Hp->VK->Prop):Prop:=
 ∀ (pins:List (Addr×Obj)) (s:Shared) (σ:St) (H:Hp) (xs:List V) (us:List Value) (Q:VK),Inv X pins σ H s->bF xs us->r xs H Q->
  wpAny (model X.prog X.w) X.A (call f us) (EP X pins σ Q) X.xe s
noncomputable def tUn (r:V->Hp->VK->Prop) (ta:TE):TE:=fun σ H Q=>ta σ H fun x H1=>r x H1 Q
noncomputable def rI (C:Int->Int->Prop) (g:Int->Int->V):R2:=fun x y H Q=> ∃ i j,x= .int i/\y= .int j/\C i j/\Q (g i j) H
noncomputable def rI0 (g:Int->Int->V):R2:=fun x y H Q=> ∃ i j,x= .int i/\y= .int j/\Q (g i j) H
noncomputable def rU (g:Int->V):V->Hp->VK->Prop:=fun x H Q=> ∃ i,x= .int i/\Q (g i) H
section
variable {X:Cx} {a b c:Expr} {ta tb tc:TE} {pos:Pos}
theorem aMj {op:UnaryOp} {r:V->Hp->VK->Prop} (ho:UnR X (unaryOp op) r) (ha:PE X a ta):PE X (.UnaryOp op a pos) (tUn r ta):=by
 intro pins s σ H Q I h
 exact UnaryOp_ (thn (ha pins s σ H _ I h) fun v s1 ⟨x,H1,I1,r1,q1⟩=>ho pins s1 σ H1 x v Q I1 r1 q1)
theorem opI {f:Value->Value->Sem Value} {C:Int->Int->Prop} {g:Int->Int->Int}
  (rule: ∀ (i j:Int) (t u:Tok) (s:Shared) (Q:Value->Shared->Prop) (E:Value->Shared->Prop),C i j->Q (.int (g i j) s.toks) { s with toks:=s.toks+1 }->wpAny (model X.prog X.w) X.A (f (.int i t) (.int j u)) Q E s):
  OpR X f (rI C fun i j=> .int (g i j)):=by
 intro pins s σ H x y v u Q I rx ry h
 obtain⟨i,j,rfl,rfl,hc,q⟩:=h
 obtain⟨t,rfl⟩:=rx
 obtain⟨t',rfl⟩:=ry
 exact rule i j t t' s _ _ hc ⟨.int (g i j),H,I.tok _,⟨_,rfl⟩,q⟩
theorem aHb {f:Value->Value->Sem Value} {g:Int->Int->Int}
  (rule: ∀ (i j:Int) (t u:Tok) (s:Shared) (Q:Value->Shared->Prop) (E:Value->Shared->Prop),Q (.int (g i j) s.toks) { s with toks:=s.toks+1 }->wpAny (model X.prog X.w) X.A (f (.int i t) (.int j u)) Q E s):
  OpR X f (rI0 fun i j=> .int (g i j)):=by
 intro pins s σ H x y v u Q I rx ry h
 obtain⟨i,j,rfl,rfl,q⟩:=h
 obtain⟨t,rfl⟩:=rx
 obtain⟨t',rfl⟩:=ry
 exact rule i j t t' s _ _ ⟨.int (g i j),H,I.tok _,⟨_,rfl⟩,q⟩
theorem aLu {f:Value->Value->Sem Value} {g:Int->Int->Bool}
  (rule: ∀ (i j:Int) (t u:Tok) (s:Shared) (Q:Value->Shared->Prop) (E:Value->Shared->Prop),Q (.bool (g i j)) s->wpAny (model X.prog X.w) X.A (f (.int i t) (.int j u)) Q E s):
  OpR X f (rI0 fun i j=> .bl (g i j)):=by
 intro pins s σ H x y v u Q I rx ry h
 obtain⟨i,j,rfl,rfl,q⟩:=h
 obtain⟨t,rfl⟩:=rx
 obtain⟨t',rfl⟩:=ry
 exact rule i j t t' s _ _ ⟨.bl (g i j),H,I,rfl,q⟩
def aP9 (i j:Int):Prop:=0<j/\j<1073741824
def aQa (i j:Int):Prop:=0<=j/\j<=1000000/\i.natAbs<2 ^ 64
def aMk (i j:Int):Prop:=(-(2 ^ 64)<i/\i<2 ^ 64)\/(-(2 ^ 64)<j/\j<2 ^ 64)
theorem aMk.ok {i j:Int} (h:aMk i j):IntMulOk i j:=by
 rcases h with ⟨h1,h2⟩ | ⟨h1,h2⟩
 ·exact .of_left (intBits_le_64 h1 h2)
 ·exact .of_right (intBits_le_64 h1 h2)
theorem sU (k:Nat):(0:Int)<=2 ^ k:=by
 rw [two_pow_cast]
 exact Int.natCast_nonneg _
theorem aHc:OpR X (binaryOp .Add) (rI0 fun i j=> .int (i+j)):=aHb fun _ _ _ _ _ _ _ q=>add_int q
theorem aHd:OpR X (binaryOp .Sub) (rI0 fun i j=> .int (i - j)):=aHb fun _ _ _ _ _ _ _ q=>sub_int q
theorem aHe:OpR X (binaryOp .Mult) (rI aMk fun i j=> .int (i * j)):=opI fun _ _ _ _ _ _ _ hc q=>mul_int q hc.ok
theorem aC1:OpR X (binaryOp .FloorDiv) (rI aP9 fun i j=> .int (i / j)):=opI fun i j _ _ _ _ _ hc q=>by
 have h1:(0:Int)<j:=hc.1
 have h2:j<1073741824:=hc.2
 exact floordiv_int (by omega) (by rw [Int.fdiv_eq_ediv_of_nonneg i (by omega)];exact q) (.inl (PyProof.noPylong_small (by omega)))
theorem aHf:OpR X (binaryOp .Mod) (rI (fun _ j=>0<j) fun i j=> .int (i % j)):=opI fun i j _ _ _ _ _ hc q=>by
 have h1:(0:Int)<j:=hc
 exact mod_int' (by omega) (by rw [Int.fmod_eq_emod_of_nonneg i (by omega)];exact q)
theorem aHg:OpR X (binaryOp .LShift) (rI aQa fun i j=> .int (i * 2 ^ j.toNat)):=opI fun _ _ _ _ _ _ _ hc q=>lshift_int_small hc.1 hc.2.1 hc.2.2 q
theorem aHh:OpR X (binaryOp .RShift) (rI (fun _ j=>0<=j) fun i j=> .int (i / 2 ^ j.toNat)):=opI fun i j _ _ _ _ _ hc q=>
 rshift_int hc (by rw [Int.fdiv_eq_ediv_of_nonneg i (sU _)];exact q)
theorem aHi:OpR X (binaryOp .BitAnd) (rI0 fun i j=> .int (Builtin.bitAnd i j)):=aHb fun _ _ _ _ _ _ _ q=>and_int q
theorem aMl:OpR X (binaryOp .BitOr) (rI0 fun i j=> .int (Builtin.bitOr i j)):=aHb fun _ _ _ _ _ _ _ q=>or_int q
theorem aHj:OpR X (binaryOp .BitXor) (rI0 fun i j=> .int (Builtin.bitXor i j)):=aHb fun _ _ _ _ _ _ _ q=>xor_int q
theorem unI {f:Value->Sem Value} {g:Int->Int}
  (rule: ∀ (i:Int) (t:Tok) (s:Shared) (Q:Value->Shared->Prop) (E:Value->Shared->Prop),Q (.int (g i) s.toks) { s with toks:=s.toks+1 }->wpAny (model X.prog X.w) X.A (f (.int i t)) Q E s):
  UnR X f (rU fun i=> .int (g i)):=by
 intro pins s σ H x v Q I rx h
 obtain⟨i,rfl,q⟩:=h
 obtain⟨t,rfl⟩:=rx
 exact rule i t s _ _ ⟨.int (g i),H,I.tok _,⟨_,rfl⟩,q⟩
theorem aHk:UnR X (unaryOp .USub) (rU fun i=> .int (-i)):=unI fun _ _ _ _ _ q=>neg_int q
end
section
variable {X:Cx} {a b c:Expr} {ta tb tc:TE} {pos:Pos}
theorem q9 {pins:List (Addr×Obj)} {σ:St} {H:Hp} {s:Shared} {Q:VK} {k k':Bool} (I:Inv X pins σ H s) (q:Q (.bl k) H) (e:k=k'):EP X pins σ Q (.bool k') s:=by
 subst e
 exact⟨.bl k,H,I,rfl,q⟩
theorem aMm:OpR X (compareOp .Lt) (rI0 fun i j=> .bl (decide (i<j))):=aLu fun _ _ _ _ _ _ _ q=>lt_int q
theorem aMn:OpR X (compareOp .LtE) (rI0 fun i j=> .bl (decide (i<=j))):=aLu fun _ _ _ _ _ _ _ q=>le_int q
theorem aMo:OpR X (compareOp .Gt) (rI0 fun i j=> .bl (decide (j<i))):=aLu fun _ _ _ _ _ _ _ q=>gt_int q
theorem aMp:OpR X (compareOp .GtE) (rI0 fun i j=> .bl (decide (j<=i))):=aLu fun _ _ _ _ _ _ _ q=>ge_int q
theorem uN:OpR X (compareOp .In) (fun x y H Q=> ∃ i j,x= .str i/\y= .str j/\Q (.bl (!(Builtin.Str.occurrences j i 0 j.length 1).isEmpty)) H):=by
 intro pins s σ H x y v u Q I rx ry h
 obtain⟨i,j,rfl,rfl,q⟩:=h
 obtain⟨t,rfl⟩:=rx
 obtain⟨t',rfl⟩:=ry
 exact in_str (q9 I q rfl)
theorem aHl:OpR X (compareOp .Is) (fun x y H Q=>y= .non/\Q (.bl (decide (x= .non))) H):=by
 intro pins s σ H x y v u Q I rx ry h
 obtain⟨rfl,q⟩:=h
 cases ry
 refine is_none_gen (q9 I q ?_)
 cases x<;>first
  | (cases rx;rfl)
  | (obtain⟨t,rfl⟩:=rx;rfl)
theorem aC2:OpR X (compareOp .IsNot) (fun x y H Q=>y= .non/\Q (.bl (!decide (x= .non))) H):=by
 intro pins s σ H x y v u Q I rx ry h
 obtain⟨rfl,q⟩:=h
 cases ry
 refine isnot_none_gen (q9 I q ?_)
 cases x<;>first
  | (cases rx;rfl)
  | (obtain⟨t,rfl⟩:=rx;rfl)
theorem m7:OpR X (compareOp .NotIn) (fun x y H Q=> ∃ i j,x= .str i/\y= .str j/\Q (.bl (!(!(Builtin.Str.occurrences j i 0 j.length 1).isEmpty))) H):=by
 intro pins s σ H x y v u Q I rx ry h
 obtain⟨i,j,rfl,rfl,q⟩:=h
 obtain⟨t,rfl⟩:=rx
 obtain⟨t',rfl⟩:=ry
 exact notIn_str (q9 I q rfl)
theorem jK:(sizeLine:Nat)<2 ^ 63:=by rw [sizeLine_eq];decide
theorem sV:OpR X (binaryOp .Add) (fun x y H Q=> ∃ i j,x= .str i/\y= .str j/\i.length+j.length<=sizeLine/\Q (.str (i++j)) H):=by
 intro pins s σ H x y v u Q I rx ry h
 obtain⟨i,j,rfl,rfl,hz,q⟩:=h
 obtain⟨t,rfl⟩:=rx
 obtain⟨t',rfl⟩:=ry
 exact add_str (fun t' tk=>⟨.str (i++j),H,I.tok _,⟨_,rfl⟩,q⟩) hz
theorem kR {x:V} {us:List Value} (r:bF [x] us): ∃ u,us=[u]/\bA x u:=by
 cases r with
 | cons r1 r2=>cases r2;exact⟨_,rfl,r1⟩
theorem aHm {x y:V} {us:List Value} (r:bF [x,y] us): ∃ u w',us=[u,w']/\bA x u/\bA y w':=by
 cases r with
 | cons r1 r2=>
  cases r2 with
  | cons r3 r4=>cases r4;exact⟨_,_,rfl,r1,r3⟩
theorem yQ:kQ X (.builtin "abs") (fun xs H Q=> ∃ i,xs=[.int i]/\Q (.int (if i<0 then -i else i)) H):=by
 intro pins s σ H xs us Q I r h
 obtain⟨i,rfl,q⟩:=h
 obtain⟨u,rfl,t,rfl⟩:=kR r
 exact call_abs_int fun u tk=>⟨.int (if i<0 then -i else i),H,I.tok _,⟨_,rfl⟩,q⟩
theorem uO (hc:X.calm=true):kQ X (.builtin "max") (fun xs H Q=> ∃ i j,xs=[.int i, .int j]/\Q (.int (if j > i then j else i)) H):=by
 intro pins s σ H xs us Q I r h
 obtain⟨i,j,rfl,q⟩:=h
 obtain⟨u,w',rfl,⟨t,rfl⟩,⟨t',rfl⟩⟩:=aHm r
 refine max_two_ints (I.ok.hd hc) fun h' tk k=>⟨_,H,I.kept k, ?_,q⟩
 by_cases hj:j > i
 ·rw [if_pos hj,if_pos hj];exact⟨_,rfl⟩
 ·rw [if_neg hj,if_neg hj];exact⟨_,rfl⟩
theorem aHn (hc:X.calm=true):kQ X (.builtin "min") (fun xs H Q=> ∃ i j,xs=[.int i, .int j]/\Q (.int (if j<i then j else i)) H):=by
 intro pins s σ H xs us Q I r h
 obtain⟨i,j,rfl,q⟩:=h
 obtain⟨u,w',rfl,⟨t,rfl⟩,⟨t',rfl⟩⟩:=aHm r
 refine min_two_ints (I.ok.hd hc) fun h' tk k=>⟨_,H,I.kept k, ?_,q⟩
 by_cases hj:j<i
 ·rw [if_pos hj,if_pos hj];exact⟨_,rfl⟩
 ·rw [if_neg hj,if_neg hj];exact⟨_,rfl⟩
theorem m8:kQ X (.type "int") (fun xs H Q=>(∃ i,xs=[.int i]/\Q (.int i) H)\/ ∃ k,xs=[.bl k]/\Q (.int (if k then 1 else 0)) H):=by
 intro pins s σ H xs us Q I r h
 rcases h with ⟨i,rfl,q⟩ | ⟨k,rfl,q⟩
 ·obtain⟨u,rfl,t,rfl⟩:=kR r
  exact call_int_int ⟨.int i,H,I,⟨_,rfl⟩,q⟩
 ·obtain⟨u,rfl,r1⟩:=kR r
  cases r1
  exact call_int_bool ⟨.int (if k then 1 else 0),H,I.tok _,⟨_,rfl⟩,q⟩
end
section
variable {prog:Program} {w:World} {A:Around} {E:Value->Shared->Prop} {s:Shared} {K:PySem.W.Frag} {x dx C f:Addr} {mA:Str->Option Value} {name:Str} {v:Value}
end
section
variable {P:Program} {w:World} {H H':Hp} {h h':Heap} {a C dx:Addr} {fs fs':List (Str×V)}
end
structure Cls (K:PySem.W.Frag) (C:Addr):Prop where
 pg:PySem.W.plainGet K C Str.empty=true
 hd:PySem.W.hasDictIn K C=true
 po:PySem.W.plainOver K C=true
 sa:PySem.W.findIn K (.ref C) "__setattr__"=some (some (.builtin "object.__setattr__"))
def uP (K:PySem.W.Frag) (C:Addr) (f:Str):Prop:=PySem.W.findIn K (.ref C) f=some none
structure Meth (K:PySem.W.Frag) (C:Addr) (m:Str) (f:Addr):Prop where
 at_:PySem.W.findIn K (.ref C) m=some (some (.ref f))
 fn:PySem.W.isFn K (.ref f)=true
 kp:PySem.W.keepIn K (.ref f)=true
section
variable {X:Cx} {pins:List (Addr×Obj)} {σ:St} {H:Hp} {s:Shared} {a C dx:Addr} {fs:List (Str×V)} {f:Str} {v:V} {A:Around} {E:Value->Shared->Prop}
end
section
variable {X:Cx} {o e value:Expr} {f:Str} {pos pos' tpos:Pos} {ta tv:TE}
end
section
variable {X:Cx} {pins:List (Addr×Obj)} {σ:St} {H:Hp} {s:Shared} {A:Around} {E:Value->Shared->Prop} {Q:Value->Shared->Prop} {c:Value} {b:Bool}
end
structure Room (k:Nat) (A:Around):Prop where
 hd:A.handled=none
 dp:A.depth+3 * k+5<recursionLimit
 un:A.units+16 * k+200<cLine
theorem Room.mono {j k:Nat} {A:Around} (r:Room k A) (h:j<=k):Room j A:=⟨r.hd,by have:=r.dp;omega,by have:=r.un;omega⟩
theorem Room.deeper {k:Nat} {A:Around} (r:Room (k+1) A) (env:Env):Room k (A.deeper env):=
 ⟨r.hd,by have:=r.dp;show A.depth+1+3 * k+5<_;omega,by have:=r.un;show A.units+3+16 * k+200<_;omega⟩
theorem Room.depth {k:Nat} {A:Around} (r:Room k A):A.depth<recursionLimit:=by have:=r.dp;omega
theorem Room.units {k:Nat} {A:Around} (r:Room k A):A.units+64<cLine:=by have:=r.un;omega
theorem Room.units0 {k:Nat} {A:Around} (r:Room k A):A.units<cLine:=by have:=r.un;omega
noncomputable def aBf:TA:=fun _ H Q=>Q [] H
noncomputable def jL (ta:TE) (tr:TA):TA:=fun σ H Q=>ta σ H fun x H1=>tr σ H1 fun xs H2=>Q (x::xs) H2
section
variable {X:Cx} {e:Expr} {es:List Expr} {te:TE} {t:TA} {pos:Pos}
theorem eI:PA X [] aBf:=fun _ _ _ _ H Q I h=>Calls.spliced_nil ⟨[],H,I, .nil,h⟩
theorem b9 (ha:PE X e te) (hr:PA X es t) (hs:starEach (e::es) X.env=(false,eval e X.env)::starEach es X.env:=by rfl):PA X (e::es) (jL te t):=by
 intro pos pins s σ H Q I h
 rw [hs]
 show wpAny _ _ (spliced ((false,eval e X.env)::backTo pos (starEach es X.env))) _ _ s
 refine Calls.spliced_cons (thn (ha pins s σ H _ I h) fun u s1 hz_=> ?_)
 obtain⟨x,H1,I1,r1,q1⟩:=hz_
 exact thn (hr pos pins s1 σ H1 _ I1 q1) fun us s2 ⟨xs,H2,I2,r2,q2⟩=>⟨x::xs,H2,I2, .cons r1 r2,q2⟩
noncomputable def aQb (t:TA):TE:=fun σ H Q=>t σ H fun xs H1=>xs.length<=sizeLine/\ ∀ p,H1 p=none->Q (.ref p) (upd H1 p (.tup xs))
noncomputable def aQc (t:TA):TE:=fun σ H Q=>t σ H fun xs H1=>xs.length<=sizeLine/\ ∀ p,H1 p=none->Q (.ref p) (upd H1 p (.lst xs))
theorem aHo {x1} (h:PA X es t):PE X (.Tuple es x1 pos) (aQb t):=by
 intro pins s σ H Q I hq
 refine wpAny_Tuple_spliced (thn (h pos pins s σ H _ I hq) fun us s1 ⟨xs,H1,I1,r,z,q⟩=>⟨by rw [<-r.length];exact z, ?_⟩)
 have hf:H1 s1.heap.objs.size=none:=I1.hok.fresh (aj _)
 refine⟨.ref s1.heap.objs.size,upd H1 s1.heap.objs.size (.tup xs),I1.laid (t':=s1.toks) (fun b u e=>af _ e) (aj _) ?_,rfl,q _ hf⟩
 exact⟨z,us,r,⟨_,ag _ rfl,rfl,_,rfl⟩,⟨_,ag _ rfl,rfl⟩⟩
theorem aHp (h:PA X es t):PE X (.List es pos) (aQc t):=by
 intro pins s σ H Q I hq
 refine wpAny_List_spliced (thn (h pos pins s σ H _ I hq) fun us s1 ⟨xs,H1,I1,r,z,q⟩=>⟨by rw [<-r.length];exact z, ?_⟩)
 have hf:H1 s1.heap.objs.size=none:=I1.hok.fresh (aj _)
 refine⟨.ref s1.heap.objs.size,upd H1 s1.heap.objs.size (.lst xs),I1.laid (t':=s1.toks) (fun b u e=>af _ e) (aj _) ?_,rfl,q _ hf⟩
 exact⟨z,us,0,r,ag _ rfl⟩
end
abbrev Sp:=List V->Hp->VK->XK->Prop
abbrev CXT:=List Env->Hp->Shared->XK->Value->Shared->Prop
structure Env0 (P:Program) (w:World) (K:PySem.W.Frag) (mg:Str->Option Value) (base:Heap) (A:Around) (outer:List Env) (s:Shared) (H:Hp):Prop where
 frames:A.frames=some outer
 mod:Mod K mg base
 bs: ∀ b o,base.get? b=some o->s.heap.get? b=some o/\H b=none
 bsz:base.objs.size<=s.heap.objs.size
 funs:s.heap.FunFrames base outer
 frf: ∀ b∈frs outer,H b=none
 hok:HOk P w H s.heap
 bare:AllBare s.gens
def CE (outer:List Env) (P:Program) (w:World) (H:Hp) (s:Shared) (Q:VK) (u:Value) (s':Shared):Prop:=
 ∃ v H',s'.os=s.os/\AllBare s'.gens/\Un (frs outer) [] H H' s.heap s'.heap/\HOk P w H' s'.heap/\bA v u/\Q v H'
def CR (CX:CXT) (outer:List Env) (P:Program) (w:World) (H:Hp) (s:Shared) (Q:VK) (E:XK) (r:Result) (s':Shared):Prop:=
 match r with
 | .ok (.ret u)=>CE outer P w H s Q u s'
 | .ok _=>False
 | .error e=>CX outer H s E e s'
structure FnOk (P:Program) (w:World) (K:PySem.W.Frag) (mg:Str->Option Value) (base:Heap) (CX:CXT) (k:Nat) (f:Addr) (fd:FuncData) (ps:List Str) (sp:Sp):Prop where
 len: ∀ vs H Q E,sp vs H Q E->vs.length=ps.length
 run: ∀ (A:Around) (outer:List Env) (s:Shared) (H:Hp) (args:Args) (us:List Value) (vs:List V) (Q:VK) (E:XK),Room k A->Env0 P w K mg base A outer s H->BindsTo s fd args (ps.zip us)->bF vs us->sp vs H Q E->
  codeAny (model P w) A (.call (.ref f) args) (CR CX outer P w H s Q E) s
theorem Env0.in1 {P:Program} {w:World} {K:PySem.W.Frag} {mg:Str->Option Value} {base:Heap} {A:Around} {outer:List Env} {s:Shared} {H:Hp} (e:Env0 P w K mg base A outer s H):
  Env0 P w K mg base A.in1 outer s H:=⟨e.frames,e.mod,e.bs,e.bsz,e.funs,e.frf,e.hok,e.bare⟩
section
variable {X:Cx} {pins:List (Addr×Obj)} {σ:St} {H:Hp} {s s':Shared}
theorem Inv.env0 (I:Inv X pins σ H s):Env0 X.prog X.w X.K X.mg X.base X.A X.stack s H:=
 ⟨I.ok.frames,I.ok.mod,I.bs,Nat.le_trans I.ok.bsz I.sz,I.stack,I.stkFree,I.hok,I.bare⟩
theorem Inv.after {Q:VK} {u:Value} (I:Inv X pins σ H s) (h:CE X.stack X.prog X.w H s Q u s'):EP X pins σ Q u s':=by
 obtain⟨v,H',os,bare,un,hok,r,q⟩:=h
 obtain⟨hh,g,d,t,os'⟩:=s'
 obtain rfl:os'=s.os:=os
 exact⟨v,H',I.call (h':=hh) (g':=g) (d':=d) (t':=t) (ch:=[]) un hok bare (fun b z=>absurd z (by simp)),r,q⟩
end
def iC (K:PySem.W.Frag) (fd:FuncData) (ps:List Str) (ds:List Value):Prop:=
 ∀ (s:Shared) (us:List Value),K.In s.heap->(us++ds).length=ps.length->BindsTo s fd ⟨us,[]⟩ (ps.zip (us++ds))
theorem iC.all {K:PySem.W.Frag} {fd:FuncData} {ps:List Str} (h: ∀ us:List Value,us.length=ps.length->bindArgs fd ⟨us,[]⟩=pure (ps.zip us)):iC K fd ps []:=fun s us _ hl=>by
 rw [List.append_nil] at hl ⊢
 exact .of_eq (h us hl)
section
variable {X:Cx} {CX:CXT} {k:Nat} {f C:Addr} {fd:FuncData} {ps:List Str} {sp:Sp} {dvs:List V} {ds:List Value} {E:XK} {x m:Str} {p pos apos:Pos} {e o:Expr} {es:List Expr} {ta:TE} {t:TA}
end
def PK (X:Cx) (kws:List Keyword) (t:TA):Prop:=
 ∀ (pos:Pos) (pins:List (Addr×Obj)) (s:Shared) (σ:St) (H:Hp) (Q:List V->Hp->Prop),Inv X pins σ H s->t σ H Q->wpAny (model X.prog X.w) X.A (evalAll ((backToKw pos (keywordEach kws X.env)).map (·.2))) (AP X pins σ Q) X.xe s
section
variable {X:Cx} {CX:CXT} {k:Nat} {f C:Addr} {fd:FuncData} {ps ks:List Str} {sp:Sp} {E:XK} {x m:Str} {p pos apos kpos:Pos} {e o:Expr} {es:List Expr} {kws:List Keyword} {te ta:TE} {t tk:TA} {nm:Option Str}
variable {g:List Value->List Value->List Value} {gV:List V->List V->List V}
end
structure FnScope (N P:List Str) (sc:Scope):Prop where
 kind:sc.kind= .function
 co:sc.isCoroutine=false
 gen:sc.isGenerator=false
 nd:N.Nodup
 pre:N.take P.length=P
 par: ∀ x∈P,sc.names.lookup x=some .local\/sc.names.lookup x=some .cell
 nofree: ∀ y∈sc.names,y.2≠ .free
theorem m9 {kindOf:Str->Option NameKind} {x:Str}: ∀ {binds:List (Str×Value)} {m:Str->Option Value},(∀ v,(x,v)∉binds)->bindL kindOf binds m x=m x
 | [],_,_=>rfl
 | (n,v)::r,m,h=>by
  unfold bindL
  rw [m9 fun w hw=>h w (List.mem_cons_of_mem _ hw)]
  split
  ·have:x≠n:=by rintro rfl;exact h v List.mem_cons_self
   simp [this]
  ·rfl
theorem nA {kindOf:Str->Option NameKind} {x:Str}: ∀ {binds:List (Str×Value)} {m:Str->Option Value},(∀ v,(x,v)∉binds)->bindC kindOf binds m x=m x
 | [],_,_=>rfl
 | (n,v)::r,m,h=>by
  unfold bindC
  rw [nA fun w hw=>h w (List.mem_cons_of_mem _ hw)]
  split
  ·rfl
  ·have:x≠n:=by rintro rfl;exact h v List.mem_cons_self
   simp [this]
theorem nB {kindOf:Str->Option NameKind} {x:Str} {v:Value}: ∀ {P:List Str} {vs:List Value} {i:Nat} {m:Str->Option Value},P.Nodup->P[i]? =some x->vs[i]? =some v->kindOf x=some .local->
  bindL kindOf (P.zip vs) m x=some v
 | [],_,_,_,_,h,_,_=>by simp at h
 | _::_,[],_,_,_,_,h,_=>by simp at h
 | p::P,w::vs,0,m,nd,h1,h2,hk=>by
  simp at h1 h2;subst h1;subst h2
  show bindL kindOf ((p,w)::P.zip vs) m p=_
  unfold bindL
  rw [m9 fun v hv=>(List.nodup_cons.mp nd).1 (List.of_mem_zip hv).1,if_pos hk]
  simp
 | p::P,w::vs,i+1,m,nd,h1,h2,hk=>by
  show bindL kindOf ((p,w)::P.zip vs) m x=_
  unfold bindL
  exact nB (i:=i) (List.nodup_cons.mp nd).2 (by simpa using h1) (by simpa using h2) hk
theorem nC {kindOf:Str->Option NameKind} {x:Str} {v:Value}: ∀ {P:List Str} {vs:List Value} {i:Nat} {m:Str->Option Value},P.Nodup->P[i]? =some x->vs[i]? =some v->kindOf x≠some .local->
  bindC kindOf (P.zip vs) m x=some v
 | [],_,_,_,_,h,_,_=>by simp at h
 | _::_,[],_,_,_,_,h,_=>by simp at h
 | p::P,w::vs,0,m,nd,h1,h2,hk=>by
  simp at h1 h2;subst h1;subst h2
  show bindC kindOf ((p,w)::P.zip vs) m p=_
  unfold bindC
  rw [nA fun v hv=>(List.nodup_cons.mp nd).1 (List.of_mem_zip hv).1,if_neg hk]
  simp
 | p::P,w::vs,i+1,m,nd,h1,h2,hk=>by
  show bindC kindOf ((p,w)::P.zip vs) m x=_
  unfold bindC
  exact nC (i:=i) (List.nodup_cons.mp nd).2 (by simpa using h1) (by simpa using h2) hk
noncomputable def start (N:List Str) (vs:List V):St:=vs.map some++ak (N.length - vs.length) none
noncomputable def pI (CX:CXT) (P:Program) (w:World) (K:PySem.W.Frag) (mg:Str->Option Value) (base:Heap) (N:List Str) (qual:Str) (scope:Scope) (f:Addr) (cd:Value) (A:Around) (outer:List Env) (s:Shared) (H:Hp) (E:XK):Cx where
 prog:=P
 w:=w
 K:=K
 mg:=mg
 base:=base
 A:=A.deeper (envOfC qual scope s.heap.objs.size f cd)
 N:=N
 s₀:=s
 H₀:=H
 env:=envOfC qual scope s.heap.objs.size f cd
 outer:=outer
 stack:=envOfC qual scope s.heap.objs.size f cd::outer
 ex:=[]
 calm:=true
 fn:=fun _=>true
 pn:=[]
 xe:=fun e s'=>wpAny (model P w) (A.deeper (envOfC qual scope s.heap.objs.size f cd)) (leaving (envOfC qual scope s.heap.objs.size f cd) e) (fun _ s''=>CX outer H s E e s'') (fun e' s''=>CX outer H s E e' s'') s'
theorem rB {sc:Scope} {n:Nat} {x:Str} (h:sc.names.lookup x=some .cell): ∃ c,(cellsFrom n sc.names []).lookup x=some c:=by
 have q:=PySem.W.cellsFrom_some sc.names n [] (.inl h)
 exact Option.isSome_iff_exists.mp q
theorem nE {CX:CXT} {P:Program} {w:World} {K:PySem.W.Frag} {mg:Str->Option Value} {base:Heap} {N ps:List Str} {qual:Str} {scope:Scope} {f:Addr} {cd:Value} {A:Around} {outer:List Env} {s s1:Shared} {H:Hp} {E:XK} {us:List Value} {vs:List V}
  (S:FnScope N ps scope) (hd:A.handled=none) (e0:Env0 P w K mg base A outer s H) (hl:vs.length=ps.length) (r:bF vs us)
  (x:InCallC s s.heap.objs.size (bindL (envOfC qual scope s.heap.objs.size f cd).kindOf (ps.zip us) fun _=>none) (cellsFrom (s.heap.objs.size+1) scope.names []) (bindC (envOfC qual scope s.heap.objs.size f cd).kindOf (ps.zip us) fun _=>none) s1):
  Inv (pI CX P w K mg base N qual scope f cd A outer s H E) [] (start N vs) H s1:=by
 have hpl:ps.length<=N.length:=by have:=congrArg List.length S.pre;rw [List.length_take] at this;omega
 obtain⟨h1,tk,rfl,hk⟩:=x.done
 have noA: ∀ b:Addr,b∉(pI CX P w K mg base N qual scope f cd A outer s H E).ex:=fun b z=>absurd (show b∈([]:List Addr) from z) (by simp)
 refine⟨⟨e0.mod,S.kind,rfl,rfl,aj _,fun y z c h1 h2=> ?_,fun y hy=> ?_,fun y c _ h=> ?_,fun _=>hd,Around.frames_deeper e0.frames, .inr ⟨rfl,rfl⟩,fun b z=>absurd z (noA b),e0.bs,e0.bsz,fun b _ _=>noA b,fun b z=>absurd z (noA b),e0.funs,e0.frf⟩,
  rfl,e0.bare,Un.kept hk,⟨_,x.toInCall.ns,fun i y v h1 h2 h3=> ?_⟩,fun y c h=>⟨_,x.cell y c h⟩,e0.hok.fresh (aj _),fun y c h=> ?_,fun p hp=>absurd (show p∈([]:List (Addr×Obj)) from hp) (by simp),e0.hok.kept hk, ?_⟩
 ·exact name_of_addr x.apart (PySem.mem_of_lookup h1) (PySem.mem_of_lookup h2)
 ·have hy:scope.names.lookup y=some .cell\/scope.names.lookup y=some .free:=hy
  rcases hy with hy | hy
  ·exact rB hy
  ·exact absurd rfl (S.nofree _ (PySem.mem_of_lookup hy))
 ·exact Nat.le_of_lt (x.above y c (PySem.mem_of_lookup h))
 ·have hi:i<vs.length:=by
   unfold start at h2
   by_cases hi:i<vs.length
   ·exact hi
   ·rw [bj (by simpa using hi)] at h2
    rw [List.getElem?_replicate] at h2
    split at h2<;>cases h2
  have ha:vs[i]? =some v:=by
   unfold start at h2
   rw [bt (by simpa using hi),List.getElem?_map] at h2
   cases e:vs[i]? with
   | none=>rw [e] at h2;cases h2
   | some a=>rw [e] at h2;cases h2;rfl
  obtain⟨u,hu,rv⟩:=r.get ha
  have hp:ps[i]? =some y:=by
   rw [<-S.pre,List.getElem?_take_of_lt (by omega)];exact h1
  have ndP:ps.Nodup:=by rw [<-S.pre];exact S.nd.sublist (List.take_sublist _ _)
  refine⟨u,rv, ?_⟩
  rcases S.par y (List.mem_of_getElem? hp) with k | k
  ·exact .inl ⟨k,nB ndP hp hu k⟩
  ·obtain⟨c,e⟩:=rB (n:=s.heap.objs.size+1) k
   refine .inr ⟨.inl k,c,e, ?_⟩
   have q:=x.cell y c e
   rw [nC ndP hp hu (by show scope.names.lookup y≠_;rw [k];decide)] at q
   exact q
 ·exact e0.hok.fresh (Nat.le_of_lt (x.above y c (PySem.mem_of_lookup h)))
 ·unfold start
  show _=N.length
  rw [bn,am,List.length_replicate]
  omega
theorem aMq {CX:CXT} {P:Program} {w:World} {K:PySem.W.Frag} {mg:Str->Option Value} {base:Heap} {k:Nat} {f:Addr} {name qual:Str} {params:Arguments} {body:List Stmt} {scope:Scope} {dV kV doc pm cdv ct oc:Value} {an od:Option Addr}
  {osl:Array (Option Value)} {N ps:List Str} {sp:Sp} (lk:K.lookup f=some ⟨oc,od, .func (PySem.W.fnOf name qual params body scope dV kV doc pm an cdv ct),osl⟩) (hcd:PySem.W.codeIn K cdv qual=true) (S:FnScope N ps scope)
  (len: ∀ vs H Q E,sp vs H Q E->vs.length=ps.length)
  (hbody: ∀ (A:Around) (outer:List Env) (s:Shared) (H:Hp) (vs:List V) (Q:VK) (E:XK),Room k (A.deeper (envOfC qual scope s.heap.objs.size f cdv))->sp vs H Q E->
   ∃ t,PSs (pI CX P w K mg base N qual scope f cdv A outer s H E) body t/\t { nx:=fun _ H'=>Q .non H',rt:=Q } (start N vs) H):
  FnOk P w K mg base CX (k+1) f (PySem.W.fnOf name qual params body scope dV kV doc pm an cdv ct) ps sp:=by
 refine⟨len,fun A outer s H args us vs Q E hr e0 hb r hsp=> ?_⟩
 have hl:=len _ _ _ _ hsp
 have KX:K.In s.heap:=e0.mod.kin.keeps fun b o e=>(e0.bs b o e).1
 have lim:s.heap.NoLimit:=e0.mod.nolimit.keeps fun b o e=>(e0.bs b o e).1
 have hkind: ∀ y∈ps.zip us,scope.names.lookup y.1=some .local\/(scope.names.lookup y.1=some .cell/\((cellsFrom (s.heap.objs.size+1) scope.names []).lookup y.1).isSome=true):=fun⟨n,v⟩ hy=>by
  rcases S.par n (List.of_mem_zip hy).1 with q | q
  ·exact .inl q
  ·exact .inr ⟨q,PySem.W.cellsFrom_some _ _ _ (.inl q)⟩
 refine codeAny_call_function hr.depth (KX _ _ lk) rfl S.co S.gen rfl (PySem.W.codeRec_of KX hcd) (hb _ _ _ _ ?_)
 refine wpAny_newFunctionEnv_cells S.kind hkind fun env he s1 x=> ?_
 subst he
 refine⟨lim.keeps x.toInCall.keep,codeAny_func ?_⟩
 obtain⟨t,ht,hq⟩:=hbody A outer s H vs Q E (hr.deeper _) hsp
 have I:Inv (pI CX P w K mg base N qual scope f cdv A outer s H E) [] (start N vs) H s1:=nE S hr.hd e0 hl r x
 refine wpAny_mono (ht [] s1 (start N vs) H _ I hq) (fun fl s' hs=> ?_) fun e s' hs=>hs
 have fin: ∀ {σ':St} {H':Hp} {v:V} {u:Value},Inv (pI CX P w K mg base N qual scope f cdv A outer s H E) [] σ' H' s'->bA v u->Q v H'->CE outer P w H s Q u s':=
  fun {σ' H' v u} J rv q=>⟨v,H',J.os,J.bare,J.base,J.hok,rv,q⟩
 cases fl with
 | ret u=>
  obtain⟨v,σ',H',J,rv,q⟩:=hs
  exact fin J rv q
 | next=>
  obtain⟨σ',H',J,q⟩:=hs
  exact fin (v:=V.non) (u:=Value.none) J rfl q
 | brk=>
  obtain⟨_,_,_,q⟩:=hs
  exact ay q
 | cont=>
  obtain⟨_,_,_,q⟩:=hs
  exact ay q
section
variable {X:Cx} {x:Str} {p pos:Pos} {e:Expr} {es:List Expr} {t:TA} {id T:String} {r:List V->Hp->VK->Prop}
noncomputable def tCB (r:List V->Hp->VK->Prop) (t:TA):TE:=fun σ H Q=>t σ H fun vs H1=>r vs H1 Q
theorem yR (hc:kQ X (.builtin id) r) (hg:Gl X x) (hm:X.mg x=none) (hv:bootBuiltins x=some (.builtin id)) (ha:PA X (e::es) t) (hn:x≠"__name__":=by decide) (hdb:(x==("__debug__":Str))=false:=by decide)
  (he:starEach (e::es) X.env=(false,eval e X.env)::starEach es X.env:=by rfl) (hpl:(backTo pos (starEach es X.env)).any (·.1)=false:=by rfl):PE X (.Call (.Name x p) (e::es) [] pos) (tCB r t):=by
 intro pins s σ H Q I h
 refine wpAny_Call_Name_kw (eG I hg hm hv ?_ hn hdb)
 exact PyProof.Rows.callWith_builtin1 (thn (ha pos pins s σ H _ I h) fun us s1 ⟨vs,H1,I1,r1,q1⟩=>hc pins s1 σ H1 vs us Q I1 r1 q1) he hpl
end
end L2
namespace HT
open PySem PyProof.Rows
section
open PySem.SeqAt
open PySem.AutoSeq1 (wpAny_loadPart')
open PySem.MeetsSeq PySem.MeetsSeq2 PySem.MeetsSeq3
end
section
variable {prog:Program} {w:World} {A:Around} {E:Value->Shared->Prop} {s:Shared}
theorem cat_tup {t b:Addr} {vs ws:List Value} {Q:Value->Shared->Prop} (ht:IsTup s.heap t vs.toArray) (hb:IsTup s.heap b ws.toArray) (hv:vs≠[])
  (h1:ws=[]->Q (.ref t) s) (h2:ws≠[]->Q (.ref s.heap.objs.size) { s with heap:=s.heap.push { cls:= .type "tuple",data:= .seq (vs++ws).toArray } })
  (hsz:vs.length+ws.length<=sizeLine):wpAny (model prog w) A (binaryOp .Add (.ref t) (.ref b)) Q E s:=by
 obtain⟨⟨cls,dd,data,sl⟩,ho,hc,n,hd⟩:=id ht
 obtain⟨⟨cls2,dd2,data2,sl2⟩,ho2,hc2,n2,hd2⟩:=id hb
 simp only at hc hd hc2 hd2
 subst hc hd hc2 hd2
 have e:vs.toArray++ws.toArray=(vs++ws).toArray:=by simp
 by_cases hw:ws=[]
 ·exact concat_meets ⟨_,ho,rfl⟩ ⟨_,ho2,rfl⟩ noFill_tuple_add seq_tuple_add PySem.F.slot_tuple_add PySem.F.entry_tuple_add (PySem.F.args_tuple_add_2 _ _)
   (tuple_addW1 t b vs.toArray ws.toArray n n2 dd dd2 sl sl2 (by simpa using hv) (by simp [hw])) ⟨ho,ho2,h1 hw⟩
 ·refine concat_meets ⟨_,ho,rfl⟩ ⟨_,ho2,rfl⟩ noFill_tuple_add seq_tuple_add PySem.F.slot_tuple_add PySem.F.entry_tuple_add (PySem.F.args_tuple_add_2 _ _)
   (tuple_addW2 t b vs.toArray ws.toArray n n2 dd dd2 sl sl2 (by simpa using hv) (by simpa using hw) (by rw [av,av];exact hsz)) ⟨ho,ho2, ?_⟩
  rw [e]
  exact h2 hw
noncomputable def sIx (n d:Nat):Option Int->Nat
 | none=>d
 | some v=>if v<0 then(v+(n:Int)).toNat else min v.toNat n
theorem aHq (n d:Nat) (hd:d<=n) (o:Option Int):sIx n d o<=n:=by
 cases o with
 | none=>exact hd
 | some v=>
  show(if v<0 then(v+(n:Int)).toNat else min v.toNat n)<=n
  by_cases hv:v<0
  ·rw [if_pos hv];omega
  ·rw [if_neg hv];exact Nat.min_le_right _ _
theorem uQ (v:Int) (n d:Nat):(if v<0 then max (v+(n:Int)) 0 else min v (n:Int))=((sIx n d (some v):Nat):Int):=by
 show(if v<0 then max (v+(n:Int)) 0 else min v (n:Int))=(((if v<0 then(v+(n:Int)).toNat else min v.toNat n):Nat):Int)
 by_cases hv:v<0
 ·simp only [if_pos hv];omega
 ·simp only [if_neg hv];omega
theorem sW (lo hi:Option Int) (n:Nat):Builtin.Slice.sliceAdjust lo hi 1 (n:Int)=(((sIx n 0 lo:Nat):Int),((sIx n n hi:Nat):Int)):=by
 have h1: ¬ ((1:Int)<0):=by omega
 unfold Builtin.Slice.sliceAdjust
 simp only [h1,if_false]
 refine Prod.ext ?_ ?_
 ·cases lo with
  | none=>rfl
  | some v=>exact uQ v n 0
 ·cases hi with
  | none=>rfl
  | some v=>exact uQ v n n
theorem sX (i j:Nat):Builtin.Slice.slicePlaces (i:Int) (j:Int) 1=j - i:=by
 unfold Builtin.Slice.slicePlaces
 have h1:(1:Int) > 0:=by omega
 simp only [h1,if_true,Int.ediv_one]
 split<;>omega
theorem k9 {v:Value} {o:Option Int} {Q:Option Int->Shared->Prop} (p:IsPart v o) (h:Q o s):wpAny (model prog w) A (Builtin.Slice.slicePartIndex v) Q E s:=by
 cases p with
 | none=>exact slicePart_none h
 | int i t=>exact slicePart_int h
theorem sliceApplied_gen {sl:Addr} {vl vu:Value} {lo hi:Option Int} {n:Nat} {Q:Int×Int×Nat->Shared->Prop} (hs:s.heap.IsSliceOf sl vl vu .none) (pl:IsPart vl lo) (pu:IsPart vu hi)
  (h:Q (((sIx n 0 lo:Nat):Int),1,sIx n n hi - sIx n 0 lo) s):wpAny (model prog w) A (Builtin.Slice.sliceApplied (.ref sl) (pure (n:Int))) Q E s:=by
 obtain⟨os,hos,hcs,hds⟩:=id hs
 unfold Builtin.Slice.sliceApplied Builtin.Slice.sliceFields
 refine aa (aa (wpAny_field hos hds (x:=vl) rfl (aa (wpAny_field hos hds (x:=vu) rfl (aa (wpAny_field hos hds (x:= .none) rfl (ae ?_)))))))
 refine aa (slicePart_none ?_)
 show wpAny _ _ (if((1:Int)==0)=true then _ else _) _ _ s
 rw [if_neg (by decide)]
 refine aa (k9 pl (aa (k9 pu (aa (ae ?_)))))
 show wpAny _ _ (match Builtin.Slice.sliceAdjust lo hi 1 (n:Int) with | (lo,hi)=>pure (lo,(1:Int),Builtin.Slice.slicePlaces lo hi 1)) _ _ s
 rw [sW lo hi n]
 show wpAny _ _ (pure (((sIx n 0 lo:Nat):Int),(1:Int),Builtin.Slice.slicePlaces ((sIx n 0 lo:Nat):Int) ((sIx n n hi:Nat):Int) 1)) _ _ s
 rw [sX]
 exact ae h
theorem yS (xs:Array Value) (i k:Nat):((List.range k).filterMap fun(m:Nat)=>xs[((i:Int)+(m:Int) * 1).toNat]?).toArray=((xs.toList.drop i).take k).toArray:=by
 have e:(fun(m:Nat)=>xs[((i:Int)+(m:Int) * 1).toNat]?)=fun m=>xs[i+m]? :=by
  funext m
  have:((i:Int)+(m:Int) * 1).toNat=i+m:=by omega
  rw [this]
 rw [e]
 have:=pick_run xs i k
 rw [List.filterMap_map] at this
 have e2:((fun x=>xs[x]?) ∘ fun x=>i+x)=fun m=>xs[i+m]? :=rfl
 rw [e2] at this
 rw [this]
theorem getItem_tuple_cut {t sl:Addr} {items:Array Value} {vl vu:Value} {lo hi:Option Int} {Q:Value->Shared->Prop} (ht:IsTup s.heap t items) (hs:s.heap.IsSliceOf sl vl vu .none) (pl:IsPart vl lo) (pu:IsPart vu hi)
  (hw: ¬ (sIx items.size 0 lo=0/\sIx items.size items.size hi=items.size))
  (h:Q (.ref s.heap.objs.size) { s with heap:=s.heap.push { cls:= .type "tuple",data:= .seq ((items.toList.drop (sIx items.size 0 lo)).take (sIx items.size items.size hi - sIx items.size 0 lo)).toArray } })
  (hsz:items.size<=sizeLine):wpAny (model prog w) A (getItem (.ref t) (.ref sl)) Q E s:=by
 have htake:sizeOk (.seq ((items.toList.drop (sIx items.size 0 lo)).take (sIx items.size items.size hi - sIx items.size 0 lo)).toArray):=by
  show((items.toList.drop (sIx items.size 0 lo)).take (sIx items.size items.size hi - sIx items.size 0 lo)).toArray.size<=sizeLine
  rw [av,List.length_take,List.length_drop,Array.length_toList]
  omega
 have hj:sIx items.size items.size hi<=items.size:=aHq _ _ (aj _) hi
 obtain⟨os,hos,hcs,hds⟩:=id hs
 have hTs:s.TypeIs (.ref sl) "slice":=⟨os,hos,hcs⟩
 unfold getItem
 try with_reducible refine wpAny_holding ?_
 first | refine aa (ae ?_) | skip
 refine aa (wpAny_sequenceKey ht.typeIs (by decide) ?_)
 refine aa (wpAny_callSpecial?_slot (name:=Str.ofString "__getitem__") ht.typeIs PyProof.Rows.slot_tuple_getitem
  (wpAny_call_entry PyProof.Rows.slot_tuple_getitem ht.typeIs entry_tuple_getitem ?_ (args_tuple_getitem _ _)))
 show wpAny _ _ (Builtin.Tuple.tupleItemsOf (.ref t) >>= _) _ _ s
 refine aa (tupleItemsOf_ ht ?_)
 refine aa (wpAny_typeOf hTs ?_)
 rw [if_pos (by decide)]
 refine aa (sliceApplied_gen hs pl pu ?_)
 have hno: ¬ ((((sIx items.size 0 lo:Nat):Int)==0&&(1:Int)==1&&(sIx items.size items.size hi - sIx items.size 0 lo)==items.size)=true):=by
  intro q
  rw [au,au] at q
  have q1:((sIx items.size 0 lo:Nat):Int)=0:=eq_of_beq q.1.1
  have q2:sIx items.size items.size hi - sIx items.size 0 lo=items.size:=eq_of_beq q.2
  exact hw ⟨by omega,by omega⟩
 show wpAny _ _ (if(((sIx items.size 0 lo:Nat):Int)==0&&(1:Int)==1&&(sIx items.size items.size hi - sIx items.size 0 lo)==items.size)=true then _ else _) _ _ s
 rw [if_neg hno,yS]
 first
  | exact aa (m:=Builtin.Tuple.tupleExact _) (wpAny_newObj_type (ae ⟨_,rfl,ae h⟩) htake)
  | exact aa (m:=Builtin.Tuple.tupleExact _) (wpAny_newObj_type (aa (ae (ae ⟨_,rfl,ae h⟩))) htake)
  | exact aa (aa (m:=Builtin.Tuple.tupleExact _) (wpAny_newObj_type (ae (ae ⟨_,rfl,ae h⟩)) htake))
  | exact aa (aa (m:=Builtin.Tuple.tupleExact _) (wpAny_newObj_type (ae ⟨_,rfl,ae h⟩) htake))
end
end HT
namespace L2
open PySem PySem.Spec PyProof.Rows
abbrev TO:=St->Hp->(Option Int->Hp->Prop)->Prop
theorem sY {ns:List Int}: ∀ {us:List Value},bF (ns.map V.int) us->IntsAre us ns:=by
 induction ns with
 | nil=>intro us r;rw [List.map_nil] at r;cases r;exact .nil
 | cons n ns ih=>
  intro us r
  rw [List.map_cons] at r
  cases r with
  | cons r1 r2=>
   obtain⟨t,e⟩:=r1
   subst e
   exact .cons n t (ih r2)
section
variable {X:Cx} {e:Expr} {te:TE} {lo hi:Option Expr} {tl th:TO} {pos p2:Pos}
def SlR (X:Cx) (r:V->Option Int->Option Int->Hp->VK->Prop):Prop:=
 ∀ (pins:List (Addr×Obj)) (s:Shared) (σ:St) (H:Hp) (x:V) (v vl vu:Value) (lo hi:Option Int) (sl:Addr) (Q:VK),Inv X pins σ H s->bA x v->s.heap.IsSliceOf sl vl vu .none->IsPart vl lo->IsPart vu hi->r x lo hi H Q->
  ∃ T id,typeLookup (.type T) "__getitem__"=pure (some (.builtin id))/\s.TypeIs v T/\wpAny (model X.prog X.w) X.A (getItem v (.ref sl)) (EP X pins σ Q) X.xe s
noncomputable def yE (xs:List V) (lo hi:Option Int):List V:=(xs.drop (HT.sIx xs.length 0 lo)).take (HT.sIx xs.length xs.length hi - HT.sIx xs.length 0 lo)
theorem jM (xs:List V) (lo hi:Option Int):(yE xs lo hi).length<=xs.length:=by
 unfold yE
 rw [List.length_take,List.length_drop]
 omega
noncomputable def aQd (K:PySem.W.Frag):V->Option Int->Option Int->Hp->VK->Prop:=fun x lo hi H Q=> ∃ a xs,x= .ref a/\SqT K H a xs/\
 ¬ (HT.sIx xs.length 0 lo=0/\HT.sIx xs.length xs.length hi=xs.length)/\ ∀ p,H p=none->Q (.ref p) (upd H p (.tup (yE xs lo hi)))
theorem aHr:SlR X (aQd X.K):=by
 intro pins s σ H x v vl vu lo hi sl Q I rx hs pl pu h
 obtain⟨a,xs,rfl,hx,hw,q⟩:=h
 cases rx
 obtain⟨its,r,ht,hz⟩:=I.tuple hx
 have hlen:its.toArray.size=xs.length:=by rw [av];exact r.length.symm
 refine⟨"tuple",_,PyProof.Rows.slot_tuple_getitem.lookup,ht.typeIs, ?_⟩
 refine HT.getItem_tuple_cut ht hs pl pu (by rw [hlen];exact hw) ?_ (by rw [hlen];exact hz)
 rw [hlen]
 refine⟨.ref s.heap.objs.size,_,I.laid (t':=s.toks) (o:= .tup (yE xs lo hi)) (fun b ob q=>af _ q) (aj _) ?_,rfl,q _ (I.hok.fresh (aj _))⟩
 exact⟨Nat.le_trans (jM xs lo hi) hz,_,(r.drop (HT.sIx xs.length 0 lo)).take (HT.sIx xs.length xs.length hi - HT.sIx xs.length 0 lo),IsTup.new _ _,⟨_,ag _ rfl,rfl⟩⟩
noncomputable def aMr (K:PySem.W.Frag):R2:=fun x y H Q=> ∃ a b xs ys,x= .ref a/\y= .ref b/\SqT K H a xs/\SqT K H b ys/\xs≠[]/\xs.length+ys.length<=sizeLine/\
 (ys=[]->Q (.ref a) H)/\(ys≠[]-> ∀ p,H p=none->Q (.ref p) (upd H p (.tup (xs++ys))))
theorem bF.nil_iff {xs:List V} {us:List Value} (r:bF xs us):us=[]↔xs=[]:=by
 cases r with
 | nil=>simp
 | cons _ _=>simp
theorem aC3:OpR X (binaryOp .Add) (aMr X.K):=by
 intro pins s σ H x y v u Q I rx ry h
 obtain⟨a,b,xs,ys,rfl,rfl,ha,hb,hx,hz,q1,q2⟩:=h
 cases rx
 cases ry
 obtain⟨its,r1,p1,_⟩:=I.tuple ha
 obtain⟨its2,r2,p2,_⟩:=I.tuple hb
 refine HT.cat_tup p1 p2 (fun z=>hx (r1.nil_iff.mp z)) (fun z=>⟨.ref a,H,I,rfl,q1 (r2.nil_iff.mp z)⟩) (fun z=> ?_) (by rw [<-r1.length, <-r2.length];exact hz)
 refine⟨.ref s.heap.objs.size,_,I.laid (t':=s.toks) (o:= .tup (xs++ys)) (fun b ob q=>af _ q) (aj _) ?_,rfl,q2 (fun w=>z (r2.nil_iff.mpr w)) _ (I.hok.fresh (aj _))⟩
 exact⟨by rw [bn];exact hz,_,r1.append r2,IsTup.new _ _,⟨_,ag _ rfl,rfl⟩⟩
end
noncomputable def ixN (n:Nat) (i:Int):Option Nat:=if 0<=i then(if i<n then some i.toNat else none) else if -(n:Int)<=i then some (i+n).toNat else none
noncomputable def atI {α:Type} (xs:List α) (i:Int):Option α:=(ixN xs.length i).bind fun j=>xs[j]?
theorem uR {n:Nat} {i:Int} {j:Nat} (h:ixN n i=some j):seqIndex? i n=some j/\j<n/\ -(n:Int)<=i/\i<n:=by
 unfold ixN at h
 by_cases h0:0<=i
 ·rw [if_pos h0] at h
  by_cases h1:i<n
  ·rw [if_pos h1] at h
   have e:i.toNat=j:=Option.some.inj h
   exact⟨by rw [seqIndex_of h0 h1,e],by omega,by omega,h1⟩
  ·rw [if_neg h1] at h;cases h
 ·rw [if_neg h0] at h
  by_cases h1: -(n:Int)<=i
  ·rw [if_pos h1] at h
   have e:(i+n).toNat=j:=Option.some.inj h
   exact⟨by rw [seqIndex_neg (by omega) h1,e],by omega,h1,by omega⟩
  ·rw [if_neg h1] at h;cases h
theorem lZ {α:Type} {xs:List α} {i:Int} {v:α} (h:atI xs i=some v): ∃ j,seqIndex? i xs.length=some j/\xs[j]? =some v/\j<xs.length/\ -(xs.length:Int)<=i/\i<xs.length:=by
 unfold atI at h
 cases e:ixN xs.length i with
 | none=>rw [e] at h;cases h
 | some j=>
  rw [e] at h
  obtain⟨h1,h2,h3,h4⟩:=uR e
  exact⟨j,h1,h,h2,h3,h4⟩
def uS (b:Expr):Prop:= ∀ o i,subscripted b false o i=operate [o,i] (getItem o i)
def IxR (X:Cx) (r:R2):Prop:=
 ∀ (value slice:Expr) (pins:List (Addr×Obj)) (s:Shared) (σ:St) (H:Hp) (x y:V) (v u:Value) (Q:VK),Inv X pins σ H s->bA x v->bA y u->r x y H Q->
  subscripted slice false v u=operate [v,u] (getItem v u)->wpAny (model X.prog X.w) X.A (subscriptTail value slice v u) (EP X pins σ Q) X.xe s
def MtR (X:Cx) (id:String) (r:V->List V->Hp->VK->Prop):Prop:=
 ∀ (pins:List (Addr×Obj)) (s:Shared) (σ:St) (H:Hp) (x:V) (xs:List V) (v:Value) (us:List Value) (Q:VK),Inv X pins σ H s->bA x v->bF xs us->r x xs H Q->
  wpAny (model X.prog X.w) X.A (call (.builtin id) (v::us)) (EP X pins σ Q) X.xe s
section
variable {X:Cx} {a b:Expr} {ta tb:TE} {pos:Pos}
noncomputable def aMs (K:PySem.W.Frag):R2:=fun x y H Q=> ∃ p xs i v,x= .ref p/\y= .int i/\SqL K H p xs/\atI xs i=some v/\Q v H
noncomputable def aPd (K:PySem.W.Frag):R2:=fun x y H Q=> ∃ p xs i v,x= .ref p/\y= .int i/\SqT K H p xs/\atI xs i=some v/\Q v H
noncomputable def aPe:R2:=fun x y H Q=> ∃ z i c,x= .str z/\y= .int i/\z.length<=sizeLine/\atI z.cps.toList i=some c/\Q (.str ⟨#[c]⟩) H
theorem aC4:IxR X (aMs X.K):=by
 intro value slice pins s σ H x y v u Q I rx ry h hs
 obtain⟨p,xs,i,z,rfl,rfl,hq,he,q⟩:=h
 cases rx
 obtain⟨t,rfl⟩:=ry
 obtain⟨its,r,pl,hz⟩:=I.list hq
 obtain⟨j,h1,h2,h3,h4,h5⟩:=lZ he
 obtain⟨w,ew,rw'⟩:=r.get h2
 have hl:=r.length
 have hn:=jK
 have fin:EP X pins σ Q w s:=⟨z,H,I,rw',q⟩
 by_cases h0:0<=i
 ·have hj:i.toNat=j:=by
   rw [seqIndex_of h0 h5] at h1
   exact Option.some.inj h1
  exact item_listR pl.isList h0 (by omega) (by rw [hj];simpa using ew) fin hs
 ·have hj:(i+(its.toArray.size:Int)).toNat=j:=by
   rw [seqIndex_neg (by omega) h4] at h1
   rw [av, <-hl]
   exact Option.some.inj h1
  exact subscriptTail_builtinR (x:=w) pl.isList.typeIs slot_list_getitem.lookup
   (wpAny_getItem_list_neg (Q:=fun r s'=>r=w/\EP X pins σ Q r s') pl.isList (by omega) (by rw [av]<;>omega) (by omega) (by rw [hj];simpa using ew) ⟨rfl,fin⟩) hs
theorem aHs:IxR X (aPd X.K):=by
 intro value slice pins s σ H x y v u Q I rx ry h hs
 obtain⟨p,xs,i,z,rfl,rfl,hq,he,q⟩:=h
 cases rx
 obtain⟨t,rfl⟩:=ry
 obtain⟨its,r,pl,hz⟩:=I.tuple hq
 obtain⟨j,h1,h2,h3,h4,h5⟩:=lZ he
 obtain⟨w,ew,rw'⟩:=r.get h2
 have hl:=r.length
 have hn:=jK
 have fin:EP X pins σ Q w s:=⟨z,H,I,rw',q⟩
 exact subscriptTail_builtinR (x:=w) pl.typeIs slot_tuple_getitem.lookup
  (getItem_tuple (j:=j) (Q:=fun r s'=>r=w/\EP X pins σ Q r s') pl (by omega) (by omega) (by rw [av, <-hl];exact h1) (by simpa using ew) ⟨rfl,fin⟩) hs
theorem aHt:IxR X aPe:=by
 intro value slice pins s σ H x y v u Q I rx ry h hs
 obtain⟨z,i,c,rfl,rfl,hz,he,q⟩:=h
 obtain⟨t,rfl⟩:=rx
 obtain⟨t',rfl⟩:=ry
 obtain⟨j,h1,h2,h3,h4,h5⟩:=lZ he
 have hl:z.cps.toList.length=z.length:=by simp [Str.length]
 rw [hl] at h1 h4 h5
 have hn:=jK
 exact tail_any (typeIs_str s z t) slot_str_getitem.lookup (getItem_str (c:=c) (by
  have e1:decide (i< -(2 ^ 63:Int))=false:=decide_eq_false (by omega)
  have e2:decide (i≥2 ^ 63)=false:=decide_eq_false (by omega)
  rw [e1,e2,Bool.or_false]) (by rw [h1];simpa using h2) ⟨.str ⟨#[c]⟩,H,I.tok _,⟨_,rfl⟩,q⟩) hs
noncomputable def rIx (K:PySem.W.Frag):R2:=fun x y H Q=>aMs K x y H Q\/aPd K x y H Q\/aPe x y H Q
theorem sZ (its:List Value) (n j:Nat) (u:Value):Obj.mapSeq (·.setIfInBounds j u) { cls:= .type "list",data:= .seq its.toArray n }={ cls:= .type "list",data:= .seq (its.set j u).toArray n }:=by
 simp [Obj.mapSeq]
theorem Inv.lst {pins:List (Addr×Obj)} {σ:St} {H:Hp} {s:Shared} {p:Addr} {xs:List V} (I:Inv X pins σ H s) (h:H p=some (.lst xs)):
  ∃ (its:List Value) (n:Nat),bF xs its/\s.heap.get? p=some { cls:= .type "list",data:= .seq its.toArray n }/\xs.length<=sizeLine:=by
 obtain⟨z,its,n,r,e⟩:=I.hok p _ h
 exact⟨its,n,r,e,z⟩
theorem Inv.lstUpd {pins:List (Addr×Obj)} {σ:St} {H:Hp} {s:Shared} {p:Addr} {xs ys:List V} {its its':List Value} {n n':Nat} {f:Obj->Obj} (I:Inv X pins σ H s) (h:H p=some (.lst xs))
  (ho:s.heap.get? p=some { cls:= .type "list",data:= .seq its.toArray n }) (hf:f { cls:= .type "list",data:= .seq its.toArray n }={ cls:= .type "list",data:= .seq its'.toArray n' }) (r:bF ys its') (hz:ys.length<=sizeLine) (t:Nat):
  Inv X pins σ (upd H p (.lst ys)) { s with heap:=s.heap.update p f,toks:=t }:=by
 have e:(s.heap.update p f).get? p=some { cls:= .type "list",data:= .seq its'.toArray n' }:=by
  rw [Heap.get?_update_self f ho (by rw [hf]<;>rfl),hf]
 refine I.write (x:=p) (e:=p) (by rw [h];trivial) (.inl rfl) (fun b u hb q=>(Heap.get?_update_other _ _ (Ne.symm hb)).trans q) ⟨_,e⟩ ?_
 exact⟨hz,its',n',r,e⟩
noncomputable def aHu:V->V->V->Hp->(Hp->Prop)->Prop:=fun o i v H Q=> ∃ p xs k j,o= .ref p/\i= .int k/\H p=some (.lst xs)/\ixN xs.length k=some j/\Q (upd H p (.lst (xs.set j v)))
theorem i6:aG6 X aHu:=by
 intro pins s σ H o i v ov iv u Q I ro ri rv h
 obtain⟨p,xs,k,j,rfl,rfl,hp,hj,q⟩:=h
 cases ro
 obtain⟨t,rfl⟩:=ri
 obtain⟨its,n,r,ho,hz⟩:=I.lst hp
 obtain⟨h1,h2,h3,h4⟩:=uR hj
 have hl:=r.length
 have hn:=jK
 have I':Inv X pins σ (upd H p (.lst (xs.set j v))) { s with heap:=s.heap.update p (Obj.mapSeq (·.setIfInBounds j u)) }:=
  I.lstUpd hp ho (sZ its n j u) (r.set rv j) (by rw [List.length_set];exact hz) s.toks
 by_cases h0:0<=k
 ·have hk:k.toNat=j:=by
   rw [seqIndex_of h0 h4] at h1
   exact Option.some.inj h1
  exact PySem.W.ki_setAt ho h0 (by omega) (by rw [av, <-hl];exact h4) (by rw [hk];exact⟨_,I',q⟩)
 ·have hk:(k+(its.toArray.size:Int)).toNat=j:=by
   rw [seqIndex_neg (by omega) h3] at h1
   rw [av, <-hl]
   exact Option.some.inj h1
  exact PySem.W.ki_setBack ho (by omega) (by rw [av, <-hl];exact h3) (by omega) (by rw [hk];exact⟨_,I',q⟩)
theorem nF (lo hi:Option Int) (n:Nat):(sliceBounds lo hi none n).1=((HT.sIx n 0 lo:Nat):Int)/\(sliceBounds lo hi none n).2.1=((HT.sIx n n hi:Nat):Int)/\(sliceBounds lo hi none n).2.2=1:=by
 refine⟨?_, ?_,rfl⟩
 ·cases lo with
  | none=>simp [sliceBounds,HT.sIx]
  | some i=>
   simp only [sliceBounds,HT.sIx,Option.getD_none,show(1:Int) > 0 by decide,if_true]
   by_cases h:i<0
   ·simp only [h,if_true]<;>omega
   ·simp only [h,if_false]<;>omega
 ·cases hi with
  | none=>simp [sliceBounds,HT.sIx]
  | some i=>
   simp only [sliceBounds,HT.sIx,Option.getD_none,show(1:Int) > 0 by decide,if_true]
   by_cases h:i<0
   ·simp only [h,if_true]<;>omega
   ·simp only [h,if_false]<;>omega
theorem l4 (its:List Value) (lo hi:Option Int):slicePick its.toArray lo hi none=((its.drop (HT.sIx its.length 0 lo)).take (HT.sIx its.length its.length hi - HT.sIx its.length 0 lo)).toArray:=by
 obtain⟨h1,h2,h3⟩:=nF lo hi its.toArray.size
 unfold slicePick
 rw [h1,h2,h3]
 simp only [sliceRange_one,pick_run,av]<;>rfl
noncomputable def aQe (K:PySem.W.Frag):V->Option Int->Option Int->Hp->VK->Prop:=fun x lo hi H Q=> ∃ a xs,x= .ref a/\SqL K H a xs/\ ∀ p,H p=none->Q (.ref p) (upd H p (.lst (yE xs lo hi)))
theorem aC5:SlR X (aQe X.K):=by
 intro pins s σ H x v vl vu lo hi sl Q I rx hs pl pu h
 obtain⟨a,xs,rfl,hx,q⟩:=h
 cases rx
 obtain⟨its,r,ht,hz⟩:=I.list hx
 have hlen:=r.length
 refine⟨"list",_,slot_list_getitem.lookup,ht.isList.typeIs, ?_⟩
 refine wpAny_getItem_list_slice ht.isList hs pl pu .none (by simp) ?_ (by rw [av]<;>omega)
 rw [l4, <-hlen]
 refine⟨.ref s.heap.objs.size,_,I.laid (t':=s.toks) (o:= .lst (yE xs lo hi)) (fun b ob q=>af _ q) (aj _) ?_,rfl,q _ (I.hok.fresh (aj _))⟩
 exact⟨Nat.le_trans (jM xs lo hi) hz,_,0,(r.drop (HT.sIx xs.length 0 lo)).take (HT.sIx xs.length xs.length hi - HT.sIx xs.length 0 lo),ag _ rfl⟩
theorem nG:kQ X (.builtin "len") (fun xs H Q=> ∃ p ys,xs=[.ref p]/\(SqL X.K H p ys\/SqT X.K H p ys)/\Q (.int ys.length) H):=by
 intro pins s σ H xs us Q I r h
 obtain⟨p,ys,rfl,hq,q⟩:=h
 obtain⟨u,rfl,rx⟩:=kR r
 cases rx
 have hn:=jK
 rcases hq with hq | hq
 ·obtain⟨its,r',pl,hz⟩:=I.list hq
  have hlen:=r'.length
  exact Calls.call_len_list pl.isList (by simp only [av]<;>omega) ⟨.int ys.length,H,I.tok _,⟨s.toks+1,by rw [av,hlen]⟩,q⟩
 ·obtain⟨its,r',pl,hz⟩:=I.tuple hq
  have hlen:=r'.length
  exact len_tuple pl (by simp only [av]<;>omega) ⟨.int ys.length,H,I.tok _,⟨s.toks+1,by rw [av,hlen]⟩,q⟩
theorem nH:kQ X (.builtin "len") (fun xs H Q=> ∃ z,xs=[.str z]/\z.length<=sizeLine/\Q (.int z.length) H):=by
 intro pins s σ H xs us Q I r h
 obtain⟨z,rfl,hz,q⟩:=h
 obtain⟨u,rfl,t,rfl⟩:=kR r
 have hn:=jK
 exact len_str (by omega) ⟨.int z.length,H,I.tok _,⟨_,rfl⟩,q⟩
theorem nI:kQ X (.type "list") (fun xs H Q=> ∃ p ys,xs=[.ref p]/\(SqL X.K H p ys\/SqT X.K H p ys)/\ ∀ l,H l=none->Q (.ref l) (upd H l (.lst ys))):=by
 intro pins s σ H xs us Q I r h
 obtain⟨p,ys,rfl,hq,q⟩:=h
 obtain⟨u,rfl,rx⟩:=kR r
 cases rx
 have fin: ∀ (its:List Value),bF ys its->ys.length<=sizeLine-> ∀ (h':Heap) (c':Nat),(∀ b o',s.heap.get? b=some o'->h'.get? b=some o')->
   h'.get? s.heap.objs.size=some { cls:= .type "list",dict:=none,data:= .seq its.toArray c',slots:= #[] }->EP X pins σ Q (.ref s.heap.objs.size) { s with heap:=h' }:=fun its r' hz h' c' kp e=>
  ⟨.ref s.heap.objs.size,_,I.laid (t':=s.toks) kp (aj _) (show ObjOk X.prog X.w _ h' _ (.lst ys) from⟨hz,its,c',r',e⟩),rfl,q _ (I.hok.fresh (aj _))⟩
 rcases hq with hq | hq
 ·obtain⟨its,r',pl,hz⟩:=I.list hq
  have hlen:=r'.length
  obtain⟨o,ho,hc,n,hd⟩:=pl.isList
  exact call_list_seq p (.inl rfl) ho hc hd (fun h' c' kp e=>fin its r' hz h' c' kp e) (by simp only [av]<;>omega)
 ·obtain⟨its,r',pl,hz⟩:=I.tuple hq
  have hlen:=r'.length
  obtain⟨o,ho,hc,n,hd⟩:=pl
  exact call_list_seq p (.inr rfl) ho hc hd (fun h' c' kp e=>fin its r' hz h' c' kp e) (by simp only [av]<;>omega)
theorem gQ:kQ X (.type "tuple") (fun xs H Q=> ∃ p ys,xs=[.ref p]/\((SqL X.K H p ys/\ ∀ l,H l=none->Q (.ref l) (upd H l (.tup ys)))\/(SqT X.K H p ys/\Q (.ref p) H))):=by
 intro pins s σ H xs us Q I r h
 obtain⟨p,ys,rfl,h⟩:=h
 obtain⟨u,rfl,rx⟩:=kR r
 cases rx
 rcases h with ⟨hq,q⟩ | ⟨hq,q⟩
 ·obtain⟨its,r',pl,hz⟩:=I.list hq
  have hlen:=r'.length
  refine call_tuple_list pl.isList (fun h' kp=> ?_) (by simp only [av]<;>omega)
  have I1:Inv X pins σ H { s with heap:=h' }:=I.kept (t':=s.toks) kp
  have I2:Inv X pins σ (upd H h'.objs.size (.tup ys)) { s with heap:=h'.push { cls:= .type "tuple",data:= .seq its.toArray } }:=
   I1.laid (t':=s.toks) (fun b o e=>af _ e) (aj _) (show ObjOk X.prog X.w _ _ _ (.tup ys) from⟨hz,its,r',IsTup.new _ _,⟨_,ag _ rfl,rfl⟩⟩)
  exact⟨.ref h'.objs.size,_,I2,rfl,q _ (I1.hok.fresh (aj _))⟩
 ·obtain⟨its,r',pl,hz⟩:=I.tuple hq
  exact call_tuple_same pl ⟨.ref p,H,I,rfl,q⟩
def tyV (K:PySem.W.Frag) (T:String) (x:V) (H:Hp):Prop:=match x with
 | .str _=>T="str"
 | .int _=>T="int"
 | .ref p=>(T="list"/\ ∃ xs,SqL K H p xs)\/(T="tuple"/\ ∃ o,K.lookup p=some o/\o.cls= .type "tuple"/\o.dict=none)\/
   (T="dict"/\((∃ kvs,H p=some (.dK kvs))\/ ∃ kvs,H p=some (.dT kvs)))\/(T="set"/\ ∃ S n,H p=some (.set S n))
 | _=>False
theorem aHv {pins:List (Addr×Obj)} {σ:St} {H:Hp} {s:Shared} {T:String} {x:V} {v:Value} (I:Inv X pins σ H s) (r:bA x v) (ty:tyV X.K T x H):
  s.TypeIs v T/\ ∀ a,v= .ref a-> ∃ ob,s.heap.get? a=some ob/\ob.dict=none:=by
 cases x with
 | str z=>
  obtain⟨t,rfl⟩:=r
  cases (show T="str" from ty)
  exact⟨typeIs_str s z t,fun _ e=>nomatch e⟩
 | int i=>
  obtain⟨t,rfl⟩:=r
  cases (show T="int" from ty)
  exact⟨typeIs_int s i t,fun _ e=>nomatch e⟩
 | ref p=>
  cases r
  rcases ty with ⟨rfl,xs,hq⟩ | ⟨rfl,o,hk,hc,hd⟩ | ⟨rfl,hk⟩ | ⟨rfl,S,n,hk⟩
  ·obtain⟨its,_,pl,_⟩:=I.list hq
   refine⟨pl.isList.typeIs,fun a e=> ?_⟩
   cases e
   obtain⟨o,n,e,c,hd,_⟩:=pl
   exact⟨o,e,hd⟩
  ·refine⟨⟨o,I.kIn p o hk,hc⟩,fun a e=> ?_⟩
   cases e
   exact⟨o,I.kIn _ o hk,hd⟩
  ·have z: ∃ o,s.heap.get? p=some o/\o.ExactDict:=by
    rcases hk with ⟨kvs,hk⟩ | ⟨kvs,hk⟩
    ·obtain⟨_,_,_,_,o,_,_,e,ex,_⟩:=I.hok p _ hk
     exact⟨o,e,ex⟩
    ·obtain⟨_,_,_,_,o,_,_,e,ex,_⟩:=I.hok p _ hk
     exact⟨o,e,ex⟩
   obtain⟨o,e,ex⟩:=z
   refine⟨⟨o,e,ex.1⟩,fun a e2=> ?_⟩
   cases e2
   exact⟨o,e,ex.2.1⟩
  ·obtain⟨o,_,_,_,e,ex,_⟩:=I.hok p _ hk
   refine⟨⟨o,e,ex.1⟩,fun a e2=> ?_⟩
   cases e2
   exact⟨o,e,ex.2.1⟩
 | _=>exact ay ty
noncomputable def tBM (K:PySem.W.Frag) (T:String) (r:V->List V->Hp->VK->Prop) (to:TE) (t:TA):TE:=fun σ H Q=>to σ H fun x H1=>tyV K T x H1/\t σ H1 fun xs H2=>r x xs H2 Q
variable {o e:Expr} {es:List Expr} {to:TE} {t:TA} {name:Str} {apos cpos:Pos} {T id:String} {r:V->List V->Hp->VK->Prop}
theorem aHw (pa:PlainAttrs T) (slot:Slot T name id) (hty:typeOf (.builtin id)=pure (.type "method_descriptor")) (hm:MtR X id r) (ho:PE X o to) (ha:PA X (e::es) t)
  (hbase:attributeBase o name X.env (eval o X.env)=eval o X.env:=by rfl)
  (hfew:((backTo cpos (starEach (e::es) X.env)).all (fun x=> !x.1)&&(backToKw cpos (keywordEach [] X.env)).all (fun x=>x.1.isSome)
   &&decide ((e::es).length+([]:List Keyword).length+(if([]:List Keyword).isEmpty then 0 else 1)<30))=true:=by rfl)
  (hline:(apos.endLine==cpos.line)=true:=by rfl) (hs:starEach (e::es) X.env=(false,eval e X.env)::starEach es X.env:=by rfl) (hplain:(backTo cpos (starEach es X.env)).any (·.1)=false:=by rfl):
  PE X (.Call (.Attribute o name apos) (e::es) [] cpos) (tBM X.K T r to t):=by
 intro pins s σ H Q I h
 refine wpAny_Call_method_late hbase hfew hline rfl (thn (ho pins s σ H _ I h) fun v s1 hz_=> ?_)
 obtain⟨x,H1,I1,r1,ty,q1⟩:=hz_
 obtain⟨h1,h2⟩:=aHv I1 r1 ty
 refine⟨T,id,pa,slot,hty,h1,h2, ?_⟩
 have hA:=ha cpos pins s1 σ H1 _ I1 q1
 rw [hs] at hA ⊢
 refine Calls.callWith_builtin (by show(false||(backTo cpos (starEach es X.env)).any (·.1))=false;rw [hplain]<;>rfl) (Calls.evalArgs_plain ?_)
 exact thn hA fun us s2 ⟨vs,H2,I2,r2,q2⟩=>hm pins s2 σ H2 x vs v us Q I2 r1 r2 q2
end
def MtM (X:Cx) (id:String) (r:V->List V->Hp->VK->Prop):Prop:=
 ∀ (pins:List (Addr×Obj)) (s:Shared) (σ:St) (H:Hp) (x:V) (xs:List V) (v:Value) (us:List Value) (Q:VK),Inv X pins σ H s->bA x v->bF xs us->r x xs H Q->
  wpAny (model X.prog X.w) X.A (call (.builtin id) (v::us)) (EP X pins σ Q) X.xe s
theorem bF.one: ∀ {x:V} {us:List Value},bF [x] us-> ∃ u,us=[u]/\bA x u
 | _,_, .cons r .nil=>⟨_,rfl,r⟩
theorem bF.two: ∀ {x y:V} {us:List Value},bF [x,y] us-> ∃ u v,us=[u,v]/\bA x u/\bA y v
 | _,_,_, .cons r (.cons q .nil)=>⟨_,_,rfl,r,q⟩
theorem bF.reverse {xs:List V} {us:List Value} (h:bF xs us):bF xs.reverse us.reverse:=by
 induction h with
 | nil=>exact .nil
 | cons r t ih=>rw [List.reverse_cons,List.reverse_cons];exact bF.append ih (.cons r .nil)
theorem bF.rep {xs:List V} {us:List Value} (h:bF xs us): ∀ k:Nat,bF (ak k xs).flatten (ak k us).flatten
 | 0=> .nil
 | k+1=>by
  rw [List.replicate_succ,List.replicate_succ,List.flatten_cons,List.flatten_cons]
  exact bF.append h (bF.rep h k)
theorem nJ (its:List Value): ∀ (k:Nat) (acc:List Value),
  List.foldl (fun x1 x2=>x1++x2) acc.toArray (ak k its.toArray)=(acc++(ak k its).flatten).toArray
 | 0,acc=>by simp
 | k+1,acc=>by
  have e:acc.toArray++its.toArray=(acc++its).toArray:=by simp
  have e2:(acc++its)++(ak k its).flatten=acc++(ak (k+1) its).flatten:=by
   rw [List.replicate_succ,List.flatten_cons,List.append_assoc]
  rw [<-e2, <-nJ its k (acc++its), <-e,List.replicate_succ,List.foldl_cons]
section
variable {X:Cx} {pins:List (Addr×Obj)} {σ:St} {H:Hp} {s:Shared} {l b:Addr} {xs ys zs:List V}
theorem Inv.lset {its its':List Value} {n:Nat} {f:Array Value->Array Value} {t':Nat} (I:Inv X pins σ H s) (hH:H l=some (.lst xs))
  (e:s.heap.get? l=some { cls:= .type "list",data:= .seq its.toArray n }) (hf:f its.toArray=its'.toArray) (hv:bF ys its') (hz:ys.length<=sizeLine):
  Inv X pins σ (upd H l (.lst ys)) { s with heap:=s.heap.update l (Obj.mapSeq f),toks:=t' }:=by
 have q:=PySem.IsL.update e f
 rw [hf] at q
 refine I.write (x:=l) (e:=l) (by rw [hH];exact trivial) (.inl rfl) (fun b' u hb hu=>(Heap.get?_update_other s.heap (Obj.mapSeq f) (Ne.symm hb)).trans hu) ⟨_,q⟩ ?_
 exact⟨hz,its',_,hv,q⟩
theorem Inv.lnew {its:List Value} {t':Nat} (I:Inv X pins σ H s) (hv:bF ys its) (hz:ys.length<=sizeLine):
  Inv X pins σ (upd H s.heap.objs.size (.lst ys)) { s with heap:=s.heap.push { cls:= .type "list",data:= .seq its.toArray },toks:=t' }:=
 I.laid (fun _ _ q=>af _ q) (aj _) ⟨hz,its,0,hv,ag _ rfl⟩
theorem Inv.fresh (I:Inv X pins σ H s):H s.heap.objs.size=none:=I.hok.fresh (aj _)
theorem Inv.lstM (I:Inv X pins σ H s) (hH:H l=some (.lst xs)):xs.length<=sizeLine/\ ∃ (its:List Value) (n:Nat),bF xs its/\xs.length=its.length/\s.heap.get? l=some { cls:= .type "list",data:= .seq its.toArray n }:=by
 obtain⟨z,its,n,r,e⟩:=I.hok l _ hH
 exact⟨z,its,n,r,r.length,e⟩
theorem rC {n:Nat} (h:n<=sizeLine):Builtin.List.listTooLong n=false:=by
 unfold Builtin.List.listTooLong
 exact decide_eq_false (by omega)
end
section
variable {X:Cx}
noncomputable def aC6:V->List V->Hp->VK->Prop:=fun x vs H Q=> ∃ l xs y,x= .ref l/\vs=[y]/\H l=some (.lst xs)/\xs.length<sizeLine/\Q .non (upd H l (.lst (xs++[y])))
theorem nL:MtM X "list.append" aC6:=by
 intro pins s σ H x vs v us Q I rx rv h
 obtain⟨l,xs,y,rfl,rfl,hH,hz,q⟩:=h
 cases rx
 obtain⟨u,rfl,ru⟩:=rv.one
 obtain⟨z,its,n,r,hl,e⟩:=I.lstM hH
 refine call_meets F.slot_list_append ⟨_,e,rfl⟩ F.entry_list_append (F.args_list_append_2 _ _) (PySem.list_append l its.toArray n u (by rw [av];omega)) ⟨e, ?_⟩
 refine⟨.non,_,I.lset (its':=its++[u]) hH e (by simp) (r.append (.cons ru .nil)) ?_,rfl,q⟩
 rw [bn,List.length_singleton]
 omega
theorem pJ {α:Type} (xs:List α) (k:Nat):(ak k xs).flatten.length=k * xs.length:=by
 induction k with
 | zero=>simp
 | succ k ih=>rw [List.replicate_succ,List.flatten_cons,bn,ih,Nat.succ_mul,Nat.add_comm]
end
section
variable {prog:Program} {w:World} {A:Around} {E:Value->Shared->Prop} {s:Shared}
end
section
variable {X:Cx}
end
end L2
namespace Att
open PySem PySem.W PySem.Calls PyProof.Rows
theorem jN {P:Params} {h:Heap}: ∀ (ns:List Int) (vs:List Value),WellAll P h vs (ns.map WData.int)->IntsAre vs ns:=by
 intro ns
 induction ns with
 | nil=>
  intro vs w
  rw [List.map_nil] at w
  cases w
  exact .nil
 | cons n ns ih=>
  intro vs w
  rw [List.map_cons] at w
  cases w with
  | cons a b=>
   cases a
   exact .cons _ _ (ih _ b)
theorem uT {l:OpenLaw} {n:Nat} (hn:l.most=some n) {P:Params} {h:Heap} {args:List WData} {vals:List Value}
  (hpre:l.row.toRowW.claim.pre args=true) (hwl:WellAll P h vals args):
  ∃ a vs ns,vals=[Value.ref a]/\args=[WData.list (ns.map WData.int)]/\h.get? a=some { cls:= .type "list",data:= .seq vs.toArray }/\IntsAre vs ns/\ns.length<=n:=by
 have hsh:WShape.hasAll [] args [.list .int]=true:=(pre_splitW hpre).1
 have hc:l.pre.holds [] { args:=args }=true:=(pre_splitW hpre).2
 obtain⟨d,r,rfl,h1,h2⟩:=hasAllW_cons hsh
 obtain rfl:=hasAllW_nil h2
 obtain⟨xs,rfl,h3⟩:=hasW_list h1
 obtain⟨ns,rfl⟩:=items_int h3
 have hlen:ns.length<=n:=by
  unfold OpenLaw.pre at hc
  have h4:(WTm.not (.lt (.lit (.int (n:Int))) (.len (.arg 0)))).holds [] { args:=[.list (ns.map .int)] }=true:=by
   have h4:=(holds_andW hc).1
   rw [hn] at h4
   exact h4
  have h5:=condW_of h4 (w_not (w_lt w_lit (w_len_list (w_arg rfl))))
  rw [am] at h5
  refine Nat.le_of_not_lt fun q=> ?_
  have q':(n:Int)<((ns.length:Nat):Int):=by omega
  first
   | (rw [decide_eq_true q'] at h5;exact absurd h5 (by decide))
   | (simp at h5;omega)
 cases hwl with
 | cons w1 w2=>
  cases w2
  cases w1 with
  | list ho hall=>exact⟨_,_,ns,rfl,rfl,ho,jN ns _ hall,hlen⟩
theorem uU (l:OpenLaw) (args:List WData):l.row.toRowW.claim.post args (.bool true) args=true:=
 postW_of (r:=l.row.toRowW) (X:=(true==true))
  (show WShape.has [] (.bool true) .bool=true by first | rfl | decide | simp [WShape.has,WShape.arms,WShape.armsAll])
  (show(WTm.eq .res (.lit (.bool true))).value [] { args:=args,res:=some (.bool true),after:=args }=some (.bool (true==true)) from w_eq_bool (w_res rfl) w_lit) rfl
theorem attach_call {l:OpenLaw} {n:Nat} {q:Program} {loose:List Str} {XP:(Str->Option Value)->Heap->Prop} {YP:World->Heap->Prop} {d:DefRec}
  (hn:l.most=some n) (hdf:d.params.defaults=[])
  (call: ∀ (w:World) (s₀ s₁:Shared) (mg mb:Str->Option Value) (fa:Addr) (o:Obj) (pm cd doc:Value) (a:Addr) (vs:List Value) (ns:List Int),
   Ground q loose [] XP w s₀ mg mb s₁.heap->YP w s₁.heap->
   s₁.heap.get? fa=some o->o.data= .func (docDef d.name d.params d.body d.scope pm cd doc)->s₁.heap.CodeRec cd d.name->mg d.name=some (.ref fa)->
   s₁.heap.get? a=some { cls:= .type "list",data:= .seq vs.toArray }->IntsAre vs ns->ns.length<=n->s₁.gens= #[]->
   codeAny (model l.prog w) callerA (.call (.ref fa) ⟨[.ref a],[]⟩) (fun r s'=>r= .ok (.ret (.bool true))/\OldK s₁.heap s'.heap/\s'.os=s₁.os/\AllBare s'.gens) s₁):
  WalkO q loose XP YP l.row.toRowW d [] (fun f vs=>PySem.call f vs):=by
 intro w s₀ s₁ mg mb G Y fa o pm cd doc dV kV ho hd hcd hD hmg hg args vals as hpre hlay hrd hwl hlo
 obtain rfl:dV= .none:=Dflts.none hD hdf
 obtain rfl:kV= .none:=Dflts.noKw hD
 obtain⟨a,vs,ns,rfl,rfl,hobj,hints,hlen⟩:=uT hn hpre hwl
 refine enter_call (codeAny_mono (call w s₀ s₁ mg mb fa o pm cd doc a vs ns G Y ho (fd_plain hd) hcd hmg hobj hints hlen hg) fun r s' hq=> ?_)
 obtain⟨rfl,h2,h3,h4⟩:=hq
 exact⟨.inl ⟨.bool true, .bool true,[],rfl,fun _=>rfl, .bool true,uU l _,fun _=>⟨List.Pairwise.nil,fun _ hm=>(nomatch hm)⟩⟩,h2,h3,h4⟩
section
variable {prog:Program} {w:World} {A:Around} {E:Value->Shared->Prop} {s:Shared} {K:Frag}
noncomputable def aPf (h:Heap) (L d:Addr):List (Addr×Obj):=(List.range h.objs.size).filterMap fun a=>if a=L\/a=d then none else(h.get? a).map fun o=>(a,o)
end
end Att
namespace L2
open PySem PySem.Spec PyProof.Rows
theorem nM: ∀ {vs:List Value} {ns:List Int},IntsAre vs ns->bF (ns.map V.int) vs
 | _,_, .nil=> .nil
 | _,_, .cons n t h=> .cons ⟨t,rfl⟩ (nM h)
def aMt (H:Hp):Prop:= ∀ b,H b=none\/ ∃ o xs,H b=some (.frz o (.lst xs))
noncomputable abbrev KOf {K:PySem.W.Frag} {h:Heap} (_:K.In h):PySem.W.Frag:=K
structure Fun (K:PySem.W.Frag) (x qual:Str) (st:Stmt) (f:Addr) (fd:FuncData):Prop where
 ex: ∃ (oc:Value) (od:Option Addr) (kV doc pm:Value) (an:Option Addr) (cdv ct:Value) (osl:Array (Option Value)),
  fd=PySem.W.fnOf x qual (defArgs st) (defBody st) (defScope st) .none kV doc pm an cdv ct/\K.lookup f=some ⟨oc,od, .func fd,osl⟩/\PySem.W.codeIn K cdv qual=true
 kp:PySem.W.keepIn K (.ref f)=true
section
variable {P:Program} {w:World} {K:PySem.W.Frag} {mg:Str->Option Value} {base:Heap}
theorem Fun.binds {x qual:Str} {st:Stmt} {f:Addr} {fd:FuncData} {ps:List Str} (F:Fun K x qual st f fd)
  (h: ∀ (kV doc pm:Value) (an:Option Addr) (cdv ct:Value) (us:List Value),us.length=ps.length->bindArgs (PySem.W.fnOf x qual (defArgs st) (defBody st) (defScope st) .none kV doc pm an cdv ct) ⟨us,[]⟩=pure (ps.zip us)):iC K fd ps []:=by
 obtain⟨oc,od,kV,doc,pm,an,cdv,ct,osl,rfl,lk,hcd⟩:=F.ex
 exact .all (h kV doc pm an cdv ct)
theorem aBg {x qual:Str} {st:Stmt} {f:Addr} {oc:Value} {od an:Option Addr} {osl:Array (Option Value)} {kV doc pm cdv ct:Value} (l:K.lookup f=some ⟨oc,od, .func (PySem.W.fnOf x qual (defArgs st) (defBody st) (defScope st) .none kV doc pm an cdv ct),osl⟩)
  (c:PySem.W.codeIn K cdv qual=true) (k:PySem.W.keepIn K (.ref f)=true):Fun K x qual st f (PySem.W.fnOf x qual (defArgs st) (defBody st) (defScope st) .none kV doc pm an cdv ct):=⟨⟨oc,od,kV,doc,pm,an,cdv,ct,osl,rfl,l,c⟩,k⟩
end
section
variable {X:Cx}
end
theorem aBh {A B:Prop} (h:B):if false=true then A else B:=by
 rw [if_neg bd]
 exact h
theorem yT {A B:Prop} (h:A):if true=true then A else B:=by
 rw [if_pos rfl]
 exact h
def Same (H H':Hp):Prop:= ∀ b o,H b=some o->H' b=some o
theorem Same.refl (H:Hp):Same H H:=fun _ _ h=>h
theorem Same.trans {H H1 H2:Hp} (a:Same H H1) (b:Same H1 H2):Same H H2:=fun c o h=>b c o (a c o h)
theorem Same.free {H H':Hp} (e:Same H H') {l:Addr} (h:H' l=Option.none):H l=Option.none:=by
 cases q:H l with
 | none=>rfl
 | some o=>
  rw [e l o q] at h
  cases h
theorem Same.seq {K:PySem.W.Frag} {H H':Hp} {a:Addr} {xs:List V} (e:Same H H') (h:SqL K H a xs):SqL K H' a xs:=by
 rcases h with (h | ⟨o,h⟩) | h
 ·exact .inl (.inl (e _ _ h))
 ·exact .inl (.inr ⟨o,e _ _ h⟩)
 ·exact .inr h
end L2
namespace SK
open PySem PySem.Spec PyProof.Rows L2
open PySem.AutoSeq1 (wpAny_loadPart' idx_int)
theorem nN (l:Addr) (items:Array Value) (n:Nat) (b:Addr) (items2:Array Value) (n2:Nat) (dd2:Option Addr) (sl2:Array (Option Value)) (hc0: ¬(!items.isEmpty&&Builtin.List.listTooLong (items.size+items2.size))=true) (hc1:items.size<=sizeLine) (hs2:items.size+items2.size<=sizeLine+1):
  Meets (Builtin.«list.extend» ⟨[.ref l, .ref b],[]⟩) (fun _ R s=>s.heap.get? l=some { cls:= .type "list",dict:=none,data:= .seq items n,slots:= #[] }/\s.heap.get? b=some { cls:= .type "list",dict:=dd2,data:= .seq items2 n2,slots:=sl2 }/\R (.ok (.ret Value.none)) { s with heap:=s.heap.update l (Obj.mapSeq fun x=>x++items2),toks:=s.toks }):=
 .of_wp fun prog w A R s h=>by
  obtain⟨hp,g,d,tk,os⟩:=s;obtain⟨hl,hb,h⟩:=h;have f1:=idx_int;have f2:=AutoSeq1.sub_tuple_tuple;have f3:=AutoSeq1.sub_list_list;have f4:=AutoSeq1.sub_tuple_list;have f5:=AutoSeq1.sub_list_tuple;
  have hz':(items++items2).size<=sizeLine+1:=by rw [Array.size_append];exact hs2
  wp_walk using (wpAny_updateSeq hl rfl (hz:=hc1) (_hz':=hz')),wpAny_loadPart' hl,wpAny_loadPart' hb;exact⟨_,rfl,h⟩
theorem fY (a:Int) (t:Tok) (l:Addr) (items:Array Value) (n:Nat) (T:String) (dd:Option Addr) (sl:Array (Option Value)) (hT:T="list"\/T="tuple"):
  Meets (Builtin.«int.__rmul__» ⟨[.int a t, .ref l],[]⟩) (fun _ R s=>s.heap.get? l=some { cls:= .type T,dict:=dd,data:= .seq items n,slots:=sl }/\R (.ok (.ret Value.notImplemented)) s):=
 .of_wp fun prog w A R s h=>by
  obtain⟨hp,g,d,tk,os⟩:=s;obtain⟨hl,h⟩:=h
  rcases hT with rfl | rfl<;>(wp_walk using wpAny_loadPart' hl;exact⟨_,rfl,h⟩)
theorem uV (l:Addr) (items:Array Value) (n:Nat) (x:Int) (u:Tok) (dd:Option Addr) (sl:Array (Option Value)) (hc0: ¬(!Builtin.List.listFitsIndex x)=true) (hc1: ¬items.size * x.toNat > (2 ^ 63 - 1) / 8) (hc2: ¬Builtin.List.listTooLong (items.size * x.toNat)=true):
  Meets (Builtin.«list.__mul__» ⟨[.ref l, .int x u],[]⟩) (fun _ R s=>s.heap.get? l=some { cls:= .type "list",dict:=dd,data:= .seq items n,slots:=sl }/\R (.ok (.ret (Value.ref s.heap.objs.size))) { s with heap:=s.heap.push { cls:=Value.type "list",data:=Data.seq (List.foldl (fun x1 x2=>x1++x2) #[] (ak (if items.isEmpty=true then 0 else x.toNat) items)) },toks:=s.toks }):=
 .of_wp fun prog w A R s h=>by
  obtain⟨hp,g,d,tk,os⟩:=s;obtain⟨hl,h⟩:=h
  have hsz:=AutoListH.joined_fits hc2
  wp_walk using wpAny_loadPart' hl;refine wpAny_ite_false (decide_eq_false (Nat.not_lt.mpr hsz)) ?_;wp_walk;exact⟨_,rfl,h⟩
open PySem.AutoSeq1 (wpAny_loadPart' idx_int)
theorem pK (l:Addr) (items:Array Value) (n:Nat) (x:Int) (u:Tok) (dd:Option Addr) (sl:Array (Option Value)) (h0:(decide (x< -(2 ^ 63))||decide (x≥2 ^ 63))=false) (hc:(items.isEmpty||x==1)=true):
  Meets (Builtin.«tuple.__mul__» ⟨[.ref l, .int x u],[]⟩) (fun _ R s=>s.heap.get? l=some { cls:= .type "tuple",dict:=dd,data:= .seq items n,slots:=sl }/\R (.ok (.ret (Value.ref l))) s):=
 .of_wp fun prog w A R s h=>by
  obtain⟨hp,g,d,tk,os⟩:=s;obtain⟨hl,h⟩:=h
  have f1:=idx_int
  wp_walk;refine wpAny_ite_false (by rw [h0];rfl) ?_;wp_walk using wpAny_loadPart' hl;exact⟨_,rfl,h⟩
theorem pL (l:Addr) (items:Array Value) (n:Nat) (x:Int) (u:Tok) (dd:Option Addr) (sl:Array (Option Value)) (h0:(decide (x< -(2 ^ 63))||decide (x≥2 ^ 63))=false) (hc: ¬(items.isEmpty||x==1)=true) (hc1:(x<=0||items.isEmpty)=true):
  Meets (Builtin.«tuple.__mul__» ⟨[.ref l, .int x u],[]⟩) (fun _ R s=>s.heap.get? l=some { cls:= .type "tuple",dict:=dd,data:= .seq items n,slots:=sl }/\R (.ok (.ret (Value.ref s.heap.objs.size))) { s with heap:=s.heap.push { cls:=Value.type "tuple",data:=Data.seq #[] },toks:=s.toks }):=
 .of_wp fun prog w A R s h=>by
  obtain⟨hp,g,d,tk,os⟩:=s;obtain⟨hl,h⟩:=h
  have f1:=idx_int
  wp_walk;refine wpAny_ite_false (by rw [h0];rfl) ?_;wp_walk using wpAny_loadPart' hl;exact⟨_,rfl,h⟩
theorem pM (l:Addr) (items:Array Value) (n:Nat) (x:Int) (u:Tok) (dd:Option Addr) (sl:Array (Option Value)) (h0:(decide (x< -(2 ^ 63))||decide (x≥2 ^ 63))=false) (hc: ¬(items.isEmpty||x==1)=true) (hc1: ¬(x<=0||items.isEmpty)=true)
  (hc2: ¬ (items.size:Int) * x > (2 ^ 63 - 1) / 8) (hc3: ¬ Builtin.Tuple.tupleTooMany (items.size * x)=true) (hsz:(List.foldl (fun x1 x2=>x1++x2) #[] (ak x.toNat items)).size<=sizeLine):
  Meets (Builtin.«tuple.__mul__» ⟨[.ref l, .int x u],[]⟩) (fun _ R s=>s.heap.get? l=some { cls:= .type "tuple",dict:=dd,data:= .seq items n,slots:=sl }/\R (.ok (.ret (Value.ref s.heap.objs.size))) { s with heap:=s.heap.push { cls:=Value.type "tuple",data:=Data.seq (List.foldl (fun x1 x2=>x1++x2) #[] (ak x.toNat items)) },toks:=s.toks }):=
 .of_wp fun prog w A R s h=>by
  obtain⟨hp,g,d,tk,os⟩:=s;obtain⟨hl,h⟩:=h
  have f1:=idx_int
  wp_walk;refine wpAny_ite_false (by rw [h0];rfl) ?_;wp_walk using wpAny_loadPart' hl;refine wpAny_ite_false (decide_eq_false hc2) ?_;wp_walk;exact⟨_,rfl,h⟩
theorem iZ:fillsNumberSlot (.type "tuple") "mul"=pure false:=
 PySem.fillsNumberSlot_seq (id:="tuple.__mul__") (r:=some (.builtin "tuple.__rmul__")) F.slot_tuple_mul.lookup (by decide+kernel) F.slot_tuple_rmul.lookup (by decide+kernel)
theorem nO:seqRepeat? (.type "tuple")=pure (some (.builtin "tuple.__mul__")):=by
 unfold seqRepeat?
 rw [PySem.seqSlot_of (T:="tuple") (name:="__mul__") (id:="tuple.__mul__") F.slot_tuple_mul.lookup (by decide+kernel),PySem.seqSlot_of (T:="tuple") (name:="__rmul__") (id:="tuple.__rmul__") F.slot_tuple_rmul.lookup (by decide+kernel)]
 rfl
inductive D where
 | non | bl (b:Bool) | int (i:Int) | str (x:Str)
 | tup (xs:List D) | lst (xs:List D)
 | exc (c:Nat) | fn (f:Nat) | rnk
 deriving Inhabited
noncomputable def b2i (b:Bool):Int:=if b then 1 else 0
mutual
noncomputable def deq:D->D->Bool
 | .non, .non=>true
 | .bl a, .bl b=>a==b
 | .bl a, .int j=>b2i a==j
 | .int i, .bl b=>i==b2i b
 | .int i, .int j=>i==j
 | .str x, .str y=>x==y
 | .tup xs, .tup ys=>tF xs ys
 | .lst xs, .lst ys=>tF xs ys
 | _,_=>false
noncomputable def tF:List D->List D->Bool
 | [],[]=>true
 | x::xs,y::ys=>deq x y&&tF xs ys
 | _,_=>false
end
mutual
noncomputable def plain:D->Bool
 | .non=>true
 | .bl _=>true
 | .int _=>true
 | .str x=>x.cps.all (· <0x110000)
 | .tup xs=>bC xs
 | .lst xs=>bC xs
 | .exc _=>false
 | .fn _=>false
 | .rnk=>false
noncomputable def bC:List D->Bool
 | []=>true
 | x::xs=>plain x&&bC xs
end
mutual
noncomputable def dep:D->Nat
 | .tup xs=>pN xs+1
 | .lst xs=>pN xs+1
 | _=>0
noncomputable def pN:List D->Nat
 | []=>0
 | x::xs=>max (dep x) (pN xs)
end
noncomputable def pO (x y:D):Bool:=plain x&&plain y&&decide (min (dep x) (dep y)<=60)
inductive R where
 | ok (d:D) | ow (xs:List D) | ex (c:Nat) | bad
noncomputable def R.bind (r:R) (k:D->R):R:=match r with
 | .ok d=>k d
 | .ow xs=>k (.lst xs)
 | .ex c=> .ex c
 | .bad=> .bad
structure Rk where
 held:List (Str×D)
 done:List D
 undone:List D
inductive RM where
 | pure (x:R) | chg (x:D) (r:Rk)
abbrev FM:=Rk->List D->RM
noncomputable def RM.told:RM->R
 | .pure x=>x
 | .chg _ _=> .bad
inductive Slot where
 | no | sh (d:D) | ow (xs:List D) | dc (kvs:List (D×D)) | sd (kvs:List (D×D)) | rk (C:Nat) (r:Rk)
noncomputable def Slot.isRk:Slot->Bool
 | .rk _ _=>true
 | _=>false
noncomputable def Slot.owns:Slot->Bool
 | .ow _=>true
 | .dc _=>true
 | _=>false
abbrev Rho:=List Slot
abbrev F:=Rho->R
inductive Out where
 | nx (ρ:Rho) | rt (r:R) | bk (ρ:Rho) | ct (ρ:Rho) | ex (c:Nat) (ρ:Rho)
abbrev FS:=Rho->Out
abbrev Fn:=List D->R
noncomputable def LIM:Nat:=100000
noncomputable def num:D->Option Int
 | .int i=>some i
 | .bl b=>some (b2i b)
 | _=>none
noncomputable def sml (i:Int):Bool:=decide (-18446744073709551616<i)&&decide (i<18446744073709551616)
noncomputable def eZ (op:Operator) (i j:Int):R:=match op with
 | .Add=> .ok (.int (i+j))
 | .Sub=> .ok (.int (i - j))
 | .Mult=>if sml i||sml j then .ok (.int (i * j)) else .bad
 | .FloorDiv=>if 0<j/\j<1073741824 then .ok (.int (i / j)) else .bad
 | .Mod=>if 0<j then .ok (.int (i % j)) else .bad
 | .LShift=>if 0<=j/\j<=1000/\sml i=true then .ok (.int (i * 2 ^ j.toNat)) else .bad
 | .RShift=>if 0<=j then .ok (.int (i / 2 ^ j.toNat)) else .bad
 | .Pow=>if i=10/\j=9 then .ok (.int 1000000000) else .bad
 | _=> .bad
noncomputable def aLv (xs:List D) (k:Int):List D:=(ak k.toNat xs).flatten
noncomputable def lA (op:Operator) (x y:D):R:=match x,y with
 | .int i, .int j=>(match op with
  | .BitAnd=> .ok (.int (Builtin.bitAnd i j))
  | .BitOr=> .ok (.int (Builtin.bitOr i j))
  | .BitXor=> .ok (.int (Builtin.bitXor i j))
  | op=>eZ op i j)
 | .int i, .bl b=>(match op with
  | .Sub=> .ok (.int (i - b2i b))
  | .Add=> .ok (.int (i+b2i b))
  | _=> .bad)
 | .tup xs, .tup ys=>(match op with
  | .Add=>if xs.length+ys.length<=LIM then .ok (.tup (xs++ys)) else .bad
  | _=> .bad)
 | .lst xs, .lst ys=>(match op with
  | .Add=>if xs.length+ys.length<=LIM then .ow (xs++ys) else .bad
  | _=> .bad)
 | .tup xs, .int k=>(match op with
  | .Mult=>if -1000000<k/\k<1000000/\xs.length * k.toNat<=LIM then .ok (.tup (aLv xs k)) else .bad
  | _=> .bad)
 | .str x, .str y=>(match op with
  | .Add=>if x.length<=LIM/\y.length<=LIM then .ok (.str (x++y)) else .bad
  | _=> .bad)
 | .str x, .int k=>(match op with
  | .Mult=>if x.length<=16/\0<=k/\k<=1000 then .ok (.str (Txt.mul x k)) else .bad
  | _=> .bad)
 | .lst xs, .int k=>(match op with
  | .Mult=>if -1000000<k/\k<1000000/\xs.length * k.toNat<=LIM then .ow (aLv xs k) else .bad
  | _=> .bad)
 | _,_=> .bad
noncomputable def items:D->Option (List D)
 | .tup xs=>some xs
 | .lst xs=>some xs
 | _=>none
noncomputable def gR:D->Option (List D)
 | .tup xs=>some xs
 | .lst xs=>some xs
 | _=>none
noncomputable def aC7:D->Bool
 | .non=>true
 | _=>false
noncomputable def aMu (b:Bool):D->Bool
 | .bl a=>a==b
 | _=>false
noncomputable def mV (x:D) (ys:List D):Bool:=ys.all fun y=>pO y x
noncomputable def inS (x y:D) (neg:Bool):R:=match x,y with
 | .str a, .str b=> .ok (.bl (cond neg (!Txt.contains b a) (Txt.contains b a)))
 | _,_=> .bad
noncomputable def gB (op:CmpOp) (x y:D):R:=match op with
 | .Eq=>if pO x y then .ok (.bl (deq x y)) else .bad
 | .NotEq=>if pO x y then .ok (.bl (!deq x y)) else .bad
 | .Lt=>(match x,y with | .int i, .int j=> .ok (.bl (decide (i<j))) | _,_=> .bad)
 | .LtE=>(match x,y with | .int i, .int j=> .ok (.bl (decide (i<=j))) | .str i, .str j=> .ok (.bl (!decide (j.cps.toList<i.cps.toList))) | _,_=> .bad)
 | .Gt=>(match x,y with | .int i, .int j=> .ok (.bl (decide (j<i))) | _,_=> .bad)
 | .GtE=>(match x,y with | .int i, .int j=> .ok (.bl (decide (j<=i))) | _,_=> .bad)
 | .Is=>(match y with
  | .non=> .ok (.bl (aC7 x))
  | .bl b=> .ok (.bl (aMu b x))
  | _=> .bad)
 | .IsNot=>(match y with
  | .non=> .ok (.bl (!aC7 x))
  | .bl b=> .ok (.bl (!aMu b x))
  | _=> .bad)
 | .In=>(match items y with | some ys=>if mV x ys then .ok (.bl (ys.any fun y=>deq y x)) else .bad | none=>inS x y false)
 | .NotIn=>(match items y with | some ys=>if mV x ys then .ok (.bl (!ys.any fun y=>deq y x)) else .bad | none=>inS x y true)
noncomputable def ixD (n:Nat) (i:Int):Option Nat:=if 0<=i then(if i<n then some i.toNat else none) else if -(n:Int)<=i then some (i+n).toNat else none
noncomputable def ixS (x y:D):R:=match x,y with
 | .rnk, .int i=>if i=0\/i=1 then .ok (.int i) else .bad
 | .rnk, .non=> .ok (.int 2)
 | .str z, .int i=>if z.length<=LIM then(match(ixD z.cps.toList.length i).bind fun j=>z.cps.toList[j]? with | some c=> .ok (.str ⟨#[c]⟩) | none=> .bad) else .bad
 | _,_=> .bad
noncomputable def dIx (x y:D):R:=match items x,y with
 | some xs, .int i=>(match(ixD xs.length i).bind fun j=>xs[j]? with | some d=> .ok d | none=> .bad)
 | some _,_=> .bad
 | none,_=>ixS x y
noncomputable def cS (n d:Nat):Option Int->Nat
 | none=>d
 | some v=>if v<0 then(v+n).toNat else min v.toNat n
noncomputable def yU (xs:List D) (lo hi:Option Int):List D:=(xs.drop (cS xs.length 0 lo)).take (cS xs.length xs.length hi - cS xs.length 0 lo)
noncomputable def yV (xs:List Nat) (lo hi:Option Int):List Nat:=(xs.drop (cS xs.length 0 lo)).take (cS xs.length xs.length hi - cS xs.length 0 lo)
noncomputable def aHx (x:D) (lo hi:Option Int):R:=match x with
 | .tup xs=> .ok (.tup (yU xs lo hi))
 | .lst xs=> .ow (yU xs lo hi)
 | .str z=>if z.length<=LIM then .ok (.str ⟨(yV z.cps.toList lo hi).toArray⟩) else .bad
 | _=> .bad
noncomputable def yF:D->(Int->R)->R
 | .int i,k=>k i
 | _,_=> .bad
noncomputable def aB (i:Nat):F:=fun ρ=>match ρ[i]? with | some (.sh d)=> .ok d | _=> .bad
noncomputable def aD (i:Nat):F:=fun ρ=>match ρ[i]? with | some (.sh d)=> .ok d | some (.ow xs)=> .ok (.lst xs) | _=> .bad
noncomputable def uW (i:Nat):F:=fun ρ=>match ρ[i]? with | some (.sh d)=> .ok d | some (.ow xs)=> .ow xs | _=> .bad
noncomputable def rK (d:D):F:=fun _=> .ok d
noncomputable def aX (op:Operator) (a b:F):F:=fun ρ=>(a ρ).bind fun x=>(b ρ).bind fun y=>lA op x y
noncomputable def aLw (a:F):F:=fun ρ=>(a ρ).bind fun x=>match x with | .int i=> .ok (.int (-i)) | _=> .bad
noncomputable def mW (a:F):F:=fun ρ=>(a ρ).bind fun x=>match x with | .bl b=> .ok (.bl (!b)) | _=> .bad
noncomputable def gC (a b:F):F:=fun ρ=>(a ρ).bind fun x=>match x with | .bl true=>b ρ | .bl false=> .ok (.bl false) | _=> .bad
noncomputable def rOr (a b:F):F:=fun ρ=>(a ρ).bind fun x=>match x with | .bl true=> .ok (.bl true) | .bl false=>b ρ | _=> .bad
noncomputable def rIf (c a b:F):F:=fun ρ=>(c ρ).bind fun x=>match x with | .bl true=>a ρ | .bl false=>b ρ | _=> .bad
noncomputable def aZ (op:CmpOp) (a b:F):F:=fun ρ=>(a ρ).bind fun x=>(b ρ).bind fun y=>gB op x y
noncomputable def rD (op op':CmpOp) (a b c:F):F:=fun ρ=>(a ρ).bind fun x=>(b ρ).bind fun y=>(gB op x y).bind fun z=>match z with
 | .bl true=>(c ρ).bind fun w=>gB op' y w
 | .bl false=> .ok (.bl false)
 | _=> .bad
inductive RA where
 | ok (ds:List D) | ex (c:Nat) | bad
noncomputable def RA.cons (x:D):RA->RA
 | .ok ds=> .ok (x::ds)
 | .ex c=> .ex c
 | .bad=> .bad
noncomputable def RA.then (r:RA) (k:List D->R):R:=match r with
 | .ok ds=>k ds
 | .ex c=> .ex c
 | .bad=> .bad
noncomputable def args:List F->Rho->RA
 | [],_=> .ok []
 | f::fs,ρ=>match f ρ with
  | .ok x=>(args fs ρ).cons x
  | .ow xs=>(args fs ρ).cons (.lst xs)
  | .ex c=> .ex c
  | .bad=> .bad
noncomputable def nQ (fs:List F) (ρ:Rho) (k:List D->R):R:=(args fs ρ).then k
noncomputable def fZ (fs:List F):F:=fun ρ=>nQ fs ρ fun xs=> .ok (.tup xs)
noncomputable def fN (fs:List F):F:=fun ρ=>nQ fs ρ fun xs=> .ow xs
noncomputable def rIx (a b:F):F:=fun ρ=>(a ρ).bind fun x=>(b ρ).bind fun y=>dIx x y
noncomputable def aC8 (a:F) (lo hi:Option F):F:=fun ρ=>(a ρ).bind fun x=>match lo,hi with
 | none,none=>aHx x none none
 | some l,none=>(l ρ).bind fun y=>yF y fun i=>aHx x (some i) none
 | none,some h=>(h ρ).bind fun z=>yF z fun j=>aHx x none (some j)
 | some l,some h=>(l ρ).bind fun y=>yF y fun i=>(h ρ).bind fun z=>yF z fun j=>aHx x (some i) (some j)
noncomputable def aA (f:Fn) (fs:List F):F:=fun ρ=>nQ fs ρ f
noncomputable def nR (r:Fn) (a b:F):F:=fun ρ=>(a ρ).bind fun x=>match x with | .lst ds=>(b ρ).bind fun y=>r [.lst ds,y] | _=> .bad
noncomputable def rIs (p:D->Option Bool) (a:F):F:=fun ρ=>(a ρ).bind fun x=>match p x with | some b=> .ok (.bl b) | none=> .bad
noncomputable def bG (f:D->Option (Option D)):List D->Option (List D)
 | []=>some []
 | d::r=>match f d with
  | none=>none
  | some none=>bG f r
  | some (some x)=>(bG f r).map (x:: ·)
noncomputable def tgt (n:Nat) (d:D):Option (List Slot):=match n with
 | 0=>some [.sh d]
 | n=>match d with
  | .tup ds=>if ds.length=n then some (ds.map Slot.sh) else none
  | _=>none
noncomputable def jO (cs:List Nat) (ρ:Rho):List Slot:=cs.map fun i=>(ρ[i]?).getD .no
noncomputable def cZ (n:Nat) (cs:List Slot) (c:Option F) (e:F) (d:D):Option (Option D):=match tgt n d with
 | none=>none
 | some ts=>match c with
  | none=>(match e (ts++cs) with | .ok x=>some (some x) | .ow xs=>some (some (.lst xs)) | _=>none)
  | some c=>match c (ts++cs) with
   | .ok (.bl true)=>(match e (ts++cs) with | .ok x=>some (some x) | .ow xs=>some (some (.lst xs)) | _=>none)
   | .ok (.bl false)=>some none
   | _=>none
noncomputable def aL (n:Nat) (cs:List Nat) (it:F) (c:Option F) (e:F):F:=fun ρ=>(it ρ).bind fun x=>match gR x with
 | some ds=>(match bG (cZ n (jO cs ρ) c e) ds with | some xs=> .ow xs | none=> .bad)
 | none=> .bad
noncomputable def iB (n:Nat):List D:=(List.range n).map fun(i:Nat)=>D.int (i:Int)
noncomputable def aU (a:F):F:=fun ρ=>(a ρ).bind fun x=>yF x fun i=>if -100000<=i/\i<=100000 then .ok (.lst (iB i.toNat)) else .bad
noncomputable def nS (a:F):F:=fun ρ=>(a ρ).bind fun x=>match items x with
 | some xs=> .ok (.lst (xs.zipIdx.map fun p=>D.tup [.int (p.2:Nat),p.1]))
 | none=> .bad
noncomputable def nT (a b:F):F:=fun ρ=>(a ρ).bind fun x=>(b ρ).bind fun y=>match x,y with
 | .tup xs, .tup ys=> .ok (.lst ((xs.zip ys).map fun p=>D.tup [p.1,p.2]))
 | .lst xs, .lst ys=> .ok (.lst ((xs.zip ys).map fun p=>D.tup [p.1,p.2]))
 | .lst xs, .tup ys=> .ok (.lst ((xs.zip ys).map fun p=>D.tup [p.1,p.2]))
 | .tup xs, .lst ys=> .ok (.lst ((xs.zip ys).map fun p=>D.tup [p.1,p.2]))
 | _,_=> .bad
noncomputable def aPg:D->R | .str z=>if z.length<=100000 then .ok (.int z.length) else .bad | _=> .bad
noncomputable def pB:Fn | [x]=>(match items x with | some xs=> .ok (.int xs.length) | none=>aPg x) | _=> .bad
noncomputable def aHy:Fn | [.int i]=> .ok (.int i) | [.bl b]=> .ok (.int (b2i b)) | [.str x]=>(match x.cps.toList with | [c]=>if 48<=c/\c<58 then .ok (.int ((c - 48:Nat):Int)) else .bad | _=> .bad) | _=> .bad
noncomputable def bN:Fn | [x]=>(match items x with | some xs=> .ok (.tup xs) | none=> .bad) | _=> .bad
noncomputable def kT:Fn | [x]=>(match items x with | some xs=> .ow xs | none=> .bad) | _=> .bad
noncomputable def dI:List D->Option (List Int)
 | []=>some []
 | .int i::r=>(dI r).map (i:: ·)
 | _::_=>none
noncomputable def e9:List D->Option (List Bool)
 | []=>some []
 | .bl b::r=>(e9 r).map (b:: ·)
 | _::_=>none
noncomputable def tG:Fn | [x]=>(match(items x).bind dI with | some xs=> .ok (.int xs.sum) | none=> .bad) | _=> .bad
noncomputable def aGf:Fn | [x]=>(match(items x).bind e9 with | some xs=> .ok (.bl (xs.all id)) | none=> .bad) | _=> .bad
noncomputable def aLx:Fn | [x]=>(match(items x).bind e9 with | some xs=> .ok (.bl (xs.any id)) | none=> .bad) | _=> .bad
noncomputable def aPh:Fn | [.int i, .int j]=> .ok (.int (if j > i then j else i)) | _=> .bad
noncomputable def aQ5:Fn | [.int i, .int j]=> .ok (.int (if j<i then j else i)) | _=> .bad
noncomputable def uE:Int->List Int->Int
 | m,[]=>m
 | m,i::r=>uE (if m<i then i else m) r
noncomputable def aPi:Int->List Int->Int
 | m,[]=>m
 | m,i::r=>aPi (if i<m then i else m) r
noncomputable def aC9:Fn | [x]=>(match(items x).bind dI with | some (n::ns)=> .ok (.int (uE n ns)) | _=> .bad) | _=> .bad
noncomputable def aMv:Fn | [.int i]=> .ok (.int (if i<0 then -i else i)) | _=> .bad
noncomputable def aGg (i:Int):List Int->List Int
 | []=>[i]
 | j::r=>if i<=j then i::j::r else j::aGg i r
noncomputable def l5:List Int->List Int
 | []=>[]
 | i::r=>aGg i (l5 r)
noncomputable def fE:List Int->List Int->Bool
 | [],[]=>false
 | [],_::_=>true
 | _::_,[]=>false
 | a::r,b::t=>if a=b then fE r t else decide (a<b)
mutual
noncomputable def same:D->D->Bool
 | .int _, .int _=>true
 | .tup xs, .tup ys=>cD xs ys
 | _,_=>false
noncomputable def cD:List D->List D->Bool
 | [],[]=>true
 | x::xs,y::ys=>same x y&&cD xs ys
 | _,_=>false
end
mutual
noncomputable def rE:D->List Int
 | .int i=>[i]
 | .tup xs=>jP xs
 | _=>[]
noncomputable def jP:List D->List Int
 | []=>[]
 | x::xs=>rE x++jP xs
end
noncomputable def ltD (x y:D):Bool:=fE (rE x) (rE y)
noncomputable def aPj (a:D):List D->List D
 | []=>[a]
 | b::r=>if ltD b a then b::aPj a r else a::b::r
noncomputable def aHz:List D->List D
 | []=>[]
 | a::r=>aPj a (aHz r)
noncomputable def aPk (d:D):List D->D
 | []=>d
 | e::r=>aPk (if ltD e d then e else d) r
noncomputable def aH0:D->Bool
 | .tup (_::_)=>true
 | _=>false
noncomputable def uX:D->Bool
 | .tup _=>true
 | _=>false
noncomputable def aH1:List D->Bool
 | []=>false
 | d::r=>uX d&&(r.isEmpty||aH0 d)&&decide (dep d<=8)&&same d d&&r.all (same d)
noncomputable def aQf (acc:List D) (d:D):List D:=if acc.any (fun e=>deq e d) then acc else acc++[d]
noncomputable def ddD (ds:List D):List D:=ds.foldl aQf []
noncomputable def aMw (ds:List D):R:=if aH1 ds then(match ds with | d::r=> .ok (aPk d r) | []=> .bad) else .bad
noncomputable def aMx (ds:List D):R:=match dI ds with
 | some ns=>(match ns with | n::r=> .ok (.int (aPi n r)) | []=> .bad)
 | none=>aMw ds
noncomputable def aQg:Fn | [x]=>(match items x with | some ds=>aMx ds | none=> .bad) | _=> .bad
noncomputable def rF (ds:List D):R:=match dI ds with
 | some ns=>if ns.length<64 then .ow ((l5 ns).map D.int) else .bad
 | none=> .bad
noncomputable def pR:Fn | [x]=>(match items x with | some ds=>rF ds | none=> .bad) | _=> .bad
noncomputable def aPl (ns:List Int):List Int:=((List.range 17).filter fun(k:Nat)=>ns.contains (k:Int)).map fun(k:Nat)=>(k:Int)
noncomputable def aPm (ns:List Int):Bool:=ns.all fun n=>decide (0<=n/\n<17)
noncomputable def aQh (ds:List D):R:=if aH1 ds&&decide ((ddD ds).length<64) then .ow (aHz (ddD ds)) else .bad
noncomputable def aQi (ds:List D):R:=match dI ds with | some ns=>if aPm ns then .ow ((aPl ns).map D.int) else .bad | none=>aQh ds
noncomputable def dSS:Fn | [x]=>(match x with | .lst ds=>aQi ds | _=> .bad) | _=> .bad
noncomputable def aQj (ds:List D):R:=match dI ds with | some ns=>if aPm ns then .ok (.int ((aPl ns).length:Nat)) else .bad | none=> .bad
noncomputable def dLS:Fn | [x]=>(match x with | .lst ds=>aQj ds | _=> .bad) | _=> .bad
noncomputable def rG:Fn | [.lst ys,x]=>if mV x ys then .ok (.int ((ys.countP fun y=>deq y x):Nat)) else .bad | _=> .bad
noncomputable def nU:Fn | [.lst ys,x]=>if mV x ys then(match ys.findIdx? fun y=>deq y x with | some k=> .ok (.int (k:Nat)) | none=> .bad) else .bad | _=> .bad
noncomputable def aH2 (x:D):R:=match x with | .lst xs=> .ow xs.reverse | .tup xs=> .ok (.tup xs.reverse) | _=> .bad
noncomputable def aH3:Fn | [x]=>(match x with | .int i=> .ok (.int (Builtin.Int.intBits i)) | _=> .bad) | _=> .bad
noncomputable def aMy (a:F):F:=fun ρ=>(a ρ).bind aH2
noncomputable def aMz {α:Type} (xs:List α) (lo:Nat):List α:=(List.range ((xs.length - lo+1) / 2)).filterMap fun k=>xs[lo+2 * k]?
noncomputable def aM0 (x y:D):R:=match x with | .tup xs=>(match y with | .int i=>if 0<=i then .ok (.tup (aMz xs i.toNat)) else .bad | _=> .bad) | _=> .bad
noncomputable def aQk (a b:F):F:=fun ρ=>(a ρ).bind fun x=>(b ρ).bind fun y=>aM0 x y
noncomputable def aLy (a:F):F:=fun ρ=>(a ρ).bind fun x=>match x with | .bl b=> .ok (.bl b) | .lst xs=> .ok (.bl (!xs.isEmpty)) | _=> .bad
noncomputable def aQ6 (a b:F):F:=fun ρ=>(a ρ).bind fun x=>match x with | .tup ds=>(b ρ).bind fun y=>nU [.lst ds,y] | _=> .bad
noncomputable def aQ7 (a b:F):F:=fun ρ=>(a ρ).bind fun x=>match items x with | some ds=>(b ρ).bind fun y=>rG [.lst ds,y] | none=> .bad
noncomputable def orP (p q:D->Option Bool):D->Option Bool:=fun d=>match p d,q d with | some a,some b=>some (a||b) | _,_=>none
mutual
noncomputable def hkD:D->Bool
 | .non=>true
 | .int _=>true
 | .tup xs=>aBi xs
 | _=>false
noncomputable def aBi:List D->Bool
 | []=>true
 | x::xs=>hkD x&&aBi xs
end
noncomputable def cT (k:D):Bool:=uX k&&hkD k&&decide (dep k<=8)
noncomputable def pC (kvs:List (D×D)) (k:D):Bool:=kvs.any fun p=>deq p.1 k
noncomputable def yG (kvs:List (D×D)) (k d:D):List (D×D):=if pC kvs k then kvs.map (fun p=>if deq p.1 k then(p.1,d) else p) else kvs++[(k,d)]
noncomputable def inK (op:CmpOp) (b:Bool):R:=match op with
 | .In=> .ok (.bl b)
 | .NotIn=> .ok (.bl !b)
 | _=> .bad
noncomputable def aH4 (op:CmpOp) (a:F) (i:Nat):F:=fun ρ=>(a ρ).bind fun x=>match ρ[i]? with
 | some (.dc kvs)=>if cT x then inK op (pC kvs x) else .bad
 | some (.sd kvs)=>if cT x then inK op (pC kvs x) else .bad
 | some (.sh y)=>gB op x y
 | some (.ow ys)=>gB op x (.lst ys)
 | _=> .bad
noncomputable def jQ (i:Nat):F:=fun ρ=>match ρ[i]? with
 | some (.dc kvs)=> .ok (.lst (kvs.map (·.1)))
 | some (.sd kvs)=> .ok (.lst (kvs.map (·.1)))
 | _=>aD i ρ
noncomputable def put (ρ:Rho) (i:Nat) (s:Slot):Rho:=ρ.set i s
noncomputable def frz1 (i:Nat) (ρ:Rho):Rho:=match ρ[i]? with | some (.ow xs)=>ρ.set i (.sh (.lst xs)) | some (.dc kvs)=>ρ.set i (.sd kvs) | _=>ρ
noncomputable def frz (is:List Nat) (ρ:Rho):Rho:=is.foldl (fun ρ i=>frz1 i ρ) ρ
noncomputable def aM1 (is:List Nat) (s:FS):FS:=fun ρ=>s (frz is ρ)
noncomputable def fB (ρ:Rho) (r:R) (k:D->Out):Out:=match r with
 | .ok d=>k d
 | .ow xs=>k (.lst xs)
 | .ex c=> .ex c ρ
 | .bad=> .rt .bad
noncomputable def d6 (i:Nat) (e:F):FS:=fun ρ=>fB ρ (e ρ) fun d=> .nx (ρ.set i (.sh d))
noncomputable def i7 (i:Nat) (e:F):FS:=fun ρ=>match e ρ with
 | .ok d=> .nx (ρ.set i (.sh d))
 | .ow xs=> .nx (ρ.set i (.ow xs))
 | .ex c=> .ex c ρ
 | .bad=> .rt .bad
mutual
noncomputable def noL:D->Bool
 | .non=>true
 | .bl _=>true
 | .int _=>true
 | .str _=>true
 | .tup xs=>aLz xs
 | _=>false
noncomputable def aLz:List D->Bool
 | []=>true
 | x::xs=>noL x&&aLz xs
end
noncomputable def aQl (j i:Nat):FS:=fun ρ=>match ρ[j]? with
 | some (.ow xs)=> .nx ((ρ.set j .no).set i (.ow xs))
 | _=> .rt .bad
noncomputable def setN:List Nat->List D->Rho->Rho
 | i::is,d::ds,ρ=>setN is ds (ρ.set i (.sh d))
 | _,_,ρ=>ρ
noncomputable def gS (is:List Nat) (e:F):FS:=fun ρ=>fB ρ (e ρ) fun d=>match d with
 | .tup ds=>if ds.length=is.length then .nx (setN is ds ρ) else .rt .bad
 | .lst ds=>if ds.length=is.length then .nx (setN is ds ρ) else .rt .bad
 | _=> .rt .bad
noncomputable def aL0 (i:Nat) (op:Operator) (e:F):FS:=fun ρ=>match ρ[i]? with
 | some (.sh (.int a))=>fB ρ (e ρ) fun d=>(match d,op with
  | .int b, .Add=> .nx (ρ.set i (.sh (.int (a+b))))
  | .int b, .Sub=> .nx (ρ.set i (.sh (.int (a - b))))
  | _,_=> .rt .bad)
 | _=> .rt .bad
noncomputable def eJ (e:F):FS:=fun ρ=>fB ρ (e ρ) fun _=> .nx ρ
noncomputable def bW (e:F):FS:=fun ρ=>match e ρ with
 | .ok d=> .rt (.ok d)
 | .ow xs=> .rt (.ow xs)
 | .ex c=> .ex c ρ
 | .bad=> .rt .bad
noncomputable def aH5:FS:=fun _=> .rt (.ok .non)
noncomputable def aY:FS:=fun ρ=> .nx ρ
noncomputable def aPn:FS:=fun ρ=> .bk ρ
noncomputable def aH6:FS:=fun ρ=> .ct ρ
noncomputable def aR (a b:FS):FS:=fun ρ=>match a ρ with | .nx ρ'=>b ρ' | o=>o
noncomputable def sIf (c:F) (a b:FS):FS:=fun ρ=>match c ρ with
 | .ok (.bl true)=>a ρ
 | .ok (.bl false)=>b ρ
 | .ex c=> .ex c ρ
 | _=> .rt .bad
noncomputable def iS (c:Nat):FS:=fun ρ=> .ex c ρ
noncomputable def aBj (i:Nat) (e:F):FS:=fun ρ=>match ρ[i]? with
 | some (.ow xs)=>fB ρ (e ρ) fun d=>if xs.length<LIM then .nx (ρ.set i (.ow (xs++[d]))) else .rt .bad
 | _=> .rt .bad
noncomputable def aL1 (i:Nat) (e:F):FS:=fun ρ=>match ρ[i]? with
 | some (.ow xs)=>fB ρ (e ρ) fun d=>(match d with
  | .lst ys=>if xs.length+ys.length<=LIM then .nx (ρ.set i (.ow (xs++ys))) else .rt .bad
  | _=> .rt .bad)
 | _=> .rt .bad
noncomputable def uF (i:Nat) (k e:F):FS:=fun ρ=>fB ρ (e ρ) fun d=>match ρ[i]? with
 | some (.ow xs)=>fB ρ (k ρ) fun y=>(match y with
  | .int j=>(match ixD xs.length j with | some m=> .nx (ρ.set i (.ow (xs.set m d))) | none=> .rt .bad)
  | _=> .rt .bad)
 | some (.dc kvs)=>fB ρ (k ρ) fun y=>if cT y&&decide (kvs.length<LIM) then .nx (ρ.set i (.dc (yG kvs y d))) else .rt .bad
 | _=> .rt .bad
noncomputable def aDa (i:Nat):FS:=fun ρ=> .nx (ρ.set i (.dc []))
noncomputable def aQm (i j:Nat) (e:F):FS:=fun ρ=>fB ρ (e ρ) fun d=> .nx ((ρ.set i (.sh d)).set j (.dc []))
noncomputable def aPo:List D->Option (D×D)
 | [a,b]=>some (a,b)
 | _=>none
noncomputable def aQn:D->Option (D×D)
 | .tup ds=>aPo ds
 | _=>none
noncomputable def uY (i:Nat) (k l e:F):FS:=fun ρ=>fB ρ (e ρ) fun d=>(match aQn d with
 | some (d1,d2)=>(match ρ[i]? with
  | some (.ow xs)=>fB ρ (k ρ) fun y=>(match y with
   | .int j=>(match ixD xs.length j with
    | some m=>fB (ρ.set i (.ow (xs.set m d1))) (l (ρ.set i (.ow (xs.set m d1)))) fun z=>(match z with
     | .int j2=>(match ixD (xs.set m d1).length j2 with
      | some m2=> .nx ((ρ.set i (.ow (xs.set m d1))).set i (.ow ((xs.set m d1).set m2 d2)))
      | none=> .rt .bad)
     | _=> .rt .bad)
    | none=> .rt .bad)
   | _=> .rt .bad)
  | _=> .rt .bad)
 | none=> .rt .bad)
noncomputable def yW (i:Nat) (k e:F):FS:=fun ρ=>match ρ[i]? with
 | some (.ow xs)=>fB ρ (k ρ) fun y=>(match y with
  | .int j=>(match ixD xs.length j with
   | some m=>(match xs[m]? with
    | some (.int a)=>fB ρ (e ρ) fun d=>(match d with
     | .int b=> .nx (ρ.set i (.ow (xs.set m (.int (a+b)))))
     | _=> .rt .bad)
    | _=> .rt .bad)
   | none=> .rt .bad)
  | _=> .rt .bad)
 | _=> .rt .bad
noncomputable def pS (is:List Nat) (one:Bool) (d:D) (ρ:Rho):Option Rho:=match one,is with
 | true,[i]=>some (ρ.set i (.sh d))
 | false,is=>(match d with
  | .tup ds=>if ds.length=is.length then some (setN is ds ρ) else none
  | _=>none)
 | _,_=>none
noncomputable def fF (t:D->Rho->Option Rho) (b:FS):List D->Rho->Out
 | [],ρ=> .nx ρ
 | d::r,ρ=>match t d ρ with
  | none=> .rt .bad
  | some ρ1=>match b ρ1 with
   | .nx ρ2=>fF t b r ρ2
   | .ct ρ2=>fF t b r ρ2
   | .bk ρ2=> .nx ρ2
   | .rt r=> .rt r
   | .ex c ρ2=> .ex c ρ2
noncomputable def kU (is:List Nat) (one:Bool) (it:F) (b:FS):FS:=fun ρ=>fB ρ (it ρ) fun x=>match items x with
 | some ds=>fF (pS is one) b ds ρ
 | none=> .rt .bad
noncomputable def aL2:FS:=fun _=> .rt .bad
noncomputable def aQ8 (i j:Nat) (hit:Nat->Bool) (b:FS):FS:=fun ρ=>match b ρ with
 | .ex c ρ'=>if hit c then .nx ((ρ'.set i .no).set j (.sh (.exc c))) else .ex c ρ'
 | o=>o
noncomputable def fnOf (n:Nat) (b:FS):Fn:=fun ds=>match b (ds.map Slot.sh++ak (n - ds.length) .no) with
 | .rt (.ok d)=> .ok d
 | .rt (.ow xs)=> .ow xs
 | .rt _=> .bad
 | .nx _=> .ok .non
 | .ex c _=> .ex c
 | _=> .bad
inductive Py where
 | len | range | enum | zip | isin | int | bool | str | tuple | list | sum | all | any | sorted | min | max | abs | set
 deriving DecidableEq
inductive Gl where
 | fn (k n:Nat) (f:Fn) | exc (c:Nat) | verr | val (d:D) | py (p:Py) | tbl (kvs:List (Str×D)) | cls (a:Nat) (ms:List (Str×Nat×FM))
noncomputable def hit (c e:Nat):Bool:=c==e||c==0||c==100
structure Ctx where
 tab:List (Str×Gl)
 fns:List (Nat×Fn)
 sc:Scope
 N:List Str
 bs:List Str
noncomputable def idx (x:Str):List Str->Option Nat
 | []=>none
 | y::r=>if x=y then some 0 else(idx x r).map (· +1)
noncomputable def loc (C:Ctx) (x:Str):Option Nat:=match C.sc.names.lookup x with
 | some .local=>idx x C.N
 | some .cell=>idx x C.N
 | some .free=>idx x C.N
 | _=>none
noncomputable def eK (C:Ctx) (x:Str):Option Nat:=match C.sc.names.lookup x with
 | some .cell=>idx x C.N
 | some .free=>idx x C.N
 | _=>none
noncomputable def glo (C:Ctx) (x:Str):Option Gl:=match C.sc.names.lookup x with
 | some .globalImplicit=>C.tab.lookup x
 | _=>none
noncomputable def isP:Gl->Option (D->Option Bool)
 | .py .int=>some fun d=>match d with | .int _=>some true | .bl _=>some true | .exc _=>none | .fn _=>none | .rnk=>none | _=>some false
 | .py .bool=>some fun d=>match d with | .bl _=>some true | .exc _=>none | .fn _=>none | .rnk=>none | _=>some false
 | .py .tuple=>some fun d=>match d with | .tup _=>some true | .exc _=>none | .fn _=>none | .rnk=>none | _=>some false
 | .py .list=>some fun d=>match d with | .lst _=>some true | .exc _=>none | .fn _=>none | .rnk=>none | _=>some false
 | .py .str=>some fun d=>match d with | .str _=>some true | .exc _=>none | .fn _=>none | .rnk=>none | _=>some false
 | .exc c=>some fun d=>match d with | .exc e=>some (hit c e) | _=>none
 | .verr=>some fun d=>match d with | .exc e=>some (hit 100 e) | _=>none
 | _=>none
noncomputable def kD:Const->Option D
 | .int i=>some (.int i)
 | .bool b=>some (.bl b)
 | .none=>some .non
 | .str x=>some (.str x)
 | _=>none
noncomputable def d7 {α β:Type} (f:α->Option β):List α->Option (List β)
 | []=>some []
 | x::r=>match f x with
  | none=>none
  | some y=>(d7 f r).map (y:: ·)
noncomputable def bI:Expr->Option (List Str×Nat)
 | .Name x _=>some ([x],0)
 | .Tuple es _ _=>(d7 (fun(e:Expr)=>match e with | .Name x _=>some x | _=>none) es).bind fun xs=>if 2<=xs.length then some (xs,xs.length) else none
 | _=>none
noncomputable def aS (sc:Scope):List Str:=(sc.names.filter fun p=>p.2== .free).map (·.1)
noncomputable def nV (sc:Scope):List Str:=(sc.names.filter fun p=>p.2== .cell).map (·.1)
noncomputable def jR (sc:Scope) (xs:List Str):Bool:=
 sc.kind== .function&&((nV sc).isEmpty||(decide (nV sc=xs)&&decide (xs.length=1)))&&xs.all (fun x=>sc.names.lookup x==some (if(nV sc).isEmpty then .local else .cell))&&
  sc.names.all (fun p=>p.2 != .local||sc.names.lookup p.1==some .local)&&decide (xs++aS sc).Nodup&&(xs++aS sc).all (fun x=>x != "__debug__"&&x != "__classdict__")&&(aS sc).all (fun x=>sc.names.lookup x==some .free)
noncomputable def aBk:Expr->Bool
 | .Name _ _=>true
 | .Subscript _ _ _=>true
 | .List _ _=>true
 | _=>false
noncomputable def one:List Expr->Option Expr
 | [a]=>some a
 | _=>none
noncomputable def two:List Expr->Option (Expr×Expr)
 | [a,b]=>some (a,b)
 | _=>none
noncomputable def cU:Expr->Option (Str×Pos)
 | .Name x p=>some (x,p)
 | _=>none
noncomputable def aGh:Expr->Option (List Expr×Nat×Pos)
 | .Tuple es k p=>some (es,k,p)
 | _=>none
noncomputable def aBl:Expr->Option (Option Expr×Option Expr)
 | .Slice lo hi st _=>(match st with | none=>some (lo,hi) | some _=>none)
 | _=>none
noncomputable def aDb:Expr->Bool
 | .Constant c _ _=>(match c with | .int i=>i==1 | _=>false)
 | _=>false
noncomputable def aPp:Expr->Bool
 | .UnaryOp op e _=>(match op with | .USub=>aDb e | _=>false)
 | _=>false
noncomputable def yX:Expr->Bool
 | .Name _ _=>true
 | _=>false
noncomputable def aPq:Expr->Bool
 | .Subscript _ _ _=>true
 | _=>false
noncomputable def uZ:Expr->Bool
 | .Constant c _ _=>(match c with | .none=>true | _=>false)
 | _=>false
noncomputable def aM2:Expr->Bool
 | .Constant c _ _=>(match c with | .int i=>i==2 | _=>false)
 | _=>false
noncomputable def aQo:Expr->Option Expr
 | .Slice lo hi st _=>if hi.isNone&&(match st with | none=>false | some e=>aM2 e) then lo else none
 | _=>none
noncomputable def aPr:Expr->Bool
 | .Slice lo hi st _=>lo.isNone&&hi.isNone&&(match st with | none=>false | some e=>aPp e)
 | _=>false
noncomputable def aQp (e:Expr):Option (Str×Str):=(aGh e).bind fun(es,_)=>(two es).bind fun(u,v)=>(cU u).bind fun(x,_)=>(cU v).map fun(y,_)=>(x,y)
noncomputable def aH7:Expr->Bool
 | .Constant c _ _=>(match c with | .str _=>true | _=>false)
 | _=>false
noncomputable def yY (dE:Expr->Option F) (C:Ctx) (a:Expr):Option F:=match a with
 | .Call f as kws _=>if kws.isEmpty then(cU f).bind fun(x,_)=>(one as).bind fun b=>(match loc C x,glo C x with
  | none,some (.py .range)=>dE b
  | _,_=>none) else none
 | _=>none
noncomputable def aQq:Expr->Option (Expr×Str×Pos)
 | .Attribute o f p=>some (o,f,p)
 | _=>none
noncomputable def bsN (C:Ctx) (e:Expr):Bool:=match e with | .Name x _=>C.bs.contains x | _=>false
noncomputable def aDc (dE dL:Expr->Option F) (C:Ctx) (p:Py) (as:List Expr):Option F:=match p with
 | .len=>(one as).bind fun a=>(dL a).map fun f=>aA pB [f]
 | .int=>(one as).bind fun a=>(dL a).map fun f=>aA aHy [f]
 | .tuple=>(one as).bind fun a=>(match dL a with
  | some f=>some (aA bN [f])
  | none=>(yY dE C a).map fun f=>aA bN [aU f])
 | .list=>(one as).bind fun a=>(match dL a with
  | some f=>some (aA kT [f])
  | none=>(yY dE C a).map fun f=>aA kT [aU f])
 | .sum=>(one as).bind fun a=>(dL a).map fun f=>aA tG [f]
 | .all=>(one as).bind fun a=>(dL a).map fun f=>aA aGf [f]
 | .any=>(one as).bind fun a=>(dL a).map fun f=>aA aLx [f]
 | .abs=>(one as).bind fun a=>(dL a).map fun f=>aA aMv [f]
 | .sorted=>(one as).bind fun a=>(dL a).map fun f=>aA pR [f]
 | .min=>none
 | .max=>(match as with
  | [a]=>(dL a).map fun f=>aA aC9 [f]
  | as=>(two as).bind fun(a,b)=>(dE a).bind fun f=>(dE b).map fun h=>aA aPh [f,h])
 | .isin=>(two as).bind fun(a,b)=>(cU b).bind fun(t,_)=>(if bsN C a then dL a else dE a).bind fun f=>(glo C t).bind fun g=>(isP g).map fun P=>rIs P f
 | _=>none
noncomputable def u5 (dE:Expr->Option F) (C:Ctx) (tt:Bool) (x:Str) (as:List Expr):Option F:=match glo C x,as with
 | some (.py .range),[a]=>(dE a).map aU
 | some (.py .zip),[a,b]=>if tt then(dE a).bind fun f=>(dE b).map fun g=>nT f g else none
 | some (.py .enum),[a]=>if tt then(dE a).map nS else none
 | _,_=>none
noncomputable def nW (x:Str):Str:=x++"{}"
noncomputable def dnN (C:Ctx) (e:Expr):Option Nat:=(cU e).bind fun(x,_)=>if C.bs.contains (nW x) then loc C x else none
noncomputable def aQr:CmpOp->Bool
 | .In=>true
 | .NotIn=>true
 | _=>false
noncomputable def inN (C:Ctx) (op:CmpOp) (e:Expr):Option Nat:=if aQr op&&bsN C e then(cU e).bind fun(x,_)=>loc C x else none
noncomputable def aGi (i:Int):Expr->Bool
 | .Constant c _ _=>(match c with | .int j=>j==i | _=>false)
 | _=>false
noncomputable def aDd (ks:List (Option Expr)) (vs:List Expr):Bool:=match d7 (fun o=>o) ks with
 | some [a,b,c]=>(match vs with | [x,y,z]=>aGi 0 a&&aGi 1 b&&uZ c&&aGi 0 x&&aGi 1 y&&aGi 2 z | _=>false)
 | _=>false
mutual
noncomputable def bO:Nat->Ctx->Expr->Option F
 | 0,_,_=>none
 | n+1,C,e=>match e with
  | .Name x _=>(match loc C x with
   | some i=>some (aB i)
   | none=>match glo C x with
    | some (.val d)=>some (rK d)
    | some (.fn k _ _)=>some (rK (.fn k))
    | _=>none)
  | .Constant c _ _=>(kD c).map rK
  | .BinOp a op b _=>(bO n C a).bind fun f=>(bO n C b).map fun g=>aX op f g
  | .UnaryOp op a _=>(bO n C a).bind fun f=>(match op with | .Not=>some (mW f) | .USub=>some (aLw f) | _=>none)
  | .BoolOp op es p=>(match es with
   | [a,b]=>(bO n C a).bind fun f=>(bO n C b).map fun g=>(match op with | .And=>gC f g | .Or=>rOr f g)
   | a::b::c::r=>(bO n C a).bind fun f=>(bO n C (.BoolOp op (b::c::r) p)).map fun g=>(match op with | .And=>gC f g | .Or=>rOr f g)
   | _=>none)
  | .Compare a ops cs q=>(match ops with
   | [op]=>(one cs).bind fun b=>(if bsN C a then pD n C a else bO n C a).bind fun f=>(match inN C op b with
    | some i=>some (aH4 op f i)
    | none=>(if bsN C b then pD n C b else bO n C b).map fun g=>aZ op f g)
   | [op,op']=>(two cs).bind fun(b,c)=>(bO n C a).bind fun f=>(bO n C b).bind fun g=>(bO n C c).map fun h=>rD op op' f g h
   | _=>none)
  | .IfExp c a b _=>(bO n C c).bind fun h=>(bO n C a).bind fun f=>(bO n C b).map fun g=>rIf (if yX c then aLy h else h) f g
  | .Tuple es _ _=>if es.length<=1000 then(d7 (bO n C) es).map fZ else none
  | .List es _=>if es.length<=1000 then(d7 (bO n C) es).map fN else none
  | .Subscript a b q=>((pD n C a).bind fun f=>(match aBl b with
   | some (lo,hi)=>(match lo with
    | none=>some none
    | some l=>(bO n C l).map some).bind fun l=>(match hi with
    | none=>some none
    | some h=>(bO n C h).map some).map fun h=>aC8 f l h
   | none=>if aPr b then some (aMy f) else(bO n C b).map fun g=>rIx f g))
  | .ListComp elt gens sc _=>(match gens with
   | [⟨tg,it,ifs,as⟩]=>if as=0 then(bI tg).bind fun(xs,k)=>(aBm n C (k != 0) it).bind fun fi=>if jR sc xs then
     (d7 (fun x=>eK C x) (aS sc)).bind fun cs=>(match ifs with
     | []=>some none
     | [c]=>(bO n { C with sc:=sc,N:=xs++aS sc } c).map some
     | _=>none).bind fun c=>(bO n { C with sc:=sc,N:=xs++aS sc } elt).map fun e=>aL k cs fi c e
    else none else none
   | _=>none)
  | .Call f as kws cp=>((if kws.isEmpty then(match f with
   | .Name x _=>(match loc C x with
    | some _=>none
    | none=>(match glo C x with
     | some (.fn _ k f)=>if as.isEmpty then none else(d7 (bO n C) as).bind fun fs=>if fs.length=k then some (aA f fs) else none
     | some (.py p)=>aDc (bO n C) (pD n C) C p as
     | _=>none))
   | .Attribute o m ap=>(if as.isEmpty then(if m="bit_length"/\aBk o=true/\(ap.endLine==cp.line)=true then(bO n C o).map fun f=>aA aH3 [f] else none) else(one as).bind fun a=>if aBk o&&ap.endLine==cp.line then(pD n C o).bind fun f=>(bO n C a).bind fun g=>
     if m="count" then some (nR rG f g) else if m="index" then some (nR nU f g) else none else none)
   | _=>none) else none))
  | .Dict ks vs _=>if aDd ks vs then some (rK .rnk) else none
  | _=>none
noncomputable def pD:Nat->Ctx->Expr->Option F
 | 0,_,_=>none
 | n+1,C,e=>match e with
  | .Name x p=>(match loc C x with
   | some i=>some (aD i)
   | none=>bO n C (.Name x p))
  | e=>bO n C e
noncomputable def aBm:Nat->Ctx->Bool->Expr->Option F
 | 0,_,_,_=>none
 | n+1,C,tt,e=>match e with
  | .Call f as kws q=>(match f with
   | .Name x p=>(match loc C x,glo C x,kws with
    | none,some (.py .range),[]=>u5 (bO n C) C tt x as
    | none,some (.py .zip),[]=>u5 (bO n C) C tt x as
    | none,some (.py .enum),[]=>u5 (bO n C) C tt x as
    | _,_,_=>bO n C (.Call (.Name x p) as kws q))
   | f=>bO n C (.Call f as kws q))
  | e=>(match dnN C e with | some i=>some (jQ i) | none=>pD n C e)
end
noncomputable def gv:Nat->Expr->List Str
 | 0,_=>[]
 | n+1,e=>match e with
  | .Name x _=>[x]
  | .BinOp a _ b _=>gv n a++gv n b
  | .UnaryOp _ a _=>gv n a
  | .BoolOp _ as _=>as.flatMap (gv n)
  | .Compare a [_] [b] _=>(if yX a then [] else gv n a)++(if yX b then [] else gv n b)
  | .Compare a _ bs _=>gv n a++bs.flatMap (gv n)
  | .IfExp a b c _=>gv n a++gv n b++gv n c
  | .Tuple es _ _=>es.flatMap (gv n)
  | .List es _=>es.flatMap (gv n)
  | .Slice lo hi _ _=>(lo.map (gv n)).getD []++(hi.map (gv n)).getD []
  | .Subscript (.Name _ _) b _=>gv n b
  | .Subscript a b _=>gv n a++gv n b
  | .ListComp elt [⟨_, .Name _ _,ifs,_⟩] _ _=>ifs.flatMap (gv n)++gv n elt
  | .ListComp elt [⟨_,it,ifs,_⟩] _ _=>gv n it++ifs.flatMap (gv n)++gv n elt
  | .Call (.Name x _) as _ _=>if x="len"\/x="tuple"\/x="list"\/x="sum"\/x="sorted"\/x="all"\/x="any"\/x="isinstance" then
    as.flatMap fun a=>match a with | .Name _ _=>[] | a=>gv n a else x::as.flatMap (gv n)
  | .Call (.Attribute (.Name _ _) _ _) as _ _=>as.flatMap (gv n)
  | .Call (.Attribute o _ _) as _ _=>gv n o++as.flatMap (gv n)
  | .Call f as _ _=>gv n f++as.flatMap (gv n)
  | _=>[]
noncomputable def fC (C:Ctx) (e:Expr):List Nat:=match C.bs with
 | []=>[]
 | _=>((gv 50 e).filter fun x=>C.bs.contains x).filterMap fun x=>loc C x
noncomputable def cG (is:List Nat) (s:FS):FS:=match is with
 | []=>s
 | is=>aM1 is s
noncomputable def yH:Nat->List Stmt->List Str
 | 0,_=>[]
 | n+1,ss=>ss.flatMap fun s=>match s with
  | .Assign [.Subscript (.Name x _) _ _] _ _=>[x]
  | .Assign [.Name x _] (.Dict [] [] _) _=>[nW x]
  | .Assign [.Tuple [_, .Name x _] _ _] (.Tuple [_, .Dict [] [] _] _ _) _=>[nW x]
  | .AugAssign (.Subscript (.Name x _) _ _) _ _ _=>[x]
  | .Assign [.Tuple [.Subscript (.Name x _) _ _,_] _ _] _ _=>[x]
  | .Expr (.Call (.Attribute (.Name x _) m _) _ _ _) _=>if m="append"\/m="extend"\/m="remove" then [x] else []
  | .If _ a b _=>yH n a++yH n b
  | .For _ _ b _ _=>yH n b
  | .While _ b _ _=>yH n b
  | .Return (some (.Name x _)) _=>if x="numbers" then [x] else []
  | _=>[]
noncomputable def u6:Expr->Bool
 | .Call _ _ _ _=>true
 | .Name _ _=>true
 | .Subscript _ _ _=>true
 | .ListComp _ _ _ _=>true
 | _=>false
noncomputable def aDe (C:Ctx) (x y:Str) (px py:Pos) (a b:Expr):Bool:=
 C.sc.names.lookup x==some .local&&C.sc.names.lookup y==some .local&&x != y&&px.line==py.line&& !([a,b].all (foldedForSure 8))&& !([a,b].all (constantsAlone 8))&& !C.bs.contains x&& !C.bs.contains y
noncomputable def u7 (C:Ctx) (x y:Str):Bool:=(C.sc.names.lookup x==some .cell||C.sc.names.lookup y==some .cell)&& !C.bs.contains x&& !C.bs.contains y
noncomputable def aPs:Operator->Bool
 | .Add=>true
 | _=>false
noncomputable def aBn:Operator->Bool
 | .Add=>true
 | .Sub=>true
 | _=>false
noncomputable def aM3:Expr->Bool
 | .Dict ks vs _=>ks.isEmpty&&vs.isEmpty
 | _=>false
noncomputable def aPt (C:Ctx) (tt:Bool) (it:Expr):Option F:=match it with
 | .Name x p=>bO 50 C (.Name x p)
 | it=>aBm 50 C tt it
structure Par where
 x:Str
 px:Pos
 y:Str
 py:Pos
 a:Expr
 b:Expr
noncomputable def aM4 (es:List Expr) (e:Expr):Option Par:=(two es).bind fun(u,v)=>(cU u).bind fun(x,px)=>(cU v).bind fun(y,py)=>(aGh e).bind fun(vs,_)=>(two vs).map fun(a,b)=>⟨x,px,y,py,a,b⟩
structure Par3 where
 x:Str
 px:Pos
 y:Str
 py:Pos
 z:Str
 pz:Pos
 a:Expr
 b:Expr
 c:Expr
noncomputable def aH8:List Expr->Option (Expr×Expr×Expr)
 | [a,b,c]=>some (a,b,c)
 | _=>none
noncomputable def aQ9 (es:List Expr) (e:Expr):Option Par3:=(aH8 es).bind fun(u,v,w)=>(cU u).bind fun(x,px)=>(cU v).bind fun(y,py)=>(cU w).bind fun(z,pz)=>(aGh e).bind fun(vs,_)=>(aH8 vs).map fun(a,b,c)=>⟨x,px,y,py,z,pz,a,b,c⟩
noncomputable def aPu (C:Ctx) (q:Par3):Bool:=
 C.sc.names.lookup q.x==some .local&&C.sc.names.lookup q.y==some .local&&C.sc.names.lookup q.z==some .local&&q.x != q.y&&q.x != q.z&&q.y != q.z&&q.px.line==q.py.line&&q.px.line==q.pz.line&& !([q.a,q.b,q.c].all (foldedForSure 8))&& !([q.a,q.b,q.c].all (constantsAlone 8))&& !C.bs.contains q.x&& !C.bs.contains q.y&& !C.bs.contains q.z
noncomputable def aM5:Expr->Option (Str×Expr)
 | .Subscript o k _=>(cU o).map fun(x,_)=>(x,k)
 | _=>none
noncomputable def aM6 (es:List Expr) (e:Expr):Option (Str×Expr×Expr):=(two es).bind fun(u,v)=>(aM5 u).bind fun(x,k)=>(aM5 v).bind fun(y,l)=>(aGh e).bind fun(vs,_)=>(two vs).bind fun _=>if x=y then some (x,k,l) else none
noncomputable def aRa (es:List Expr) (e:Expr):Option (Str×Str×Expr):=(two es).bind fun(u,v)=>(cU u).bind fun(x,_)=>(cU v).bind fun(y,_)=>(aGh e).bind fun(vs,_)=>(two vs).bind fun(a,b)=>if aM3 b then some (x,y,a) else none
noncomputable def aQs:List Stmt->Option Stmt
 | [s]=>some s
 | _=>none
noncomputable def aQt:Stmt->Option (Str×Str)
 | .Assign ts e _=>(one ts).bind fun t=>(cU t).bind fun(x,_)=>(cU e).map fun(y,_)=>(x,y)
 | _=>none
noncomputable def aRb (C:Ctx) (hs:List ExceptHandler):Option (Nat×Nat):=match hs with
 | [.ExceptHandler ty nm b _]=>ty.bind fun te=>nm.bind fun e=>(cU te).bind fun(cx,_)=>(aQs b).bind fun s=>(aQt s).bind fun(x,e')=>(match loc C cx,glo C cx with
  | none,some (.exc c)=>if c=0/\e=e' then(loc C e).bind fun i=>(loc C x).bind fun j=>if C.sc.names.lookup e==some .local&&i != j&&C.bs.isEmpty then some (i,j) else none else none
  | _,_=>none)
 | _=>none
mutual
noncomputable def aBo:Nat->Bool->Ctx->Stmt->Option FS
 | 0,_,_,_=>none
 | n+1,t,C,s=>match s with
  | .Pass _=>some aY
  | .Break _=>some aPn
  | .Continue _=>some aH6
  | .Return v _=>(match v with
   | none=>some aH5
   | some e=>(match cU e with
    | some (x,_)=>(match loc C x with
     | some i=>if C.bs.contains x then some (bW (uW i)) else some (bW (aB i))
     | none=>(bO 50 C e).map bW)
    | none=>(bO 50 C e).map fun f=>cG (fC C e) (bW f)))
  | .Assign ts e _=>(one ts).bind fun tg=>(match tg with
   | .Name x _=>(loc C x).bind fun i=>if aM3 e&&C.bs.contains x then some (aDa i) else(bO 50 C e).map fun f=>cG (fC C e) (if C.bs.contains x then i7 i f else d6 i f)
   | .Tuple es a b=>(match aM6 es e with
    | some (x,k,l)=>(loc C x).bind fun i=>if C.bs.contains x then(bO 50 C e).bind fun f=>(bO 50 C k).bind fun g=>(bO 50 C l).map fun h=>cG (fC C e++(fC C k++fC C l)) (uY i g h f) else none
    | none=>(match aM4 es e with
    | some ⟨x,px,y,py,a,b⟩=>if aDe C x y px py a b then(loc C x).bind fun i=>(loc C y).bind fun j=>(bO 50 C a).bind fun f=>(bO 50 C b).map fun g=>cG (fC C e) (gS [i,j] (fZ [f,g])) else if u7 C x y then(loc C x).bind fun i=>(loc C y).bind fun j=>(bO 50 C e).map fun f=>cG (fC C e) (gS [i,j] f) else none
    | none=>(if u6 e then some () else none).bind fun _=>(bI (.Tuple es a b)).bind fun(xs,_)=>(d7 (fun x=>loc C x) xs).bind fun is=>if xs.all (fun x=> !C.bs.contains x) then
     (bO 50 C e).map fun f=>cG (fC C e) (gS is f) else none))
   | .Subscript o k _=>(cU o).bind fun(x,_)=>(loc C x).bind fun i=>if C.bs.contains x then(bO 50 C e).bind fun f=>(bO 50 C k).map fun g=>cG (fC C e++fC C k) (uF i g f) else none
   | _=>none)
  | .AugAssign tg op e _=>(match tg with | .Subscript o k _=>(cU o).bind fun(x,_)=>(loc C x).bind fun i=>if C.bs.contains x&&aPs op then(bO 50 C e).bind fun f=>(bO 50 C k).map fun g=>cG (fC C e++fC C k) (yW i g f) else none | tg=>(cU tg).bind fun(x,_)=>(if aBn op then some () else none).bind fun _=>(loc C x).bind fun i=>(bO 50 C e).map fun f=>cG (fC C e) (aL0 i op f))
  | .Expr e _=>(match e with
   | .Call f as kws cp=>if kws.isEmpty then(match f with
    | .Attribute o m ap=>(cU o).bind fun(x,_)=>(one as).bind fun e=>(loc C x).bind fun i=>if C.bs.contains x&&ap.endLine==cp.line then(bO 50 C e).bind fun f=>
      if m="append" then some (cG (fC C e) (aBj i f)) else if m="extend" then some (cG (fC C e) (aL1 i f)) else none else none
    | .Name x p=>(bO 50 C (.Call (.Name x p) as [] cp)).map fun f=>cG (fC C (.Call (.Name x p) as [] cp)) (eJ f)
    | _=>none) else none
   | _=>none)
  | .If c a b _=>(bO 50 C c).bind fun f=>(kW n t C a).bind fun g=>(kW n t C b).map fun h=>cG (fC C c) (sIf f g h)
  | .For tg it b els _=>if t|| !els.isEmpty then none else((bI tg).bind fun(xs,k)=>(aPt C (k != 0) it).bind fun f=>(d7 (fun x=>loc C x) xs).bind fun is=>if xs.all (fun x=> !C.bs.contains x) then
    (kW n t C b).map fun g=>cG (fC C it) (kU is (k==0) f g) else none)
  | .Raise x c _=>if t||c.isSome then none else x.bind fun e=>(match e with
   | .Call f as kws _=>if kws.isEmpty then(cU f).bind fun(x,_)=>(one as).bind fun a=>if aH7 a then(match loc C x,glo C x with
    | none,some (.exc c)=>some (iS c)
    | _,_=>none) else none else none
   | _=>none)
  | _=>none
noncomputable def kW:Nat->Bool->Ctx->List Stmt->Option FS
 | 0,_,_,_=>none
 | n+1,t,C,ss=>match ss with
  | []=>some aY
  | [a]=>some ((aBo n t C a).getD aL2)
  | a::r=>(kW n t C r).map fun g=>aR ((aBo n t C a).getD aL2) g
end
noncomputable def iT (a:Arguments):Option (List Str):=if a.posonlyargs.isEmpty&&a.vararg.isNone&&a.kwonlyargs.isEmpty&&a.kwarg.isNone&&a.defaults.isEmpty then some (a.args.map (·.arg)) else none
noncomputable def aP (sc:Scope):List Str:=(sc.names.filter fun p=>p.2== .local||p.2== .cell).map (·.1)
noncomputable def eO (N P:List Str) (sc:Scope):Bool:=
 sc.kind== .function&& !sc.isCoroutine&& !sc.isGenerator&&decide N.Nodup&&decide (N.take P.length=P)&&
  P.all (fun x=>sc.names.lookup x==some .local||sc.names.lookup x==some .cell)&&sc.names.all (fun p=>p.2 != .free)&&N.all (fun x=>x != "__debug__"&&x != "__classdict__")
noncomputable def u8 (tab:List (Str×Gl)) (fns:List (Nat×Fn)) (s:Stmt):Option (Nat×Fn):=match s with
 | .FunctionDef _ as b _ _ _ sc _ _ _=>(iT as).bind fun P=>if eO (aP sc) P sc then
   (kW 100 false ⟨tab,fns,sc,aP sc,yH 50 b⟩ b).map fun g=>(P.length,fnOf (aP sc).length g) else none
 | _=>none
noncomputable def aM7 (g:Gl):D->Option Bool:=(isP g).getD fun _=>none
noncomputable def aH9:D->Option Bool:=aM7 (.py .int)
noncomputable def aDf:D->Option Bool:=aM7 (.py .bool)
noncomputable def gT:D->Option Bool:=aM7 (.py .tuple)
noncomputable def yZ (m:Fn->Fn):Nat->Fn
 | 0=>fun _=> .bad
 | n+1=>m (yZ m n)
mutual
noncomputable def bL:D->PyData
 | .non=> .none
 | .bl b=> .bool b
 | .int i=> .int i
 | .str x=> .str x
 | .tup xs=> .tuple (dJ xs)
 | .lst xs=> .list (dJ xs)
 | .exc _=> .none
 | .fn _=> .none
 | .rnk=> .none
noncomputable def dJ:List D->List PyData
 | []=>[]
 | x::xs=>bL x::dJ xs
end
mutual
theorem iU: ∀ {d:D},plain d=true->(bL d).canLay0=true
 | .non,_=>by simp [bL,PyData.canLay0]
 | .bl _,_=>by simp [bL,PyData.canLay0]
 | .int _,_=>by simp [bL,PyData.canLay0]
 | .str x,h=>by
  unfold plain at h
  simp only [bL,PyData.canLay0]
  exact h
 | .tup xs,h=>by
  simp only [bL,PyData.canLay0]
  exact pT (by simpa [plain] using h)
 | .lst xs,h=>by
  simp only [bL,PyData.canLay0]
  exact pT (by simpa [plain] using h)
 | .exc _,h=>by simp [plain] at h
 | .fn _,h=>by simp [plain] at h
 | .rnk,h=>by simp [plain] at h
theorem pT: ∀ {ds:List D},bC ds=true->PyData.canLayAll0 (dJ ds)=true
 | [],_=>by simp [dJ,PyData.canLayAll0]
 | d::ds,h=>by
  have h':plain d=true/\bC ds=true:=by simpa [bC] using h
  simp only [dJ,PyData.canLayAll0,iU h'.1,pT h'.2,Bool.and_self]
end
mutual
theorem iV: ∀ (d:D),(bL d).depth=dep d
 | .non=>by simp [bL,PyData.depth,dep]
 | .bl _=>by simp [bL,PyData.depth,dep]
 | .int _=>by simp [bL,PyData.depth,dep]
 | .str x=>by simp [bL,PyData.depth,dep]
 | .tup xs=>by simp [bL,PyData.depth,dep,pU xs]
 | .lst xs=>by simp [bL,PyData.depth,dep,pU xs]
 | .exc _=>by simp [bL,PyData.depth,dep]
 | .fn _=>by simp [bL,PyData.depth,dep]
 | .rnk=>by simp [bL,PyData.depth,dep]
theorem pU: ∀ (ds:List D),PyData.depthAll (dJ ds)=pN ds
 | []=>by simp [dJ,PyData.depthAll,pN]
 | d::ds=>by simp [dJ,PyData.depthAll,pN,iV d,pU ds]
end
theorem aBp (b:Bool):b2i b=if b then 1 else 0:=rfl
mutual
theorem iD: ∀ (x y:D),plain x=true->plain y=true->PyData.eqv (bL x) (bL y)=deq x y
 | .non,y,_,h=>by cases y<;>simp [plain] at h<;>simp [bL,PyData.eqv,deq]
 | .bl a,y,_,h=>by cases y<;>simp [plain] at h<;>simp [bL,PyData.eqv,deq,aBp]
 | .int a,y,_,h=>by cases y<;>simp [plain] at h<;>simp [bL,PyData.eqv,deq,aBp]
 | .str a,y,_,h=>by cases y<;>simp [plain] at h<;>simp [bL,PyData.eqv,deq]
 | .tup xs,y,g,h=>by
  cases y with
  | tup ys=>simpa [bL,PyData.eqv,deq] using l6 xs ys (by simpa [plain] using g) (by simpa [plain] using h)
  | _=>simp [plain] at h<;>simp [bL,PyData.eqv,deq]
 | .lst xs,y,g,h=>by
  cases y with
  | lst ys=>simpa [bL,PyData.eqv,deq] using l6 xs ys (by simpa [plain] using g) (by simpa [plain] using h)
  | _=>simp [plain] at h<;>simp [bL,PyData.eqv,deq]
 | .exc _,_,g,_=>by simp [plain] at g
 | .fn _,_,g,_=>by simp [plain] at g
 | .rnk,_,g,_=>by simp [plain] at g
theorem l6: ∀ (xs ys:List D),bC xs=true->bC ys=true->PyData.eqvAll (dJ xs) (dJ ys)=tF xs ys
 | [],[],_,_=>by simp [dJ,PyData.eqvAll,tF]
 | [],_::_,_,_=>by simp [dJ,PyData.eqvAll,tF]
 | _::_,[],_,_=>by simp [dJ,PyData.eqvAll,tF]
 | x::xs,y::ys,g,h=>by
  have g':plain x=true/\bC xs=true:=by simpa [bC] using g
  have h':plain y=true/\bC ys=true:=by simpa [bC] using h
  simp only [dJ,PyData.eqvAll,tF,iD x y g'.1 h'.1,l6 xs ys g'.2 h'.2]
end
open PySem.SeqAt
theorem y0 {prog:Program} {w:World} {A:Around} {s:Shared} {Q:Int->Shared->Prop} {E:Value->Shared->Prop} (h:Q 0xFCA86420 { s with toks:=s.toks+1 }):wpAny (model prog w) A (pyHash .none) Q E s:=by
 have hT:s.TypeIs .none "NoneType":=rfl
 unfold pyHash pyHashByItsType
 refine aa (wpAny_cRoomFor_or (.inl rfl) ?_)
 refine aa (wpAny_specialOf hT F.slot_NoneType_hash.lookup ?_)
 show wpAny _ _ (if(some (Value.builtin "NoneType.__hash__")==some Value.none)=true then _ else _) Q E s
 rw [if_neg (by rw [beq_builtin_none];exact bd)]
 refine aa (wpAny_specialOf hT F.slot_NoneType_hash.lookup ?_)
 show wpAny _ _ (callSpecialIfBoundUnlessNone? .none "__hash__" _ >>= _) Q E s
 refine aa (wpAny_callSpecialIfBoundUnlessNone?_slot hT F.slot_NoneType_hash (wpAny_call_entry F.slot_NoneType_hash hT F.entry_NoneType_hash ?_ (F.args_NoneType_hash_1 _)))
 show wpAny _ _ (retInt 0xFCA86420) _ _ s
 refine wpAny_ret_mkInt ?_
 exact ae h
noncomputable def oIs:Option Int->Value->Bool
 | none, .none=>true
 | some i, .int j _=>decide (j=i)
 | _,_=>false
theorem fO {v:Value} (h:oIs none v=true):v= .none:=by cases v<;>first | rfl | (cases h;done)
theorem eP {i:Int} {v:Value} (h:oIs (some i) v=true): ∃ t,v= .int i t:=by
 cases v<;>first | (cases h;done) | skip
 rename_i j t
 exact⟨t,by rw [of_decide_eq_true h]⟩
noncomputable def aM8:Option Int->Int
 | none=>0xFCA86420
 | some i=>hashInt i
noncomputable def pV (prog:Program) (w:World):KeyKind prog w (Option Int) where
 is:=oIs
 hash:=aM8
 inj:=fun v a b ha hb=>by
  cases a with
  | none=>
   cases fO ha
   cases b with
   | none=>rfl
   | some j=>cases hb
  | some i=>
   obtain⟨t,rfl⟩:=eP ha
   cases b with
   | none=>cases hb
   | some j=>
    obtain⟨u,e⟩:=eP hb
    cases e
    rfl
 byValue:=fun k v h=>by
  cases k with
  | none=>cases fO h;rfl
  | some i=>obtain⟨t,rfl⟩:=eP h;rfl
 pyHash:=fun {A E s k v Q} hv h=>by
  cases k with
  | none=>cases fO hv;exact y0 h
  | some i=>obtain⟨t,rfl⟩:=eP hv;exact wpAny_pyHash_int h
 eqBool:=fun {A E s a b u v Q} hu hv h=>by
  cases a with
  | none=>
   cases fO hu
   cases b with
   | none=>cases fO hv;exact EqAt.same _ prog w E Q (by simpa using h)
   | some j=>obtain⟨t,rfl⟩:=eP hv;exact EqAt.none_int j t prog w E Q (by simpa using h)
  | some i=>
   obtain⟨t,rfl⟩:=eP hu
   cases b with
   | none=>cases fO hv;exact EqAt.int_none i t prog w E Q (by simpa using h)
   | some j=>obtain⟨t',rfl⟩:=eP hv;exact wpAny_eqBool_int (by rw [show(i==j)=decide (some i=some j) from by simp [BEq.beq]];exact h)
 «strs»:=fun k x t v h=>by cases k<;>cases h
def aIa (h:Heap) (a:Addr):Prop:=(a==sysModules)=false/\ ∃ t0 t1 t2, ∀ (P:Program) (w:World),h.DictOf (pV P w) a [(some 0, .int 0 t0),(some 1, .int 1 t1),(none, .int 2 t2)]
noncomputable def aGj (a:Addr):HO:= .ext fun h=>aIa h a
theorem nX {P P':Program} {w w':World}: ∀ {es:List DictEntry} {kvs:List (Option Int×Value)},Pairs (pV P w) es kvs->Pairs (pV P' w') es kvs
 | _,_, .nil=> .nil
 | _,_, .cons a b c=> .cons a b (nX c)
theorem aDg {P:Program} {w:World} {h:Heap} {a:Addr} {t0 t1 t2:Tok} (d:h.DictOf (pV P w) a [(some 0, .int 0 t0),(some 1, .int 1 t1),(none, .int 2 t2)]) (P':Program) (w':World):h.DictOf (pV P' w') a [(some 0, .int 0 t0),(some 1, .int 1 t1),(none, .int 2 t2)]:=by
 obtain⟨o,es,ep,h1,h2,h3,h4,h5,h6⟩:=d
 exact⟨o,es,ep,h1,h2,h3,h4,nX h5,h6⟩
abbrev St:=L2.St
structure Ad where
 cls:Nat->Addr
 fnA:Nat->Addr
 nb:Nat
def nY (h:Heap) (x C:Addr):Prop:= ∃ o vs,h.get? x=some o/\o.cls= .ref C/\o.data= .fields vs
noncomputable def aPv (C a:Addr):HO:= .ext fun h=>nY h a C
section
variable (K:PySem.W.Frag) (ad:Ad)
mutual
noncomputable def Rep (G:Hp):D->V->Prop
 | .non,v=>v= .non
 | .bl b,v=>v= .bl b
 | .int i,v=>v= .int i
 | .str x,v=>v= .str x
 | .tup ds,v=> ∃ a vs,v= .ref a/\SqT K G a vs/\aF G ds vs
 | .lst ds,v=> ∃ a vs,v= .ref a/\SqL K G a vs/\aF G ds vs
 | .exc c,v=> ∃ a,v= .ref a/\G a=some (aPv (ad.cls c) a)
 | .fn k,v=>v= .ref (ad.fnA k)
 | .rnk,v=> ∃ a,v= .ref a/\G a=some (aGj a)
noncomputable def aF (G:Hp):List D->List V->Prop
 | [],vs=>vs=[]
 | d::ds,vs=> ∃ v r,vs=v::r/\Rep G d v/\aF G ds r
end
end
section
variable {K:PySem.W.Frag} {ad:Ad} {G G' H H':Hp}
theorem _root_.L2.Same.seqT {K:PySem.W.Frag} {H H':Hp} {a:Addr} {xs:List V} (e:Same H H') (h:SqT K H a xs):SqT K H' a xs:=by
 rcases h with (h | ⟨o,h⟩) | h
 ·exact .inl (.inl (e _ _ h))
 ·exact .inl (.inr ⟨o,e _ _ h⟩)
 ·exact .inr h
mutual
theorem Rep.mono (e:Same G G'): ∀ {d:D} {v:V},Rep K ad G d v->Rep K ad G' d v
 | .non,_,h=>h
 | .bl _,_,h=>h
 | .int _,_,h=>h
 | .str _,_,h=>h
 | .tup ds,v,h=>by
  unfold Rep at h ⊢
  obtain⟨a,vs,h1,h2,h3⟩:=h
  exact⟨a,vs,h1,e.seqT h2,aF.mono e h3⟩
 | .lst ds,v,h=>by
  unfold Rep at h ⊢
  obtain⟨a,vs,h1,h2,h3⟩:=h
  exact⟨a,vs,h1,e.seq h2,aF.mono e h3⟩
 | .exc _,_,h=>by
  unfold Rep at h ⊢
  obtain⟨a,h1,h2⟩:=h
  exact⟨a,h1,e _ _ h2⟩
 | .fn _,_,h=>h
 | .rnk,_,h=>by
  unfold Rep at h ⊢
  obtain⟨a,h1,h2⟩:=h
  exact⟨a,h1,e _ _ h2⟩
theorem aF.mono (e:Same G G'): ∀ {ds:List D} {vs:List V},aF K ad G ds vs->aF K ad G' ds vs
 | [],_,h=>h
 | d::ds,vs,h=>by
  unfold aF at h ⊢
  obtain⟨v,r,h1,h2,h3⟩:=h
  exact⟨v,r,h1,Rep.mono e h2,aF.mono e h3⟩
end
theorem aF.length: ∀ {ds:List D} {vs:List V},aF K ad G ds vs->vs.length=ds.length
 | [],_,h=>by
  unfold aF at h
  subst h
  rfl
 | d::ds,vs,h=>by
  unfold aF at h
  obtain⟨v,r,rfl,_,h3⟩:=h
  simp [aF.length h3]
theorem aF.nil:aF K ad G [] []:=by unfold aF;rfl
theorem aF.cons {d:D} {v:V} {ds:List D} {vs:List V} (h:Rep K ad G d v) (t:aF K ad G ds vs):aF K ad G (d::ds) (v::vs):=by
 unfold aF
 exact⟨v,vs,rfl,h,t⟩
theorem aF.get: ∀ {ds:List D} {vs:List V} {i:Nat} {d:D},aF K ad G ds vs->ds[i]? =some d-> ∃ v,vs[i]? =some v/\Rep K ad G d v
 | [],_,_,_,_,e=>by simp at e
 | d::ds,vs,i,d',h,e=>by
  unfold aF at h
  obtain⟨v,r,rfl,h2,h3⟩:=h
  cases i with
  | zero=>
   simp at e
   subst e
   exact⟨v,rfl,h2⟩
  | succ i=>
   obtain⟨w,a,b⟩:=aF.get (i:=i) (d:=d') h3 (by simpa using e)
   exact⟨w,by simpa using a,b⟩
theorem aF.append: ∀ {ds es:List D} {vs ws:List V},aF K ad G ds vs->aF K ad G es ws->aF K ad G (ds++es) (vs++ws)
 | [],_,_,_,h,t=>by
  unfold aF at h
  subst h
  exact t
 | d::ds,es,vs,ws,h,t=>by
  unfold aF at h
  obtain⟨v,r,rfl,h2,h3⟩:=h
  exact aF.cons h2 (aF.append h3 t)
theorem aF.drop: ∀ (n:Nat) {ds:List D} {vs:List V},aF K ad G ds vs->aF K ad G (ds.drop n) (vs.drop n)
 | 0,_,_,h=>h
 | n+1,[],_,h=>by
  unfold aF at h
  subst h
  exact aF.nil
 | n+1,d::ds,vs,h=>by
  unfold aF at h
  obtain⟨v,r,rfl,h2,h3⟩:=h
  exact aF.drop n h3
theorem aF.take: ∀ (n:Nat) {ds:List D} {vs:List V},aF K ad G ds vs->aF K ad G (ds.take n) (vs.take n)
 | 0,_,_,_=>aF.nil
 | n+1,[],_,h=>by
  unfold aF at h
  subst h
  exact aF.nil
 | n+1,d::ds,vs,h=>by
  unfold aF at h
  obtain⟨v,r,rfl,h2,h3⟩:=h
  exact aF.cons h2 (aF.take n h3)
theorem aF.set {d:D} {v:V} (q:Rep K ad G d v): ∀ (n:Nat) {ds:List D} {vs:List V},aF K ad G ds vs->aF K ad G (ds.set n d) (vs.set n v)
 | _,[],_,h=>by
  unfold aF at h
  subst h
  exact aF.nil
 | 0,_::ds,vs,h=>by
  unfold aF at h
  obtain⟨w,r,rfl,h2,h3⟩:=h
  exact aF.cons q h3
 | n+1,e::ds,vs,h=>by
  unfold aF at h
  obtain⟨w,r,rfl,h2,h3⟩:=h
  exact aF.cons h2 (aF.set q n h3)
theorem aF.rep {ds:List D} {vs:List V} (h:aF K ad G ds vs): ∀ k:Nat,aF K ad G (ak k ds).flatten (ak k vs).flatten
 | 0=>aF.nil
 | k+1=>by
  simp only [List.replicate_succ,List.flatten_cons]
  exact aF.append h (aF.rep h k)
theorem aF.map_int: ∀ {ns:List Int},aF K ad G (ns.map D.int) (ns.map V.int)
 | []=>aF.nil
 | _::_=>aF.cons (by unfold Rep;rfl) aF.map_int
structure Step (G H G' H':Hp):Prop where
 sg:Same G G'
 gh:Same G' H'
 sh:Same H H'
 nw: ∀ b,G b=none->G' b≠none->H b=none
theorem nZ (e:Same H H') {b:Addr} (h:H' b=none):H b=none:=e.free h
theorem Step.refl (h:Same G H):Step G H G H:=⟨Same.refl _,h,Same.refl _,fun b h1 h2=>absurd h1 h2⟩
theorem Step.trans {G1 H1 G2 H2:Hp} (a:Step G H G1 H1) (b:Step G1 H1 G2 H2):Step G H G2 H2:=
 ⟨a.sg.trans b.sg,b.gh,a.sh.trans b.sh,fun x h1 h2=>by
  cases q:G1 x with
  | none=>exact a.sh.free (b.nw x q h2)
  | some o=>exact a.nw x h1 (by rw [q];exact fun z=>nomatch z)⟩
theorem Same.upd_new {p:Addr} {o:HO} (h:H p=none):Same H (upd H p o):=fun b u e=>by rw [aI (bB e h)];exact e
theorem Step.new {p:Addr} {o:HO} (h:Same G H) (n:H p=none):Step G H (upd G p o) (upd H p o):=by
 have gn:G p=none:=h.free n
 refine⟨Same.upd_new gn,fun b u e=> ?_,Same.upd_new n,fun b h1 h2=> ?_⟩
 ·by_cases q:b=p
  ·subst q
   rw [aN] at e ⊢
   exact e
  ·rw [aI q] at e ⊢
   exact h b u e
 ·by_cases q:b=p
  ·subst q
   exact n
  ·rw [aI q] at h2
   exact absurd h1 h2
theorem Step.own {p:Addr} {o:HO} (h:Same G H) (n:H p=none):Step G H G (upd H p o):=
 ⟨Same.refl _,h.trans (Same.upd_new n),Same.upd_new n,fun b h1 h2=>absurd h1 h2⟩
theorem Step.shareO {p:Addr} {o:HO} (s:Step G H G' H') (n:H p=none) (m:G' p=none) (e:H' p=some o):Step G H (upd G' p o) H':=by
 refine⟨s.sg.trans (Same.upd_new m),fun b u q=> ?_,s.sh,fun b h1 h2=> ?_⟩
 ·by_cases z:b=p
  ·subst z
   rw [aN] at q
   rw [e]
   exact q
  ·rw [aI z] at q
   exact s.gh b u q
 ·by_cases z:b=p
  ·subst z
   exact n
  ·rw [aI z] at h2
   exact s.nw b h1 h2
theorem Step.share {p:Addr} {vs:List V} (s:Step G H G' H') (n:H p=none) (m:G' p=none) (e:H' p=some (.lst vs)):Step G H (upd G' p (.lst vs)) H':=s.shareO n m e
mutual
noncomputable def hD:D->Int
 | .non=>0xFCA86420
 | .int i=>hashInt i
 | .tup xs=>reduceHash (Builtin.Tuple.tupleHashOf (hDs xs))
 | _=>0
noncomputable def hDs:List D->List Int
 | []=>[]
 | x::xs=>hD x::hDs xs
end
def aM9 (h:Heap) (a:Addr) (es:Nat×List (Int×Addr×V)):Prop:=(a==sysModules)=false/\es.2.length<=200000/\ ∃ o ar xs,h.get? a=some o/\o.ExactDict/\o.data= .dict ar es.1/\ar.toList=xs.map (fun x:Int×Addr×Value=>(⟨x.1, .ref x.2.1,x.2.2⟩:DictEntry))/\
 Paired (fun(p:Int×Addr×V) (q:Int×Addr×Value)=>p.1=q.1/\p.2.1=q.2.1/\bA p.2.2 q.2.2) es.2 xs
noncomputable def dcO (a:Addr) (es:Nat×List (Int×Addr×V)):HO:= .ext fun h=>aM9 h a es
noncomputable def DL (K:PySem.W.Frag) (ad:Ad) (G:Hp):List (D×D)->List (Int×Addr×V)->Prop:=Paired fun p q=>q.1=hD p.1/\Rep K ad G p.1 (.ref q.2.1)/\Rep K ad G p.2 q.2.2
def DR (K:PySem.W.Frag) (ad:Ad) (G:Hp) (kvs:List (D×D)) (es:Nat×List (Int×Addr×V)):Prop:=DL K ad G kvs es.2
def KOk (kvs:List (D×D)):Prop:=(∀ p∈kvs,cT p.1=true)/\kvs.Pairwise fun p q=>deq p.1 q.1=false
theorem DR.mono {K:PySem.W.Frag} {ad:Ad} {G G':Hp} {kvs:List (D×D)} {es:Nat×List (Int×Addr×V)} (h:DR K ad G kvs es) (e:Same G G'):DR K ad G' kvs es:=Paired.mapP h fun _ _ z=>⟨z.1,z.2.1.mono e,z.2.2.mono e⟩
noncomputable def HR (K:PySem.W.Frag) (ad:Ad) (G:Hp):List (Str×D)->List (Key×V)->Prop:=Paired fun p q=>q.1=Sum.inr p.1/\Rep K ad G p.2 q.2
theorem HR.mono {K:PySem.W.Frag} {ad:Ad} {G G':Hp} {ps:List (Str×D)} {qs:List (Key×V)} (h:HR K ad G ps qs) (e:Same G G'):HR K ad G' ps qs:=Paired.mapP h fun _ _ z=>⟨z.1,z.2.mono e⟩
structure RackIn (K:PySem.W.Frag) (ad:Ad) (C:Addr) (G H:Hp) (p:Addr) (r:Rk) (dx d l1 l2:Addr):Prop where
 ins:H p=some (.ins C dx [("held", .ref d),("done", .ref l1),("undone", .ref l2)])
 own:H dx=some (.own p)
 held: ∃ kvs,H d=some (.dK kvs)/\HR K ad G r.held kvs
 done: ∃ vs,H l1=some (.lst vs)/\aF K ad G r.done vs
 undone: ∃ vs,H l2=some (.lst vs)/\aF K ad G r.undone vs
 ne:l1≠l2
 gp:G p=none
 gx:G dx=none
 gd:G d=none
 g1:G l1=none
 g2:G l2=none
theorem Step.gnone {G H G' H':Hp} (st:Step G H G' H') {b:Addr} {o:HO} (g:G b=none) (h:H b=some o):G' b=none:=by
 cases q:G' b with
 | none=>rfl
 | some o'=>
  have:=st.nw b g (by rw [q];exact fun z=>nomatch z)
  rw [h] at this
  cases this
theorem RackIn.step {K:PySem.W.Frag} {ad:Ad} {C:Addr} {G H G' H':Hp} {p:Addr} {r:Rk} {dx d l1 l2:Addr} (h:RackIn K ad C G H p r dx d l1 l2) (st:Step G H G' H'):RackIn K ad C G' H' p r dx d l1 l2:=by
 obtain⟨kvs,a1,a2⟩:=h.held
 obtain⟨v1,b1,b2⟩:=h.done
 obtain⟨v2,c1,c2⟩:=h.undone
 exact⟨st.sh _ _ h.ins,st.sh _ _ h.own,⟨kvs,st.sh _ _ a1,a2.mono st.sg⟩,⟨v1,st.sh _ _ b1,b2.mono st.sg⟩,⟨v2,st.sh _ _ c1,c2.mono st.sg⟩,h.ne,st.gnone h.gp h.ins,st.gnone h.gx h.own,st.gnone h.gd a1,st.gnone h.g1 b1,st.gnone h.g2 c1⟩
theorem RackIn.up {K:PySem.W.Frag} {ad:Ad} {C:Addr} {G H H':Hp} {p:Addr} {r:Rk} {dx d l1 l2:Addr} (h:RackIn K ad C G H p r dx d l1 l2) (s:Same H H'):RackIn K ad C G H' p r dx d l1 l2:=by
 obtain⟨kvs,a1,a2⟩:=h.held
 obtain⟨v1,b1,b2⟩:=h.done
 obtain⟨v2,c1,c2⟩:=h.undone
 exact⟨s _ _ h.ins,s _ _ h.own,⟨kvs,s _ _ a1,a2⟩,⟨v1,s _ _ b1,b2⟩,⟨v2,s _ _ c1,c2⟩,h.ne,h.gp,h.gx,h.gd,h.g1,h.g2⟩
noncomputable def SLi (K:PySem.W.Frag) (ad:Ad) (G H:Hp):Slot->Option V->Prop
 | .no,_=>True
 | .sh d,ov=> ∃ v,ov=some v/\Rep K ad G d v
 | .ow xs,ov=> ∃ a vs,ov=some (.ref a)/\G a=none/\H a=some (.lst vs)/\aF K ad G xs vs
 | .dc kvs,ov=> ∃ a es,ov=some (.ref a)/\G a=none/\H a=some (dcO a es)/\DR K ad G kvs es/\KOk kvs
 | .sd kvs,ov=> ∃ a es,ov=some (.ref a)/\G a=some (dcO a es)/\H a=some (dcO a es)/\DR K ad G kvs es/\KOk kvs
 | .rk C r,ov=> ∃ p dx d l1 l2,ov=some (.ref p)/\RackIn K ad C G H p r dx d l1 l2
structure SL (K:PySem.W.Frag) (ad:Ad) (G H:Hp) (ρ:Rho) (σ:St):Prop where
 len:ρ.length=σ.length
 at_: ∀ (i:Nat) (s:Slot),ρ[i]? =some s-> ∃ ov,σ[i]? =some ov/\SLi K ad G H s ov
theorem SLi.step (st:Step G H G' H'): ∀ {s:Slot} {ov:Option V},SLi K ad G H s ov->SLi K ad G' H' s ov
 | .no,_,_=>trivial
 | .sh d,_,⟨v,h1,h2⟩=>⟨v,h1,h2.mono st.sg⟩
 | .ow xs,_,⟨a,vs,h1,h2,h3,h4⟩=>by
  refine⟨a,vs,h1, ?_,st.sh _ _ h3,h4.mono st.sg⟩
  cases q:G' a with
  | none=>rfl
  | some o=>
   have:=st.nw a h2 (by rw [q];exact fun z=>nomatch z)
   rw [h3] at this
   cases this
 | .dc kvs,_,⟨a,es,h1,h2,h3,h4,h5⟩=>by
  refine⟨a,es,h1, ?_,st.sh _ _ h3,h4.mono st.sg,h5⟩
  cases q:G' a with
  | none=>rfl
  | some o=>
   have:=st.nw a h2 (by rw [q];exact fun z=>nomatch z)
   rw [h3] at this
   cases this
 | .sd kvs,_,⟨a,es,h1,h2,h3,h4,h5⟩=>⟨a,es,h1,st.sg _ _ h2,st.sh _ _ h3,h4.mono st.sg,h5⟩
 | .rk C r,_,⟨p,dx,d,l1,l2,h1,h2⟩=>⟨p,dx,d,l1,l2,h1,h2.step st⟩
theorem SL.step {ρ:Rho} {σ:St} (h:SL K ad G H ρ σ) (st:Step G H G' H'):SL K ad G' H' ρ σ:=
 ⟨h.len,fun i s e=>let ⟨ov,h1,h2⟩:=h.at_ i s e;⟨ov,h1,h2.step st⟩⟩
theorem SL.sh {ρ:Rho} {σ:St} {i:Nat} {d:D} (h:SL K ad G H ρ σ) (e:ρ[i]? =some (.sh d)): ∃ v,σ[i]? =some (some v)/\Rep K ad G d v:=by
 obtain⟨ov,h1,v,rfl,h3⟩:=h.at_ i _ e
 exact⟨v,h1,h3⟩
theorem SL.ow {ρ:Rho} {σ:St} {i:Nat} {xs:List D} (h:SL K ad G H ρ σ) (e:ρ[i]? =some (.ow xs)): ∃ a vs,σ[i]? =some (some (.ref a))/\G a=none/\H a=some (.lst vs)/\aF K ad G xs vs:=by
 obtain⟨ov,h1,a,vs,rfl,h3⟩:=h.at_ i _ e
 exact⟨a,vs,h1,h3⟩
theorem SL.dc {ρ:Rho} {σ:St} {i:Nat} {kvs:List (D×D)} (h:SL K ad G H ρ σ) (e:ρ[i]? =some (.dc kvs)): ∃ a es,σ[i]? =some (some (.ref a))/\G a=none/\H a=some (dcO a es)/\DR K ad G kvs es/\KOk kvs:=by
 obtain⟨ov,h1,a,es,rfl,h3⟩:=h.at_ i _ e
 exact⟨a,es,h1,h3⟩
theorem SL.sd {ρ:Rho} {σ:St} {i:Nat} {kvs:List (D×D)} (h:SL K ad G H ρ σ) (e:ρ[i]? =some (.sd kvs)): ∃ a es,σ[i]? =some (some (.ref a))/\G a=some (dcO a es)/\H a=some (dcO a es)/\DR K ad G kvs es/\KOk kvs:=by
 obtain⟨ov,h1,a,es,rfl,h3⟩:=h.at_ i _ e
 exact⟨a,es,h1,h3⟩
theorem SL.rk {ρ:Rho} {σ:St} {i C:Nat} {r:Rk} (h:SL K ad G H ρ σ) (e:ρ[i]? =some (.rk C r)): ∃ p dx d l1 l2,σ[i]? =some (some (.ref p))/\RackIn K ad C G H p r dx d l1 l2:=by
 obtain⟨ov,h1,p,dx,d,l1,l2,rfl,h3⟩:=h.at_ i _ e
 exact⟨p,dx,d,l1,l2,h1,h3⟩
def RK (K:PySem.W.Frag) (ad:Ad) (G H:Hp) (r:R) (Q:VK) (E:Nat->Hp->Prop):Prop:=match r with
 | .ok d=> ∀ v G' H',Step G H G' H'->Rep K ad G' d v->Q v H'
 | .ow xs=> ∀ p vs G' H',Step G H G' H'->H p=none->G' p=none->H' p=some (.lst vs)->aF K ad G' xs vs->Q (.ref p) H'
 | .ex c=> ∀ G' H',Step G H G' H'->E c H'
 | .bad=>False
theorem RK.step {r:R} {Q:VK} {E:Nat->Hp->Prop} (h:RK K ad G H r Q E) (st:Step G H G' H'):RK K ad G' H' r Q E:=by
 cases r with
 | ok d=>exact fun v G2 H2 s2 q=>h v G2 H2 (st.trans s2) q
 | ow xs=>exact fun p vs G2 H2 s2 n m e q=>h p vs G2 H2 (st.trans s2) (st.sh.free n) m e q
 | ex c=>exact fun G2 H2 s2=>h G2 H2 (st.trans s2)
 | bad=>exact h
theorem RK.ok_now {d:D} {v:V} {Q:VK} {E:Nat->Hp->Prop} (h:RK K ad G H (.ok d) Q E) (e:Same G H) (q:Rep K ad G d v):Q v H:=h v G H (Step.refl e) q
theorem RK.ow_new {xs:List D} {vs:List V} {p:Addr} {Q:VK} {E:Nat->Hp->Prop} (h:RK K ad G H (.ow xs) Q E) (e:Same G H) (q:aF K ad G xs vs) (n:H p=none):Q (.ref p) (upd H p (.lst vs)):=
 h p vs G (upd H p (.lst vs)) (Step.own e n) n (e.free n) aN q
theorem RK.tup_new {xs:List D} {vs:List V} {p:Addr} {Q:VK} {E:Nat->Hp->Prop} (h:RK K ad G H (.ok (.tup xs)) Q E) (e:Same G H) (q:aF K ad G xs vs) (n:H p=none):Q (.ref p) (upd H p (.tup vs)):=by
 refine h (.ref p) (upd G p (.tup vs)) (upd H p (.tup vs)) (Step.new e n) ?_
 unfold Rep
 exact⟨p,vs,rfl,SqT.of aN,q.mono (Same.upd_new (e.free n))⟩
end
noncomputable def CXe (P:Program) (w:World):CXT:=fun outer H s E e s'=>
 ∃ (ea:Addr) (cls a0:Value) (H':Hp) (B:Heap),e= .ref ea/\s'.os=s.os/\AllBare s'.gens/\Heap.FlyingW B outer ea cls a0 s'.heap/\Un (frs outer) [] H H' s.heap s'.heap/\
  HOk P w H' s'.heap/\H' ea=none/\(∀ b o,s.heap.get? b=some o->b∉frs outer-> ∃ o',B.get? b=some o')/\(∀ b o,H' b=some o-> ∃ o',B.get? b=some o')/\E cls none H'
noncomputable def xk (ad:Ad) (E:Nat->Hp->Prop):XK:=fun cls _ H'=> ∃ c,cls= .ref (ad.cls c)/\E c H'
def XP (X:Cx) (ad:Ad) (σ:St) (E:Nat->Hp->Prop):Prop:=
 ∀ (pins:List (Addr×Obj)) (H:Hp) (s:Shared) (e:Value) (s':Shared),Inv X pins σ H s->CXe X.prog X.w X.stack H s (xk ad E) e s'->X.xe e s'
noncomputable def tE (X:Cx) (ad:Ad) (f:F):TE:=fun σ H Q=> ∃ G ρ E,Same G H/\SL X.K ad G H ρ σ/\XP X ad σ E/\RK X.K ad G H (f ρ) Q E
abbrev ME (X:Cx) (ad:Ad) (e:Expr) (f:F):Prop:=PE X e (tE X ad f)
def lB (r:R):Prop:=(∃ b,r= .ok (.bl b))\/ ∃ c,r= .ex c
noncomputable def tT (X:Cx) (ad:Ad) (f:F):TT:=fun σ H Q=> ∃ G ρ E,Same G H/\SL X.K ad G H ρ σ/\XP X ad σ E/\lB (f ρ)/\RK X.K ad G H (f ρ) (fun v H'=> ∃ b,v= .bl b/\Q b H') E
abbrev MT (X:Cx) (ad:Ad) (e:Expr) (f:F):Prop:=PT X e (tT X ad f)
abbrev MW (X:Cx) (ad:Ad) (e:Expr) (f:F):Prop:=PW X e (tT X ad f)
def AK (K:PySem.W.Frag) (ad:Ad) (G H:Hp) (r:RA) (Q:List V->Hp->Prop) (E:Nat->Hp->Prop):Prop:=match r with
 | .ok ds=> ∀ vs G' H',Step G H G' H'->aF K ad G' ds vs->Q vs H'
 | .ex c=> ∀ G' H',Step G H G' H'->E c H'
 | .bad=>False
noncomputable def tA (X:Cx) (ad:Ad) (fs:List F):TA:=fun σ H Q=> ∃ G ρ E,Same G H/\SL X.K ad G H ρ σ/\XP X ad σ E/\AK X.K ad G H (args fs ρ) Q E
abbrev MA (X:Cx) (ad:Ad) (es:List Expr) (fs:List F):Prop:=PA X es (tA X ad fs)
section
variable {X:Cx} {ad:Ad} {pins:List (Addr×Obj)} {s:Shared} {σ:St} {H G:Hp} {ρ:Rho} {Q:VK} {E:Nat->Hp->Prop} {pos:Pos} {a b c:Expr} {f g h:F}
theorem cL {xs:List D} {p:Addr} {vs:List V} {G1 H1:Hp} (st:Step G H G1 H1) (n:H p=none) (m:G1 p=none) (e:H1 p=some (.lst vs)) (q:aF X.K ad G1 xs vs):
  ∃ G2,Step G H G2 H1/\Rep X.K ad G2 (.lst xs) (.ref p):=by
 refine⟨upd G1 p (.lst vs),st.share n m e, ?_⟩
 unfold Rep
 exact⟨p,vs,rfl,SqL.of aN,q.mono (Same.upd_new m)⟩
theorem ME.thn {k:D->R} (ha:ME X ad a f) (I:Inv X pins σ H s) (hG:Same G H) (hS:SL X.K ad G H ρ σ) (hx:XP X ad σ E) (hr:RK X.K ad G H ((f ρ).bind k) Q E):
  wpAny (model X.prog X.w) X.A (eval a X.env) (fun u s1=> ∃ v d G1 H1,Inv X pins σ H1 s1/\bA v u/\Step G H G1 H1/\Rep X.K ad G1 d v/\RK X.K ad G1 H1 (k d) Q E) X.xe s:=by
 cases e:f ρ with
 | ok d=>
  rw [e] at hr
  refine L2.thn (ha pins s σ H (fun v H1=> ∃ G1,Step G H G1 H1/\Rep X.K ad G1 d v) I ⟨G,ρ,E,hG,hS,hx,by rw [e];exact fun v G1 H1 st q=>⟨G1,st,q⟩⟩) fun u s1 ⟨v,H1,I1,r1,G1,st,q⟩=> ?_
  exact⟨v,d,G1,H1,I1,r1,st,q,RK.step hr st⟩
 | ow xs=>
  rw [e] at hr
  refine L2.thn (ha pins s σ H (fun v H1=> ∃ G1,Step G H G1 H1/\Rep X.K ad G1 (.lst xs) v) I ⟨G,ρ,E,hG,hS,hx,by rw [e];exact fun p vs G1 H1 st n m e' q=>cL st n m e' q⟩) fun u s1 ⟨v,H1,I1,r1,G1,st,q⟩=> ?_
  exact⟨v, .lst xs,G1,H1,I1,r1,st,q,RK.step hr st⟩
 | ex c=>
  rw [e] at hr
  refine L2.thn (ha pins s σ H (fun v H1=>False) I ⟨G,ρ,E,hG,hS,hx,by rw [e];exact hr⟩) fun u s1 ⟨v,H1,I1,r1,q⟩=>q.elim
 | bad=>
  rw [e] at hr
  exact ay hr
theorem aM {i:Int}:Rep X.K ad G (.int i) (.int i):=by unfold Rep;rfl
theorem a8 {i:Bool}:Rep X.K ad G (.bl i) (.bl i):=by unfold Rep;rfl
theorem aDh:Rep X.K ad G .non .non:=by unfold Rep;rfl
theorem jS {i:Str}:Rep X.K ad G (.str i) (.str i):=by unfold Rep;rfl
theorem aBq {i:Nat} {x:Str} (hN:X.N[i]? =some x) (hv:Vis X.env.scope x) (hd:(x==("__debug__":Str))=false) (hcd:(x==("__classdict__":Str))=false):ME X ad (.Name x pos) (aB i):=by
 intro pins s σ H Q I ⟨G,ρ,E,hG,hS,hx,hr⟩
 unfold aB at hr
 cases e:ρ[i]? with
 | none=>
  rw [e] at hr
  exact hr.elim
 | some sl=>
  rw [e] at hr
  cases sl with
  | no=>exact hr.elim
  | dc kvs=>exact hr.elim
  | sd kvs=>exact hr.elim
  | rk _ _=>exact hr.elim
  | ow xs=>exact hr.elim
  | sh d=>
   obtain⟨v,h1,h2⟩:=hS.sh e
   exact eY hN hv hd hcd pins s σ H Q I ⟨v,h1,hr.ok_now hG h2⟩
def MLk (X:Cx) (ad:Ad) (e:Expr) (f:F):Prop:=
 ∀ (pins:List (Addr×Obj)) (s:Shared) (σ:St) (H G:Hp) (ρ:Rho) (k:D->R) (Q:VK) (E:Nat->Hp->Prop),Inv X pins σ H s->Same G H->SL X.K ad G H ρ σ->XP X ad σ E->RK X.K ad G H ((f ρ).bind k) Q E->
  wpAny (model X.prog X.w) X.A (eval e X.env) (fun u s1=> ∃ v d G1 H1,Inv X pins σ H1 s1/\bA v u/\Step G H G1 H1/\(Rep X.K ad G1 d v\/ ∃ a vs ds,d= .lst ds/\v= .ref a/\G1 a=none/\H1 a=some (.lst vs)/\aF X.K ad G1 ds vs)/\RK X.K ad G1 H1 (k d) Q E) X.xe s
theorem ME.look (ha:ME X ad a f):MLk X ad a f:=by
 intro pins s σ H G ρ k Q E I hG hS hx hr
 exact L2.thn (ha.thn I hG hS hx hr) fun u s1 ⟨v,d,G1,H1,I1,r1,st,q,z⟩=>⟨v,d,G1,H1,I1,r1,st, .inl q,z⟩
theorem rH {k:Const} {j:Nat} {d:D} (e:kD k=some d):ME X ad (.Constant k j pos) (rK d):=by
 intro pins s σ H Q I ⟨G,ρ,E,hG,hS,hx,hr⟩
 cases k with
 | int i=>cases e;exact aGu pins s σ H Q I (hr.ok_now hG aM)
 | bool i=>cases e;exact aL8 pins s σ H Q I (hr.ok_now hG a8)
 | none=>cases e;exact aGv pins s σ H Q I (hr.ok_now hG aDh)
 | str i=>cases e;exact aGw pins s σ H Q I (hr.ok_now hG jS)
 | float _=>cases e
 | complex _ _=>cases e
 | bytes _=>cases e
 | ellipsis=>cases e
theorem u9 {x:Str} {d:D} {u:Value} {v:V} (hg:L2.Gl X x) (hm:X.mg x=some u) (r:bA v u) (q: ∀ G,Rep X.K ad G d v) (hd:(x==("__debug__":Str))=false):ME X ad (.Name x pos) (rK d):=by
 intro pins s σ H Q I ⟨G,ρ,E,hG,hS,hx,hr⟩
 exact aCt hg hm r hd pins s σ H Q I (hr.ok_now hG (q G))
def DOp (X:Cx) (ad:Ad) (t:Value->Value->Sem Value) (r:D->D->R):Prop:=
 ∀ (pins:List (Addr×Obj)) (s:Shared) (σ:St) (H G:Hp) (x y:D) (v w:V) (u z:Value) (Q:VK) (E:Nat->Hp->Prop),Inv X pins σ H s->Same G H->Rep X.K ad G x v->Rep X.K ad G y w->bA v u->bA w z->
  RK X.K ad G H (r x y) Q E->wpAny (model X.prog X.w) X.A (t u z) (EP X pins σ Q) X.xe s
theorem aIb {t:Value->Value->Sem Value} {r:D->D->R} (ho:DOp X ad t r) (ha:ME X ad a f) (hb:ME X ad b g) (I:Inv X pins σ H s) (hG:Same G H) (hS:SL X.K ad G H ρ σ) (hx:XP X ad σ E)
  (hr:RK X.K ad G H ((f ρ).bind fun x=>(g ρ).bind fun y=>r x y) Q E):
  wpAny (model X.prog X.w) X.A (eval a X.env) (fun v s₁=>wpAny (model X.prog X.w) X.A (eval b X.env) (fun u s₂=>wpAny (model X.prog X.w) X.A (t v u) (EP X pins σ Q) X.xe s₂) X.xe s₁) X.xe s:=by
 refine L2.thn (ha.thn I hG hS hx hr) fun u s1 hz_=> ?_
 obtain⟨v,d,G1,H1,I1,r1,st1,q1,hr1⟩:=hz_
 refine L2.thn (hb.thn I1 st1.gh (hS.step st1) hx hr1) fun z s2 hz_=> ?_
 obtain⟨w,e,G2,H2,I2,r2,st2,q2,hr2⟩:=hz_
 exact ho pins s2 σ H2 G2 d e v w u z Q E I2 st2.gh (q1.mono st2.sg) q2 r1 r2 hr2
end
section
variable {X:Cx} {ad:Ad} {pins:List (Addr×Obj)} {s:Shared} {σ:St} {H G:Hp} {ρ:Rho} {Q:VK} {E:Nat->Hp->Prop} {pos:Pos} {a b c:Expr} {f g h:F}
theorem rJ {n:Nat} (h:n<=LIM):n<=sizeLine:=Nat.le_trans h (by decide)
theorem pW {i:Int} (h:sml i=true): -(2 ^ 64)<i/\i<2 ^ 64:=by
 unfold sml at h
 rw [au] at h
 exact⟨of_decide_eq_true h.1,of_decide_eq_true h.2⟩
theorem l7 {i:Int} (h:sml i=true):i.natAbs<2 ^ 64:=by
 obtain⟨h1,h2⟩:=pW h
 omega
theorem sub_int_bool {prog:Program} {w:World} {A:Around} {Ex:Value->Shared->Prop} {s:Shared} {i:Int} {t:Tok} {k:Bool} {Q:Value->Shared->Prop} (h:Q (.int (i - SK.b2i k) s.toks) { s with toks:=s.toks+1 }):
  wpAny (model prog w) A (binaryOp .Sub (.int i t) (.bool k)) Q Ex s:=PySem.IntBool.sub_int_bool h
theorem add_int_bool {prog:Program} {w:World} {A:Around} {Ex:Value->Shared->Prop} {s:Shared} {i:Int} {t:Tok} {k:Bool} {Q:Value->Shared->Prop} (h:Q (.int (i+SK.b2i k) s.toks) { s with toks:=s.toks+1 }):
  wpAny (model prog w) A (binaryOp .Add (.int i t) (.bool k)) Q Ex s:=PySem.add_int_bool h
theorem aDi {prog:Program} {w:World} {A:Around} {Ex:Value->Shared->Prop} {s:Shared} {t b:Addr} {ws:List Value} {Q:Value->Shared->Prop} (ht:IsTup s.heap t #[]) (hb:IsTup s.heap b ws.toArray) (h:Q (.ref b) s):
  wpAny (model prog w) A (binaryOp .Add (.ref t) (.ref b)) Q Ex s:=by
 obtain⟨⟨cls,dd,data,sl⟩,ho,hc,n,hd⟩:=id ht
 obtain⟨⟨cls2,dd2,data2,sl2⟩,ho2,hc2,n2,hd2⟩:=id hb
 simp only at hc hd hc2 hd2
 subst hc hd hc2 hd2
 exact concat_meets ⟨_,ho,rfl⟩ ⟨_,ho2,rfl⟩ noFill_tuple_add seq_tuple_add PySem.F.slot_tuple_add PySem.F.entry_tuple_add (PySem.F.args_tuple_add_2 _ _)
   (tuple_addW0 t b #[] ws.toArray n n2 dd dd2 sl sl2 rfl) ⟨ho,ho2,h⟩
theorem iE (its:List Value) (m:Nat):List.foldl (fun x1 x2=>x1++x2) #[] (ak m its.toArray)=(ak m its).flatten.toArray:=by
 have:=nJ its m []
 rw [List.nil_append] at this
 exact this
theorem aDj {t:Addr} {k:Int} {u:Tok} {xs:List V} {its:List Value} (I:Inv X pins σ H s) (ht:IsTup s.heap t its.toArray) (r:bF xs its) (h0: -1000000<k) (h1:k<1000000) (hz:xs.length * k.toNat<=sizeLine)
  (q: ∀ p,(p=t/\(ak k.toNat xs).flatten=xs->Q (.ref p) H)/\(H p=none->Q (.ref p) (upd H p (.tup (ak k.toNat xs).flatten)))):
  wpAny (model X.prog X.w) X.A (binaryOp .Mult (.ref t) (.int k u)) (EP X pins σ Q) X.xe s:=by
 obtain⟨⟨cls,dd,data,sl⟩,e,hc,n,hd⟩:=id ht
 simp only at hc hd
 subst hc hd
 have hov:(decide (k< -(2 ^ 63))||decide (k≥2 ^ 63))=false:=by
  rw [Bool.or_eq_false_iff]
  exact⟨decide_eq_false (by omega),decide_eq_false (by omega)⟩
 have hlen:its.length * k.toNat<=sizeLine:=by rw [<-r.length];exact hz
 have lrep:(ak k.toNat xs).flatten.length<=sizeLine:=by rw [pJ,Nat.mul_comm];exact hz
 refine wpAny_binaryOp_repeat_ref (T:="tuple") (U:="int") (by decide) ⟨_,e,rfl⟩ (fun s'=>typeIs_int s' k u) iZ F.fills_int_mul F.slot_int_rmul nO F.slot_int_index.lookup
  (call_meets F.slot_int_rmul (typeIs_int s k u) F.entry_int_rmul (F.args_int_rmul_2 _ _) (fY k u t its.toArray n "tuple" dd sl (.inr rfl))
   ⟨e,rfl,⟨_,e,rfl⟩, ?_⟩)
 by_cases c0:(its.toArray.isEmpty||k==1)=true
 ·refine call_meets F.slot_tuple_mul ⟨_,e,rfl⟩ F.entry_tuple_mul (F.args_tuple_mul_2 _ _) (pK t its.toArray n k u dd sl hov c0) ⟨e, ?_⟩
  refine⟨.ref t,H,I,rfl,(q t).1 ⟨rfl, ?_⟩⟩
  rcases(Bool.or_eq_true _ _).mp c0 with z | z
  ·have:its=[]:=by simpa using z
   have:xs=[]:=r.nil_iff.mp this
   subst this
   simp
  ·have:k=1:=by simpa using z
   subst this
   simp
 ·by_cases c1:(decide (k<=0)||its.toArray.isEmpty)=true
  ·refine call_meets F.slot_tuple_mul ⟨_,e,rfl⟩ F.entry_tuple_mul (F.args_tuple_mul_2 _ _) (pL t its.toArray n k u dd sl hov c0 c1) ⟨e, ?_⟩
   have k0:k.toNat=0:=by
    rcases(Bool.or_eq_true _ _).mp c1 with z | z
    ·have:=of_decide_eq_true z
     omega
    ·exact absurd (by rw [z];rfl) c0
   have q2:=(q s.heap.objs.size).2 (I.hok.fresh (aj _))
   rw [k0] at q2
   refine⟨.ref s.heap.objs.size,_,I.laid (t':=s.toks) (o:= .tup []) (fun b ob q=>af _ q) (aj _) ?_,rfl,q2⟩
   exact⟨bq _,[], .nil,IsTup.new _ _,⟨_,ag _ rfl,rfl⟩⟩
  ·have kp:0<k:=by
    rw [Bool.or_eq_true,not_or] at c1
    have:=c1.1
    rw [decide_eq_true_iff] at this
    omega
   have kk:(k.toNat:Int)=k:=by omega
   have hm:(its.toArray.size:Int) * k=((its.length * k.toNat:Nat):Int):=by rw [Int.natCast_mul,kk,av]
   have hs:(sizeLine:Nat)<=(2 ^ 63 - 1) / 8:=by decide
   refine call_meets F.slot_tuple_mul ⟨_,e,rfl⟩ F.entry_tuple_mul (F.args_tuple_mul_2 _ _) (pM t its.toArray n k u dd sl hov c0 c1 ?_ ?_ ?_) ⟨e, ?_⟩
   ·rw [hm]
    have:((its.length * k.toNat:Nat):Int)<=((2 ^ 63 - 1) / 8:Int):=by
     have:=Nat.le_trans hlen hs
     omega
    omega
   ·rw [hm]
    unfold Builtin.Tuple.tupleTooMany
    simp only [decide_eq_true_eq,gt_iff_lt,Int.not_lt]
    exact Int.ofNat_le.mpr hlen
   ·rw [iE,av,pJ,Nat.mul_comm]
    exact hlen
   ·rw [iE]
    refine⟨.ref s.heap.objs.size,_,I.laid (t':=s.toks) (o:= .tup (ak k.toNat xs).flatten) (fun b ob q=>af _ q) (aj _) ?_,rfl,(q _).2 (I.hok.fresh (aj _))⟩
    exact⟨lrep,_,r.rep k.toNat,IsTup.new _ _,⟨_,ag _ rfl,rfl⟩⟩
theorem aDk {l b:Addr} {xs ys:List V} (I:Inv X pins σ H s) (hl:SqL X.K H l xs) (hb:SqL X.K H b ys) (hz:xs.length+ys.length<=sizeLine) (q: ∀ p,H p=none->Q (.ref p) (upd H p (.lst (xs++ys)))):
  wpAny (model X.prog X.w) X.A (binaryOp .Add (.ref l) (.ref b)) (EP X pins σ Q) X.xe s:=by
 obtain⟨its,r1,⟨⟨cls,dd,data,sl⟩,n,ho,hc,hdd,hd⟩,_⟩:=I.list hl
 obtain⟨its2,r2,⟨⟨cls2,dd2,data2,sl2⟩,n2,ho2,hc2,hdd2,hd2⟩,_⟩:=I.list hb
 simp only at hc hd hc2 hd2 hdd hdd2
 subst hc hd hc2 hd2
 have e:its.toArray++its2.toArray=(its++its2).toArray:=by simp
 refine concat_meets ⟨_,ho,rfl⟩ ⟨_,ho2,rfl⟩ noFill_list_add seq_list_add PySem.F.slot_list_add PySem.F.entry_list_add (PySem.F.args_list_add_2 _ _)
   (list_addW l b its.toArray its2.toArray n n2 dd dd2 sl sl2 (by rw [av,av, <-r1.length, <-r2.length];exact hz)) ⟨ho,ho2, ?_⟩
 rw [e]
 exact⟨.ref _,_,I.lnew (t':=s.toks) (r1.append r2) (by rw [bn];exact hz),rfl,q _ I.fresh⟩
theorem aDl {l:Addr} {k:Int} {u:Tok} {xs:List V} (I:Inv X pins σ H s) (hl:SqL X.K H l xs) (h0: -1000000<k) (h1:k<1000000) (hz:xs.length * k.toNat<=sizeLine) (q: ∀ p,H p=none->Q (.ref p) (upd H p (.lst (ak k.toNat xs).flatten))):
  wpAny (model X.prog X.w) X.A (binaryOp .Mult (.ref l) (.int k u)) (EP X pins σ Q) X.xe s:=by
 obtain⟨its,r,⟨⟨cls,dd,data,sl⟩,n,e,hc,hdd,hd⟩,_⟩:=I.list hl
 simp only at hc hd hdd
 subst hc hd
 have hlen:its.toArray.size * k.toNat<=sizeLine:=by rw [av, <-r.length];exact hz
 have hcap: ¬ its.toArray.size * k.toNat > (2 ^ 63 - 1) / 8:=by
  have:(sizeLine:Nat)<=(2 ^ 63 - 1) / 8:=by decide
  omega
 have hfit: ¬ (!Builtin.List.listFitsIndex k)=true:=by
  rw [fitsIndex_both (by omega) (by omega)]
  exact bd
 have hlong: ¬ Builtin.List.listTooLong (its.toArray.size * k.toNat)=true:=by
  rw [rC hlen]
  exact bd
 have hnew:List.foldl (fun x1 x2=>x1++x2) #[] (ak (if its.toArray.isEmpty=true then 0 else k.toNat) its.toArray)=(ak k.toNat its).flatten.toArray:=by
  rw [iE]
  cases its with
  | nil=>simp
  | cons a r'=>rw [if_neg (by simp)]
 refine wpAny_binaryOp_repeat_ref (T:="list") (U:="int") (by decide) ⟨_,e,rfl⟩ (fun s'=>typeIs_int s' k u) noFill_list_mul F.fills_int_mul F.slot_int_rmul repeat_list F.slot_int_index.lookup
  (call_meets F.slot_int_rmul (typeIs_int s k u) F.entry_int_rmul (F.args_int_rmul_2 _ _) (fY k u l its.toArray n "list" dd sl (.inl rfl))
   ⟨e,rfl,⟨_,e,rfl⟩,call_meets F.slot_list_mul ⟨_,e,rfl⟩ F.entry_list_mul (F.args_list_mul_2 _ _) (uV l its.toArray n k u dd sl hfit hcap hlong) ⟨e, ?_⟩⟩)
 rw [hnew]
 exact⟨.ref _,_,I.lnew (t':=s.toks) (r.rep k.toNat) (by rw [pJ,Nat.mul_comm];exact hz),rfl,q _ I.fresh⟩
theorem aDm (op:Operator):DOp X ad (binaryOp op) (lA op):=by
 intro pins s σ H G x y v w u z Q E I hG rx ry ru rz hr
 cases x with
 | int i=>
  unfold Rep at rx
  subst rx
  cases y with
  | int j=>
   unfold Rep at ry
   subst ry
   cases op with
   | Add=>exact aHc pins s σ H _ _ u z Q I ru rz ⟨i,j,rfl,rfl,hr.ok_now hG aM⟩
   | Sub=>exact aHd pins s σ H _ _ u z Q I ru rz ⟨i,j,rfl,rfl,hr.ok_now hG aM⟩
   | Mult=>
    have hr':RK X.K ad G H (if sml i||sml j then R.ok (.int (i * j)) else .bad) Q E:=hr
    by_cases hc:(sml i||sml j)=true
    ·rw [if_pos hc] at hr'
     refine aHe pins s σ H _ _ u z Q I ru rz ⟨i,j,rfl,rfl, ?_,hr'.ok_now hG aM⟩
     rcases(Bool.or_eq_true _ _).mp hc with h | h
     ·exact .inl (pW h)
     ·exact .inr (pW h)
    ·rw [if_neg hc] at hr'
     exact hr'.elim
   | FloorDiv=>
    have hr':RK X.K ad G H (if 0<j/\j<1073741824 then R.ok (.int (i / j)) else .bad) Q E:=hr
    by_cases hc:0<j/\j<1073741824
    ·rw [if_pos hc] at hr'
     exact aC1 pins s σ H _ _ u z Q I ru rz ⟨i,j,rfl,rfl,hc,hr'.ok_now hG aM⟩
    ·rw [if_neg hc] at hr'
     exact hr'.elim
   | Mod=>
    have hr':RK X.K ad G H (if 0<j then R.ok (.int (i % j)) else .bad) Q E:=hr
    by_cases hc:0<j
    ·rw [if_pos hc] at hr'
     exact aHf pins s σ H _ _ u z Q I ru rz ⟨i,j,rfl,rfl,hc,hr'.ok_now hG aM⟩
    ·rw [if_neg hc] at hr'
     exact hr'.elim
   | LShift=>
    have hr':RK X.K ad G H (if 0<=j/\j<=1000/\sml i=true then R.ok (.int (i * 2 ^ j.toNat)) else .bad) Q E:=hr
    by_cases hc:0<=j/\j<=1000/\sml i=true
    ·rw [if_pos hc] at hr'
     exact aHg pins s σ H _ _ u z Q I ru rz ⟨i,j,rfl,rfl,⟨hc.1,by omega,l7 hc.2.2⟩,hr'.ok_now hG aM⟩
    ·rw [if_neg hc] at hr'
     exact hr'.elim
   | RShift=>
    have hr':RK X.K ad G H (if 0<=j then R.ok (.int (i / 2 ^ j.toNat)) else .bad) Q E:=hr
    by_cases hc:0<=j
    ·rw [if_pos hc] at hr'
     exact aHh pins s σ H _ _ u z Q I ru rz ⟨i,j,rfl,rfl,hc,hr'.ok_now hG aM⟩
    ·rw [if_neg hc] at hr'
     exact hr'.elim
   | BitAnd=>exact aHi pins s σ H _ _ u z Q I ru rz ⟨i,j,rfl,rfl,hr.ok_now hG aM⟩
   | BitOr=>exact aMl pins s σ H _ _ u z Q I ru rz ⟨i,j,rfl,rfl,hr.ok_now hG aM⟩
   | BitXor=>exact aHj pins s σ H _ _ u z Q I ru rz ⟨i,j,rfl,rfl,hr.ok_now hG aM⟩
   | MatMult=>exact ay hr
   | Div=>exact ay hr
   | Pow=>
    have hr':RK X.K ad G H (if i=10/\j=9 then R.ok (.int 1000000000) else .bad) Q E:=hr
    by_cases hc:i=10/\j=9
    ·rw [if_pos hc] at hr'
     obtain⟨rfl,rfl⟩:=hc
     obtain⟨t,rfl⟩:=ru
     obtain⟨t',rfl⟩:=rz
     exact PySem.AutoIntOps.pow_4 (by decide) (by decide) (by decide) (by decide) (by decide+kernel) (show EP X pins σ Q (.int 1000000000 _) _ from⟨.int _,H,I.tok _,⟨_,rfl⟩,hr'.ok_now hG aM⟩)
    ·rw [if_neg hc] at hr'
     exact hr'.elim
  | bl k=>
   unfold Rep at ry
   subst ry
   obtain⟨t,rfl⟩:=ru
   cases (show z=Value.bool k from rz)
   cases op with
   | Sub=>exact sub_int_bool ⟨.int _,H,I.tok _,⟨_,rfl⟩,hr.ok_now hG aM⟩
   | Add=>exact add_int_bool ⟨.int _,H,I.tok _,⟨_,rfl⟩,hr.ok_now hG aM⟩
   | _=>exact ay hr
  | _=>cases op<;>exact ay hr
 | tup xs=>
  unfold Rep at rx
  obtain⟨p,vs,rfl,hp,rp⟩:=rx
  cases y with
  | tup ys=>
   unfold Rep at ry
   obtain⟨q,ws,rfl,hq,rq⟩:=ry
   cases op with
   | Add=>
    have hr':RK X.K ad G H (if xs.length+ys.length<=LIM then R.ok (.tup (xs++ys)) else .bad) Q E:=hr
    by_cases hc:xs.length+ys.length<=LIM
    ·rw [if_pos hc] at hr'
     have l1:=rp.length
     have l2:=rq.length
     by_cases hv:vs=[]
     ·subst hv
      cases (show u=Value.ref p from ru)
      cases (show z=Value.ref q from rz)
      obtain⟨its,r1,p1,_⟩:=I.tuple (hG.seqT hp)
      obtain⟨its2,r2,p2,_⟩:=I.tuple (hG.seqT hq)
      cases r1
      refine aDi p1 p2 ⟨.ref q,H,I,rfl,hr'.ok_now hG ?_⟩
      have:xs=[]:=by simpa using l1.symm
      subst this
      unfold Rep
      exact⟨q,ws,rfl,hq,rq⟩
     ·refine aC3 pins s σ H _ _ u z Q I ru rz ⟨p,q,vs,ws,rfl,rfl,hG.seqT hp,hG.seqT hq,hv,by rw [l1,l2];exact rJ hc,fun hw=> ?_,fun hw a ha=> ?_⟩
      ·subst hw
       have:ys=[]:=by simpa using l2.symm
       subst this
       refine hr'.ok_now hG ?_
       unfold Rep
       exact⟨p,vs,rfl,hp,by rw [List.append_nil];exact rp⟩
      ·exact hr'.tup_new hG (rp.append rq) ha
    ·rw [if_neg hc] at hr'
     exact hr'.elim
   | _=>exact ay hr
  | int k=>
   unfold Rep at ry
   subst ry
   cases op with
   | Mult=>
    have hr':RK X.K ad G H (if -1000000<k/\k<1000000/\xs.length * k.toNat<=LIM then R.ok (.tup (aLv xs k)) else .bad) Q E:=hr
    by_cases hc: -1000000<k/\k<1000000/\xs.length * k.toNat<=LIM
    ·rw [if_pos hc] at hr'
     cases (show u=Value.ref p from ru)
     obtain⟨t,rfl⟩:=rz
     obtain⟨its,r1,p1,_⟩:=I.tuple (hG.seqT hp)
     refine aDj I p1 r1 hc.1 hc.2.1 (by rw [rp.length];exact rJ hc.2.2) fun a=>⟨fun⟨e1,e2⟩=> ?_,fun ha=> ?_⟩
     ·subst e1
      refine hr'.ok_now hG ?_
      unfold Rep
      exact⟨a,vs,rfl,hp,by rw [<-e2];exact rp.rep k.toNat⟩
     ·exact hr'.tup_new hG (rp.rep k.toNat) ha
    ·rw [if_neg hc] at hr'
     exact hr'.elim
   | _=>exact ay hr
  | _=>cases op<;>exact ay hr
 | lst xs=>
  unfold Rep at rx
  obtain⟨p,vs,rfl,hp,rp⟩:=rx
  cases y with
  | lst ys=>
   unfold Rep at ry
   obtain⟨q,ws,rfl,hq,rq⟩:=ry
   cases op with
   | Add=>
    have hr':RK X.K ad G H (if xs.length+ys.length<=LIM then R.ow (xs++ys) else .bad) Q E:=hr
    by_cases hc:xs.length+ys.length<=LIM
    ·rw [if_pos hc] at hr'
     cases (show u=Value.ref p from ru)
     cases (show z=Value.ref q from rz)
     exact aDk I (hG.seq hp) (hG.seq hq) (by rw [rp.length,rq.length];exact rJ hc) fun a ha=>hr'.ow_new hG (rp.append rq) ha
    ·rw [if_neg hc] at hr'
     exact hr'.elim
   | _=>exact ay hr
  | int k=>
   unfold Rep at ry
   subst ry
   cases op with
   | Mult=>
    have hr':RK X.K ad G H (if -1000000<k/\k<1000000/\xs.length * k.toNat<=LIM then R.ow (aLv xs k) else .bad) Q E:=hr
    by_cases hc: -1000000<k/\k<1000000/\xs.length * k.toNat<=LIM
    ·rw [if_pos hc] at hr'
     cases (show u=Value.ref p from ru)
     obtain⟨t,rfl⟩:=rz
     exact aDl I (hG.seq hp) hc.1 hc.2.1 (by rw [rp.length];exact rJ hc.2.2) fun a ha=>hr'.ow_new hG (rp.rep k.toNat) ha
    ·rw [if_neg hc] at hr'
     exact hr'.elim
   | _=>exact ay hr
  | _=>cases op<;>exact ay hr
 | str x=>
  unfold Rep at rx
  subst rx
  cases y with
  | str y=>
   unfold Rep at ry
   subst ry
   cases op with
   | Add=>
    have hr':RK X.K ad G H (if x.length<=LIM/\y.length<=LIM then R.ok (.str (x++y)) else .bad) Q E:=hr
    by_cases hc:x.length<=LIM/\y.length<=LIM
    ·rw [if_pos hc] at hr'
     exact sV pins s σ H _ _ u z Q I ru rz ⟨x,y,rfl,rfl,Nat.le_trans (Nat.add_le_add hc.1 hc.2) (by decide),hr'.ok_now hG jS⟩
    ·rw [if_neg hc] at hr'
     exact hr'.elim
   | _=>exact ay hr
  | int k=>
   unfold Rep at ry
   subst ry
   cases op with
   | Mult=>
    have hr':RK X.K ad G H (if x.length<=16/\0<=k/\k<=1000 then R.ok (.str (Txt.mul x k)) else .bad) Q E:=hr
    by_cases hc:x.length<=16/\0<=k/\k<=1000
    ·rw [if_pos hc] at hr'
     obtain⟨t,rfl⟩:=(show ∃ t,u=Value.str x t from ru)
     obtain⟨t',rfl⟩:=(show ∃ t,z=Value.int k t from rz)
     exact PySem.W.KXi.mul (n:=x.length) rfl hc.1 (by omega) (by omega) fun t' k' _ _=>⟨.str _,H,I.tok k',⟨t',rfl⟩,hr'.ok_now hG jS⟩
    ·rw [if_neg hc] at hr'
     exact hr'.elim
   | _=>exact ay hr
  | _=>cases op<;>exact ay hr
 | _=>cases y<;>cases op<;>exact ay hr
theorem aIc {op:Operator} (ha:ME X ad a f) (hb:ME X ad b g):ME X ad (.BinOp a op b pos) (aX op f g):=by
 intro pins s σ H Q I ⟨G,ρ,E,hG,hS,hx,hr⟩
 exact wpAny_BinOp (aIb (aDm op) ha hb I hG hS hx hr)
end
section
variable {X:Cx} {ad:Ad} {pins:List (Addr×Obj)} {s:Shared} {σ:St} {H G:Hp} {ρ:Rho} {Q:VK} {E:Nat->Hp->Prop} {pos:Pos} {a b c:Expr} {f g h:F}
mutual
theorem dO (I:Inv X pins σ H s) (hG:Same G H): ∀ {d:D} {v:V} {u:Value},plain d=true->Rep X.K ad G d v->bA v u-> ∃ as,Reads s.heap u (bL d) as
 | .non,v,u,_,h,r=>by
  unfold Rep at h;subst h
  cases r
  unfold bL
  exact⟨_, .none⟩
 | .bl b,v,u,_,h,r=>by
  unfold Rep at h;subst h
  cases r
  unfold bL
  exact⟨_, .bool b⟩
 | .int i,v,u,_,h,r=>by
  unfold Rep at h;subst h
  obtain⟨t,rfl⟩:=r
  unfold bL
  exact⟨_, .int i t⟩
 | .str x,v,u,_,h,r=>by
  unfold Rep at h;subst h
  obtain⟨t,rfl⟩:=r
  unfold bL
  exact⟨_, .str x t⟩
 | .tup ds,v,u,p,h,r=>by
  unfold Rep at h
  obtain⟨a,vs,rfl,h2,h3⟩:=h
  cases r
  obtain⟨its,rv,⟨o,ho,hc,n,hd⟩,_⟩:=I.tuple (hG.seqT h2)
  obtain⟨as,ra⟩:=gE I hG (by simpa [plain] using p) h3 rv
  unfold bL
  exact⟨_, .tuple ho hc hd (by simpa using ra)⟩
 | .lst ds,v,u,p,h,r=>by
  unfold Rep at h
  obtain⟨a,vs,rfl,h2,h3⟩:=h
  cases r
  obtain⟨its,rv,⟨o,n,ho,hc,_,hd⟩,_⟩:=I.list (hG.seq h2)
  obtain⟨as,ra⟩:=gE I hG (by simpa [plain] using p) h3 rv
  unfold bL
  exact⟨_, .list ho hc hd (by simpa using ra)⟩
 | .exc _,_,_,p,_,_=>by simp [plain] at p
 | .fn _,_,_,p,_,_=>by simp [plain] at p
 | .rnk,_,_,p,_,_=>by simp [plain] at p
theorem gE (I:Inv X pins σ H s) (hG:Same G H): ∀ {ds:List D} {vs:List V} {us:List Value},bC ds=true->aF X.K ad G ds vs->bF vs us-> ∃ as,ReadsAll s.heap us (dJ ds) as
 | [],vs,us,_,h,r=>by
  unfold aF at h;subst h
  cases r
  unfold dJ
  exact⟨_, .nil⟩
 | d::ds,vs,us,p,h,r=>by
  unfold aF at h
  obtain⟨v,r',rfl,h2,h3⟩:=h
  have p':plain d=true/\bC ds=true:=by simpa [bC] using p
  cases r with
  | cons r1 r2=>
   obtain⟨as,q1⟩:=dO I hG p'.1 h2 r1
   obtain⟨bs,q2⟩:=gE I hG p'.2 h3 r2
   unfold dJ
   exact⟨_, .cons q1 q2⟩
end
theorem i8 {x y:D} (h:pO x y=true):plain x=true/\plain y=true/\min (dep x) (dep y)<=60:=by
 unfold pO at h
 rw [au,au] at h
 exact⟨h.1.1,h.1.2,of_decide_eq_true h.2⟩
theorem aDn {A:Around} {x y:D} {v w:V} {u z:Value} (hu:A.units+61<cLine) (I:Inv X pins σ H s) (hG:Same G H) (h:pO x y=true) (rx:Rep X.K ad G x v) (ry:Rep X.K ad G y w) (ru:bA v u) (rz:bA w z):
  SeqAt.EqAt A s u z (deq x y):=by
 obtain⟨p1,p2,p3⟩:=i8 h
 obtain⟨as,q1⟩:=dO I hG p1 rx ru
 obtain⟨bs,q2⟩:=dO I hG p2 ry rz
 rw [<-iD x y p1 p2]
 exact SeqAt.eqAt_reads (bL x) (bL y) A s u z as bs q1 q2 (iU p1) (iU p2) (by rw [iV,iV];omega)
theorem pY {M:Model} {A:Around} {Ex:Value->Shared->Prop} {s:Shared} {Q:Value->Shared->Prop} {v:V} {u:Value} {b:Bool} (r:bA v u) (h:Q (.bool (decide (v= .bl b))) s):wpAny M A (compareOp .Is u (.bool b)) Q Ex s:=by
 cases v with
 | bl a=>
  cases (show u=Value.bool a from r)
  refine ae (show Q (.bool (Value.bool a==Value.bool b)) s from ?_)
  have e:(Value.bool a==Value.bool b)=decide (V.bl a=V.bl b):=by cases a<;>cases b<;>rfl
  rw [e];exact h
 | non=>cases (show u=Value.none from r);exact ae h
 | int i=>obtain⟨t,rfl⟩:=r;exact ae h
 | str i=>obtain⟨t,rfl⟩:=r;exact ae h
 | byt i=>obtain⟨t,rfl⟩:=r;exact ae h
 | flt i=>obtain⟨t,rfl⟩:=r;exact ae h
 | ref p=>cases (show u=Value.ref p from r);exact ae h
 | ty p=>cases (show u=Value.type p from r);exact ae h
theorem kX {M:Model} {A:Around} {Ex:Value->Shared->Prop} {s:Shared} {Q:Value->Shared->Prop} {v:V} {u:Value} {b:Bool} (r:bA v u) (h:Q (.bool (!decide (v= .bl b))) s):wpAny M A (compareOp .IsNot u (.bool b)) Q Ex s:=by
 cases v with
 | bl a=>
  cases (show u=Value.bool a from r)
  refine ae (show Q (.bool (!(Value.bool a==Value.bool b))) s from ?_)
  have e:(Value.bool a==Value.bool b)=decide (V.bl a=V.bl b):=by cases a<;>cases b<;>rfl
  rw [e];exact h
 | non=>cases (show u=Value.none from r);exact ae h
 | int i=>obtain⟨t,rfl⟩:=r;exact ae h
 | str i=>obtain⟨t,rfl⟩:=r;exact ae h
 | byt i=>obtain⟨t,rfl⟩:=r;exact ae h
 | flt i=>obtain⟨t,rfl⟩:=r;exact ae h
 | ref p=>cases (show u=Value.ref p from r);exact ae h
 | ty p=>cases (show u=Value.type p from r);exact ae h
theorem n6 {x:D} {v:V} {b:Bool} (r:Rep X.K ad G x v):decide (v= .bl b)=aMu b x:=by
 cases x with
 | bl a=>unfold Rep at r;subst r;cases a<;>cases b<;>rfl
 | non=>unfold Rep at r;subst r;rfl
 | int _=>unfold Rep at r;subst r;rfl
 | str _=>unfold Rep at r;subst r;rfl
 | tup _=>unfold Rep at r;obtain⟨p,_,rfl,_⟩:=r;rfl
 | lst _=>unfold Rep at r;obtain⟨p,_,rfl,_⟩:=r;rfl
 | exc _=>unfold Rep at r;obtain⟨p,rfl,_⟩:=r;rfl
 | fn _=>unfold Rep at r;subst r;rfl
 | rnk=>unfold Rep at r;obtain⟨a,rfl,_⟩:=r;rfl
theorem lC {x:D} {v:V} (r:Rep X.K ad G x v):decide (v= .non)=aC7 x:=by
 cases x with
 | bl a=>unfold Rep at r;subst r;rfl
 | non=>unfold Rep at r;subst r;rfl
 | int _=>unfold Rep at r;subst r;rfl
 | str _=>unfold Rep at r;subst r;rfl
 | tup _=>unfold Rep at r;obtain⟨p,_,rfl,_⟩:=r;rfl
 | lst _=>unfold Rep at r;obtain⟨p,_,rfl,_⟩:=r;rfl
 | exc _=>unfold Rep at r;obtain⟨p,rfl,_⟩:=r;rfl
 | fn _=>unfold Rep at r;subst r;rfl
 | rnk=>unfold Rep at r;obtain⟨a,rfl,_⟩:=r;rfl
theorem jT {y:D} {ys:List D} {w:V} (e:items y=some ys) (r:Rep X.K ad G y w): ∃ a vs,w= .ref a/\(SqT X.K G a vs\/SqL X.K G a vs)/\aF X.K ad G ys vs:=by
 cases y with
 | tup _=>cases e;unfold Rep at r;obtain⟨a,vs,h1,h2,h3⟩:=r;exact⟨a,vs,h1, .inl h2,h3⟩
 | lst _=>cases e;unfold Rep at r;obtain⟨a,vs,h1,h2,h3⟩:=r;exact⟨a,vs,h1, .inr h2,h3⟩
 | _=>cases e
theorem rL: ∀ {ys:List D} {vs:List V} {us:List Value},aF X.K ad G ys vs->bF vs us-> ∀ u∈us, ∃ d∈ys, ∃ v,Rep X.K ad G d v/\bA v u
 | [],vs,us,h,r,u,hu=>by
  unfold aF at h;subst h
  cases r
  cases hu
 | d::ds,vs,us,h,r,u,hu=>by
  unfold aF at h
  obtain⟨v,r',rfl,h2,h3⟩:=h
  cases r with
  | cons r1 r2=>
   rcases aq.mp hu with rfl | hu
   ·exact⟨d, .head _,v,h2,r1⟩
   ·obtain⟨d',hd,v',q⟩:=rL h3 r2 u hu
    exact⟨d', .tail _ hd,v',q⟩
theorem rM (p:D->Bool) (q:Value->Bool): ∀ {ys:List D} {vs:List V} {us:List Value},aF X.K ad G ys vs->bF vs us->(∀ d∈ys, ∀ v u,Rep X.K ad G d v->bA v u->q u=p d)->us.any q=ys.any p
 | [],vs,us,h,r,_=>by
  unfold aF at h;subst h
  cases r
  rfl
 | d::ds,vs,us,h,r,k=>by
  unfold aF at h
  obtain⟨v,r',rfl,h2,h3⟩:=h
  cases r with
  | cons r1 r2=>
   rw [List.any_cons,List.any_cons,k d (.head _) v _ h2 r1,rM p q h3 r2 fun d' hd=>k d' (.tail _ hd)]
theorem lD (p:D->Bool) (q:Value->Bool): ∀ {ys:List D} {vs:List V} {us:List Value},aF X.K ad G ys vs->bF vs us->(∀ d∈ys, ∀ v u,Rep X.K ad G d v->bA v u->q u=p d)->us.countP q=ys.countP p
 | [],vs,us,h,r,_=>by
  unfold aF at h;subst h
  cases r
  rfl
 | d::ds,vs,us,h,r,k=>by
  unfold aF at h
  obtain⟨v,r',rfl,h2,h3⟩:=h
  cases r with
  | cons r1 r2=>
   rw [List.countP_cons,List.countP_cons,k d (.head _) v _ h2 r1,lD p q h3 r2 fun d' hd=>k d' (.tail _ hd)]
theorem n9 (p:D->Bool) (q:Value->Bool): ∀ {ys:List D} {vs:List V} {us:List Value},aF X.K ad G ys vs->bF vs us->(∀ d∈ys, ∀ v u,Rep X.K ad G d v->bA v u->q u=p d)->us.findIdx? q=ys.findIdx? p
 | [],vs,us,h,r,_=>by
  unfold aF at h;subst h
  cases r
  rfl
 | d::ds,vs,us,h,r,k=>by
  unfold aF at h
  obtain⟨v,r',rfl,h2,h3⟩:=h
  cases r with
  | cons r1 r2=>
   rw [List.findIdx?_cons,List.findIdx?_cons,k d (.head _) v _ h2 r1,n9 p q h3 r2 fun d' hd=>k d' (.tail _ hd)]
open Classical in
theorem lE {x:D} {ys:List D} {v:V} {u:Value} {vs:List V} {its:List Value} (hu:X.A.units+62<cLine) (I:Inv X pins σ H s) (hG:Same G H) (h:mV x ys=true) (rx:Rep X.K ad G x v) (ru:bA v u) (r:aF X.K ad G ys vs) (rv:bF vs its):
  ∃ e:Value->Bool,(∀ y,y∈its.toArray->SeqAt.EqAt X.A.in1 s y u (e y))/\its.toArray.any e=(ys.any fun y=>deq y x)/\its.countP e=(ys.countP fun y=>deq y x)/\its.findIdx? e=ys.findIdx? fun y=>deq y x:=by
 have ok: ∀ d∈ys,pO d x=true:=fun d hd=>zAd h d hd
 have key: ∀ d∈ys, ∀ v' u',Rep X.K ad G d v'->bA v' u'->(decide (∃ d' as,plain d'=true/\Reads s.heap u' (bL d') as/\PyData.eqv (bL d') (bL x)=true))=deq d x:=fun d hd v' u' r1 r2=>by
  obtain⟨p1,p2,_⟩:=i8 (ok d hd)
  obtain⟨as,q1⟩:=dO I hG p1 r1 r2
  rw [<-iD d x p1 p2]
  by_cases z:PyData.eqv (bL d) (bL x)=true
  ·rw [z]
   exact decide_eq_true ⟨d,as,p1,q1,z⟩
  ·rw [Bool.not_eq_true] at z
   rw [z]
   refine decide_eq_false ?_
   rintro⟨d',as',p',q',z'⟩
   have:=SeqAt.Reads.unique (bL d) (bL d') u' as as' (iU p1) q1 q'
   rw [<-this,z] at z'
   cases z'
 refine⟨fun u'=>decide (∃ d' as,plain d'=true/\Reads s.heap u' (bL d') as/\PyData.eqv (bL d') (bL x)=true),fun y hy=> ?_, ?_,lD _ _ r rv key,n9 _ _ r rv key⟩
 ·obtain⟨d,hd,v',r1,r2⟩:=rL r rv y (by simpa using hy)
  have:=aDn (A:=X.A.in1) (by show X.A.units+1+61<_;omega) I hG (ok d hd) r1 rx r2 ru
  rw [<-key d hd v' y r1 r2] at this
  exact this
 ·rw [List.any_toArray]
  exact rM _ _ r rv key
theorem iF (op:CmpOp) (hu:X.A.units+62<cLine):DOp X ad (compareOp op) (gB op):=by
 intro pins s σ H G x y v w u z Q E I hG rx ry ru rz hr
 cases op with
 | Eq=>
  have hr':RK X.K ad G H (if pO x y then R.ok (.bl (deq x y)) else .bad) Q E:=hr
  by_cases hc:pO x y=true
  ·rw [if_pos hc] at hr'
   obtain⟨p1,p2,p3⟩:=i8 hc
   obtain⟨as,q1⟩:=dO I hG p1 rx ru
   obtain⟨bs,q2⟩:=dO I hG p2 ry rz
   exact SeqAt.compareEq_reads q1 q2 (iU p1) (iU p2) (by rw [iV,iV];omega) (by rw [iD x y p1 p2];exact⟨.bl _,H,I,rfl,hr'.ok_now hG a8⟩)
  ·rw [if_neg hc] at hr'
   exact hr'.elim
 | NotEq=>
  have hr':RK X.K ad G H (if pO x y then R.ok (.bl (!deq x y)) else .bad) Q E:=hr
  by_cases hc:pO x y=true
  ·rw [if_pos hc] at hr'
   obtain⟨p1,p2,p3⟩:=i8 hc
   obtain⟨as,q1⟩:=dO I hG p1 rx ru
   obtain⟨bs,q2⟩:=dO I hG p2 ry rz
   exact SeqAt.neOverData X.prog X.w X.A X.xe s u z (bL x) (bL y) as bs _ q1 q2 (iU p1) (iU p2) (by rw [iV,iV];omega) (by rw [iD x y p1 p2];exact⟨.bl _,H,I,rfl,hr'.ok_now hG a8⟩)
  ·rw [if_neg hc] at hr'
   exact hr'.elim
 | Lt=>
  cases x<;>cases y<;>try exact ay hr
  unfold Rep at rx ry;subst rx;subst ry
  exact aMm pins s σ H _ _ u z Q I ru rz ⟨_,_,rfl,rfl,hr.ok_now hG a8⟩
 | LtE=>
  cases x<;>cases y<;>try exact ay hr
  ·unfold Rep at rx ry;subst rx;subst ry
   exact aMn pins s σ H _ _ u z Q I ru rz ⟨_,_,rfl,rfl,hr.ok_now hG a8⟩
  ·rename_i i j
   unfold Rep at rx ry;subst rx;subst ry
   obtain⟨t,rfl⟩:=(show ∃ t,u=Value.str i t from ru)
   obtain⟨t',rfl⟩:=(show ∃ t,z=Value.str j t from rz)
   exact PySem.P.le_str ⟨.bl _,H,I,rfl,hr.ok_now hG a8⟩
 | Gt=>
  cases x<;>cases y<;>try exact ay hr
  unfold Rep at rx ry;subst rx;subst ry
  exact aMo pins s σ H _ _ u z Q I ru rz ⟨_,_,rfl,rfl,hr.ok_now hG a8⟩
 | GtE=>
  cases x<;>cases y<;>try exact ay hr
  unfold Rep at rx ry;subst rx;subst ry
  exact aMp pins s σ H _ _ u z Q I ru rz ⟨_,_,rfl,rfl,hr.ok_now hG a8⟩
 | Is=>
  cases y<;>try exact ay hr
  ·unfold Rep at ry;subst ry
   exact aHl pins s σ H _ _ u z Q I ru rz ⟨rfl,by rw [lC rx];exact hr.ok_now hG a8⟩
  ·unfold Rep at ry;subst ry
   rename_i k
   cases (show z=Value.bool k from rz)
   exact pY ru ⟨.bl _,H,I,rfl,by rw [n6 rx];exact hr.ok_now hG a8⟩
 | IsNot=>
  cases y<;>try exact ay hr
  ·unfold Rep at ry;subst ry
   exact aC2 pins s σ H _ _ u z Q I ru rz ⟨rfl,by rw [lC rx];exact hr.ok_now hG a8⟩
  ·unfold Rep at ry;subst ry
   rename_i k
   cases (show z=Value.bool k from rz)
   exact kX ru ⟨.bl _,H,I,rfl,by rw [n6 rx];exact hr.ok_now hG a8⟩
 | In=>
  have hr':RK X.K ad G H (match items y with | some ys=>if mV x ys then R.ok (.bl (ys.any fun y=>deq y x)) else .bad | none=>inS x y false) Q E:=hr
  cases e:items y with
  | none=>
   rw [e] at hr'
   have hr2:RK X.K ad G H (inS x y false) Q E:=hr'
   cases x<;>try exact ay hr2
   cases y<;>try exact ay hr2
   unfold Rep at rx ry;subst rx;subst ry
   exact uN pins s σ H _ _ u z Q I ru rz ⟨_,_,rfl,rfl,hr2.ok_now hG a8⟩
  | some ys=>
   rw [e] at hr'
   by_cases hc:mV x ys=true
   ·have hr2:RK X.K ad G H (if mV x ys then R.ok (.bl (ys.any fun y=>deq y x)) else .bad) Q E:=hr'
    rw [if_pos hc] at hr2
    obtain⟨p,vs,rfl,hq,rq⟩:=jT e ry
    cases (show z=Value.ref p from rz)
    rcases hq with hq | hq
    ·obtain⟨its,rv,pt,_⟩:=I.tuple (hG.seqT hq)
     obtain⟨e1,e2,e3,_⟩:=lE hu I hG hc rx ru rq rv
     exact SeqAt.in_tupleAt e1 (show s.heap.IsTuple p its.toArray from pt) e2 (by rw [e3];exact⟨.bl _,H,I,rfl,hr2.ok_now hG a8⟩)
    ·obtain⟨its,rv,pt,_⟩:=I.list (hG.seq hq)
     obtain⟨e1,e2,e3,_⟩:=lE hu I hG hc rx ru rq rv
     exact SeqAt.in_listAt e1 pt.isList e2 (by rw [e3];exact⟨.bl _,H,I,rfl,hr2.ok_now hG a8⟩)
   ·have hr2:RK X.K ad G H (if mV x ys then R.ok (.bl (ys.any fun y=>deq y x)) else .bad) Q E:=hr'
    rw [if_neg hc] at hr2
    exact hr2.elim
 | NotIn=>
  have hr':RK X.K ad G H (match items y with | some ys=>if mV x ys then R.ok (.bl (!ys.any fun y=>deq y x)) else .bad | none=>inS x y true) Q E:=hr
  cases e:items y with
  | none=>
   rw [e] at hr'
   have hr2:RK X.K ad G H (inS x y true) Q E:=hr'
   cases x<;>try exact ay hr2
   cases y<;>try exact ay hr2
   unfold Rep at rx ry;subst rx;subst ry
   exact m7 pins s σ H _ _ u z Q I ru rz ⟨_,_,rfl,rfl,hr2.ok_now hG a8⟩
  | some ys=>
   rw [e] at hr'
   have hr2:RK X.K ad G H (if mV x ys then R.ok (.bl (!ys.any fun y=>deq y x)) else .bad) Q E:=hr'
   by_cases hc:mV x ys=true
   ·rw [if_pos hc] at hr2
    obtain⟨p,vs,rfl,hq,rq⟩:=jT e ry
    cases (show z=Value.ref p from rz)
    rcases hq with hq | hq
    ·obtain⟨its,rv,pt,_⟩:=I.tuple (hG.seqT hq)
     obtain⟨e1,e2,e3,_⟩:=lE hu I hG hc rx ru rq rv
     exact SeqAt.notIn_tupleAt e1 (show s.heap.IsTuple p its.toArray from pt) e2 (by rw [e3];exact⟨.bl _,H,I,rfl,hr2.ok_now hG a8⟩)
    ·obtain⟨its,rv,pt,_⟩:=I.list (hG.seq hq)
     obtain⟨e1,e2,e3,_⟩:=lE hu I hG hc rx ru rq rv
     exact SeqAt.notIn_listAt e1 pt.isList e2 (by rw [e3];exact⟨.bl _,H,I,rfl,hr2.ok_now hG a8⟩)
   ·rw [if_neg hc] at hr2
    exact hr2.elim
end
theorem PE.imp {X:Cx} {e:Expr} {t t':TE} (h:PE X e t) (k: ∀ σ H Q,t' σ H Q->t σ H Q):PE X e t':=fun pins s σ H Q I w=>h pins s σ H Q I (k σ H Q w)
theorem PT.imp {X:Cx} {e:Expr} {t t':TT} (h:PT X e t) (k: ∀ σ H Q,t' σ H Q->t σ H Q):PT X e t':=fun pins s σ H Q I w=>h pins s σ H Q I (k σ H Q w)
theorem PW.imp {X:Cx} {e:Expr} {t t':TT} (h:PW X e t) (k: ∀ σ H Q,t' σ H Q->t σ H Q):PW X e t':=fun wh pins s σ H Q I w=>h wh pins s σ H Q I (k σ H Q w)
theorem PS.imp {X:Cx} {e:Stmt} {t t':TS} (h:PS X e t) (k: ∀ D σ H,t' D σ H->t D σ H):PS X e t':=fun pins s σ H D I w=>h pins s σ H D I (k D σ H w)
theorem PSs.imp {X:Cx} {e:List Stmt} {t t':TS} (h:PSs X e t) (k: ∀ D σ H,t' D σ H->t D σ H):PSs X e t':=fun pins s σ H D I w=>h pins s σ H D I (k D σ H w)
theorem PA.imp {X:Cx} {es:List Expr} {t t':TA} (h:PA X es t) (k: ∀ σ H Q,t' σ H Q->t σ H Q):PA X es t':=fun p pins s σ H Q I w=>h p pins s σ H Q I (k σ H Q w)
section
variable {X:Cx} {ad:Ad} {pins:List (Addr×Obj)} {s:Shared} {σ:St} {H G:Hp} {ρ:Rho} {Q:VK} {E:Nat->Hp->Prop} {pos:Pos} {a b c:Expr} {f g h:F}
theorem l8 {k:D->R} {σ:St} {H:Hp} {Q Q':VK} (hG:Same G H) (hS:SL X.K ad G H ρ σ) (hx:XP X ad σ E) (hr:RK X.K ad G H ((f ρ).bind k) Q E)
  (q: ∀ v d G1 H1,Step G H G1 H1->Rep X.K ad G1 d v->RK X.K ad G1 H1 (k d) Q E->Q' v H1):tE X ad f σ H Q':=by
 refine⟨G,ρ,E,hG,hS,hx, ?_⟩
 cases e:f ρ with
 | ok d=>
  rw [e] at hr
  exact fun v G1 H1 st r=>q v d G1 H1 st r (RK.step hr st)
 | ow xs=>
  rw [e] at hr
  intro p vs G1 H1 st n m e' r
  obtain⟨G2,st2,r2⟩:=cL (X:=X) (ad:=ad) st n m e' r
  exact q _ _ G2 H1 st2 r2 (RK.step hr st2)
 | ex c=>
  rw [e] at hr
  exact hr
 | bad=>
  rw [e] at hr
  exact hr
theorem l9 (hx:XP X ad σ E) {G1 H1:Hp} (st:Step G H G1 H1) (hS:SL X.K ad G H ρ σ) {Q:VK} (hr:RK X.K ad G1 H1 (f ρ) Q E):tE X ad f σ H1 Q:=⟨G1,ρ,E,st.gh,hS.step st,hx,hr⟩
theorem aId (ha:ME X ad a f):ME X ad (.UnaryOp .Not a pos) (mW f):=by
 refine PE.imp (aG2 ha) ?_
 rintro σ H Q ⟨G,ρ,E,hG,hS,hx,hr⟩
 refine l8 hG hS hx hr fun v d G1 H1 st r k=> ?_
 cases d<;>try exact ay k
 unfold Rep at r;subst r
 exact⟨_,rfl,k.ok_now st.gh a8⟩
theorem aBr (ha:ME X ad a f):ME X ad (.UnaryOp .USub a pos) (aLw f):=by
 refine PE.imp (aMj aHk ha) ?_
 rintro σ H Q ⟨G,ρ,E,hG,hS,hx,hr⟩
 refine l8 hG hS hx hr fun v d G1 H1 st r k=> ?_
 cases d<;>try exact ay k
 unfold Rep at r;subst r
 exact⟨_,rfl,k.ok_now st.gh aM⟩
theorem aIe {σ:St} {H:Hp} {Q:VK} (h:tE X ad (gC f g) σ H Q):aGz (tE X ad f) (tE X ad g) σ H Q:=by
 obtain⟨G,ρ,E,hG,hS,hx,hr⟩:=h
 refine l8 hG hS hx hr fun v d G1 H1 st r k=> ?_
 cases d<;>try exact ay k
 rename_i b
 unfold Rep at r;subst r
 refine⟨b,rfl, ?_⟩
 cases b with
 | true=>exact yT (l9 hx st hS k)
 | false=>exact aBh (k.ok_now st.gh a8)
theorem aNa {σ:St} {H:Hp} {Q:VK} (h:tE X ad (rOr f g) σ H Q):aO9 (tE X ad f) (tE X ad g) σ H Q:=by
 obtain⟨G,ρ,E,hG,hS,hx,hr⟩:=h
 refine l8 hG hS hx hr fun v d G1 H1 st r k=> ?_
 cases d<;>try exact ay k
 rename_i b
 unfold Rep at r;subst r
 refine⟨b,rfl, ?_⟩
 cases b with
 | true=>exact yT (k.ok_now st.gh a8)
 | false=>exact aBh (l9 hx st hS k)
theorem aBs {r:List Expr} (ha:ME X ad a f) (hb:ME X ad (.BoolOp .And (b::r) pos) g):ME X ad (.BoolOp .And (a::b::r) pos) (gC f g):=PE.imp (aG1 ha hb) fun _ _ _ h=>aIe h
theorem aIf {r:List Expr} (ha:ME X ad a f) (hb:ME X ad (.BoolOp .Or (b::r) pos) g):ME X ad (.BoolOp .Or (a::b::r) pos) (rOr f g):=PE.imp (aMa ha hb) fun _ _ _ h=>aNa h
theorem aBt {op:BoolOp} (hb:ME X ad b g):ME X ad (.BoolOp op [b] pos) g:=aG0 hb
theorem aNb {σ:St} {H:Hp} {Q:Bool->Hp->Prop} (h:tT X ad f σ H Q):tE X ad f σ H fun x H1=> ∃ k,x= .bl k/\Q k H1:=by
 obtain⟨G,ρ,E,hG,hS,hx,ht,hr⟩:=h
 exact⟨G,ρ,E,hG,hS,hx,hr⟩
theorem aIg (ha:ME X ad a f) (he: ∀ whole,isTrue a X.env whole=(do let v<-whole;standAt a.pos;holding [v] (truthy v))):MT X ad a f:=PT.imp (aGx ha he) fun _ _ _ h=>aNb h
theorem eQ {r:R} {k:D->R} (h:lB (r.bind k)):(∃ d,r= .ok d/\lB (k d))\/(∃ xs,r= .ow xs/\lB (k (.lst xs)))\/ ∃ c,r= .ex c:=by
 cases r with
 | ok d=>exact .inl ⟨d,rfl,h⟩
 | ow xs=>exact .inr (.inl ⟨xs,rfl,h⟩)
 | ex c=>exact .inr (.inr ⟨c,rfl⟩)
 | bad=>
  rcases h with ⟨_,h⟩ | ⟨_,h⟩<;>cases h
theorem bJ: ¬ lB .bad:=by
 rintro(⟨_,h⟩ | ⟨_,h⟩)<;>cases h
theorem aIh {σ:St} {H:Hp} {Q:Bool->Hp->Prop} (h:tT X ad (mW f) σ H Q):aO8 (tT X ad f) σ H Q:=by
 obtain⟨G,ρ,E,hG,hS,hx,ht,hr⟩:=h
 rcases eQ ht with ⟨d,e,ht⟩ | ⟨xs,e,ht⟩ | ⟨c,e⟩
 ·cases d<;>try exact(bJ ht).elim
  rename_i b
  refine⟨G,ρ,E,hG,hS,hx, .inl ⟨b,e⟩, ?_⟩
  have hr':RK X.K ad G H ((f ρ).bind fun x=>match x with | .bl b=> .ok (.bl (!b)) | _=> .bad) (fun v H'=> ∃ b,v= .bl b/\Q b H') E:=hr
  rw [e] at hr' ⊢
  intro v G1 H1 st r
  unfold Rep at r;subst r
  obtain⟨b',e',q⟩:=hr' (.bl (!b)) G1 H1 st a8
  cases e'
  exact⟨b,rfl,q⟩
 ·exact(bJ ht).elim
 ·refine⟨G,ρ,E,hG,hS,hx, .inr ⟨c,e⟩, ?_⟩
  have hr':RK X.K ad G H ((f ρ).bind fun x=>match x with | .bl b=> .ok (.bl (!b)) | _=> .bad) (fun v H'=> ∃ b,v= .bl b/\Q b H') E:=hr
  rw [e] at hr' ⊢
  exact hr'
theorem aIi (ha:MT X ad a f):MT X ad (.UnaryOp .Not a pos) (mW f):=PT.imp (aGy ha) fun _ _ _ h=>aIh h
theorem aIj {σ:St} {H:Hp} {Q:Bool->Hp->Prop} (h:tT X ad (gC f g) σ H Q):aO7 (tT X ad f) (tT X ad g) σ H Q:=by
 obtain⟨G,ρ,E,hG,hS,hx,ht,hr⟩:=h
 have hr':RK X.K ad G H ((f ρ).bind fun x=>match x with | .bl true=>g ρ | .bl false=> .ok (.bl false) | _=> .bad) (fun v H'=> ∃ b,v= .bl b/\Q b H') E:=hr
 rcases eQ ht with ⟨d,e,ht⟩ | ⟨xs,e,ht⟩ | ⟨c,e⟩
 ·cases d<;>try exact(bJ ht).elim
  rename_i b
  refine⟨G,ρ,E,hG,hS,hx, .inl ⟨b,e⟩, ?_⟩
  rw [e] at hr' ⊢
  intro v G1 H1 st r
  unfold Rep at r;subst r
  refine⟨b,rfl, ?_⟩
  cases b with
  | true=>exact yT ⟨G1,ρ,E,st.gh,hS.step st,hx,ht,RK.step hr' st⟩
  | false=>
   obtain⟨b',e',q⟩:=hr' (.bl false) G1 H1 st a8
   cases e'
   exact aBh q
 ·exact(bJ ht).elim
 ·refine⟨G,ρ,E,hG,hS,hx, .inr ⟨c,e⟩, ?_⟩
  rw [e] at hr' ⊢
  exact hr'
theorem aNc {σ:St} {H:Hp} {Q:Bool->Hp->Prop} (h:tT X ad (rOr f g) σ H Q):tOr (tT X ad f) (tT X ad g) σ H Q:=by
 obtain⟨G,ρ,E,hG,hS,hx,ht,hr⟩:=h
 have hr':RK X.K ad G H ((f ρ).bind fun x=>match x with | .bl true=> .ok (.bl true) | .bl false=>g ρ | _=> .bad) (fun v H'=> ∃ b,v= .bl b/\Q b H') E:=hr
 rcases eQ ht with ⟨d,e,ht⟩ | ⟨xs,e,ht⟩ | ⟨c,e⟩
 ·cases d<;>try exact(bJ ht).elim
  rename_i b
  refine⟨G,ρ,E,hG,hS,hx, .inl ⟨b,e⟩, ?_⟩
  rw [e] at hr' ⊢
  intro v G1 H1 st r
  unfold Rep at r;subst r
  refine⟨b,rfl, ?_⟩
  cases b with
  | true=>
   obtain⟨b',e',q⟩:=hr' (.bl true) G1 H1 st a8
   cases e'
   exact yT q
  | false=>exact aBh ⟨G1,ρ,E,st.gh,hS.step st,hx,ht,RK.step hr' st⟩
 ·exact(bJ ht).elim
 ·refine⟨G,ρ,E,hG,hS,hx, .inr ⟨c,e⟩, ?_⟩
  rw [e] at hr' ⊢
  exact hr'
theorem aBu {r:List Expr} (ha:MT X ad a f) (hb:MW X ad (.BoolOp .And (b::r) pos) g):MW X ad (.BoolOp .And (a::b::r) pos) (gC f g):=PW.imp (pw_and ha hb) fun _ _ _ h=>aIj h
theorem aIk {r:List Expr} (ha:MT X ad a f) (hb:MW X ad (.BoolOp .Or (b::r) pos) g):MW X ad (.BoolOp .Or (a::b::r) pos) (rOr f g):=PW.imp (pw_or ha hb) fun _ _ _ h=>aNc h
theorem aBv {op:BoolOp} (hb:MT X ad b g):MW X ad (.BoolOp op [b] pos) g:=by
 cases op with
 | And=>exact pw_and1 hb
 | Or=>exact pw_or1 hb
theorem vA {op:CmpOp} {x y:D}:(∃ k,gB op x y= .ok (.bl k))\/gB op x y= .bad:=by
 cases op<;>unfold gB<;>(try unfold inS)<;>(repeat' split)<;>first | exact .inr rfl | exact .inl ⟨_,rfl⟩
theorem aNd {op:CmpOp} {x y:D} {v w:V} {u z:Value} (hu:X.A.units+62<cLine) (I:Inv X pins σ H s) (hG:Same G H) (rx:Rep X.K ad G x v) (ry:Rep X.K ad G y w) (ru:bA v u) (rz:bA w z) {k:D->R}
  (hr:RK X.K ad G H ((gB op x y).bind k) Q E):wpAny (model X.prog X.w) X.A (compareOp op u z) (fun d s3=> ∃ b G' H',d= .bool b/\Step G H G' H'/\Inv X pins σ H' s3/\RK X.K ad G' H' (k (.bl b)) Q E) X.xe s:=by
 rcases vA (op:=op) (x:=x) (y:=y) with ⟨b,e⟩ | e
 ·rw [e] at hr
  refine L2.thn (iF op hu pins s σ H G x y v w u z (fun q H'=> ∃ G',Step G H G' H'/\q= .bl b) E I hG rx ry ru rz (by rw [e];exact fun q G' H' st r=>⟨G',st,by unfold Rep at r;exact r⟩)) fun d s3 ⟨q,H',I',r',G',st,e1⟩=> ?_
  subst e1
  cases r'
  exact⟨b,G',H',rfl,st,I',RK.step hr st⟩
 ·rw [e] at hr
  exact hr.elim
theorem y6 {op op':CmpOp} (hu:X.A.units+62<cLine) (ha:ME X ad a f) (hb:ME X ad b g) (hc:ME X ad c h) (hm:lastMarks [op,op'] [b,c]=false):ME X ad (.Compare a [op,op'] [b,c] pos) (rD op op' f g h):=by
 intro pins s σ H Q I ⟨G,ρ,E,hG,hS,hx,hr⟩
 refine Compare_chain (L2.thn (ha.thn I hG hS hx hr) fun v s1 ⟨x,d1,G1,H1,I1,r1,st1,q1,k1⟩=>chain_link (L2.thn (hb.thn I1 st1.gh (hS.step st1) hx k1) fun u s2 ⟨y,d2,G2,H2,I2,r2,st2,q2,k2⟩=>
  L2.thn (aNd hu I2 st2.gh (q1.mono st2.sg) q2 r1 r2 k2) fun d s3 ⟨k,G3,H3,e,st3,I3,k3⟩=> ?_)) hm
 subst e
 refine wpAny_truthy_bool ?_
 cases k with
 | false=>exact ite_ff ⟨.bl false,H3,I3,rfl,k3.ok_now st3.gh a8⟩
 | true=>
  refine ite_tt (chain_last (L2.thn (hc.thn I3 st3.gh (((hS.step st1).step st2).step st3) hx k3) fun w' s4 hz_=> ?_))
  obtain⟨z',d4,G4,H4,I4,r4,st4,q4,k4⟩:=hz_
  exact iF op' hu pins s4 σ H4 G4 d2 d4 y z' u w' Q E I4 st4.gh ((q2.mono st3.sg).mono st4.sg) q4 r2 r4 k4
theorem y8 {op op':CmpOp} (hu:X.A.units+62<cLine) (ha:ME X ad a f) (hb:ME X ad b g) (hc:ME X ad c h) (hm:lastMarks [op,op'] [b,c]=false):MT X ad (.Compare a [op,op'] [b,c] pos) (rD op op' f g h):=by
 intro pins s σ H Q I ⟨G,ρ,E,hG,hS,hx,ht,hr⟩
 refine isTrue_chain (L2.thn (ha.thn I hG hS hx hr) fun v s1 ⟨x,d1,G1,H1,I1,r1,st1,q1,k1⟩=>test_link (L2.thn (hb.thn I1 st1.gh (hS.step st1) hx k1) fun u s2 ⟨y,d2,G2,H2,I2,r2,st2,q2,k2⟩=>
  L2.thn (aNd hu I2 st2.gh (q1.mono st2.sg) q2 r1 r2 k2) fun d s3 ⟨k,G3,H3,e,st3,I3,k3⟩=> ?_)) hm
 subst e
 refine wpAny_truthy_bool ?_
 cases k with
 | false=>
  obtain⟨k',e',q'⟩:=k3.ok_now (v:= .bl false) st3.gh a8
  cases e'
  exact ite_ff ⟨H3,I3,q'⟩
 | true=>
  refine ite_tt (test_last (L2.thn (hc.thn I3 st3.gh (((hS.step st1).step st2).step st3) hx k3) fun w' s4 hz_=> ?_))
  obtain⟨z',d4,G4,H4,I4,r4,st4,q4,k4⟩:=hz_
  refine L2.thn (iF op' hu pins s4 σ H4 G4 d2 d4 y z' u w' _ E I4 st4.gh ((q2.mono st3.sg).mono st4.sg) q4 r2 r4 k4) fun d' s5 hz_=> ?_
  obtain⟨z2,H5,I5,r5,k2,e2,q5⟩:=hz_
  subst e2
  cases r5
  exact wpAny_truthy_bool ⟨H5,I5,q5⟩
theorem y9 (hc:MT X ad c h) (ha:ME X ad a f) (hb:ME X ad b g):ME X ad (.IfExp c a b pos) (rIf h f g):=by
 refine PE.imp (yL hc ha hb) ?_
 rintro σ H Q ⟨G,ρ,E,hG,hS,hx,hr⟩
 have hr':RK X.K ad G H ((h ρ).bind fun x=>match x with | .bl true=>f ρ | .bl false=>g ρ | _=> .bad) Q E:=hr
 cases e:h ρ with
 | ok d=>
  rw [e] at hr'
  cases d<;>try exact hr'.elim
  rename_i k
  refine⟨G,ρ,E,hG,hS,hx, .inl ⟨k,e⟩, ?_⟩
  rw [e]
  intro v G1 H1 st r
  unfold Rep at r;subst r
  refine⟨k,rfl, ?_⟩
  cases k with
  | true=>exact yT (l9 hx st hS (RK.step hr' st))
  | false=>exact aBh (l9 hx st hS (RK.step hr' st))
 | ow xs=>rw [e] at hr';exact hr'.elim
 | ex k=>
  rw [e] at hr'
  exact⟨G,ρ,E,hG,hS,hx, .inr ⟨k,e⟩,by rw [e];exact hr'⟩
 | bad=>rw [e] at hr';exact hr'.elim
theorem aBw:MA X ad [] []:=PA.imp eI fun σ H Q ⟨G,ρ,E,hG,hS,hx,hr⟩=>hr [] G H (Step.refl hG) aF.nil
theorem pZ {es:List Expr} {fs:List F} (ha:ME X ad a f) (hr:MA X ad es fs) (hs:starEach (a::es) X.env=(false,eval a X.env)::starEach es X.env):MA X ad (a::es) (f::fs):=by
 refine PA.imp (b9 ha hr hs) ?_
 rintro σ H Q ⟨G,ρ,E,hG,hS,hx,hr⟩
 have main: ∀ d,AK X.K ad G H ((args fs ρ).cons d) Q E-> ∀ v G1 H1,Step G H G1 H1->Rep X.K ad G1 d v->tA X ad fs σ H1 fun xs H2=>Q (v::xs) H2:=fun d hk v G1 H1 st r=>by
  refine⟨G1,ρ,E,st.gh,hS.step st,hx, ?_⟩
  cases e:args fs ρ with
  | ok ds=>rw [e] at hk;exact fun vs G2 H2 st2 r2=>hk (v::vs) G2 H2 (st.trans st2) (aF.cons (r.mono st2.sg) r2)
  | ex c=>rw [e] at hk;exact fun G2 H2 st2=>hk G2 H2 (st.trans st2)
  | bad=>rw [e] at hk;exact hk
 refine⟨G,ρ,E,hG,hS,hx, ?_⟩
 unfold args at hr
 cases e:f ρ with
 | ok d=>rw [e] at hr;exact fun v G1 H1 st r=>main d hr v G1 H1 st r
 | ow xs=>
  rw [e] at hr
  intro p vs G1 H1 st n m e' r
  obtain⟨G2,st2,r2⟩:=cL (X:=X) (ad:=ad) st n m e' r
  exact main _ hr _ G2 H1 st2 r2
 | ex c=>rw [e] at hr;exact hr
 | bad=>rw [e] at hr;exact hr
theorem mB {fs:List F} {ρ:Rho} {ds:List D} (h:args fs ρ= .ok ds):ds.length=fs.length:=by
 induction fs generalizing ds with
 | nil=>cases h;rfl
 | cons f fs ih=>
  unfold args at h
  cases e:f ρ with
  | ok d=>
   rw [e] at h
   cases e2:args fs ρ with
   | ok r=>rw [e2] at h;cases h;simp [ih e2]
   | ex c=>rw [e2] at h;cases h
   | bad=>rw [e2] at h;cases h
  | ow d=>
   rw [e] at h
   cases e2:args fs ρ with
   | ok r=>rw [e2] at h;cases h;simp [ih e2]
   | ex c=>rw [e2] at h;cases h
   | bad=>rw [e2] at h;cases h
  | ex c=>rw [e] at h;cases h
  | bad=>rw [e] at h;cases h
theorem vB {fs:List F} {k:List D->R} {σ:St} {H:Hp} {Q:VK} {Q':List V->Hp->Prop} (hG:Same G H) (hS:SL X.K ad G H ρ σ) (hx:XP X ad σ E) (hr:RK X.K ad G H (nQ fs ρ k) Q E)
  (q: ∀ vs ds G1 H1,Step G H G1 H1->aF X.K ad G1 ds vs->ds.length=fs.length->RK X.K ad G1 H1 (k ds) Q E->Q' vs H1):tA X ad fs σ H Q':=by
 refine⟨G,ρ,E,hG,hS,hx, ?_⟩
 unfold nQ at hr
 cases e:args fs ρ with
 | ok ds=>rw [e] at hr;exact fun vs G1 H1 st r=>q vs ds G1 H1 st r (mB e) (RK.step hr st)
 | ex c=>rw [e] at hr;exact hr
 | bad=>rw [e] at hr;exact hr
theorem aIl {es:List Expr} {fs:List F} {j:Nat} (ha:MA X ad es fs) (hl:fs.length<=1000):ME X ad (.Tuple es j pos) (fZ fs):=by
 refine PE.imp (aHo ha) ?_
 rintro σ H Q ⟨G,ρ,E,hG,hS,hx,hr⟩
 refine⟨G,ρ,E,hG,hS,hx, ?_⟩
 have hr':RK X.K ad G H ((args fs ρ).then fun xs=> .ok (.tup xs)) Q E:=hr
 cases e:args fs ρ with
 | ok ds=>
  rw [e] at hr'
  intro vs G1 H1 st r
  refine⟨?_,fun p hp=>(RK.step hr' st).tup_new st.gh r hp⟩
  have:=r.length
  rw [this,mB e]
  exact Nat.le_trans hl (by decide)
 | ex c=>rw [e] at hr';exact hr'
 | bad=>rw [e] at hr';exact hr'
theorem aIm {es:List Expr} {fs:List F} (ha:MA X ad es fs) (hl:fs.length<=1000):ME X ad (.List es pos) (fN fs):=by
 refine PE.imp (aHp ha) ?_
 rintro σ H Q ⟨G,ρ,E,hG,hS,hx,hr⟩
 refine⟨G,ρ,E,hG,hS,hx, ?_⟩
 have hr':RK X.K ad G H ((args fs ρ).then fun xs=> .ow xs) Q E:=hr
 cases e:args fs ρ with
 | ok ds=>
  rw [e] at hr'
  intro vs G1 H1 st r
  refine⟨?_,fun p hp=>(RK.step hr' st).ow_new st.gh r hp⟩
  have:=r.length
  rw [this,mB e]
  exact Nat.le_trans hl (by decide)
 | ex c=>rw [e] at hr';exact hr'
 | bad=>rw [e] at hr';exact hr'
def Seq (X:Cx) (ad:Ad) (G H:Hp) (x:D) (v:V):Prop:=Rep X.K ad G x v\/ ∃ a vs ds,x= .lst ds/\v= .ref a/\G a=none/\H a=some (.lst vs)/\aF X.K ad G ds vs
theorem Seq.step {G1 H1:Hp} {x:D} {v:V} (q:Seq X ad G H x v) (st:Step G H G1 H1):Seq X ad G1 H1 x v:=by
 rcases q with q | ⟨a,vs,ds,e1,e2,h1,h2,h3⟩
 ·exact .inl (q.mono st.sg)
 ·refine .inr ⟨a,vs,ds,e1,e2, ?_,st.sh _ _ h2,h3.mono st.sg⟩
  cases z:G1 a with
  | none=>rfl
  | some o=>
   have:=st.nw a h1 (by rw [z];exact fun z=>nomatch z)
   rw [h2] at this
   cases this
theorem Seq.items {x:D} {v:V} {ds:List D} (q:Seq X ad G H x v) (hG:Same G H) (e:items x=some ds): ∃ a vs,v= .ref a/\(x= .tup ds/\SqT X.K H a vs\/x= .lst ds/\SqL X.K H a vs)/\aF X.K ad G ds vs:=by
 rcases q with q | ⟨a,vs,ds',e1,e2,h1,h2,h3⟩
 ·cases x with
  | tup _=>cases e;unfold Rep at q;obtain⟨a,vs,h1,h2,h3⟩:=q;exact⟨a,vs,h1, .inl ⟨rfl,hG.seqT h2⟩,h3⟩
  | lst _=>cases e;unfold Rep at q;obtain⟨a,vs,h1,h2,h3⟩:=q;exact⟨a,vs,h1, .inr ⟨rfl,hG.seq h2⟩,h3⟩
  | _=>cases e
 ·subst e1
  cases e
  exact⟨a,vs,e2, .inr ⟨rfl,SqL.of h2⟩,h3⟩
theorem lF (n:Nat) (i:Int):ixD n i=L2.ixN n i:=rfl
theorem aIn {d2:D} {x y:V} {v u:Value} {sa sb:Expr} (I:Inv X pins σ H s) (hG:Same G H) (q1:Seq X ad G H .rnk x) (q2:Rep X.K ad G d2 y) (r1:bA x v) (r2:bA y u) (hs:subscripted sb false v u=operate [v,u] (getItem v u)) (k:RK X.K ad G H (ixS .rnk d2) Q E):
  wpAny (model X.prog X.w) X.A (subscriptTail sa sb v u) (EP X pins σ Q) X.xe s:=by
 rcases q1 with q1 | ⟨_,_,_,w,_⟩
 ·unfold Rep at q1
  obtain⟨p,rfl,hp⟩:=q1
  cases (show v=Value.ref p from r1)
  obtain⟨⟨_,t0,t1,t2,dd⟩,_,_⟩:=(show ObjOk X.prog X.w H s.heap p (aGj p) from I.hok p _ (hG _ _ hp))
  have D:=dd X.prog X.w
  have fin: ∀ (k:Option Int) (n:Int) (t:Tok),oIs k u=true->valueAt [(some 0,Value.int 0 t0),(some 1, .int 1 t1),(none, .int 2 t2)] k=some (.int n t)->Q (.int n) H->wpAny (model X.prog X.w) X.A (subscriptTail sa sb (.ref p) u) (EP X pins σ Q) X.xe s:=fun k n t hk hv hq=>
   subscriptTail_builtinR (x:= .int n t) D.typeIs slot_dict_getitem.lookup (wpAny_getItem_of (knd:=pV X.prog X.w) hk D.mapOf hv ⟨rfl, .int n,H,I.tok _,⟨t,rfl⟩,hq⟩) hs
  cases d2 with
  | int i=>
   unfold Rep at q2;subst q2
   obtain⟨t,rfl⟩:=(show ∃ t,u=Value.int i t from r2)
   have k':RK X.K ad G H (if i=0\/i=1 then .ok (.int i) else .bad) Q E:=k
   by_cases hi:i=0\/i=1
   ·rw [if_pos hi] at k'
    rcases hi with rfl | rfl
    ·exact fin (some 0) 0 t0 rfl rfl (k'.ok_now hG aM)
    ·exact fin (some 1) 1 t1 rfl rfl (k'.ok_now hG aM)
   ·rw [if_neg hi] at k'
    exact k'.elim
  | non=>
   unfold Rep at q2;subst q2
   cases (show u=Value.none from r2)
   exact fin none 2 t2 rfl rfl (RK.ok_now (d:= .int 2) k hG aM)
  | _=>exact k.elim
 ·cases w
theorem aNe (ha:MLk X ad a f) (hb:ME X ad b g) (hs:uS b):ME X ad (.Subscript a b pos) (rIx f g):=by
 intro pins s σ H Q I ⟨G,ρ,E,hG,hS,hx,hr⟩
 refine Subscript_ (L2.thn (ha pins s σ H G ρ _ Q E I hG hS hx hr) fun v s1 hz_=> ?_)
 obtain⟨x,d1,G1,H1,I1,r1,st1,q1,k1⟩:=hz_
 refine L2.thn (hb.thn I1 st1.gh (hS.step st1) hx k1) fun u s2 hz_=> ?_
 obtain⟨y,d2,G2,H2,I2,r2,st2,q2,k2⟩:=hz_
 have q1':Seq X ad G2 H2 d1 x:=Seq.step (X:=X) (ad:=ad) q1 st2
 unfold dIx at k2
 cases e:items d1 with
 | none=>
  rw [e] at k2
  have k3:RK X.K ad G2 H2 (ixS d1 d2) Q E:=k2
  by_cases hrn:d1= .rnk
  ·subst hrn
   exact aIn I2 st2.gh q1' q2 r1 r2 (hs _ _) k3
  cases d1<;>try exact ay k3
  case rnk=>exact absurd rfl hrn
  cases d2<;>try exact ay k3
  rename_i z i
  have k4:RK X.K ad G2 H2 (if z.length<=LIM then(match(ixD z.cps.toList.length i).bind fun j=>z.cps.toList[j]? with | some c=> .ok (.str ⟨#[c]⟩) | none=> .bad) else .bad) Q E:=k3
  unfold Rep at q2;subst q2
  by_cases hc:z.length<=LIM
  ·rw [if_pos hc] at k4
   cases e3:(ixD z.cps.toList.length i).bind fun j=>z.cps.toList[j]? with
   | none=>rw [e3] at k4;exact k4.elim
   | some c=>
    rw [e3] at k4
    rcases q1' with q1' | ⟨_,_,_,w,_⟩
    ·unfold Rep at q1';subst q1'
     exact aHt a b pins s2 σ H2 _ _ v u Q I2 r1 r2 ⟨z,i,c,rfl,rfl,Nat.le_trans hc (by decide),e3,k4.ok_now st2.gh jS⟩ (hs _ _)
    ·cases w
  ·rw [if_neg hc] at k4
   exact k4.elim
 | some ds=>
  rw [e] at k2
  cases d2<;>try exact k2.elim
  rename_i i
  unfold Rep at q2;subst q2
  obtain⟨p,vs,rfl,hq,rq⟩:=q1'.items st2.gh e
  have hr2:RK X.K ad G2 H2 (match(ixD ds.length i).bind fun j=>ds[j]? with | some d=> .ok d | none=> .bad) Q E:=k2
  cases e3:(ixD ds.length i).bind fun j=>ds[j]? with
  | none=>rw [e3] at hr2;exact hr2.elim
  | some d=>
   rw [e3] at hr2
   obtain⟨j,e4,e5⟩:=zBd e3
   obtain⟨w,e6,r6⟩:=rq.get e5
   have hat:atI vs i=some w:=by
    unfold atI
    rw [rq.length, <-lF,e4]
    exact e6
   rcases hq with ⟨_,hq⟩ | ⟨_,hq⟩
   ·exact aHs a b pins s2 σ H2 _ _ v u Q I2 r1 r2 ⟨p,vs,i,w,rfl,rfl,hq,hat,hr2.ok_now st2.gh r6⟩ (hs _ _)
   ·exact aC4 a b pins s2 σ H2 _ _ v u Q I2 r1 r2 ⟨p,vs,i,w,rfl,rfl,hq,hat,hr2.ok_now st2.gh r6⟩ (hs _ _)
theorem gF {prog:Program} {w:World} {A:Around} {Ex:Value->Shared->Prop} {s:Shared} {t sl:Addr} {items:Array Value} {vl vu:Value} {lo hi:Option Int} {Q:Value->Shared->Prop} (ht:IsTup s.heap t items) (hs:s.heap.IsSliceOf sl vl vu .none)
  (pl:IsPart vl lo) (pu:IsPart vu hi) (hw:HT.sIx items.size 0 lo=0/\HT.sIx items.size items.size hi=items.size) (h:Q (.ref t) s) (hsz:items.size<=sizeLine):wpAny (model prog w) A (getItem (.ref t) (.ref sl)) Q Ex s:=by
 obtain⟨os,hos,hcs,hds⟩:=id hs
 have ts:s.TypeIs (.ref sl) "slice":=⟨os,hos,hcs⟩
 unfold getItem
 try with_reducible refine wpAny_holding ?_
 first | refine aa (ae ?_) | skip
 refine aa (wpAny_sequenceKey ht.typeIs (by decide) ?_)
 refine aa (wpAny_callSpecial?_slot (name:=Str.ofString "__getitem__") ht.typeIs PyProof.Rows.slot_tuple_getitem
  (wpAny_call_entry PyProof.Rows.slot_tuple_getitem ht.typeIs entry_tuple_getitem ?_ (args_tuple_getitem _ _)))
 show wpAny _ _ (Builtin.Tuple.tupleItemsOf (.ref t) >>= _) _ _ s
 refine aa (tupleItemsOf_ ht ?_)
 refine aa (wpAny_typeOf ts ?_)
 rw [if_pos (by decide)]
 refine aa (HT.sliceApplied_gen hs pl pu ?_)
 have yes:(((HT.sIx items.size 0 lo:Nat):Int)==0&&(1:Int)==1&&(HT.sIx items.size items.size hi - HT.sIx items.size 0 lo)==items.size)=true:=by
  rw [hw.1,hw.2]
  simp
 show wpAny _ _ (if(((HT.sIx items.size 0 lo:Nat):Int)==0&&(1:Int)==1&&(HT.sIx items.size items.size hi - HT.sIx items.size 0 lo)==items.size)=true then _ else _) _ _ s
 rw [if_pos yes]
 unfold Builtin.Tuple.tupleIsExact
 refine aa (m:=(do let z<-typeOf (.ref t);return z== .type "tuple")) (aa (wpAny_typeOf ht.typeIs (ae ?_)))
 rw [if_pos (by decide)]
 first
  | exact aa (wpAny_rule (aa (ae (ae ⟨_,rfl,ae h⟩))))
  | exact aa (wpAny_rule (ae ⟨_,rfl,ae h⟩))
  | exact aa (aa (wpAny_rule (ae (ae ⟨_,rfl,ae h⟩))))
  | skip
theorem rN: ∀ {ds:List D} {vs:List V} (lo hi:Option Int),aF X.K ad G ds vs->aF X.K ad G (yU ds lo hi) (yE vs lo hi):=by
 intro ds vs lo hi r
 unfold yU yE
 rw [r.length]
 exact(r.drop _).take _
theorem aPw (l u:Option Int) (n:Nat):Builtin.Str.strSliceIndices l u 1 n=(List.range (cS n n u - cS n 0 l)).map fun k=>cS n 0 l+k:=by
 have hlo: ∀ (d:Nat) (v:Option Int),d<=n->(match v with | none=>(d:Int) | some i=>max 0 (min (if i<0 then i+n else i) (n:Int)))=((cS n d v:Nat):Int):=fun d v hd=>by
  cases v with
  | none=>rfl
  | some i=>
   show max 0 (min (if i<0 then i+n else i) (n:Int))=(((if i<0 then(i+n).toNat else min i.toNat n):Nat):Int)
   split<;>omega
 have e:Builtin.Str.strSliceIndices l u 1 n=sliceRange ((cS n 0 l:Nat):Int) ((cS n n u:Nat):Int) 1:=by
  rw [<-hlo 0 l (bq _), <-hlo n u (aj _)]
  cases l<;>cases u<;>rfl
 rw [e]
 unfold sliceRange
 have e2:(if(1:Int) > 0 then(if((cS n 0 l:Nat):Int)<((cS n n u:Nat):Int) then(((cS n n u:Nat):Int) - ((cS n 0 l:Nat):Int)+1 - 1) / 1 else 0) else(if((cS n 0 l:Nat):Int) > ((cS n n u:Nat):Int) then(((cS n 0 l:Nat):Int) - ((cS n n u:Nat):Int) - 1 - 1) / (-1) else 0):Int).toNat=cS n n u - cS n 0 l:=by
  rw [if_pos (by decide)]
  split<;>omega
 show(List.range (if(1:Int) > 0 then _ else _:Int).toNat).map _=_
 rw [e2]
 refine List.map_congr_left fun k _=> ?_
 show(((cS n 0 l:Nat):Int)+1 * (k:Int)).toNat=_
 omega
theorem gU {α:Type} (xs:List α): ∀ (m a:Nat),((List.range m).map fun k=>a+k).filterMap (xs[·]?)=(xs.drop a).take m
 | 0,a=>by simp
 | m+1,a=>by
  rw [List.range_succ,List.map_append,List.filterMap_append,gU xs m a,List.take_succ]
  congr 1
  show List.filterMap (xs[·]?) [a+m]=_
  rw [List.getElem?_drop]
  cases e:xs[a+m]? <;>simp [e]
theorem vC (z:Str) (lo hi:Option Int):Txt.slice z lo hi=⟨(yV z.cps.toList lo hi).toArray⟩:=by
 have e0:z.length=z.cps.toList.length:=by simp [Str.length]
 have e1:((Builtin.Str.strSliceIndices lo hi 1 z.length).filterMap (z.cps[·]?))=yV z.cps.toList lo hi:=by
  rw [aPw]
  unfold yV
  rw [<-e0, <-gU]
  refine congrArg (fun f=>List.filterMap f _) (funext fun k=> ?_)
  simp
 unfold Txt.slice
 split
 ·rename_i h
  have h2:(Builtin.Str.strSliceIndices lo hi 1 z.length).length=z.length:=by simpa using h
  refine PySem.Str.ext' ?_
  show z.cps=(yV z.cps.toList lo hi).toArray
  rw [aPw,am,List.length_range] at h2
  unfold yV
  rw [<-e0,h2]
  have:cS z.length z.length hi<=z.length:=by
   unfold cS
   cases hi with
   | none=>exact aj _
   | some v=>simp only [];split<;>omega
  by_cases hz:z.length=0
  ·have hn:z.cps.toList=[]:=List.eq_nil_of_length_eq_zero (by rw [<-e0];exact hz)
   rw [hn]
   simpa using hn
  have ha:cS z.length 0 lo=0:=by omega
  rw [ha,List.drop_zero,e0,List.take_length]
 ·rw [e1]
def aNf (X:Cx) (x:V) (lo hi:Option Int) (H:Hp) (Q:VK):Prop:=(∃ a vs,x= .ref a/\((SqT X.K H a vs/\(HT.sIx vs.length 0 lo=0/\HT.sIx vs.length vs.length hi=vs.length->Q (.ref a) H)/\ ∀ p,H p=none->Q (.ref p) (upd H p (.tup (yE vs lo hi))))\/
  (SqL X.K H a vs/\ ∀ p,H p=none->Q (.ref p) (upd H p (.lst (yE vs lo hi))))))\/ ∃ z,x= .str z/\z.length<=LIM/\Q (.str ⟨(yV z.cps.toList lo hi).toArray⟩) H
theorem vD {v:Value} {o:Option Int} (h:IsPart v o): ∃ l:Option (Int×Tok),v=partValue l/\l.map (·.1)=o:=by
 cases h with
 | none=>exact⟨none,rfl,rfl⟩
 | int i t=>exact⟨some (i,t),rfl,rfl⟩
theorem aDo:SlR X (fun x lo hi H Q=> ∃ z,x= .str z/\z.length<=LIM/\Q (.str ⟨(yV z.cps.toList lo hi).toArray⟩) H):=by
 intro pins s σ H x v vl vu lo hi sl Q I rx hs pl pu q
 obtain⟨z,rfl,hz,q⟩:=q
 obtain⟨t,rfl⟩:=(show ∃ t,v=Value.str z t from rx)
 obtain⟨l,rfl,rfl⟩:=vD pl
 obtain⟨u,rfl,rfl⟩:=vD pu
 obtain⟨os,hos,hcs,hds⟩:=hs
 refine⟨"str",_,F.slot_str_getitem.lookup,typeIs_str _ _ _,wpAny_getItem_str_slice (l:=l) (u:=u) (st:=none) ⟨os,hos,hcs,hds⟩ rfl ?_⟩
 have hz':z.length<=sizeLine:=Nat.le_trans hz (by decide)
 refine post_val_or_str ⟨Nat.le_trans (Txt.slice_le z _ _) hz',fun t' k=> ?_⟩
 rw [<-vC] at q
 exact⟨.str _,H,I.tok k,⟨t',rfl⟩,q⟩
theorem aIo:SlR X (aNf X):=by
 intro pins s σ H x v vl vu lo hi sl Q I rx hs pl pu q
 obtain⟨a,vs,rfl,⟨hq,q1,q2⟩ | ⟨hq,q⟩⟩ | q:=q
 ·by_cases hw:HT.sIx vs.length 0 lo=0/\HT.sIx vs.length vs.length hi=vs.length
  ·cases rx
   obtain⟨its,r,ht,hz⟩:=I.tuple hq
   have hlen:its.toArray.size=vs.length:=by rw [av];exact r.length.symm
   refine⟨"tuple",_,PyProof.Rows.slot_tuple_getitem.lookup,ht.typeIs, ?_⟩
   refine gF ht hs pl pu (by rw [hlen];exact hw) ⟨.ref a,H,I,rfl,q1 hw⟩ (by rw [hlen];exact hz)
  ·exact aHr pins s σ H _ v vl vu lo hi sl Q I rx hs pl pu ⟨a,vs,rfl,hq,hw,q2⟩
 ·exact aC5 pins s σ H _ v vl vu lo hi sl Q I rx hs pl pu ⟨a,vs,rfl,hq,q⟩
 ·exact aDo pins s σ H x v vl vu lo hi sl Q I rx hs pl pu q
theorem rO {x:D} {v:V} {lo hi:Option Int} (q:Seq X ad G H x v) (hG:Same G H) (hr:RK X.K ad G H (aHx x lo hi) Q E):
  aNf X v lo hi H Q:=by
 cases x with
 | tup ds=>
  rcases q with q | ⟨_,_,_,z,_⟩
  ·unfold Rep at q
   obtain⟨a,vs,rfl,hq,rq⟩:=q
   refine .inl ⟨a,vs,rfl, .inl ⟨hG.seqT hq,fun e=> ?_,fun p hp=>RK.tup_new (xs:=yU ds lo hi) hr hG (rN lo hi rq) hp⟩⟩
   refine RK.ok_now (d:= .tup (yU ds lo hi)) hr hG ?_
   have e':yU ds lo hi=ds:=by
    rw [rq.length] at e
    have e1:cS ds.length 0 lo=0:=e.1
    have e2:cS ds.length ds.length hi=ds.length:=e.2
    unfold yU
    rw [e1,e2]
    simp
   rw [e']
   unfold Rep
   exact⟨a,vs,rfl,hq,rq⟩
  ·cases z
 | lst ds=>
  obtain⟨a,vs,rfl,hq,rq⟩:=q.items hG (rfl:items (.lst ds)=some ds)
  rcases hq with ⟨z,_⟩ | ⟨_,hq⟩
  ·cases z
  ·exact .inl ⟨a,vs,rfl, .inr ⟨hq,fun p hp=>RK.ow_new (xs:=yU ds lo hi) hr hG (rN lo hi rq) hp⟩⟩
 | str z=>
  have hr':RK X.K ad G H (if z.length<=LIM then .ok (.str ⟨(yV z.cps.toList lo hi).toArray⟩) else .bad) Q E:=hr
  by_cases hc:z.length<=LIM
  ·rw [if_pos hc] at hr'
   rcases q with q | ⟨_,_,_,w,_⟩
   ·unfold Rep at q;subst q
    exact .inr ⟨z,rfl,hc,hr'.ok_now hG jS⟩
   ·cases w
  ·rw [if_neg hc] at hr'
   exact hr'.elim
 | _=>exact ay hr
theorem aIp {l u:Option Expr} {fl fu:Option F} {p2:Pos} (ha:MLk X ad a f) (hl:match l,fl with | none,none=>True | some e,some k=>ME X ad e k | _,_=>False) (hu:match u,fu with | none,none=>True | some e,some k=>ME X ad e k | _,_=>False):
  ME X ad (.Subscript a (.Slice l u none p2) pos) (aC8 f fl fu):=by
 intro pins s σ H Q I ⟨G,ρ,E,hG,hS,hx,hr⟩
 -- the value first
 have key: ∀ (k:D->R),RK X.K ad G H ((f ρ).bind k) Q E->(∀ (pins:List (Addr×Obj)) (s1:Shared) (x:V) (d:D) (G1 H1:Hp),Inv X pins σ H1 s1->Step G H G1 H1->Seq X ad G1 H1 d x->RK X.K ad G1 H1 (k d) Q E->
   wpAny (model X.prog X.w) X.A (evalPart l X.env) (fun vl s2=>wpAny (model X.prog X.w) X.A (evalPart u X.env) (fun vu s3=> ∃ lo hi H3,Inv X pins σ H3 s3/\IsPart vl lo/\IsPart vu hi/\
    aNf X x lo hi H3 Q) X.xe s2) X.xe s1)->
   wpAny (model X.prog X.w) X.A (eval (.Subscript a (.Slice l u none p2) pos) X.env) (EP X pins σ Q) X.xe s:=fun k hk go=>by
  refine Subscript_ (L2.thn (ha pins s σ H G ρ k Q E I hG hS hx hk) fun v s1 hz_=> ?_)
  obtain⟨x,d1,G1,H1,I1,r1,st1,q1,k1⟩:=hz_
  refine wpAny_Slice (L2.thn (go pins s1 x d1 G1 H1 I1 st1 q1 k1) fun vl s2 h2=>L2.thn h2 fun vu s3 hz_=> ?_)
  obtain⟨lo,hi,H3,I3,pl,pu,q3⟩:=hz_
  rw [evalPart_none]
  refine ae ?_
  have I4:Inv X pins σ H3 { s3 with heap:=s3.heap.push { cls:= .type "slice",data:= .fields #[vl,vu, .none] } }:=I3.kept (t':=s3.toks) fun b ob q=>af _ q
  obtain⟨T,id,hT,ht,hg⟩:=aIo pins { s3 with heap:=s3.heap.push { cls:= .type "slice",data:= .fields #[vl,vu, .none] } } σ H3 x v vl vu lo hi s3.heap.objs.size Q I4 r1 (Heap.IsSliceOf.new ..) pl pu q3
  show wpAny (model X.prog X.w) X.A (subscriptTail a (.Slice l u none p2) v (.ref s3.heap.objs.size)) (EP X pins σ Q) X.xe { s3 with heap:=s3.heap.push { cls:= .type "slice",data:= .fields #[vl,vu, .none] } }
  exact tail_any (ops:=[.ref s3.heap.objs.size,v]) ht hT hg (by with_unfolding_all rfl)
 unfold aC8 at hr
 refine key _ hr fun pins s1 x d G1 H1 I1 st1 q1 k1=> ?_
 cases l with
 | none=>
  cases fl with
  | some _=>exact hl.elim
  | none=>
   rw [evalPart_none]
   refine ae ?_
   cases u with
   | none=>
    cases fu with
    | some _=>exact hu.elim
    | none=>
     rw [evalPart_none]
     exact ae ⟨none,none,H1,I1, .none, .none,rO q1 st1.gh k1⟩
   | some e=>
    cases fu with
    | none=>exact hu.elim
    | some k=>
     rw [evalPart_some]
     refine L2.thn (ME.thn hu I1 st1.gh (hS.step st1) hx k1) fun vu s2 hz_=> ?_
     obtain⟨y,d2,G2,H2,I2,r2,st2,q2,k2⟩:=hz_
     cases d2<;>try exact ay k2
     rename_i j
     unfold Rep at q2;subst q2
     obtain⟨t,rfl⟩:=r2
     exact⟨none,some j,H2,I2, .none, .int j t,rO (Seq.step q1 st2) st2.gh k2⟩
 | some e=>
  cases fl with
  | none=>exact hl.elim
  | some k=>
   cases u with
   | none=>
    cases fu with
    | some _=>exact hu.elim
    | none=>
     rw [evalPart_some]
     refine L2.thn (ME.thn hl I1 st1.gh (hS.step st1) hx k1) fun vu s2 hz_=> ?_
     obtain⟨y,d2,G2,H2,I2,r2,st2,q2,k2⟩:=hz_
     cases d2<;>try exact ay k2
     rename_i j
     unfold Rep at q2;subst q2
     obtain⟨t,rfl⟩:=r2
     rw [evalPart_none]
     exact ae ⟨some j,none,H2,I2, .int j t, .none,rO (Seq.step q1 st2) st2.gh k2⟩
   | some e'=>
    cases fu with
    | none=>exact hu.elim
    | some k'=>
     rw [evalPart_some]
     refine L2.thn (ME.thn hl I1 st1.gh (hS.step st1) hx k1) fun vu s2 hz_=> ?_
     obtain⟨y,d2,G2,H2,I2,r2,st2,q2,k2⟩:=hz_
     cases d2<;>try exact ay k2
     rename_i j
     unfold Rep at q2;subst q2
     obtain⟨t,rfl⟩:=r2
     rw [evalPart_some]
     refine L2.thn (ME.thn hu I2 st2.gh ((hS.step st1).step st2) hx k2) fun vu s3 hz_=> ?_
     obtain⟨y3,d3,G3,H3,I3,r3,st3,q3,k3⟩:=hz_
     cases d3<;>try exact ay k3
     rename_i j'
     unfold Rep at q3;subst q3
     obtain⟨t',rfl⟩:=r3
     exact⟨some j,some j',H3,I3, .int j t, .int j' t',rO (Seq.step (Seq.step q1 st2) st3) st3.gh k3⟩
end
section
variable {X:Cx} {ad:Ad} {pins:List (Addr×Obj)} {s:Shared} {σ:St} {H G:Hp} {ρ:Rho} {Q:VK} {E:Nat->Hp->Prop} {pos p:Pos} {a b c:Expr} {f g h:F}
theorem RK.impE {K:PySem.W.Frag} {r:R} {E E':Nat->Hp->Prop} (h:RK K ad G H r Q E) (k: ∀ c H',E c H'->E' c H'):RK K ad G H r Q E':=by
 cases r with
 | ok d=>exact h
 | ow xs=>exact h
 | ex c=>exact fun G' H' st=>k c H' (h G' H' st)
 | bad=>exact h
def LK (X:Cx) (ad:Ad) (G H:Hp) (r:R) (Q:VK) (E:Nat->Hp->Prop):Prop:=match r with
 | .ok d=> ∀ v G' H',Step G H G' H'->Seq X ad G' H' d v->Q v H'
 | .ow xs=> ∀ p vs G' H',Step G H G' H'->H p=none->G' p=none->H' p=some (.lst vs)->aF X.K ad G' xs vs->Q (.ref p) H'
 | .ex c=> ∀ G' H',Step G H G' H'->E c H'
 | .bad=>False
noncomputable def tL (X:Cx) (ad:Ad) (f:F):TE:=fun σ H Q=> ∃ G ρ E,Same G H/\SL X.K ad G H ρ σ/\XP X ad σ E/\LK X ad G H (f ρ) Q E
abbrev ML (X:Cx) (ad:Ad) (e:Expr) (f:F):Prop:=PE X e (tL X ad f)
theorem LK.rk {r:R} (h:LK X ad G H r Q E):RK X.K ad G H r Q E:=by
 cases r with
 | ok d=>exact fun v G' H' st q=>h v G' H' st (.inl q)
 | ow xs=>exact h
 | ex c=>exact h
 | bad=>exact h
theorem ME.ml (ha:ME X ad a f):ML X ad a f:=PE.imp ha fun σ H Q ⟨G,ρ,E,hG,hS,hx,hr⟩=>⟨G,ρ,E,hG,hS,hx,hr.rk⟩
theorem vE {i:Nat} {x:Str} (hN:X.N[i]? =some x) (hv:Vis X.env.scope x) (hd:(x==("__debug__":Str))=false) (hcd:(x==("__classdict__":Str))=false):ML X ad (.Name x pos) (aD i):=by
 intro pins s σ H Q I ⟨G,ρ,E,hG,hS,hx,hr⟩
 unfold aD at hr
 cases e:ρ[i]? with
 | none=>
  rw [e] at hr
  exact hr.elim
 | some sl=>
  rw [e] at hr
  cases sl with
  | no=>exact hr.elim
  | dc kvs=>exact hr.elim
  | sd kvs=>exact hr.elim
  | rk _ _=>exact hr.elim
  | ow xs=>
   obtain⟨p,vs,h1,h2,h3,h4⟩:=hS.ow e
   exact eY hN hv hd hcd pins s σ H Q I ⟨.ref p,h1,hr (.ref p) G H (Step.refl hG) (.inr ⟨p,vs,xs,rfl,rfl,h2,h3,h4⟩)⟩
  | sh d=>
   obtain⟨w,h1,h2⟩:=hS.sh e
   exact eY hN hv hd hcd pins s σ H Q I ⟨w,h1,hr w G H (Step.refl hG) (.inl h2)⟩
theorem ML.lk (ha:ML X ad a f):MLk X ad a f:=by
 intro pins s σ H G ρ k Q E I hG hS hx hr
 cases e:f ρ with
 | ok d=>
  rw [e] at hr
  refine L2.thn (ha pins s σ H (fun v H1=> ∃ G1,Step G H G1 H1/\Seq X ad G1 H1 d v) I ⟨G,ρ,E,hG,hS,hx,by rw [e];exact fun v G1 H1 st q=>⟨G1,st,q⟩⟩) fun u s1 ⟨v,H1,I1,r1,G1,st,q⟩=> ?_
  exact⟨v,d,G1,H1,I1,r1,st,q,RK.step hr st⟩
 | ow xs=>
  rw [e] at hr
  refine L2.thn (ha pins s σ H (fun v H1=> ∃ G1,Step G H G1 H1/\Rep X.K ad G1 (.lst xs) v) I ⟨G,ρ,E,hG,hS,hx,by rw [e];exact fun p vs G1 H1 st n m e' q=>cL st n m e' q⟩) fun u s1 ⟨v,H1,I1,r1,G1,st,q⟩=> ?_
  exact⟨v, .lst xs,G1,H1,I1,r1,st, .inl q,RK.step hr st⟩
 | ex c=>
  rw [e] at hr
  refine L2.thn (ha pins s σ H (fun v H1=>False) I ⟨G,ρ,E,hG,hS,hx,by rw [e];exact hr⟩) fun u s1 ⟨v,H1,I1,r1,q⟩=>q.elim
 | bad=>
  rw [e] at hr
  exact ay hr
theorem p0 {k:D->R} {σ:St} {H:Hp} {Q Q':VK} (hG:Same G H) (hS:SL X.K ad G H ρ σ) (hx:XP X ad σ E) (hr:RK X.K ad G H ((f ρ).bind k) Q E)
  (q: ∀ v d G1 H1,Step G H G1 H1->Seq X ad G1 H1 d v->RK X.K ad G1 H1 (k d) Q E->Q' v H1):tL X ad f σ H Q':=by
 refine⟨G,ρ,E,hG,hS,hx, ?_⟩
 cases e:f ρ with
 | ok d=>
  rw [e] at hr
  exact fun v G1 H1 st r=>q v d G1 H1 st r (RK.step hr st)
 | ow xs=>
  rw [e] at hr
  intro p vs G1 H1 st n m e' r
  obtain⟨G2,st2,r2⟩:=cL (X:=X) (ad:=ad) st n m e' r
  exact q _ _ G2 H1 st2 (.inl r2) (RK.step hr st2)
 | ex c=>
  rw [e] at hr
  exact hr
 | bad=>
  rw [e] at hr
  exact hr
theorem mC {k:List D->R}:nQ [f] ρ k=(f ρ).bind fun x=>k [x]:=by
 unfold nQ args
 cases f ρ<;>rfl
def BOp (X:Cx) (ad:Ad) (fv:Value) (r:Fn):Prop:=
 ∀ (pins:List (Addr×Obj)) (s:Shared) (σ:St) (H G:Hp) (x:D) (v:V) (u:Value) (Q:VK) (E:Nat->Hp->Prop),Inv X pins σ H s->Same G H->Seq X ad G H x v->bA v u->RK X.K ad G H (r [x]) Q E->
  wpAny (model X.prog X.w) X.A (call fv [u]) (EP X pins σ Q) X.xe s
theorem gG {x:Str} {id:String} {r:Fn} (ho:BOp X ad (.builtin id) r) (hg:L2.Gl X x) (hm:X.mg x=none) (hv:bootBuiltins x=some (.builtin id)) (ha:ML X ad a f) (hn:x≠"__name__") (hdb:(x==("__debug__":Str))=false)
  (he:starEach [a] X.env=(false,eval a X.env)::starEach [] X.env):ME X ad (.Call (.Name x p) [a] [] pos) (aA r [f]):=by
 intro pins s σ H Q I ⟨G,ρ,E,hG,hS,hx,hr⟩
 refine wpAny_Call_Name_kw (eG I hg hm hv ?_ hn hdb)
 unfold aA at hr
 rw [mC] at hr
 refine PyProof.Rows.callWith_builtin1 (L2.thn (b9 ha eI he pos pins s σ H (fun vs H1=> ∃ v d G1,vs=[v]/\Step G H G1 H1/\Seq X ad G1 H1 d v/\RK X.K ad G1 H1 (r [d]) Q E) I ?_) fun us s1 ⟨vs,H1,I1,r1,v,d,G1,e1,st,q,k⟩=> ?_) he rfl
 ·exact p0 hG hS hx hr fun v d G1 H1 st q k=>⟨v,d,G1,rfl,st,q,k⟩
 ·subst e1
  obtain⟨u,rfl,ru⟩:=kR r1
  exact ho pins s1 σ H1 G1 d v u Q E I1 st.gh q ru k
theorem vF {x:Str} {T:String} {r:Fn} (ho:BOp X ad (.type T) r) (hg:L2.Gl X x) (hm:X.mg x=none) (hv:bootBuiltins x=some (.type T)) (ha:ML X ad a f) (hn:x≠"__name__") (hdb:(x==("__debug__":Str))=false)
  (he:starEach [a] X.env=(false,eval a X.env)::starEach [] X.env):ME X ad (.Call (.Name x p) [a] [] pos) (aA r [f]):=by
 intro pins s σ H Q I ⟨G,ρ,E,hG,hS,hx,hr⟩
 refine wpAny_Call_Name_kw (eG I hg hm hv ?_ hn hdb)
 unfold aA at hr
 rw [mC] at hr
 refine PyProof.Rows.callWith_type1 (L2.thn (b9 ha eI he pos pins s σ H (fun vs H1=> ∃ v d G1,vs=[v]/\Step G H G1 H1/\Seq X ad G1 H1 d v/\RK X.K ad G1 H1 (r [d]) Q E) I ?_) fun us s1 ⟨vs,H1,I1,r1,v,d,G1,e1,st,q,k⟩=> ?_) he rfl
 ·exact p0 hG hS hx hr fun v d G1 H1 st q k=>⟨v,d,G1,rfl,st,q,k⟩
 ·subst e1
  obtain⟨u,rfl,ru⟩:=kR r1
  exact ho pins s1 σ H1 G1 d v u Q E I1 st.gh q ru k
theorem aDp:BOp X ad (.builtin "len") pB:=by
 intro pins s σ H G x v u Q E I hG q ru hr
 have hr':RK X.K ad G H (match items x with | some xs=> .ok (.int xs.length) | none=>aPg x) Q E:=hr
 cases e:items x with
 | none=>
  rw [e] at hr'
  cases x with
  | str z=>
   have hr2:RK X.K ad G H (if z.length<=100000 then .ok (.int z.length) else .bad) Q E:=hr'
   by_cases hl:z.length<=100000
   ·rw [if_pos hl] at hr2
    rcases q with q | ⟨_,_,_,y,_⟩
    ·unfold Rep at q;subst q
     exact nH pins s σ H _ [u] Q I (.cons ru .nil) ⟨_,rfl,Nat.le_trans hl (by decide),hr2.ok_now hG aM⟩
    ·cases y
   ·rw [if_neg hl] at hr2;exact hr2.elim
  | _=>exact ay hr'
 | some ds=>
  rw [e] at hr'
  obtain⟨p,vs,rfl,hq,rq⟩:=q.items hG e
  have hq':SqL X.K H p vs\/SqT X.K H p vs:=hq.elim (fun z=> .inr z.2) fun z=> .inl z.2
  refine nG pins s σ H [.ref p] [u] Q I (.cons ru .nil) ⟨p,vs,rfl,hq', ?_⟩
  rw [rq.length]
  exact hr'.ok_now hG aM
theorem aDq:BOp X ad (.type "int") aHy:=by
 intro pins s σ H G x v u Q E I hG q ru hr
 cases x<;>try exact ay hr
 ·rcases q with q | ⟨_,_,_,z,_⟩
  ·unfold Rep at q;subst q
   exact m8 pins s σ H _ [u] Q I (.cons ru .nil) (.inr ⟨_,rfl,hr.ok_now hG aM⟩)
  ·cases z
 ·rcases q with q | ⟨_,_,_,z,_⟩
  ·unfold Rep at q;subst q
   exact m8 pins s σ H _ [u] Q I (.cons ru .nil) (.inl ⟨_,rfl,hr.ok_now hG aM⟩)
  ·cases z
 ·rename_i x
  rcases q with q | ⟨_,_,_,z,_⟩
  ·unfold Rep at q;subst q
   obtain⟨t,rfl⟩:=(show ∃ t,u=Value.str x t from ru)
   have hr':RK X.K ad G H (match x.cps.toList with | [c]=>if 48<=c/\c<58 then .ok (.int ((c - 48:Nat):Int)) else .bad | _=> .bad) Q E:=hr
   split at hr'
   ·rename_i c ex
    by_cases hc:48<=c/\c<58
    ·rw [if_pos hc] at hr'
     obtain⟨d,hd,rfl⟩: ∃ d,d<10/\c=48+d:=⟨c - 48,by omega,by omega⟩
     have ex':x=⟨#[48+d]⟩:=PySem.Str.ext' (by rw [<-Array.toList_inj];exact ex)
     subst ex'
     have hn:PySem.intText? ⟨#[48+d]⟩=some (((48+d - 48:Nat):Nat):Int):=(by decide+kernel: ∀ d:Fin 10,PySem.intText? ⟨#[48+d.val]⟩=some (((48+d.val - 48:Nat):Nat):Int)) ⟨d,hd⟩
     exact PySem.W.KIN.call_text hn (by show 1<=640;decide) ⟨.int _,H,I.tok _,⟨_,rfl⟩,hr'.ok_now hG aM⟩
    ·rw [if_neg hc] at hr'
     exact hr'.elim
   ·exact hr'.elim
  ·cases z
theorem aDr:BOp X ad (.builtin "abs") aMv:=by
 intro pins s σ H G x v u Q E I hG q ru hr
 cases x<;>try exact ay hr
 rcases q with q | ⟨_,_,_,z,_⟩
 ·unfold Rep at q;subst q
  exact yQ pins s σ H _ [u] Q I (.cons ru .nil) ⟨_,rfl,hr.ok_now hG aM⟩
 ·cases z
theorem zA:BOp X ad (.type "list") kT:=by
 intro pins s σ H G x v u Q E I hG q ru hr
 have hr':RK X.K ad G H (match items x with | some xs=> .ow xs | none=> .bad) Q E:=hr
 cases e:items x with
 | none=>rw [e] at hr';exact hr'.elim
 | some ds=>
  rw [e] at hr'
  obtain⟨p,vs,rfl,hq,rq⟩:=q.items hG e
  have hq':SqL X.K H p vs\/SqT X.K H p vs:=hq.elim (fun z=> .inr z.2) fun z=> .inl z.2
  exact nI pins s σ H [.ref p] [u] Q I (.cons ru .nil) ⟨p,vs,rfl,hq',fun l hl=>hr'.ow_new hG rq hl⟩
theorem vG:BOp X ad (.type "tuple") bN:=by
 intro pins s σ H G x v u Q E I hG q ru hr
 have hr':RK X.K ad G H (match items x with | some xs=> .ok (.tup xs) | none=> .bad) Q E:=hr
 cases e:items x with
 | none=>rw [e] at hr';exact hr'.elim
 | some ds=>
  rw [e] at hr'
  obtain⟨p,vs,rfl,hq,rq⟩:=q.items hG e
  rcases hq with ⟨e2,hq⟩ | ⟨e2,hq⟩
  ·refine gQ pins s σ H [.ref p] [u] Q I (.cons ru .nil) ⟨p,vs,rfl, .inr ⟨hq,hr'.ok_now hG ?_⟩⟩
   rcases q with q | ⟨_,_,_,z,_⟩
   ·rw [e2] at q;exact q
   ·rw [e2] at z;cases z
  ·exact gQ pins s σ H [.ref p] [u] Q I (.cons ru .nil) ⟨p,vs,rfl, .inl ⟨hq,fun l hl=>hr'.tup_new hG rq hl⟩⟩
theorem jU: ∀ {ds:List D} {ns:List Int} {vs:List V},dI ds=some ns->aF X.K ad G ds vs->vs=ns.map V.int
 | [],ns,vs,e,r=>by
  cases e
  unfold aF at r
  exact r
 | d::ds,ns,vs,e,r=>by
  cases d<;>try (unfold dI at e;cases e)
  rename_i i
  unfold dI at e
  obtain⟨ms,e1,e2⟩:=zMd e
  subst e2
  unfold aF at r
  obtain⟨v,r',rfl,r1,r2⟩:=r
  unfold Rep at r1
  subst r1
  rw [jU e1 r2]
  rfl
theorem iG: ∀ {ds:List D} {ns:List Bool} {vs:List V},e9 ds=some ns->aF X.K ad G ds vs->vs=ns.map V.bl
 | [],ns,vs,e,r=>by
  cases e
  unfold aF at r
  exact r
 | d::ds,ns,vs,e,r=>by
  cases d<;>try (unfold e9 at e;cases e)
  rename_i i
  unfold e9 at e
  obtain⟨ms,e1,e2⟩:=zMd e
  subst e2
  unfold aF at r
  obtain⟨v,r',rfl,r1,r2⟩:=r
  unfold Rep at r1
  subst r1
  rw [iG e1 r2]
  rfl
theorem i9 {A:Around} (hh:A.handled=none) (I:Inv X pins σ H s) {p:Addr} {vs:List V} (hq:SqL X.K H p vs\/SqT X.K H p vs) {Ex:Value->Shared->Prop} {Q':Value->Shared->Prop}
  (k: ∀ (its:List Value) (s2:Shared) (I':Addr) (fp wr:List Addr) (Stt:Nat->Heap->Prop),bF vs its->Walks X.prog X.w A I' fp wr its.length (fun i v=>its[i]? =some v) Stt->Stt 0 s2.heap->(∀ b∈fp,b<s2.heap.objs.size)->s2.os=s.os->s2.gens=s.gens->s2.drawn=s.drawn->
   (∀ b o,s.heap.get? b=some o->b∉wr)->(∀ b o,s.heap.get? b=some o->s2.heap.get? b=some o)->Q' (.ref I') s2):wpAny (model X.prog X.w) A (pyIter (.ref p)) Q' Ex s:=by
 rcases hq with hq | hq
 ·obtain⟨its,rv,pl,_⟩:=I.list hq
  have hlt:p<s.heap.objs.size:=by obtain⟨o,n,e,_⟩:=pl;exact ah e
  refine wpAny_pyIter_list pl.isList (k its _ s.heap.objs.size [s.heap.objs.size,p] [s.heap.objs.size] (fun i h=>h.IsListIter s.heap.objs.size p i/\h.IsList p its.toArray) rv ?_ (And.intro ⟨_,ag _ rfl,rfl,rfl⟩ ?_) ?_ rfl rfl rfl ?_ ?_)
  ·have W:=Walks.list (prog:=X.prog) (w:=X.w) hh s.heap.objs.size p (bg hlt) its.toArray
   simpa using W
  ·obtain⟨o,n,e,c,d⟩:=pl
   exact⟨o,af _ e,c,n,d.2⟩
  ·intro b hb
   rcases aq.mp hb with rfl | hb
   ·rw [ai];exact Nat.lt_succ_self _
   ·have:b=p:=by simpa using hb
    subst this
    rw [ai];exact Nat.lt_succ_of_lt hlt
  ·intro b o e hb
   have:b=s.heap.objs.size:=by simpa using hb
   subst this
   exact absurd (ah e) (Nat.lt_irrefl _)
  ·exact fun b o e=>af _ e
 ·obtain⟨its,rv,pl,_⟩:=I.tuple hq
  have hlt:p<s.heap.objs.size:=pl.lt
  refine wpAny_pyIter_tuple (show s.heap.IsTuple p its.toArray from pl) (k its _ s.heap.objs.size [s.heap.objs.size,p] [s.heap.objs.size] (fun i h=>h.IsTupleIter s.heap.objs.size p i/\h.IsTuple p its.toArray) rv ?_ (And.intro ⟨_,ag _ rfl,rfl,rfl⟩ ?_) ?_ rfl rfl rfl ?_ ?_)
  ·have W:=Walks.tuple (prog:=X.prog) (w:=X.w) hh s.heap.objs.size p (bg hlt) its.toArray
   simpa using W
  ·obtain⟨o,e,c⟩:=pl
   exact⟨o,af _ e,c⟩
  ·intro b hb
   rcases aq.mp hb with rfl | hb
   ·rw [ai];exact Nat.lt_succ_self _
   ·have:b=p:=by simpa using hb
    subst this
    rw [ai];exact Nat.lt_succ_of_lt hlt
  ·intro b o e hb
   have:b=s.heap.objs.size:=by simpa using hb
   subst this
   exact absurd (ah e) (Nat.lt_irrefl _)
  ·exact fun b o e=>af _ e
end
section
variable {X:Cx} {ad:Ad} {pins:List (Addr×Obj)} {s:Shared} {σ:St} {H G:Hp} {ρ:Rho} {Q:VK} {E:Nat->Hp->Prop} {pos p:Pos} {a b c:Expr} {f g h:F}
theorem _root_.L2.Inv.moved {wr:List Addr} {s2 s':Shared} (I:Inv X pins σ H s) (k1: ∀ b o,s.heap.get? b=some o->s2.heap.get? b=some o) (k2: ∀ b o,s.heap.get? b=some o->b∉wr) (e1:s2.os=s.os) (e2:s2.gens=s.gens) (e3:s2.drawn=s.drawn)
  (m:Moved wr (fun a b=>b=a) s2 s'):Inv X pins σ H s':=by
 have e:s'={ s with heap:=s'.heap,toks:=s'.toks }:=by
  obtain⟨h',g',d',t',o'⟩:=s'
  obtain⟨m1,m2,m3,m4,m5⟩:=m
  simp only at m2 m3 m4 ⊢
  rw [m2,m3,m4,e1,e2,e3]
 rw [e]
 exact I.kept fun b o q=>m.heap b o (k2 b o q) (k1 b o q)
theorem rP {ns:List Int} {its:List Value} (r:bF (ns.map V.int) its) {i:Nat} {v:Value} (e:its[i]? =some v): ∃ t,v= .int (ns.getD i 0) t:=by
 have hl:=r.length
 have hi:i<its.length:=(aw.mp e).1
 have hi':i<ns.length:=by rw [am] at hl;omega
 have e1:(ns.map V.int)[i]? =some (V.int ns[i]):=by simp [hi']
 obtain⟨u,e2,t,e3⟩:=r.get e1
 rw [e] at e2
 cases e2
 refine⟨t, ?_⟩
 rw [e3]
 simp [List.getD,hi']
theorem aDs (hh:X.A.handled=none):BOp X ad (.builtin "sum") tG:=by
 intro pins s σ H G x v u Q E I hG q ru hr
 have hr':RK X.K ad G H (match(items x).bind dI with | some xs=> .ok (.int xs.sum) | none=> .bad) Q E:=hr
 cases e:items x with
 | none=>rw [e] at hr';exact hr'.elim
 | some ds=>
  rw [e] at hr'
  have hr2:RK X.K ad G H (match dI ds with | some xs=> .ok (.int xs.sum) | none=> .bad) Q E:=hr'
  cases e2:dI ds with
  | none=>rw [e2] at hr2;exact hr2.elim
  | some ns=>
   rw [e2] at hr2
   obtain⟨p,vs,rfl,hq,rq⟩:=q.items hG e
   have hq':SqL X.K H p vs\/SqT X.K H p vs:=hq.elim (fun z=> .inr z.2) fun z=> .inl z.2
   cases (show u=Value.ref p from ru)
   have ev:=jU e2 rq
   subst ev
   refine call_sum_walkAnyS (i9 (A:=X.A.in1) hh I hq' fun its s2 I' fp wr Stt rv W st hfp h1 h2 h3 h4 h5=> ?_)
   refine⟨I',fp,wr,_,its.length,_,_,fun i=>ns.getD i 0,rfl,W.toS,st,hfp,fun i v e=>rP rv e,fun s' t' m=> ?_⟩
   refine⟨.int ns.sum,H,I.moved h5 h4 h1 h2 h3 m,⟨t', ?_⟩,hr2.ok_now hG aM⟩
   rw [preSum_getD, <-rv.length,am,List.take_length]
theorem aIq {ns:List Bool} {its:List Value} (r:bF (ns.map V.bl) its) {i:Nat} {v:Value} (e:its[i]? =some v):v= .bool (ns.getD i false):=by
 have hl:=r.length
 have hi:i<its.length:=(aw.mp e).1
 have hi':i<ns.length:=by rw [am] at hl;omega
 have e1:(ns.map V.bl)[i]? =some (V.bl ns[i]):=by simp [hi']
 obtain⟨u,e2,e3⟩:=r.get e1
 rw [e] at e2
 cases e2
 have e4:v= .bool ns[i]:=e3
 rw [e4]
 simp [List.getD,hi']
theorem vH (ns:List Bool):(List.range ns.length).all (fun i=>ns.getD i false)=ns.all id:=by
 induction ns with
 | nil=>rfl
 | cons x xs ih=>
  rw [bo,List.range_succ_eq_map,List.all_cons,List.all_map,List.all_cons]
  have:(List.range xs.length).all ((fun i=>(x::xs).getD i false) ∘ Nat.succ)=xs.all id:=by
   rw [<-ih]
   rfl
  rw [this]
  rfl
theorem vI (ns:List Bool):(List.range ns.length).any (fun i=>ns.getD i false)=ns.any id:=by
 induction ns with
 | nil=>rfl
 | cons x xs ih=>
  rw [bo,List.range_succ_eq_map,List.any_cons,List.any_map,List.any_cons]
  have:(List.range xs.length).any ((fun i=>(x::xs).getD i false) ∘ Nat.succ)=xs.any id:=by
   rw [<-ih]
   rfl
  rw [this]
  rfl
theorem aDt (hh:X.A.handled=none):BOp X ad (.builtin "all") aGf:=by
 intro pins s σ H G x v u Q E I hG q ru hr
 have hr':RK X.K ad G H (match(items x).bind e9 with | some xs=> .ok (.bl (xs.all id)) | none=> .bad) Q E:=hr
 cases e:items x with
 | none=>rw [e] at hr';exact hr'.elim
 | some ds=>
  rw [e] at hr'
  have hr2:RK X.K ad G H (match e9 ds with | some xs=> .ok (.bl (xs.all id)) | none=> .bad) Q E:=hr'
  cases e2:e9 ds with
  | none=>rw [e2] at hr2;exact hr2.elim
  | some ns=>
   rw [e2] at hr2
   obtain⟨p,vs,rfl,hq,rq⟩:=q.items hG e
   have hq':SqL X.K H p vs\/SqT X.K H p vs:=hq.elim (fun z=> .inr z.2) fun z=> .inl z.2
   cases (show u=Value.ref p from ru)
   have ev:=iG e2 rq
   subst ev
   refine call_all_walkS (i9 (A:=X.A.in1) hh I hq' fun its s2 I' fp wr Stt rv W st hfp h1 h2 h3 h4 h5=> ?_)
   refine⟨I',fp,wr,_,its.length,_,_,fun i=>ns.getD i false,rfl,W.toS,st, ?_,fun s' m=> ?_⟩
   ·intro i v s' Q' E' e3 hQ
    rw [aIq rv e3]
    exact wpAny_truthy_bool hQ
   ·refine⟨.bl _,H,I.moved h5 h4 h1 h2 h3 m, ?_,hr2.ok_now hG a8⟩
    rw [<-rv.length,am,vH]
    rfl
theorem aDu (hh:X.A.handled=none):BOp X ad (.builtin "any") aLx:=by
 intro pins s σ H G x v u Q E I hG q ru hr
 have hr':RK X.K ad G H (match(items x).bind e9 with | some xs=> .ok (.bl (xs.any id)) | none=> .bad) Q E:=hr
 cases e:items x with
 | none=>rw [e] at hr';exact hr'.elim
 | some ds=>
  rw [e] at hr'
  have hr2:RK X.K ad G H (match e9 ds with | some xs=> .ok (.bl (xs.any id)) | none=> .bad) Q E:=hr'
  cases e2:e9 ds with
  | none=>rw [e2] at hr2;exact hr2.elim
  | some ns=>
   rw [e2] at hr2
   obtain⟨p,vs,rfl,hq,rq⟩:=q.items hG e
   have hq':SqL X.K H p vs\/SqT X.K H p vs:=hq.elim (fun z=> .inr z.2) fun z=> .inl z.2
   cases (show u=Value.ref p from ru)
   have ev:=iG e2 rq
   subst ev
   refine call_any_walkS (i9 (A:=X.A.in1) hh I hq' fun its s2 I' fp wr Stt rv W st hfp h1 h2 h3 h4 h5=> ?_)
   refine⟨I',fp,wr,_,its.length,_,_,fun i=>ns.getD i false,rfl,W.toS,st, ?_,fun s' m=> ?_⟩
   ·intro i v s' Q' E' e3 hQ
    rw [aIq rv e3]
    exact wpAny_truthy_bool hQ
   ·refine⟨.bl _,H,I.moved h5 h4 h1 h2 h3 m, ?_,hr2.ok_now hG a8⟩
    rw [<-rv.length,am,vI]
    rfl
theorem aQu {α:Type} {ds:List α} (h:ds.length=2): ∃ d e,ds=[d,e]:=by
 cases ds with
 | nil=>cases h
 | cons d r=>
  cases r with
  | nil=>cases h
  | cons e r=>
   cases r with
   | nil=>exact⟨d,e,rfl⟩
   | cons _ _=>simp at h
theorem tH {x:Str} {id:String} {r:Fn} {op:Int->Int->Int} (hd: ∀ i j,r [.int i, .int j]= .ok (.int (op i j))) (hb0: ∀ x y Q E G H,RK X.K ad G H (r [x,y]) Q E-> ∃ i j,x= .int i/\y= .int j)
  (ho:kQ X (.builtin id) (fun xs H Q=> ∃ i j,xs=[.int i, .int j]/\Q (.int (op i j)) H)) (hg:L2.Gl X x) (hm:X.mg x=none) (hv:bootBuiltins x=some (.builtin id)) (ha:ME X ad a f) (hb:ME X ad b g) (hn:x≠"__name__")
  (hdb:(x==("__debug__":Str))=false) (he:starEach [a,b] X.env=(false,eval a X.env)::starEach [b] X.env) (he2:starEach [b] X.env=(false,eval b X.env)::starEach [] X.env):ME X ad (.Call (.Name x p) [a,b] [] pos) (aA r [f,g]):=by
 refine PE.imp (yR (id:=id) ho hg hm hv (pZ ha (pZ hb aBw he2) he) hn hdb he (by rw [he2];rfl)) ?_
 rintro σ H Q ⟨G,ρ,E,hG,hS,hx,hr⟩
 refine vB hG hS hx hr fun vs ds G1 H1 st rq hl k=> ?_
 obtain⟨d,e,rfl⟩:=aQu hl
 obtain⟨i,j,rfl,rfl⟩:=hb0 d e Q E G1 H1 k
 unfold aF at rq
 obtain⟨v,r',rfl,r1,r2⟩:=rq
 unfold aF at r2
 obtain⟨v',r'',rfl,r3,r4⟩:=r2
 unfold aF at r4
 subst r4
 unfold Rep at r1 r3
 subst r1;subst r3
 rw [hd] at k
 exact⟨i,j,rfl,k.ok_now st.gh aM⟩
noncomputable def aBx (K:PySem.W.Frag) (ad:Ad) (n:Nat) (F:Fn):Sp:=fun vs H Q E=> ∃ G ds,Same G H/\aF K ad G ds vs/\ds.length=n/\RK K ad G H (F ds) Q (fun c H'=>E (.ref (ad.cls c)) none H')
theorem aDv {CX:CXT} {k:Nat} {f:Addr} {fd:FuncData} {ps:List Str} {sp:Sp} {E:XK} {us:List Value} {vs:List V} (F:FnOk X.prog X.w X.K X.mg X.base CX k f fd ps sp) (hr:Room k X.A) (hb:iC X.K fd ps [])
  (I:Inv X pins σ H s) (r:bF vs us) (h:sp vs H Q E) (hx: ∀ e s',CX X.stack H s E e s'->X.xe e s'):wpAny (model X.prog X.w) X.A (call (.ref f) us) (EP X pins σ Q) X.xe s:=by
 have hl:(us++[]).length=ps.length:=by rw [List.append_nil, <-r.length];exact F.len _ _ _ _ h
 refine wpAny_call (codeAny_mono (F.run X.A X.stack s H ⟨us,[]⟩ us vs Q E hr I.env0 (by have:=hb s us I.kIn hl;rwa [List.append_nil] at this) r h) fun r s' hq=> ?_)
 cases r with
 | error e=>exact hx e s' hq
 | ok fl=>
  cases fl with
  | ret u=>exact I.after hq
  | next=>exact ay hq
  | brk=>exact ay hq
  | cont=>exact ay hq
structure FnGood (X:Cx) (ad:Ad) (k:Nat) (x:Str) (n:Nat) (F:Fn) (f:Addr):Prop where
 mg:X.mg x=some (.ref f)
 kp:PySem.W.keepIn X.K (.ref f)=true
 ok: ∃ fd ps,FnOk X.prog X.w X.K X.mg X.base (CXe X.prog X.w) k f fd ps (aBx X.K ad n F)/\iC X.K fd ps []
theorem vJ {k n:Nat} {x:Str} {F:Fn} {f:Addr} {us:List Value} {vs:List V} {ds:List D} (T:FnGood X ad k x n F f) (hr:Room k X.A) (I:Inv X pins σ H s) (hG:Same G H) (hx:XP X ad σ E) (r:bF vs us) (rq:aF X.K ad G ds vs) (hl:ds.length=n)
  (h:RK X.K ad G H (F ds) Q E):wpAny (model X.prog X.w) X.A (call (.ref f) us) (EP X pins σ Q) X.xe s:=by
 obtain⟨fd,ps,F',hb⟩:=T.ok
 exact aDv (E:=xk ad E) F' hr hb I r ⟨G,ds,hG,rq,hl,h.impE fun c H' e=>⟨c,rfl,e⟩⟩ fun e s' hc=>hx pins H s e s' I hc
theorem aDw {k n:Nat} {x:Str} {F:Fn} {f:Addr} {es:List Expr} {fs:List SK.F} (T:FnGood X ad k x n F f) (hr:Room k X.A) (hg:L2.Gl X x) (hdb:(x==("__debug__":Str))=false) (ha:MA X ad (a::es) fs) (hn:fs.length=n)
  (he:starEach (a::es) X.env=(false,eval a X.env)::starEach es X.env) (hpl:(backTo pos (starEach es X.env)).any (·.1)=false):ME X ad (.Call (.Name x p) (a::es) [] pos) (aA F fs):=by
 intro pins s σ H Q I ⟨G,ρ,E,hG,hS,hx,hr'⟩
 refine wpAny_Call_Name_kw (lY I hg T.mg ?_ hdb)
 refine PySem.W.callWith_K (h₀:=X.base) I.ok.mod.kin T.kp (L2.thn (ha pos pins s σ H (fun vs H1=> ∃ ds G1,Step G H G1 H1/\aF X.K ad G1 ds vs/\ds.length=fs.length/\RK X.K ad G1 H1 (F ds) Q E) I
  (vB hG hS hx hr' fun vs ds G1 H1 st rq hl k=>⟨ds,G1,st,rq,hl,k⟩)) fun us s1 ⟨vs,H1,I1,r,ds,G1,st,rq,hl,k⟩=>⟨I1.kIn, ?_⟩) he hpl
 exact vJ T hr I1 st.gh hx r rq (hl.trans hn) k
structure FnAt (X:Cx) (ad:Ad) (k:Nat) (n:Nat) (F:Fn) (f:Addr):Prop where
 kp:PySem.W.keepIn X.K (.ref f)=true
 ok: ∃ fd ps,FnOk X.prog X.w X.K X.mg X.base (CXe X.prog X.w) k f fd ps (aBx X.K ad n F)/\iC X.K fd ps []
end
noncomputable def i0 (cells:List (Str×Addr)):List (Str×NameKind)->List (Str×Addr)->List (Str×Addr)
 | [],acc=>acc
 | (x,k)::r,acc=>i0 cells r (if k== .free then(x,(cells.lookup x).getD 0)::acc else acc)
theorem jA {cells:List (Str×Addr)}: ∀ {ns:List (Str×NameKind)} {acc:List (Str×Addr)} {x:Str} {c:Addr},(i0 cells ns acc).lookup x=some c->(∃ k,(x,k)∈ns/\k= .free/\c=(cells.lookup x).getD 0)\/acc.lookup x=some c
 | [],acc,x,c,h=> .inr h
 | (y,k)::r,acc,x,c,h=>by
  rcases jA (ns:=r) h with ⟨k',h1,h2,h3⟩ | h
  ·exact .inl ⟨k', .tail _ h1,h2,h3⟩
  ·by_cases hk:(k==NameKind.free)=true
   ·rw [if_pos hk,List.lookup_cons] at h
    cases hx:x==y with
    | true=>
     rw [hx] at h
     have e:x=y:=eq_of_beq hx
     subst e
     exact .inl ⟨k, .head _,eq_of_beq hk,(Option.some.inj h).symm⟩
    | false=>
     rw [hx] at h
     exact .inr h
   ·rw [if_neg hk] at h
    exact .inr h
theorem rQ {cells:List (Str×Addr)}: ∀ {ns:List (Str×NameKind)} {acc:List (Str×Addr)} {x:Str},(acc.lookup x).isSome=true->((i0 cells ns acc).lookup x).isSome=true
 | [],_,_,h=>h
 | (y,k)::r,acc,x,h=>by
  refine rQ (ns:=r) ?_
  by_cases hk:(k==NameKind.free)=true
  ·rw [if_pos hk,List.lookup_cons]
   cases x==y with
   | true=>rfl
   | false=>exact h
  ·rw [if_neg hk]
   exact h
theorem jB {cells:List (Str×Addr)}: ∀ {ns:List (Str×NameKind)} {acc:List (Str×Addr)} {x:Str},(x,NameKind.free)∈ns->((i0 cells ns acc).lookup x).isSome=true
 | [],_,_,h=>nomatch h
 | (y,k)::r,acc,x,h=>by
  rcases aq.mp h with e | h
  ·cases e
   refine rQ (ns:=r) ?_
   rw [if_pos (by rfl),List.lookup_cons,beq_self_eq_true]
   rfl
  ·exact jB (ns:=r) h
theorem iH {sc:Scope} {env:PySem.Env} (h: ∀ x,(x,NameKind.free)∈sc.names->(env.cells.lookup x).isSome=true):closureFor sc env=pure (i0 env.cells sc.names []):=by
 have go: ∀ (ns:List (Str×NameKind)) (acc:List (Str×Addr)),(∀ x,(x,NameKind.free)∈ns->(env.cells.lookup x).isSome=true)->
   (forIn ns acc (fun(p:Str×NameKind) (cs:List (Str×Addr))=>if p.2== .free then do let c<-cellOf env p.1;pure (ForInStep.yield ((p.1,c)::cs)) else pure (ForInStep.yield cs)):Sem (List (Str×Addr)))=pure (i0 env.cells ns acc):=by
  intro ns
  induction ns with
  | nil=>intro acc _;rfl
  | cons p r ih=>
   intro acc hp
   obtain⟨x,k⟩:=p
   rw [List.forIn_cons]
   by_cases hk:(k==NameKind.free)=true
   ·have ek:k= .free:=eq_of_beq hk
    subst ek
    obtain⟨c,hc⟩:=Option.isSome_iff_exists.mp (hp x (.head _))
    have e1:cellOf env x=pure c:=by unfold cellOf;rw [hc]
    have e2:=ih ((x,c)::acc) fun y hy=>hp y (.tail _ hy)
    simp only [beq_self_eq_true,if_true,e1]
    show(forIn r ((x,c)::acc) _:Sem (List (Str×Addr)))=_
    rw [e2]
    show pure _=pure (i0 env.cells r (if(NameKind.free==NameKind.free)=true then(x,(env.cells.lookup x).getD 0)::acc else acc))
    rw [if_pos (by rfl),hc]
    rfl
   ·simp only [hk]
    show(forIn r acc _:Sem (List (Str×Addr)))=_
    rw [ih acc fun y hy=>hp y (.tail _ hy)]
    show pure _=pure (i0 env.cells r (if(k==NameKind.free)=true then _ else acc))
    rw [if_neg hk]
 have e:=go sc.names [] h
 have e2:closureFor sc env=((forIn sc.names ([]:List (Str×Addr)) (fun(p:Str×NameKind) (cs:List (Str×Addr))=>if p.2== .free then do let c<-cellOf env p.1;pure (ForInStep.yield ((p.1,c)::cs)) else pure (ForInStep.yield cs)):Sem (List (Str×Addr))) >>= fun cs=>pure cs):=rfl
 rw [e2,e]
 rfl
theorem bM {env:PySem.Env} {x:Str}: ∀ {names:List (Str×NameKind)},(names.map fun(n,k)=>if(k==NameKind.free&&env.scope.kind== .function&&env.kindOf n==some .cell) then(n,NameKind.cell) else(n,k)).lookup x=
  (names.lookup x).map fun k=>if(k==NameKind.free&&env.scope.kind== .function&&env.kindOf x==some .cell) then NameKind.cell else k
 | []=>rfl
 | (n,k)::r=>by
  rw [List.map_cons]
  have ih:= @bM env x r
  show List.lookup x ((if(k==NameKind.free&&env.scope.kind== .function&&env.kindOf n==some .cell)=true then(n,NameKind.cell) else(n,k))::_)=_
  by_cases hc:(k==NameKind.free&&env.scope.kind== .function&&env.kindOf n==some .cell)=true
  ·rw [if_pos hc,List.lookup_cons,List.lookup_cons]
   cases hx:x==n with
   | true=>
    have e:x=n:=eq_of_beq hx
    subst e
    simp only [Option.map,hc,if_true]
   | false=>exact ih
  ·rw [if_neg hc,List.lookup_cons,List.lookup_cons]
   cases hx:x==n with
   | true=>
    have e:x=n:=eq_of_beq hx
    subst e
    simp only [Option.map]
    rw [if_neg hc]
   | false=>exact ih
noncomputable def aL3:Nat->Nat->TGs
 | _,0=>aMg
 | j,n+1=>aCy (iY j) (aL3 (j+1) n)
noncomputable def f8:Nat->List V->St->St
 | _,[],σ=>σ
 | j,v::r,σ=>f8 (j+1) r (σ.set j (some v))
theorem vK: ∀ {vs:List V} {j:Nat} {σ:St} {H:Hp} {Q:St->Hp->Prop},Q (f8 j vs σ) H->aL3 j vs.length vs σ H Q
 | [],_,_,_,_,h=>⟨rfl,h⟩
 | v::r,j,σ,H,Q,h=>⟨v,r,rfl,vK (vs:=r) (j:=j+1) (σ:=σ.set j (some v)) h⟩
theorem eR: ∀ {vs:List V} {j:Nat} {σ:St},(f8 j vs σ).length=σ.length
 | [],_,_=>rfl
 | v::r,j,σ=>by
  show(f8 (j+1) r (σ.set j (some v))).length=_
  rw [eR (vs:=r),List.length_set]
theorem jV: ∀ {vs:List V} {j i:Nat} {σ:St},j+vs.length<=i\/i<j->(f8 j vs σ)[i]? =σ[i]?
 | [],_,_,_,_=>rfl
 | v::r,j,i,σ,h=>by
  show(f8 (j+1) r (σ.set j (some v)))[i]? =_
  simp only [bo] at h
  rw [jV (vs:=r) (by omega),az (by omega)]
theorem oA: ∀ {vs:List V} {j i:Nat} {σ:St} {v:V},vs[i]? =some v->j+vs.length<=σ.length->(f8 j vs σ)[j+i]? =some (some v)
 | [],_,_,_,_,h,_=>by simp at h
 | w::r,j,0,σ,v,h,hl=>by
  simp at h
  subst h
  show(f8 (j+1) r (σ.set j (some w)))[j]? =_
  rw [jV (vs:=r) (.inr (by omega)),bh (by simp only [bo] at hl;omega)]
 | w::r,j,i+1,σ,v,h,hl=>by
  show(f8 (j+1) r (σ.set j (some w)))[j+(i+1)]? =_
  have e:j+(i+1)=(j+1)+i:=by omega
  rw [e]
  exact oA (vs:=r) (by simpa using h) (by simp only [bo,List.length_set] at hl ⊢;omega)
section
variable {X:Cx} {ad:Ad}
theorem oB (hN:X.N.Nodup): ∀ {es:List Expr} {xs:List Str} {j:Nat},d7 (fun(e:Expr)=>match e with | .Name x _=>some x | _=>none) es=some xs->(∀ (i:Nat) (x:Str),xs[i]? =some x->X.N[j+i]? =some x/\X.env.scope.names.lookup x=some .local)->PGs X es (aL3 j xs.length)
 | [],xs,j,e,_=>by
  cases e
  exact pH
 | a::es,xs,j,e,h=>by
  unfold d7 at e
  cases a<;>try (cases e)
  rename_i x px
  simp only at e
  obtain⟨r,e1,e2⟩:=zMd e
  subst e2
  obtain⟨h1,h2⟩:=h 0 x rfl
  refine i5 (jI hN (by simpa using h1) (.inl h2) (.inr h2)) (oB hN e1 fun i y hy=> ?_) rfl
  obtain⟨h3,h4⟩:=h (i+1) y (by simpa using hy)
  exact⟨by rw [<-h3];congr 1;omega,h4⟩
noncomputable def gTg (K:PySem.W.Frag) (k:Nat):TG:=match k with
 | 0=>iY 0
 | n+1=>aG7 K (n+1) (aL3 0 (n+1))
theorem aNg {tg:Expr} {xs:List Str} {k:Nat} (hc:X.calm=true) (hN:X.N.Nodup) (e:bI tg=some (xs,k)) (h: ∀ (i:Nat) (x:Str),xs[i]? =some x->X.N[i]? =some x/\X.env.scope.names.lookup x=some .local):PG X tg (gTg X.K k):=by
 cases tg<;>try (cases e)
 ·rename_i x px
  obtain⟨h1,h2⟩:=h 0 x rfl
  exact jI hN h1 (.inl h2) (.inr h2)
 ·rename_i es j px
  unfold bI at e
  obtain⟨ys,e1,e2⟩:=zBd e
  by_cases hl:2<=ys.length
  ·rw [if_pos hl] at e2
   cases e2
   have P:=oB (X:=X) hN (j:=0) e1 fun i x hx=>by
    obtain⟨h1,h2⟩:=h i x hx
    exact⟨by rw [Nat.zero_add];exact h1,h2⟩
   have hlen:(assignEach es X.env).length=xs.length/\(assignEach es X.env).findIdx? (·.1)=none:=by
    clear P hl h e
    induction es generalizing xs with
    | nil=>cases e1;exact⟨rfl,rfl⟩
    | cons a r ih=>
     unfold d7 at e1
     cases a<;>try (cases e1)
     rename_i z pz
     simp only at e1
     obtain⟨r',e3,e4⟩:=zMd e1
     subst e4
     obtain⟨i1,i2⟩:=ih e3
     have ec:assignEach (Expr.Name z pz::r) X.env=(false,assign (.Name z pz) X.env)::assignEach r X.env:=rfl
     rw [ec]
     refine⟨by simp [i1], ?_⟩
     rw [List.findIdx?_cons]
     simp [i2]
   obtain⟨n,hn⟩: ∃ n,xs.length=n+1:=⟨xs.length - 1,by omega⟩
   rw [hn] at P ⊢
   exact uJ hc P (by rw [<-hn];exact hlen.1) hlen.2
  ·rw [if_neg hl] at e2
   cases e2
end
structure ItH (X:Cx) (ad:Ad) (J:It) (G H:Hp) (ds:List D):Prop where
 go: ∀ (i:Nat) (G1 H1:Hp) (d:D),Step G H G1 H1->ds[i]? =some d->J.go i H1/\ ∀ x H2,J.yld i H1 x H2-> ∃ G2,Step G1 H1 G2 H2/\Rep X.K ad G2 d x
 stop: ∀ (G1 H1:Hp),Step G H G1 H1->J.stop ds.length H1
 few:ds.length<=sizeLine
def IK (X:Cx) (ad:Ad) (G H:Hp) (r:R) (W:It->Hp->Prop) (E:Nat->Hp->Prop):Prop:=match r with
 | .ok d=> ∃ ds,gR d=some ds/\ ∀ J G' H',Step G H G' H'->ItH X ad J G' H' ds->W J H'
 | .ow xs=> ∀ J G' H',Step G H G' H'->ItH X ad J G' H' xs->W J H'
 | .ex c=> ∀ G' H',Step G H G' H'->E c H'
 | .bad=>False
noncomputable def tI (X:Cx) (ad:Ad) (f:F):TI:=fun σ H W=> ∃ G ρ E,Same G H/\SL X.K ad G H ρ σ/\XP X ad σ E/\IK X ad G H (f ρ) W E
abbrev MI (X:Cx) (ad:Ad) (tg e:Expr) (f:F):Prop:=PI X tg e (tI X ad f)
def Cel (sc:Scope):Prop:=nV sc=[]\/ ∃ x,nV sc=[x]/\sc.names.lookup x=some .cell
theorem cf0: ∀ {ns:List (Str×NameKind)} {a:Nat} {acc:List (Str×Addr)},(ns.filter fun p=>p.2== .cell).map (·.1)=[]->cellsFrom a ns acc=acc/\ ∀ h,pushCells h ns=h
 | [],_,_,_=>⟨rfl,fun _=>rfl⟩
 | (y,k)::r,a,acc,e=>by
  by_cases hk:(k==NameKind.cell)=true
  ·simp [List.filter_cons,hk] at e
  ·have e':(r.filter fun p=>p.2== .cell).map (·.1)=[]:=by simpa [List.filter_cons,hk] using e
   obtain⟨h1,h2⟩:=cf0 (a:=a) (acc:=acc) e'
   unfold cellsFrom pushCells
   exact⟨by rw [if_neg hk];exact h1,fun h=>by rw [if_neg hk];exact h2 h⟩
theorem cf1: ∀ {ns:List (Str×NameKind)} {a:Nat} {acc:List (Str×Addr)} {x:Str},(ns.filter fun p=>p.2== .cell).map (·.1)=[x]->cellsFrom a ns acc=(x,a)::acc/\ ∀ h,pushCells h ns=h.push { cls:= .type "cell",data:= .cell none }
 | [],_,_,_,e=>by simp at e
 | (y,k)::r,a,acc,x,e=>by
  by_cases hk:(k==NameKind.cell)=true
  ·have e':y=x/\(r.filter fun p=>p.2== .cell).map (·.1)=[]:=by simpa [List.filter_cons,hk] using e
   obtain⟨rfl,e'⟩:=e'
   obtain⟨h1,h2⟩:=cf0 (a:=a+1) (acc:=(y,a)::acc) e'
   unfold cellsFrom pushCells
   exact⟨by rw [if_pos hk];exact h1,fun h=>by rw [if_pos hk];exact h2 _⟩
  ·have e':(r.filter fun p=>p.2== .cell).map (·.1)=[x]:=by simpa [List.filter_cons,hk] using e
   obtain⟨h1,h2⟩:=cf1 (a:=a) (acc:=acc) e'
   unfold cellsFrom pushCells
   exact⟨by rw [if_neg hk];exact h1,fun h=>by rw [if_neg hk];exact h2 h⟩
noncomputable def clC (X:Cx) (sc:Scope) (L:Addr):List (Str×Addr):=cellsFrom (L+1) sc.names (i0 X.env.cells sc.names [])
theorem eS {X:Cx} {sc:Scope} {L:Addr} {y:Str} {c:Addr} (hc:Cel sc) (h:(clC X sc L).lookup y=some c):(nV sc=[y]/\c=L+1)\/(i0 X.env.cells sc.names []).lookup y=some c:=by
 unfold clC at h
 rcases hc with e | ⟨x,e,_⟩
 ·rw [(cf0 e).1] at h;exact .inr h
 ·rw [(cf1 e).1,List.lookup_cons] at h
  cases q:y==x with
  | true=>rw [q] at h;rw [eq_of_beq q];exact .inl ⟨e,(Option.some.inj h).symm⟩
  | false=>rw [q] at h;exact .inr h
theorem vL {X:Cx} {sc:Scope} {L:Addr} {x:Str} (e:nV sc=[x]):(clC X sc L).lookup x=some (L+1):=by
 unfold clC
 rw [(cf1 e).1,List.lookup_cons,beq_self_eq_true]
theorem rR {X:Cx} {sc:Scope} {L:Addr} {y:Str} {c:Addr} (hc:Cel sc) (hy:sc.names.lookup y=some .free) (h:(i0 X.env.cells sc.names []).lookup y=some c):(clC X sc L).lookup y=some c:=by
 unfold clC
 rcases hc with e | ⟨x,e,hx⟩
 ·rw [(cf0 e).1];exact h
 ·rw [(cf1 e).1,List.lookup_cons]
  cases q:y==x with
  | true=>rw [eq_of_beq q,hx] at hy;cases hy
  | false=>exact h
noncomputable def cX (X:Cx) (N':List Str) (sc:Scope) (s3:Shared) (H3:Hp) (fp:List Addr) (pins:List (Addr×Obj)):Cx:=
 { X with N:=N',s₀:=s3,H₀:=H3,env:=compEnvC sc (clC X sc s3.heap.objs.size) s3.heap.objs.size X.env,outer:=X.stack,stack:=X.stack,ex:=fp,fn:=fun y=>decide (nV sc=[y]),pn:=X.pn++pins,xe:=fun _ _=>False }
section
variable {X:Cx} {ad:Ad} {pins:List (Addr×Obj)} {s s3:Shared} {σ:St} {H H3 G:Hp} {ρ:Rho} {Q:VK} {E:Nat->Hp->Prop} {pos:Pos} {sc:Scope} {N':List Str} {fp:List Addr}
theorem zB {Y:Cx} {σ:St} (h:Y.xe=fun _ _=>False):XP Y ad σ (fun _ _=>False):=by
 intro pins H s e s' I hc
 obtain⟨ea,cls,a0,H',B,_,_,_,_,_,_,_,_,_,c,_,z⟩:=hc
 exact z.elim
theorem Un.sameBut {fs ex:List Addr} {H H':Hp} {h h1 h2:Heap} {C:Addr} (u:Un fs ex H H' h h1) (sb:Heap.SameBut C h1 h2) (hC:h.objs.size<=C):Un fs ex H H' h h2:=by
 have ne: ∀ b o,h.get? b=some o->b≠C:=fun b o e z=>by
  subst z
  exact absurd (bf (ah e) hC) (Nat.lt_irrefl _)
 refine⟨fun b o e n hb hx=> ?_,fun b o e n hb hx=> ?_,u.free,fun b o e hx=> ?_,u.tups,u.frzs,u.tbls⟩
 ·exact(sb.2 b (ne b o e)).trans (u.keep b o e n hb hx)
 ·obtain⟨sl,z⟩:=u.slot b o e n hb hx
  exact⟨sl,(sb.2 b (ne b o e)).trans z⟩
 ·obtain⟨o',z⟩:=u.there b o e hx
  exact⟨o',(sb.2 b (ne b o e)).trans z⟩
theorem zC {fpO: ∀ b∈fp,iR X pins H3 b} {h4:Heap} {m:Str->Option Value} {t':Nat} (I:Inv X pins σ H3 s3) (hk:sc.kind= .function) (hc:Cel sc)
  (hfree: ∀ x,(x,NameKind.free)∈sc.names->X.env.kindOf x=some .cell\/X.env.kindOf x=some .free) (hnd: ∀ x,(x,NameKind.free)∈sc.names->sc.names.lookup x=some .free)
  (hfo: ∀ b∈fp,b<s3.heap.objs.size) (hns:h4.Ns s3.heap.objs.size m) (hkeep: ∀ b o,s3.heap.get? b=some o->h4.get? b=some o) (hnew: ∀ x,nV sc=[x]->h4.IsCell (s3.heap.objs.size+1) none)
  {σc:St} (hl:σc.length=N'.length) (hσ: ∀ (i:Nat) (x:Str) (v:V),N'[i]? =some x->σc[i]? =some (some v)-> ∃ j:Nat,X.N[j]? =some x/\σ[j]? =some (some v)/\(x,NameKind.free)∈sc.names):
  Inv (cX X N' sc s3 H3 fp pins) [] σc H3 { s3 with heap:=h4,toks:=t' }:=by
 have hcl: ∀ x c,(i0 X.env.cells sc.names []).lookup x=some c->(x,NameKind.free)∈sc.names/\X.env.cells.lookup x=some c:=fun x c e=>by
  rcases jA e with ⟨k,h1,h2,h3⟩ | h
  ·subst h2
   refine⟨h1, ?_⟩
   obtain⟨c',hc'⟩:=I.ok.has x (hfree x h1)
   rw [hc'] at h3
   rw [h3]
   exact hc'
  ·cases h
 have hlt: ∀ x c,(i0 X.env.cells sc.names []).lookup x=some c->c<s3.heap.objs.size:=fun x c e=>by
  obtain⟨v,o,ho,_⟩:=I.cell x c (hcl x c e).2
  exact ah ho
 have stk: ∀ b,b∈frs X.stack->b=X.env.locals\/b∈X.fs:=fun b hb=>aq.mp (I.stkSub b hb)
 refine⟨⟨I.ok.mod,hk,I.ok.glob,I.ok.blt,aj _,fun x y c h1 h2=> ?_,fun x hx=> ?_,fun x c h1 h2=> ?_,I.ok.hd,I.ok.frames, .inl rfl,fun b hb=> ?_,I.bs,Nat.le_trans I.ok.bsz I.sz,fun b o e hb=> ?_,fun b hb hb'=> ?_,I.stack,I.stkFree⟩,
  rfl,I.bare,Un.kept hkeep,⟨m,hns,fun i x v h1 h2 h3=> ?_⟩,fun x c h=> ?_,I.hok.fresh (aj _),fun x c h=> ?_,fun q hq=> ?_,I.hok.kept hkeep,hl⟩
 ·rcases eS hc h1 with ⟨e1,z1⟩ | z1
  ·rcases eS hc h2 with ⟨e2,z2⟩ | z2
   ·rw [e1] at e2
    exact(List.cons.inj e2).1
   ·have:=hlt y c z2
    rw [z1] at this
    exact absurd this (Nat.not_lt.mpr (Nat.le_succ _))
  ·rcases eS hc h2 with ⟨e2,z2⟩ | z2
   ·have:=hlt x c z1
    rw [z2] at this
    exact absurd this (Nat.not_lt.mpr (Nat.le_succ _))
   ·exact I.ok.inj x y c (hcl x c z1).2 (hcl y c z2).2
 ·-- a name that is a cell here was free in the scope
  have e:(sc.names.lookup x).map (fun k=>if(k==NameKind.free&&X.env.scope.kind== .function&&X.env.kindOf x==some .cell) then NameKind.cell else k)=some .cell\/(sc.names.lookup x).map (fun k=>if(k==NameKind.free&&X.env.scope.kind== .function&&X.env.kindOf x==some .cell) then NameKind.cell else k)=some .free:=by
   rw [<-bM]
   exact hx
  cases q:sc.names.lookup x with
  | none=>rw [q] at e;rcases e with e | e<;>cases e
  | some k=>
   have hm:=PySem.mem_of_lookup q
   by_cases hkk:k= .free
   ·subst hkk
    obtain⟨c,hc'⟩:=Option.isSome_iff_exists.mp (jB (cells:=X.env.cells) (acc:=[]) hm)
    exact⟨c,rR hc q hc'⟩
   ·have hkf:(k==NameKind.free)=false:=by simpa using hkk
    rw [q] at e
    simp only [Option.map,hkf,Bool.false_and] at e
    rcases e with e | e
    ·have hkc:k= .cell:=by simpa using e
     subst hkc
     have hmem:x∈nV sc:=ao.mpr ⟨(x, .cell),List.mem_filter.mpr ⟨hm,by simp⟩,rfl⟩
     have hx1:nV sc=[x]:=by
      rcases hc with z | ⟨y,z,_⟩
      ·rw [z] at hmem;cases hmem
      ·rw [z] at hmem ⊢
       rw [List.mem_singleton.mp hmem]
     exact⟨_,vL hx1⟩
    ·exact absurd (by simpa using e) hkk
 ·have hx1:nV sc=[x]:=of_decide_eq_true h1
  have:=h2.symm.trans (vL hx1)
  cases this
  exact Nat.le_succ _
 ·obtain⟨f0,f1,f2,f3,f4,f5⟩:=fpO b hb
  refine⟨bg (hfo b hb),fun x c h=> ?_⟩
  rcases eS hc h with ⟨_,z⟩ | z
  ·rw [z];exact(bg (Nat.lt_succ_of_lt (hfo b hb))).symm
  ·exact f4 x c (hcl x c z).2
 ·obtain⟨f0,f1,f2,f3,f4,f5⟩:=fpO b hb
  rcases f3 with z | z
  ·exact I.ok.noex b o e z
  ·exact absurd (bf (ah e) (Nat.le_trans I.ok.bsz z)) (Nat.lt_irrefl _)
 ·obtain⟨f0,f1,f2,f3,f4,f5⟩:=fpO b hb
  rcases stk b hb' with z | z
  ·exact f1 z
  ·exact f2 z
 ·obtain⟨j,j1,j2,j3⟩:=hσ i x v h1 h2
  obtain⟨m0,hn0,hl0⟩:=I.loc
  have hkx:=hfree x j3
  have vis:Vis X.env.scope x:=by
   rcases hkx with z | z
   ·exact .inr (.inl z)
   ·exact .inr (.inr z)
  obtain⟨u,r,l⟩:=hl0 j x v j1 j2 vis
  refine⟨u,r, .inr ?_⟩
  rcases l with ⟨z,_⟩ | ⟨_,c,hcc,hcell'⟩
  ·rcases hkx with z' | z'
   ·have:X.env.kindOf x=some .local:=z
    rw [z'] at this;cases this
   ·have:X.env.kindOf x=some .local:=z
    rw [z'] at this;cases this
  ·refine⟨?_,c, ?_, ?_⟩
   ·have e1:(relabel sc X.env).names.lookup x=(sc.names.lookup x).map (fun k=>if(k==NameKind.free&&X.env.scope.kind== .function&&X.env.kindOf x==some .cell) then NameKind.cell else k):=bM
    have e2:(relabel sc X.env).names.lookup x=some .cell\/(relabel sc X.env).names.lookup x=some .free:=by
     rw [e1,hnd x j3]
     simp only [Option.map]
     split
     ·exact .inl rfl
     ·exact .inr rfl
    exact e2
   ·obtain⟨c',hc'⟩:=Option.isSome_iff_exists.mp (jB (cells:=X.env.cells) (acc:=[]) j3)
    have:=(hcl x c' hc').2
    rw [hcc] at this
    cases this
    exact rR hc (hnd x j3) hc'
   ·obtain⟨o,ho,hd⟩:=hcell'
    exact⟨o,hkeep _ _ ho,hd⟩
 ·rcases eS hc h with ⟨e,z⟩ | z
  ·rw [z];exact⟨none,hnew x e⟩
  ·obtain⟨v,o,ho,hd⟩:=I.cell x c (hcl x c z).2
   exact⟨v,o,hkeep _ _ ho,hd⟩
 ·rcases eS hc h with ⟨e,z⟩ | z
  ·rw [z];exact I.hok.fresh (Nat.le_succ _)
  ·exact I.freeC x c (hcl x c z).2
 ·have hq':q∈X.pn++pins:=by
   have h2:q∈(X.pn++pins)++[]:=hq
   rwa [List.append_nil] at h2
  obtain⟨e,n,ne,nf,d⟩:=I.pin q hq'
  refine⟨hkeep _ _ e,n,bg (ah e),fun z=> ?_,d⟩
  rcases stk _ z with z | z
  ·exact ne z
  ·exact nf z
theorem aBy {fpO: ∀ b∈fp,iR X pins H3 b} {σc:St} {H':Hp} {s':Shared} {h':Heap} {pn':List (Addr×Obj)} (I:Inv X pins σ H3 s3) (J:Inv (cX X N' sc s3 H3 fp pins) pn' σc H' s') (sb:Heap.SameBut s3.heap.objs.size s'.heap h'):Inv X pins σ H' { s' with heap:=h' }:=by
 have hfree:H' s3.heap.objs.size=none:=J.free
 refine I.call' (ch:=fp) (s':={ s' with heap:=h' }) J.os (Un.sameBut J.base sb (aj _)) (fun b u e=> ?_) J.bare fun b hb=> ?_
 ·refine(J.hok b u e).stay (fun c v hc q=> ?_) (fun _ q=>q) fun _ _ q=>q
  have ne:c≠s3.heap.objs.size:=by
   rintro rfl
   rcases hc with z | z
   ·rw [<-z] at e;rw [hfree] at e;cases e
   ·rw [hfree] at z;cases z
  exact(sb.2 c ne).trans q
 ·obtain⟨f0,f1,f2,f3,f4,f5⟩:=fpO b hb
  exact⟨f3,f1,f4,f5⟩
theorem p7 {prog:Program} {w:World} {A:Around} {Rr:Result->Shared->Prop} {s:Shared} {elt target iter:Expr} {ifs:List Expr} {scope:Scope} {pos:Pos} {it acc:Value} {env:PySem.Env} (Iv:Nat->Shared->Prop)
  (turn: ∀ n s,Iv n s->wpAny (model prog w) A (pyNext it) (fun r s₁=>match r with
   | none=>Rr (.ok .next) s₁
   | some v=>wpAny (model prog w) A (letOwnedTupleGo target it v) (fun _ s₁'=>wpAny (model prog w) A (assign target env v) (fun _ s₂=>
     wpAny (model prog w) A (forIn ifs true fun c r=>if r=true then do let ok<-isTrue c env (eval c env);pure (ForInStep.yield ok) else pure (ForInStep.yield r)) (fun ok s₃=>
      if ok=true then wpAny (model prog w) A (eval elt env) (fun x s₄=>
       wpAny (model prog w) A (call (.builtin "list.append") [acc,x]) (fun _ s₅=> ∃ m,m<n/\Iv m s₅) (fun _ _=>False) s₄) (fun _ _=>False) s₃
      else ∃ m,m<n/\Iv m s₃) (fun _ _=>False) s₂) (fun _ _=>False) s₁') (fun _ _=>False) s₁) (fun _ _=>False) s)
  (n:Nat) (h:Iv n s):
  codeAny (model prog w) A (.compLoop (.ListComp elt [⟨target,iter,ifs,0⟩] scope pos) 0 it acc env) Rr s:=by
 refine codeAny_loop rfl Iv (fun n s hI=> ?_) n h
 show wpAny _ A ((compTurn (.ListComp elt [⟨target,iter,ifs,0⟩] scope pos) 0 it acc env).onRaise (fun x=>do noteFrame x env;theTreesLotGoes x)) _ _ s
 refine wpAny_noted (wpAny_noRaise ?_)
 rw [compTurn_list]
 refine aa (wpAny_standAt (aa (wpAny_mono (turn n s hI) (fun r s₁ h₁=> ?_) fun _ _ h'=>h')))
 cases r with
 | none=>exact ae h₁
 | some v=>
  refine aa (wpAny_mono h₁ (fun _ s₁' h₁'=> ?_) fun _ _ h'=>h')
  refine aa (wpAny_mono h₁' (fun _ s₂ h₂=>aa (wpAny_mono h₂ (fun ok s₃ h₃=> ?_) fun _ _ h'=>h')) fun _ _ h'=>h')
  cases ok with
  | false=>exact ae ⟨rfl,h₃⟩
  | true=>
   exact aa (aa (wpAny_mono h₃ (fun x s₄ h₄=>aa (wpAny_mono h₄ (fun _ s₅ h₅=>ae (ae ⟨rfl,h₅⟩)) fun _ _ h'=>h')) fun _ _ h'=>h'))
theorem jW {f:D->Option (Option D)} {d:D} {r all:List D} (h:bG f (d::r)=some all):(f d=some none/\bG f r=some all)\/ ∃ x all',f d=some (some x)/\bG f r=some all'/\all=x::all':=by
 unfold bG at h
 cases e:f d with
 | none=>rw [e] at h;cases h
 | some o=>
  rw [e] at h
  cases o with
  | none=>exact .inl ⟨rfl,h⟩
  | some x=>
   obtain⟨a,h1,h2⟩:=zMd h
   exact .inr ⟨x,a,rfl,h1,h2.symm⟩
theorem vM {K:PySem.W.Frag} {G H:Hp} {ts cs:List Slot} {σ:St} (h:SL K ad G H (ts++cs) σ):SL K ad G H (ak ts.length .no++cs) σ:=by
 refine⟨by rw [<-h.len];simp,fun i sl e=> ?_⟩
 by_cases hi:i<ts.length
 ·rw [bt (by simpa using hi),List.getElem?_replicate,if_pos hi] at e
  cases e
  have hl:i<σ.length:=by rw [<-h.len,bn];omega
  exact⟨σ[i],by simp [hl],trivial⟩
 ·rw [bj (by simpa using hi),List.length_replicate] at e
  refine h.at_ i sl ?_
  rw [bj (by omega)]
  exact e
theorem aBz {K:PySem.W.Frag} {G H:Hp} {n:Nat} {cs:List Slot} {σ:St} {ds:List D} {vs:List V} (h:SL K ad G H (ak n .no++cs) σ) (r:aF K ad G ds vs) (hn:ds.length=n):SL K ad G H (ds.map Slot.sh++cs) (f8 0 vs σ):=by
 have hv:=r.length
 have hl:=h.len
 rw [bn,List.length_replicate] at hl
 refine⟨by rw [eR,bn,am];omega,fun i sl e=> ?_⟩
 by_cases hi:i<n
 ·rw [bt (by rw [am];omega),List.getElem?_map] at e
  cases e1:ds[i]? with
  | none=>rw [e1] at e;cases e
  | some d=>
   rw [e1] at e
   cases e
   obtain⟨v,e2,r2⟩:=r.get e1
   refine⟨some v, ?_,v,rfl,r2⟩
   have:=oA (j:=0) (σ:=σ) e2 (by omega)
   rwa [Nat.zero_add] at this
 ·rw [bj (by rw [am];omega),am,hn] at e
  obtain⟨ov,h1,h2⟩:=h.at_ i sl (by rw [bj (by rw [List.length_replicate];omega),List.length_replicate];exact e)
  exact⟨ov,by rw [jV (.inl (by omega))];exact h1,h2⟩
theorem aIr {K:PySem.W.Frag} {k:Nat} {d:D} {v:V} {ts cs:List Slot} {n:Nat} {σ:St} {G H Hs:Hp} {W:St->Hp->Prop} (e:tgt k d=some ts) (hn:n=if k=0 then 1 else k) (hG:Same G H) (r:Rep K ad G d v)
  (h:SL K ad G Hs (ak n .no++cs) σ) (q: ∀ σ',σ'.length=σ.length->SL K ad G Hs (ts++cs) σ'->W σ' H):ts.length=n/\gTg K k v σ H W:=by
 cases k with
 | zero=>
  cases e
  subst hn
  refine⟨rfl,q _ (by rw [List.length_set]) ?_⟩
  have:=aBz (ds:=[d]) (vs:=[v]) h (aF.cons r aF.nil) rfl
  exact this
 | succ k=>
  unfold tgt at e
  cases d<;>try (cases e)
  rename_i ds
  simp only at e
  by_cases hl:ds.length=k+1
  ·rw [if_pos hl] at e
   cases e
   rw [if_neg (by omega)] at hn
   subst hn
   unfold Rep at r
   obtain⟨a,vs,rfl,hq,rq⟩:=r
   refine⟨by rw [am];exact hl,a,vs,rfl,hG.seqT hq,by rw [rq.length];exact hl, ?_⟩
   have hvl:vs.length=k+1:=by rw [rq.length];exact hl
   have:=vK (vs:=vs) (j:=0) (σ:=σ) (H:=H) (Q:=W) (q _ eR (aBz h rq hl))
   rwa [hvl] at this
  ·rw [if_neg hl] at e
   cases e
end
section
variable {X:Cx} {ad:Ad} {pins:List (Addr×Obj)} {s s2 s3:Shared} {σ:St} {H H2 H3 G G2:Hp} {ρ:Rho} {Q:VK} {E:Nat->Hp->Prop} {pos:Pos} {sc:Scope} {N':List Str} {fp:List Addr}
 {tg it elt:Expr} {ifs:List Expr} {k nt:Nat} {xs:List Str} {cs:List Slot} {fc:Option F} {fe:F}
theorem gH {x:Str}: ∀ {N:List Str} {i:Nat},idx x N=some i->N[i]? =some x
 | [],_,e=>by cases e
 | y::r,i,e=>by
  unfold idx at e
  by_cases h:x=y
  ·rw [if_pos h] at e
   cases e
   subst h
   rfl
  ·rw [if_neg h] at e
   obtain⟨j,e1,e2⟩:=zMd e
   subst e2
   simpa using gH e1
def MTs (X:Cx) (ad:Ad) (ifs:List Expr) (fc:Option F):Prop:=match ifs,fc with
 | [],none=>True
 | [c],some f=>MT X ad c f
 | _,_=>False
def aDx (K:PySem.W.Frag) (ad:Ad) (H G':Hp) (d:SK.D) (v:V):Prop:= ∃ l q ws,d= .lst l/\v= .ref q/\H q=none/\G' q=some (.lst ws)/\aF K ad G' l ws
noncomputable def RN (K:PySem.W.Frag) (ad:Ad) (H G':Hp):List SK.D->List V->Prop:=Paired (aDx K ad H G')
theorem aDx.up {K:PySem.W.Frag} {H H1 G' G2:Hp} {d:SK.D} {v:V} (h:aDx K ad H1 G' d v) (s:Same H H1) (t:Same G' G2):aDx K ad H G2 d v:=by
 obtain⟨l,q,ws,h1,h2,h3,h4,h5⟩:=h
 exact⟨l,q,ws,h1,h2,s.free h3,t _ _ h4,h5.mono t⟩
theorem RN.mono {K:PySem.W.Frag} {H G' G2:Hp} {ds:List SK.D} {vs:List V} (h:RN K ad H G' ds vs) (t:Same G' G2):RN K ad H G2 ds vs:=Paired.mapP h fun _ _ z=>z.up (Same.refl _) t
theorem RN.snoc {K:PySem.W.Frag} {H G':Hp} {d:SK.D} {v:V} (h:aDx K ad H G' d v): ∀ {ds:List SK.D} {vs:List V},RN K ad H G' ds vs->RN K ad H G' (ds++[d]) (vs++[v])
 | _,_, .nil=> .cons h .nil
 | _,_, .cons a r=> .cons a (RN.snoc h r)
theorem ME.val {a:Expr} {f:F} {x:SK.D} (ha:ME X ad a f) (I:Inv X pins σ H s) (hG:Same G H) (hS:SL X.K ad G H ρ σ) (hx:XP X ad σ E) (hf:f ρ= .ok x\/ ∃ l,f ρ= .ow l/\x= .lst l):
  wpAny (model X.prog X.w) X.A (eval a X.env) (fun u s1=> ∃ v G1 H1,Inv X pins σ H1 s1/\bA v u/\Step G H G1 H1/\Rep X.K ad G1 x v/\((∀ y,f ρ≠ .ok y)->aDx X.K ad H G1 x v)) X.xe s:=by
 rcases hf with e | ⟨l,e,rfl⟩
 ·exact L2.thn (ha pins s σ H (fun v H1=> ∃ G1,Step G H G1 H1/\Rep X.K ad G1 x v) I ⟨G,ρ,E,hG,hS,hx,by rw [e];exact fun v G1 H1 st q=>⟨G1,st,q⟩⟩) fun u s1 ⟨v,H1,I1,r1,G1,st,q⟩=>⟨v,G1,H1,I1,r1,st,q,fun z=>absurd e (z x)⟩
 ·exact L2.thn (ha pins s σ H (fun v H1=> ∃ G1,Step G H G1 H1/\Rep X.K ad G1 (.lst l) v/\aDx X.K ad H G1 (.lst l) v) I ⟨G,ρ,E,hG,hS,hx,by
   rw [e]
   intro p vs G1 H1 st n m e' q
   have q':=q.mono (Same.upd_new (o:= .lst vs) m)
   exact⟨upd G1 p (.lst vs),st.share n m e',by unfold Rep;exact⟨p,vs,rfl,SqL.of aN,q'⟩,l,p,vs,rfl,rfl,n,aN,q'⟩⟩) fun u s1 ⟨v,H1,I1,r1,G1,st,q,nw⟩=>⟨v,G1,H1,I1,r1,st,q,fun _=>nw⟩
theorem MT.val {a:Expr} {f:F} {k:Bool} (ha:MT X ad a f) (I:Inv X pins σ H s) (hG:Same G H) (hS:SL X.K ad G H ρ σ) (hx:XP X ad σ E) (hf:f ρ= .ok (.bl k)):
  wpAny (model X.prog X.w) X.A (isTrue a X.env (eval a X.env)) (fun b s1=>b=k/\ ∃ G1 H1,Inv X pins σ H1 s1/\Step G H G1 H1) X.xe s:=by
 exact L2.thn (ha pins s σ H (fun b H1=>b=k/\ ∃ G1,Step G H G1 H1) I ⟨G,ρ,E,hG,hS,hx, .inl ⟨k,hf⟩,by rw [hf];exact fun v G1 H1 st q=>⟨k,by unfold Rep at q;exact q,rfl,G1,st⟩⟩) fun b s1 ⟨H1,I1,e,G1,st⟩=>⟨e,G1,H1,I1,st⟩
theorem cM {G1 H1 G2 H2:Hp} {D:Addr} {vs:List V} (st:Step G1 H1 G2 H2) (g:G1 D=none) (h:H1 D=some (.lst vs)):G2 D=none/\H2 D=some (.lst vs):=by
 refine⟨?_,st.sh _ _ h⟩
 cases z:G2 D with
 | none=>rfl
 | some o=>
  have:=st.nw D g (by rw [z];exact fun z=>nomatch z)
  rw [h] at this
  cases this
theorem oD {G1 H1 G2 H2:Hp} {D:Addr} {o:HO} (st:Step G1 H1 G2 H2) (n:H1 D=none) (g:G2 D=none):Step G1 H1 G2 (upd H2 D o):=by
 refine⟨st.sg,fun b u e=> ?_,fun b u e=> ?_,st.nw⟩
 ·have ne:b≠D:=fun z=>by subst z;rw [g] at e;cases e
  rw [aI ne]
  exact st.gh b u e
 ·have ne:b≠D:=fun z=>by subst z;rw [n] at e;cases e
  rw [aI ne]
  exact st.sh b u e
noncomputable def hid (D:Addr) (H:Hp):Hp:=fun b=>if b=D then none else H b
theorem jX {D b:Addr} {H:Hp} (h:b≠D):hid D H b=H b:=by unfold hid;rw [if_neg h]
theorem fP {D:Addr} {H:Hp}:hid D H D=none:=by unfold hid;rw [if_pos rfl]
theorem vN {D:Addr} {H:Hp}:Same (hid D H) H:=fun b o e=>by
 by_cases z:b=D
 ·subst z;rw [fP] at e;cases e
 ·rwa [jX z] at e
theorem vO {D:Addr} {H:Hp} {o:HO}:hid D (upd H D o)=hid D H:=by
 funext b
 by_cases z:b=D
 ·subst z;rw [fP,fP]
 ·rw [jX z,jX z,aI z]
theorem aIs {D:Addr} {H:Hp} (h:H D=none):hid D H=H:=by
 funext b
 by_cases z:b=D
 ·subst z;rw [fP,h]
 ·rw [jX z]
theorem jC {G1 H1 G2 H2:Hp} {D:Addr} (st:Step G1 H1 G2 H2) (g:G2 D=none):Step G1 (hid D H1) G2 (hid D H2):=by
 refine⟨st.sg,fun b u e=> ?_,fun b u e=> ?_,fun b h1 h2=> ?_⟩
 ·have ne:b≠D:=fun z=>by subst z;rw [g] at e;cases e
  rw [jX ne]
  exact st.gh b u e
 ·have ne:b≠D:=fun z=>by subst z;rw [fP] at e;cases e
  rw [jX ne] at e ⊢
  exact st.sh b u e
 ·by_cases z:b=D
  ·subst z;exact fP
  ·rw [jX z];exact st.nw b h1 h2
theorem SL.up {K:PySem.W.Frag} {G H H':Hp} {ρ:Rho} {σ:St} (h:SL K ad G H ρ σ) (s:Same H H'):SL K ad G H' ρ σ:=by
 refine⟨h.len,fun i sl e=> ?_⟩
 obtain⟨ov,h1,h2⟩:=h.at_ i sl e
 refine⟨ov,h1, ?_⟩
 cases sl with
 | no=>trivial
 | sh d=>exact h2
 | ow xs=>
  obtain⟨a,vs,e1,e2,e3,e4⟩:=h2
  exact⟨a,vs,e1,e2,s _ _ e3,e4⟩
 | dc kvs=>
  obtain⟨a,es,e1,e2,e3,e4⟩:=h2
  exact⟨a,es,e1,e2,s _ _ e3,e4⟩
 | sd kvs=>
  obtain⟨a,es,e1,e2,e3,e4⟩:=h2
  exact⟨a,es,e1,e2,s _ _ e3,e4⟩
 | rk C r=>
  obtain⟨p,dx,d,l1,l2,e1,e2⟩:=h2
  exact⟨p,dx,d,l1,l2,e1,e2.up s⟩
theorem zD {M:Model} {A:Around} {Ex:Value->Shared->Prop} {s:Shared} {sc:Scope} {gl:Addr} {cl:List (Str×Addr)} {q:Str} {o:PySem.Env} {Q:PySem.Env->Shared->Prop} (hc:Cel sc)
  (h: ∀ h4:Heap,h4.Ns s.heap.objs.size (fun _=>none)->(∀ b ob,s.heap.get? b=some ob->h4.get? b=some ob)->(∀ x,nV sc=[x]->h4.IsCell (s.heap.objs.size+1) none)->
   Q (newEnv sc s.heap.objs.size gl (cellsFrom (s.heap.objs.size+1) sc.names cl) q none .none (some o) builtinsNs) { s with heap:=h4 }):
  wpAny M A (newFunctionEnv sc gl cl [] q none .none (some o)) Q Ex s:=by
 simp only [newFunctionEnv,Option.isSome_some,if_true]
 refine aa (wpAny_alloc ?_)
 refine aa (wpAny_layCells _ (fun name kind cells=>by cases hkc:kind==NameKind.cell<;>simp [hkc]) _ _ _ _ ?_)
 have hns:(s.heap.push { cls:= .type "dict",data:= .dict #[] }).Ns s.heap.objs.size (fun _=>none):=Heap.Ns.new s.heap (.type "dict")
 have hkp: ∀ b ob,s.heap.get? b=some ob->(pushCells (s.heap.push { cls:= .type "dict",data:= .dict #[] }) sc.names).get? b=some ob:=fun b ob e=>pushCells_keeps _ _ b ob (af _ e)
 have hz:(s.heap.push { cls:= .type "dict",data:= .dict #[] }:Heap).objs.size=s.heap.objs.size+1:=ai ..
 rw [List.forIn_nil]
 refine aa (ae (ae ?_))
 have:=h _ (hns.keeps (pushCells_keeps _ _)) hkp fun x e=>by
  rw [(cf1 (a:=0) (acc:=[]) e).2]
  refine⟨{ cls:= .type "cell",data:= .cell none }, ?_,rfl⟩
  rw [<-hz]
  exact ag _ rfl
 rw [<-hz] at this
 exact this
theorem oE {W:Prop} (hw:W-> ∀ ρ y,fe ρ≠ .ok y) {J:It} {ds all:List D} {itA:Addr} {tn:Nat->Heap->Prop} {RR:Value->Addr->Result->Shared->Prop} {Ex:Value->Shared->Prop} (hc:X.calm=true) (I2:Inv X pins σ H2 s2) (T:Turn X.prog X.w X.K tg J fp itA tn) (st2:tn 0 s2.heap)
  (f2: ∀ b∈fp,iR X pins H2 b) (hit:ItH X ad J G2 H2 ds) (hgo:bG (cZ k cs fc fe) ds=some all) (hG2:Same G2 H2)
  (hk:sc.kind= .function) (hC:Cel sc)
  (hfree: ∀ x,(x,NameKind.free)∈sc.names->X.env.kindOf x=some .cell\/X.env.kindOf x=some .free) (hnd: ∀ x,(x,NameKind.free)∈sc.names->sc.names.lookup x=some .free)
  {σc:St} (hl:σc.length=N'.length) (hσ: ∀ (i:Nat) (x:Str) (v:V),N'[i]? =some x->σc[i]? =some (some v)-> ∃ j:Nat,X.N[j]? =some x/\σ[j]? =some (some v)/\(x,NameKind.free)∈sc.names)
  (hnt:nt=if k=0 then 1 else k) (hsl:SL X.K ad G2 H2 (ak nt .no++cs) σc)
  (hg: ∀ s3 H3 pins',PG (cX X N' sc s3 H3 fp pins') tg (gTg X.K k)) (hts: ∀ s3 H3 pins',MTs (cX X N' sc s3 H3 fp pins') ad ifs fc) (he: ∀ s3 H3 pins',ME (cX X N' sc s3 H3 fp pins') ad elt fe)
  (hEnd: ∀ (s3 s':Shared) (H3 H' G':Hp) (σ':St) (D:Addr) (vs:List V),Inv X pins σ H3 s3->(∀ b∈fp,iR X pins H3 b)->Inv (cX X N' sc s3 H3 fp pins) [] σ' H' s'->Step G2 H2 G' H'->H2 D=none->G' D=none->H' D=some (.lst vs)->aF X.K ad G' all vs->(W->RN X.K ad H2 G' all vs)->RR (.ref D) s3.heap.objs.size (.ok .next) s'):
  wpAny (model X.prog X.w) X.A (newList []) (fun acc s₃=>wpAny (model X.prog X.w) X.A (newFunctionEnv sc X.env.globals (i0 X.env.cells sc.names []) [] X.env.qual none .none (some X.env)) (fun cenv s₄=>
   codeAny (model X.prog X.w) X.A (.compStart (.ListComp elt [⟨tg,it,ifs,0⟩] sc pos) 0 (.ref itA) acc { cenv with scope:=relabel sc X.env }) (RR acc cenv.locals) s₄) Ex s₃) Ex s2:=by
 refine wpAny_newObj_type ?_
 have hD:H2 s2.heap.objs.size=none:=I2.fresh
 have I3:Inv X pins σ (upd H2 s2.heap.objs.size (.lst [])) { s2 with heap:=s2.heap.push { cls:= .type "list",data:= .seq ([]:List Value).toArray } }:=I2.lnew (t':=s2.toks) .nil (bq _)
 generalize e3:({ s2 with heap:=s2.heap.push { cls:= .type "list",data:= .seq ([]:List Value).toArray } }:Shared)=s3 at I3
 have hsz:s3.heap.objs.size=s2.heap.objs.size+1:=by rw [<-e3];exact ai ..
 have hk3: ∀ b o,s2.heap.get? b=some o->s3.heap.get? b=some o:=fun b o e=>by rw [<-e3];exact af _ e
 generalize eD:s2.heap.objs.size=D at hD I3 hsz ⊢
 generalize eH:upd H2 D (.lst [])=H3 at I3
 have hH3D:H3 D=some (.lst []):=by rw [<-eH];exact aN
 have hstep3:Step G2 H2 G2 H3:=by rw [<-eH];exact Step.own hG2 hD
 have hfo: ∀ b∈fp,b<D:=fun b hb=>by
  obtain⟨o,e,_⟩:=T.obj 0 _ st2 b hb
  rw [<-eD]
  exact ah e
 have f3: ∀ b∈fp,iR X pins H3 b:=fun b hb=>by
  obtain⟨f0,fr⟩:=f2 b hb
  refine⟨?_,fr⟩
  rw [<-eH,aI (bg (hfo b hb))]
  exact f0
 refine zD hC fun h4 hns hkeep4 hnew4=> ?_
 have I4:Inv (cX X N' sc s3 H3 fp pins) [] σc H3 { s3 with heap:=h4 }:=
  zC (t':=s3.toks) (fpO:=f3) I3 hk hC hfree hnd (fun b hb=>bf (hfo b hb) (by rw [hsz];exact Nat.le_succ _)) hns hkeep4 hnew4 hl hσ
 have st4:tn 0 h4:=T.keep _ _ _ st2 fun b hb o e=>hkeep4 b o (hk3 b o e)
 have few:=hit.few
 -- what holds of the iterator's objects in the block
 have stat: ∀ {H':Hp},(∀ b∈fp,H' b=none)-> ∀ b∈fp,iR (cX X N' sc s3 H3 fp pins) [] H' b:=fun {H'} hn b hb=>by
  obtain⟨f0,f1,f2',f3',f4,f5⟩:=f3 b hb
  refine⟨hn b hb, ?_,fun z=> ?_, .inl hb,fun x c h=> ?_,fun q hq=> ?_⟩
  ·have hle:D<=s3.heap.objs.size:=by rw [hsz];exact Nat.le_succ _
   exact bg (bf (hfo b hb) hle)
  ·rcases aq.mp (I3.stkSub b z) with z | z
   ·exact f1 z
   ·exact f2' z
  ·rcases eS hC h with ⟨_,z⟩ | h'
   ·have hle:D<=s3.heap.objs.size:=by rw [hsz];exact Nat.le_succ _
    rw [z]
    exact(bg (Nat.lt_succ_of_lt (bf (hfo b hb) hle))).symm
   rcases jA h' with ⟨kk,h1,h2,h3⟩ | h
   ·subst h2
    obtain⟨c',hc'⟩:=I3.ok.has x (hfree x h1)
    rw [hc'] at h3
    have e:c=c':=h3
    rw [e]
    exact f4 x c' hc'
   ·cases h
  ·have h2:q∈(X.pn++pins)++[]:=hq
   rw [List.append_nil] at h2
   exact f5 q h2
 have loop: ∀ s4:Shared,s4={ s3 with heap:=h4 }->
   codeAny (model X.prog X.w) X.A (.compLoop (.ListComp elt [⟨tg,it,ifs,0⟩] sc pos) 0 (.ref itA) (.ref D) (cX X N' sc s3 H3 fp pins).env) (RR (.ref D) s3.heap.objs.size) s4:=by
  rintro s4 rfl
  obtain⟨Iv,hIv⟩: ∃ Iv:Nat->Shared->Prop, ∀ n s',Iv n s'↔ ∃ (i:Nat) (σ':St) (H' G':Hp) (ys gO:List SK.D) (vs:List V),Inv (cX X N' sc s3 H3 fp pins) [] σ' H' s'/\tn i s'.heap/\(∀ b∈fp,H' b=none)/\Step G2 H2 G' H'/\G' D=none/\H' D=some (.lst vs)/\aF X.K ad G' ys vs/\
   bG (cZ k cs fc fe) (ds.drop i)=some gO/\ys++gO=all/\i<=ds.length/\n=ds.length - i/\ys.length<=i/\SL X.K ad G' (hid D H') (ak nt .no++cs) σ'/\(W->RN X.K ad H2 G' ys vs):=⟨_,fun _ _=>Iff.rfl⟩
  refine p7 Iv ?_ ds.length
   ((hIv _ _).mpr ⟨0,σc,H3,G2,[],all,[],I4,st4,fun b hb=>(f3 b hb).1,hstep3,nZ hG2 hD,hH3D,aF.nil,hgo,rfl,bq _,rfl,aj _,by rw [<-eH,vO,aIs hD];exact hsl,fun _=> .nil⟩)
  intro n s5 hI5
  obtain⟨i,σ5,H5,G5,ys,gO,vs,I5,st5,fr5,sp5,gD5,hD5,r5,go5,eq5,hi5,rfl,hy5,sl5,rn5⟩:=(hIv _ _).mp hI5
  by_cases hlt:i<ds.length
  ·-- a turn
   have ed:ds[i]? =some ds[i]:=by simp [hlt]
   generalize ds[i]=d at ed
   have edrop:ds.drop i=d::ds.drop (i+1):=by
    rw [List.drop_eq_getElem_cons hlt]
    congr 1
    have:=aw.mp ed
    exact this.2
   rw [edrop] at go5
   obtain⟨go,yl⟩:=hit.go i G5 H5 d sp5 ed
   refine L2.thn (T.item (cX X N' sc s3 H3 fp pins) rfl rfl rfl hc i [] s5 σ5 H5 (fun _ _=>False) I5 (stat fr5) st5 go) fun r s6 hz_=> ?_
   obtain⟨u,hr,h6⟩:=hz_
   subst hr
   refine L2.thn h6 fun _ s7 hz_=> ?_
   obtain⟨x,H7,I7,r7,y7,st7,fr7⟩:=hz_
   obtain⟨G7,sp7,rx7⟩:=yl x H7 y7
   have I7':=I7.pinned (stat fr7) (T.obj _ _ st7)
   obtain⟨gD7,hD7⟩:=cM sp7 gD5 hD5
   have sl7:=sl5.step (jC sp7 gD7)
   -- the target
   have hcomp: ∃ ts,tgt k d=some ts:=by
    cases z:tgt k d with
    | some ts=>exact⟨ts,rfl⟩
    | none=>
     exfalso
     rcases jW go5 with ⟨e,_⟩ | ⟨x',_,e,_,_⟩<;>(unfold cZ at e;rw [z] at e;cases e)
   obtain⟨ts,ets⟩:=hcomp
   obtain⟨htl,gt⟩:=aIr (W:=fun σ' H'=>H'=H7/\SL X.K ad G7 (hid D H7) (ts++cs) σ') ets hnt sp7.gh rx7 sl7 (fun σ' _ q=>⟨rfl,q⟩)
   refine L2.thn (hg s3 H3 pins _ s7 σ5 H7 x u _ I7' r7 gt) fun _ s8 hz_=> ?_
   obtain⟨σ8,H8,I8,e8,sl8⟩:=hz_
   subst e8
   -- again, at the turn's end
   have again: ∀ {s9:Shared} {H9 G9:Hp} {ys9 rest9:List SK.D} {vs9:List V},Inv (cX X N' sc s3 H3 fp pins) ([]++d9 fp s7.heap) σ8 H9 s9->Step G2 H2 G9 H9->G9 D=none->H9 D=some (.lst vs9)->aF X.K ad G9 ys9 vs9->bG (cZ k cs fc fe) (ds.drop (i+1))=some rest9->ys9++rest9=all->ys9.length<=i+1->
     SL X.K ad G9 (hid D H9) (ts++cs) σ8->(W->RN X.K ad H2 G9 ys9 vs9)-> ∃ m,m<ds.length - i/\Iv m s9:=by
    intro s9 H9 G9 ys9 rest9 vs9 I9 sp9 gD9 hD9 r9 go9 eq9 hy9 sl9 rn9
    refine⟨ds.length - (i+1),by omega,(hIv _ _).mpr ⟨i+1,σ8,H9,G9,ys9,rest9,vs9,I9.unpinned,T.keep _ _ _ st7 fun b hb o e=>(I9.pin (b,o) (bp _ (bp _ (dP hb e)))).1,fun b hb=> ?_,sp9,gD9,hD9,r9,go9,eq9,by omega,rfl,hy9, ?_,rn9⟩⟩
    ·obtain⟨o,e,d'⟩:=T.obj _ _ st7 b hb
     exact(I9.pin (b,o) (bp _ (bp _ (dP hb e)))).2.1
    ·have:=vM sl9
     rwa [htl] at this
   have xpF:XP (cX X N' sc s3 H3 fp pins) ad σ8 (fun _ _=>False):=zB rfl
   have sp8:Step G2 H2 G7 H8:=sp5.trans sp7
   -- the element
   have elem: ∀ {s9:Shared} {H9 G9:Hp} (x':SK.D) (all':List SK.D),Inv (cX X N' sc s3 H3 fp pins) ([]++d9 fp s7.heap) σ8 H9 s9->Step G7 H8 G9 H9->(fe (ts++cs)= .ok x'\/ ∃ l,fe (ts++cs)= .ow l/\x'= .lst l)->bG (cZ k cs fc fe) (ds.drop (i+1))=some all'->gO=x'::all'->
     wpAny (model X.prog X.w) X.A (eval elt (cX X N' sc s3 H3 fp pins).env) (fun x s₄=>wpAny (model X.prog X.w) X.A (call (.builtin "list.append") [.ref D,x]) (fun _ s₅=> ∃ m,m<ds.length - i/\Iv m s₅) (fun _ _=>False) s₄) (fun _ _=>False) s9:=by
    intro s9 H9 G9 x' all' I9 sp9 hf hgo' hrest
    obtain⟨gD9,hD9⟩:=cM sp9 gD7 hD7
    have sl9:=sl8.step (jC sp9 gD9)
    refine L2.thn (ME.val (X:=cX X N' sc s3 H3 fp pins) (he s3 H3 pins) I9 sp9.gh (sl9.up vN) xpF hf) fun u10 s10 hz_=> ?_
    obtain⟨v10,G10,H10,I10,r10,sp10,q10,nw10⟩:=hz_
    obtain⟨gD10,hD10⟩:=cM sp10 gD9 hD9
    have hlen:vs.length<sizeLine:=by
     have:=r5.length
     omega
    refine L2.thn (nL (X:=cX X N' sc s3 H3 fp pins) _ s10 σ8 H10 (.ref D) [v10] (.ref D) [u10] (fun _ H'=>H'=upd H10 D (.lst (vs++[v10]))) I10 rfl (.cons r10 .nil) ⟨D,vs,v10,rfl,rfl,hD10,hlen,rfl⟩) fun _ s11 hz_=> ?_
    obtain⟨_,H11,I11,_,e11⟩:=hz_
    subst e11
    have spT:Step G2 H2 G10 H10:=(sp8.trans sp9).trans sp10
    have spA:Step G2 H2 G10 (upd H10 D (.lst (vs++[v10]))):=oD spT hD gD10
    have rA:aF X.K ad G10 (ys++[x']) (vs++[v10]):=((r5.mono sp7.sg).mono sp9.sg).mono sp10.sg |>.append (aF.cons q10 aF.nil)
    have slA:SL X.K ad G10 (hid D (upd H10 D (.lst (vs++[v10])))) (ts++cs) σ8:=by
     rw [vO]
     exact sl9.step (jC sp10 gD10)
    refine again I11 spA gD10 aN rA hgo' ?_ (by simp;omega) slA fun w=>((((rn5 w).mono sp7.sg).mono sp9.sg).mono sp10.sg).snoc ((nw10 (hw w _)).up (sp8.trans sp9).sh (Same.refl _))
    rw [List.append_assoc]
    rw [hrest] at eq5
    exact eq5
   rcases jW go5 with ⟨e,hgo'⟩ | ⟨x',all',e,hgo',hrest⟩
   ·-- left out
    unfold cZ at e
    rw [ets] at e
    cases fc with
    | none=>
     exfalso
     simp only at e
     cases z:fe (ts++cs)<;>rw [z] at e<;>cases e
    | some f0=>
     simp only at e
     have hT:=hts s3 H3 pins
     match ifs,hT with
     | [c0],hT=>
      have hv:f0 (ts++cs)= .ok (.bl false):=by
       cases z:f0 (ts++cs) with
       | ok dd=>
        rw [z] at e
        cases dd<;>try (cases e)
        rename_i bb
        cases bb with
        | false=>rfl
        | true=>
         exfalso
         simp only at e
         cases z':fe (ts++cs)<;>rw [z'] at e<;>cases e
       | ow _=>rw [z] at e;cases e
       | ex _=>rw [z] at e;cases e
       | bad=>rw [z] at e;cases e
      refine wpAny_tests_one (L2.thn (MT.val (X:=cX X N' sc s3 H3 fp pins) hT I8 sp7.gh (sl8.up vN) xpF hv) fun ok s9 hz_=> ?_)
      obtain⟨eb,G9,H9,I9,sp9⟩:=hz_
      subst eb
      obtain⟨gD9,hD9⟩:=cM sp9 gD7 hD7
      exact aBh (again I9 (sp8.trans sp9) gD9 hD9 ((r5.mono sp7.sg).mono sp9.sg) hgo' eq5 (by omega) (sl8.step (jC sp9 gD9)) fun w=>((rn5 w).mono sp7.sg).mono sp9.sg)
     | [],hT=>exact hT.elim
     | _::_::_,hT=>exact hT.elim
   ·-- taken
    unfold cZ at e
    rw [ets] at e
    cases fc with
    | none=>
     have hT:=hts s3 H3 pins
     match ifs,hT with
     | [],_=>
      refine wpAny_tests_nil (yT ?_)
      refine elem x' all' I8 (Step.refl sp7.gh) ?_ hgo' hrest
      simp only at e
      cases z:fe (ts++cs) with
      | ok dd=>rw [z] at e;cases e;exact .inl rfl
      | ow l=>rw [z] at e;cases e;exact .inr ⟨l,rfl,rfl⟩
      | ex _=>rw [z] at e;cases e
      | bad=>rw [z] at e;cases e
     | _::r1,hT=>cases r1<;>exact ay hT
    | some f0=>
     simp only at e
     have hT:=hts s3 H3 pins
     match ifs,hT with
     | [c0],hT=>
      have hv:f0 (ts++cs)= .ok (.bl true)/\(fe (ts++cs)= .ok x'\/ ∃ l,fe (ts++cs)= .ow l/\x'= .lst l):=by
       cases z:f0 (ts++cs) with
       | ok dd=>
        rw [z] at e
        cases dd<;>try (cases e)
        rename_i bb
        cases bb with
        | false=>simp only at e;cases e
        | true=>
         simp only at e
         refine⟨rfl, ?_⟩
         cases z':fe (ts++cs) with
         | ok dd=>rw [z'] at e;cases e;exact .inl rfl
         | ow l=>rw [z'] at e;cases e;exact .inr ⟨l,rfl,rfl⟩
         | ex _=>rw [z'] at e;cases e
         | bad=>rw [z'] at e;cases e
       | ow _=>rw [z] at e;cases e
       | ex _=>rw [z] at e;cases e
       | bad=>rw [z] at e;cases e
      refine wpAny_tests_one (L2.thn (MT.val (X:=cX X N' sc s3 H3 fp pins) hT I8 sp7.gh (sl8.up vN) xpF hv.1) fun ok s9 hz_=> ?_)
      obtain⟨eb,G9,H9,I9,sp9⟩:=hz_
      subst eb
      exact yT (elem x' all' I9 sp9 hv.2 hgo' hrest)
     | [],hT=>exact hT.elim
     | _::_::_,hT=>exact hT.elim
  ·-- the end
   have ei:i=ds.length:=by omega
   subst ei
   rw [List.drop_length] at go5
   cases go5
   rw [List.append_nil] at eq5
   subst eq5
   refine L2.thn (T.done (cX X N' sc s3 H3 fp pins) rfl rfl rfl hc ds.length [] s5 σ5 H5 (fun _ _=>False) I5 (stat fr5) st5 (hit.stop G5 H5 sp5)) fun r s6 hz_=> ?_
   obtain⟨hr,I6⟩:=hz_
   subst hr
   exact hEnd s3 s6 H3 H5 G5 σ5 D vs I3 f3 I6 sp5 hD gD5 hD5 r5 rn5
 exact codeAny_compStart_list (loop _ rfl) (T.self _ 0 _ _ _ st4 (loop _ rfl))
theorem lG {C:Ctx} {cs:List Nat} {nt:Nat} (hxs:xs.length=nt) (hN:X.N=C.N) (hcs:d7 (fun x=>eK C x) (aS sc)=some cs) (hfr: ∀ x∈aS sc,(x,NameKind.free)∈sc.names) (hS:SL X.K ad G H ρ σ) (hlen:σ.length=X.N.length):
  ∃ σc:St,σc.length=(xs++aS sc).length/\(∀ (i:Nat) (x:Str) (v:V),(xs++aS sc)[i]? =some x->σc[i]? =some (some v)-> ∃ j:Nat,X.N[j]? =some x/\σ[j]? =some (some v)/\(x,NameKind.free)∈sc.names)/\
   SL X.K ad G H (ak nt .no++jO cs ρ) σc:=by
 have key: ∀ (ys:List Str) (js:List Nat),d7 (fun x=>eK C x) ys=some js->js.length=ys.length/\ ∀ (i:Nat) (y:Str),ys[i]? =some y-> ∃ j,js[i]? =some j/\C.N[j]? =some y:=by
  intro ys
  induction ys with
  | nil=>intro js e;cases e;exact⟨rfl,fun i y h=>by simp at h⟩
  | cons y r ih=>
   intro js e
   unfold d7 at e
   cases e1:eK C y with
   | none=>rw [e1] at e;cases e
   | some j=>
    rw [e1] at e
    obtain⟨js',e2,e3⟩:=zMd e
    subst e3
    obtain⟨i1,i2⟩:=ih js' e2
    refine⟨by simp [i1],fun i z h=> ?_⟩
    cases i with
    | zero=>
     simp at h
     subst h
     refine⟨j,rfl, ?_⟩
     have hidx:idx y C.N=some j:=by
      unfold eK at e1
      split at e1
      ·exact e1
      ·exact e1
      ·cases e1
     exact gH hidx
    | succ i=>
     obtain⟨j',h1,h2⟩:=i2 i z (by simpa using h)
     exact⟨j',by simpa using h1,h2⟩
 obtain⟨k1,k2⟩:=key (aS sc) cs hcs
 refine⟨ak nt none++cs.map (fun j=>(σ[j]?).getD none),by simp [k1,hxs],fun i x v h1 h2=> ?_, ?_,fun i sl e=> ?_⟩
 ·by_cases hi:i<nt
  ·rw [bt (by simpa using hi),List.getElem?_replicate,if_pos hi] at h2
   cases h2
  ·rw [bj (by simpa using hi),List.length_replicate,List.getElem?_map] at h2
   rw [bj (by omega),hxs] at h1
   obtain⟨j,j1,j2⟩:=k2 (i - nt) x h1
   rw [j1] at h2
   have h3:(σ[j]?).getD none=some v:=Option.some.inj h2
   refine⟨j,by rw [hN];exact j2, ?_,hfr x (List.mem_of_getElem? h1)⟩
   cases q:σ[j]? with
   | none=>rw [q] at h3;cases h3
   | some ov=>rw [q] at h3;exact congrArg some h3
 ·simp [jO]
 ·by_cases hi:i<nt
  ·rw [bt (by simpa using hi),List.getElem?_replicate,if_pos hi] at e
   cases e
   refine⟨none, ?_,trivial⟩
   rw [bt (by simpa using hi),List.getElem?_replicate,if_pos hi]
  ·rw [bj (by simpa using hi),List.length_replicate] at e
   unfold jO at e
   rw [List.getElem?_map] at e
   cases q:cs[i - nt]? with
   | none=>rw [q] at e;cases e
   | some j=>
    rw [q] at e
    have e':(ρ[j]?).getD .no=sl:=Option.some.inj e
    refine⟨(σ[j]?).getD none, ?_, ?_⟩
    ·rw [bj (by simpa using hi),List.length_replicate,List.getElem?_map,q]
     rfl
    ·cases q2:ρ[j]? with
     | none=>rw [q2] at e';subst e';trivial
     | some sl'=>
      rw [q2] at e'
      have e'':sl'=sl:=e'
      subst e''
      obtain⟨ov,z1,z2⟩:=hS.at_ j sl' q2
      rw [z1]
      exact z2
end
section
variable {X:Cx} {ad:Ad} {pins:List (Addr×Obj)} {s s2 s3:Shared} {σ:St} {H H2 H3 G G2:Hp} {ρ:Rho} {Q:VK} {E:Nat->Hp->Prop} {pos:Pos} {sc:Scope} {N':List Str} {fp:List Addr}
 {tg it elt:Expr} {ifs:List Expr} {k nt:Nat} {xs:List Str} {cs:List Nat} {fc:Option F} {fi fe:F}
theorem vP (h: ∀ a b c,it≠ .Set a b c): ∀ x,foldedSetIterable it X.env x=pure x:=by
 intro x
 cases it<;>first | rfl | exact absurd rfl (h _ _ _)
structure CompSc (X:Cx) (C:Ctx) (sc:Scope) (xs:List Str) (cs:List Nat):Prop where
 kind:sc.kind= .function
 cell:Cel sc
 names: ∀ y∈sc.names,y.2= .local->sc.names.lookup y.1=some .local
 fre: ∀ x,(x,NameKind.free)∈sc.names->X.env.kindOf x=some .cell\/X.env.kindOf x=some .free
 frl: ∀ x,(x,NameKind.free)∈sc.names->sc.names.lookup x=some .free
 N:X.N=C.N
 cs:d7 (fun x=>eK C x) (aS sc)=some cs
theorem oF {x:Str} (h:x∈aS sc):(x,NameKind.free)∈sc.names:=by
 unfold aS at h
 obtain⟨p,hp,rfl⟩:=ao.mp h
 obtain⟨h1,h2⟩:=List.mem_filter.mp hp
 obtain⟨y,kk⟩:=p
 have:kk= .free:=by simpa using h2
 subst this
 exact h1
def RKW (K:PySem.W.Frag) (ad:Ad) (W:Prop) (G H:Hp) (r:R) (Q:VK) (E:Nat->Hp->Prop):Prop:=match r with
 | .ow xs=> ∀ p vs G' H',Step G H G' H'->H p=none->G' p=none->H' p=some (.lst vs)->aF K ad G' xs vs->(W->RN K ad H G' xs vs)->Q (.ref p) H'
 | r=>RK K ad G H r Q E
theorem RK.w {K:PySem.W.Frag} {W:Prop} {r:R} (h:RK K ad G H r Q E):RKW K ad W G H r Q E:=by
 cases r with
 | ow xs=>exact fun p vs G' H' st n m e q _=>h p vs G' H' st n m e q
 | _=>exact h
theorem RKW.step {K:PySem.W.Frag} {W:Prop} {r:R} {G' H':Hp} (h:RKW K ad W G H r Q E) (st:Step G H G' H'):RKW K ad W G' H' r Q E:=by
 cases r with
 | ow xs=>exact fun p vs G2 H2 s2 n m e q w=>h p vs G2 H2 (st.trans s2) (st.sh.free n) m e q fun z=>Paired.mapP (w z) fun _ _ y=>y.up st.sh (Same.refl _)
 | ok d=>exact RK.step (K:=K) (ad:=ad) (r:= .ok d) (E:=E) h st
 | ex c=>exact RK.step (K:=K) (ad:=ad) (r:= .ex c) (Q:=Q) h st
 | bad=>exact h
theorem aIt {U:Prop} {W:It->Hp->Prop} (hr:RKW X.K ad U G H (aL k cs fi fc fe ρ) Q E)
  (q: ∀ J G2 H2 ds all,Step G H G2 H2->ItH X ad J G2 H2 ds->bG (cZ k (jO cs ρ) fc fe) ds=some all->RKW X.K ad U G2 H2 (.ow all) Q E->W J H2):IK X ad G H (fi ρ) W E:=by
 unfold aL at hr
 cases e:fi ρ with
 | ok d=>
  rw [e] at hr
  have hr':RKW X.K ad U G H (match gR d with | some ds=>(match bG (cZ k (jO cs ρ) fc fe) ds with | some xs=> .ow xs | none=> .bad) | none=> .bad) Q E:=hr
  cases e2:gR d with
  | none=>rw [e2] at hr';exact hr'.elim
  | some ds=>
   rw [e2] at hr'
   have hr2:RKW X.K ad U G H (match bG (cZ k (jO cs ρ) fc fe) ds with | some xs=> .ow xs | none=> .bad) Q E:=hr'
   cases e3:bG (cZ k (jO cs ρ) fc fe) ds with
   | none=>rw [e3] at hr2;exact hr2.elim
   | some all=>
    rw [e3] at hr2
    exact⟨ds,e2,fun J G' H' st hi=>q J G' H' ds all st hi e3 (RKW.step hr2 st)⟩
 | ow l=>
  rw [e] at hr
  have hr2:RKW X.K ad U G H (match bG (cZ k (jO cs ρ) fc fe) l with | some xs=> .ow xs | none=> .bad) Q E:=hr
  cases e3:bG (cZ k (jO cs ρ) fc fe) l with
  | none=>rw [e3] at hr2;exact hr2.elim
  | some all=>
   rw [e3] at hr2
   exact fun J G' H' st hi=>q J G' H' l all st hi e3 (RKW.step hr2 st)
 | ex c=>rw [e] at hr;exact hr
 | bad=>rw [e] at hr;exact hr
noncomputable def tEW (X:Cx) (ad:Ad) (W:Prop) (f:F):TE:=fun σ H Q=> ∃ G ρ E,Same G H/\SL X.K ad G H ρ σ/\XP X ad σ E/\RKW X.K ad W G H (f ρ) Q E
theorem zE {U:Prop} (hw:U-> ∀ ρ y,fe ρ≠ .ok y) {C:Ctx} (hc:X.calm=true) (S:CompSc X C sc xs cs) (hi:MI X ad tg it fi) (hset: ∀ a b c,it≠ .Set a b c) (hxs:xs.length=if k=0 then 1 else k)
  (hg: ∀ fp s3 H3 pins',PG (cX X (xs++aS sc) sc s3 H3 fp pins') tg (gTg X.K k)) (hts: ∀ fp s3 H3 pins',MTs (cX X (xs++aS sc) sc s3 H3 fp pins') ad ifs fc) (he: ∀ fp s3 H3 pins',ME (cX X (xs++aS sc) sc s3 H3 fp pins') ad elt fe):
  PE X (.ListComp elt [⟨tg,it,ifs,0⟩] sc pos) (tEW X ad U (aL k cs fi fc fe)):=by
 intro pins s σ H Q I ⟨G,ρ,E,hG,hS,hx,hr⟩
 rw [eval_ListComp]
 have hcl:closureFor sc X.env=pure (i0 X.env.cells sc.names []):=iH fun x hx=>by
  obtain⟨c,h⟩:=I.ok.has x (S.fre x hx)
  rw [h];rfl
 refine wpAny_comprehension_free (use:=none) rfl (vP hset) hcl S.kind S.names ?_
 show wpAny (model X.prog X.w) X.A (eval it X.env) _ X.xe s
 refine L2.thn (hi pins s σ H _ I ⟨G,ρ,E,hG,hS,hx,aIt (W:=fun J H2=> ∃ G2 ds all,Step G H G2 H2/\ItH X ad J G2 H2 ds/\bG (cZ k (jO cs ρ) fc fe) ds=some all/\RKW X.K ad U G2 H2 (.ow all) Q E) hr fun J G2 H2 ds all a b c d=>⟨G2,ds,all,a,b,c,d⟩⟩) fun v s1 h1=>
  L2.thn h1 fun itv s2 hz_=> ?_
 obtain⟨itA,fp,tn,J,H2,e,I2,T,st2,f2,G2,ds,all,sp,hit,hgo,hr2⟩:=hz_
 subst e
 obtain⟨σc,l1,l2,l3⟩:=lG (xs:=xs) (sc:=sc) (nt:=if k=0 then 1 else k) hxs S.N S.cs (fun x h=>oF h) (hS.step sp) I2.len
 refine oE (σc:=σc) hw hc I2 T st2 f2 hit hgo sp.gh S.kind S.cell S.fre S.frl l1 l2 rfl l3 (hg fp) (hts fp) (he fp) fun s3 s' H3 H' G' σ' D vs I3 f3 J' sp' hD gD hD' r' rn'=> ?_
 obtain⟨m,hns,_⟩:=J'.loc
 refine⟨m,hns,fun h' sb=>⟨.ref D,H',aBy (fpO:=f3) I3 J' sb,rfl,hr2 D vs G' H' sp' hD gD hD' r' rn'⟩⟩
theorem aDy {C:Ctx} (hc:X.calm=true) (S:CompSc X C sc xs cs) (hi:MI X ad tg it fi) (hset: ∀ a b c,it≠ .Set a b c) (hxs:xs.length=if k=0 then 1 else k)
  (hg: ∀ fp s3 H3 pins',PG (cX X (xs++aS sc) sc s3 H3 fp pins') tg (gTg X.K k)) (hts: ∀ fp s3 H3 pins',MTs (cX X (xs++aS sc) sc s3 H3 fp pins') ad ifs fc) (he: ∀ fp s3 H3 pins',ME (cX X (xs++aS sc) sc s3 H3 fp pins') ad elt fe):
  ME X ad (.ListComp elt [⟨tg,it,ifs,0⟩] sc pos) (aL k cs fi fc fe):=
 PE.imp (zE (U:=False) ay hc S hi hset hxs hg hts he) fun σ H Q ⟨G,ρ,E,hG,hS,hx,hr⟩=>⟨G,ρ,E,hG,hS,hx,hr.w⟩
theorem aDz {a:Addr} {vs:List V} {ds:List D} (hq:SqT X.K H a vs) (r:aF X.K ad G ds vs) (hG:Same G H) (few:vs.length<=sizeLine):ItH X ad (Itt X.K a) G H ds:=by
 refine⟨fun i G1 H1 d st e=> ?_,fun G1 H1 st=>⟨vs,st.sh.seqT hq,by rw [r.length];exact aj _⟩,by rw [<-r.length];exact few⟩
 obtain⟨v,e1,r1⟩:=r.get e
 refine⟨⟨vs,v,st.sh.seqT hq,e1⟩, ?_⟩
 rintro x H2 ⟨rfl,y⟩
 have:=y vs (st.sh.seqT hq)
 rw [e1] at this
 cases this
 exact⟨G1,Step.refl st.gh,r1.mono st.sg⟩
theorem aD0 {a:Addr} {vs:List V} {ds:List D} (hq:SqL X.K H a vs) (r:aF X.K ad G ds vs) (hG:Same G H) (few:vs.length<=sizeLine):ItH X ad (Itl X.K a) G H ds:=by
 refine⟨fun i G1 H1 d st e=> ?_,fun G1 H1 st=>⟨vs,st.sh.seq hq,by rw [r.length];exact aj _⟩,by rw [<-r.length];exact few⟩
 obtain⟨v,e1,r1⟩:=r.get e
 refine⟨⟨vs,v,st.sh.seq hq,e1⟩, ?_⟩
 rintro x H2 ⟨rfl,y⟩
 have:=y vs (st.sh.seq hq)
 rw [e1] at this
 cases this
 exact⟨G1,Step.refl st.gh,r1.mono st.sg⟩
theorem rS {a:Expr} {f:F} (ha:ML X ad a f):MI X ad tg a f:=by
 intro pins s σ H W I ⟨G,ρ,E,hG,hS,hx,hr⟩
 -- the value, then its iterator
 have key0: ∀ (d:D) (ds:List D),items d=some ds->(∀ J G' H',Step G H G' H'->ItH X ad J G' H' ds->W J H')-> ∀ u s1 v H1 G1,Inv X pins σ H1 s1->bA v u->Step G H G1 H1->Seq X ad G1 H1 d v->wpAny (model X.prog X.w) X.A (pyIter u) (PIE X pins σ tg W) X.xe s1:=by
  intro d ds e hw u s1 v H1 G1 I1 r1 st q
  obtain⟨p,vs,rfl,hq,rq⟩:=q.items st.gh e
  cases (show u=Value.ref p from r1)
  rcases hq with ⟨_,hq⟩ | ⟨_,hq⟩
  ·obtain⟨its,rv,pt,hz⟩:=I1.tuple hq
   refine wpAny_pyIter_tuple (show s1.heap.IsTuple p its.toArray from pt) ?_
   refine⟨s1.heap.objs.size,[s1.heap.objs.size],_,_,H1,rfl,I1.kept (t':=s1.toks) fun b o e=>af _ e,k8 p _,⟨_,ag _ rfl,rfl,rfl⟩,fun b hb=> ?_,hw _ G1 H1 st (aDz hq rq st.gh hz)⟩
   have e:b=s1.heap.objs.size:=by simpa using hb
   subst e
   exact I1.fpOk (aj _) (I1.hok.fresh (aj _))
  ·obtain⟨its,rv,pt,hz⟩:=I1.list hq
   refine wpAny_pyIter_list pt.isList ?_
   refine⟨s1.heap.objs.size,[s1.heap.objs.size],_,_,H1,rfl,I1.kept (t':=s1.toks) fun b o e=>af _ e,mZ p _,⟨_,ag _ rfl,rfl,rfl⟩,fun b hb=> ?_,hw _ G1 H1 st (aD0 hq rq st.gh hz)⟩
   have e:b=s1.heap.objs.size:=by simpa using hb
   subst e
   exact I1.fpOk (aj _) (I1.hok.fresh (aj _))
 have key: ∀ (d:D) (ds:List D),gR d=some ds->(∀ J G' H',Step G H G' H'->ItH X ad J G' H' ds->W J H')-> ∀ u s1 v H1 G1,Inv X pins σ H1 s1->bA v u->Step G H G1 H1->Seq X ad G1 H1 d v->wpAny (model X.prog X.w) X.A (pyIter u) (PIE X pins σ tg W) X.xe s1:=by
  intro d ds e hw u s1 v H1 G1 I1 r1 st q
  cases d with
  | tup xs=>exact key0 (.tup xs) ds (show items (.tup xs)=some ds from e) hw u s1 v H1 G1 I1 r1 st q
  | lst xs=>exact key0 (.lst xs) ds (show items (.lst xs)=some ds from e) hw u s1 v H1 G1 I1 r1 st q
  | _=>cases e
 cases e:f ρ with
 | ok d=>
  rw [e] at hr
  obtain⟨ds,e2,hw⟩:=hr
  exact L2.thn (ha pins s σ H (fun v H1=> ∃ G1,Step G H G1 H1/\Seq X ad G1 H1 d v) I ⟨G,ρ,E,hG,hS,hx,by rw [e];exact fun v G1 H1 st q=>⟨G1,st,q⟩⟩) fun u s1 ⟨v,H1,I1,r1,G1,st,q⟩=>key d ds e2 hw u s1 v H1 G1 I1 r1 st q
 | ow l=>
  rw [e] at hr
  exact L2.thn (ha pins s σ H (fun v H1=> ∃ G1,Step G H G1 H1/\Rep X.K ad G1 (.lst l) v) I ⟨G,ρ,E,hG,hS,hx,by rw [e];exact fun p vs G1 H1 st n m e' q=>cL st n m e' q⟩) fun u s1 ⟨v,H1,I1,r1,G1,st,q⟩=>key (.lst l) l rfl hr u s1 v H1 G1 I1 r1 st (.inl q)
 | ex c=>
  rw [e] at hr
  exact L2.thn (ha pins s σ H (fun v H1=>False) I ⟨G,ρ,E,hG,hS,hx,by rw [e];exact hr⟩) fun u s1 ⟨v,H1,I1,r1,q⟩=>q.elim
 | bad=>
  rw [e] at hr
  exact ay hr
theorem aD1 {lo:Int} {n:Nat} (hG:Same G H) (few:n<=sizeLine):ItH X ad (Itr lo n) G H ((List.range n).map fun(i:Nat)=>D.int (lo+(i:Int))):=by
 refine⟨fun i G1 H1 d st e=> ?_,fun G1 H1 st=>by simp [Itr],by simpa using few⟩
 rw [List.getElem?_map] at e
 cases q:(List.range n)[i]? with
 | none=>rw [q] at e;cases e
 | some j=>
  rw [q] at e
  obtain⟨hi,hj⟩:=aw.mp q
  rw [List.length_range] at hi
  rw [List.getElem_range] at hj
  subst hj
  cases e
  refine⟨hi, ?_⟩
  rintro x H2 ⟨rfl,rfl⟩
  exact⟨G1,Step.refl st.gh,aM⟩
theorem vQ (n:Nat):iB n=(List.range n).map fun(i:Nat)=>D.int (0+(i:Int)):=by
 unfold iB
 congr 1
 funext i
 rw [Int.zero_add]
theorem mE {f:F} {k:D->R} {W:It->Hp->Prop} {Q':VK} (hG:Same G H) (hS:SL X.K ad G H ρ σ) (hx:XP X ad σ E) (hr:IK X ad G H ((f ρ).bind k) W E)
  (q: ∀ v d G1 H1,Step G H G1 H1->Rep X.K ad G1 d v->IK X ad G1 H1 (k d) W E->Q' v H1):tE X ad f σ H Q':=by
 have ikst: ∀ {r:R} {G1 H1:Hp},IK X ad G H r W E->Step G H G1 H1->IK X ad G1 H1 r W E:=fun {r G1 H1} h st=>by
  cases r with
  | ok d=>obtain⟨ds,e,h⟩:=h;exact⟨ds,e,fun J G' H' st' hi=>h J G' H' (st.trans st') hi⟩
  | ow l=>exact fun J G' H' st' hi=>h J G' H' (st.trans st') hi
  | ex c=>exact fun G' H' st'=>h G' H' (st.trans st')
  | bad=>exact h
 refine⟨G,ρ,E,hG,hS,hx, ?_⟩
 cases e:f ρ with
 | ok d=>
  rw [e] at hr
  exact fun v G1 H1 st r=>q v d G1 H1 st r (ikst hr st)
 | ow xs=>
  rw [e] at hr
  intro p vs G1 H1 st n m e' r
  obtain⟨G2,st2,r2⟩:=cL (X:=X) (ad:=ad) st n m e' r
  exact q _ _ G2 H1 st2 r2 (ikst hr st2)
 | ex c=>
  rw [e] at hr
  exact hr
 | bad=>
  rw [e] at hr
  exact hr
theorem zF {a:Expr} {f:F} {p:Pos} (hg:L2.Gl X "range") (hm:X.mg "range"=none) (ha:ME X ad a f) (hs:starEach [a] X.env=(false,eval a X.env)::starEach [] X.env):MI X ad tg (.Call (.Name "range" p) [a] [] pos) (aU f):=by
 intro pins s σ H W I ⟨G,ρ,E,hG,hS,hx,hr⟩
 refine m6 (ta:=jL (tE X ad f) aBf) hg hm (b9 ha eI hs) hs pins s σ H W I ?_
 show tE X ad f σ H fun v H1=> ∃ j:Int,[v]=[.int j]/\ -(2 ^ 62)<=j/\j<2 ^ 62/\W (Itr 0 j.toNat) H1
 refine mE hG hS hx hr fun v d G1 H1 st r k=> ?_
 cases d<;>try exact ay k
 rename_i i
 unfold Rep at r;subst r
 have k':IK X ad G1 H1 (if -100000<=i/\i<=100000 then .ok (.lst (iB i.toNat)) else .bad) W E:=k
 by_cases hc: -100000<=i/\i<=100000
 ·rw [if_pos hc] at k'
  obtain⟨ds,e,hw⟩:=k'
  cases e
  refine⟨i,rfl,by omega,by omega,hw _ G1 H1 (Step.refl st.gh) ?_⟩
  rw [vQ]
  exact aD1 st.gh (by rw [sizeLine_eq];omega)
 ·rw [if_neg hc] at k'
  exact k'.elim
end
def jD (H:Hp) (ρ:Rho) (σ:St) (i:Nat) (as:List Addr):Prop:= ∃ C r p dx d l1 l2,ρ[i]? =some (Slot.rk C r)/\σ[i]? =some (some (V.ref p))/\H p=some (HO.ins C dx [("held",V.ref d),("done",V.ref l1),("undone",V.ref l2)])/\as=[p,dx,d,l1,l2]
structure RS (H₀ H:Hp) (ρ:Rho) (σ:St):Prop where
 h0: ∀ i as,jD H ρ σ i as-> ∀ a∈as,H₀ a=none
 ow: ∀ i as,jD H ρ σ i as-> ∀ a∈as, ∀ (j:Nat) (sl:Slot),ρ[j]? =some sl->sl.owns=true->σ[j]? ≠some (some (.ref a))
 rr: ∀ i j as as' a,jD H ρ σ i as->jD H ρ σ j as'->a∈as->a∈as'->i=j
section
variable {K:PySem.W.Frag} {ad:Ad} {G H H1 H₀:Hp} {ρ:Rho} {σ:St} {i:Nat} {as:List Addr}
theorem jD.in (h:SL K ad G H ρ σ) (f:jD H ρ σ i as): ∃ C r p dx d l1 l2,ρ[i]? =some (.rk C r)/\σ[i]? =some (some (V.ref p))/\RackIn K ad C G H p r dx d l1 l2/\as=[p,dx,d,l1,l2]:=by
 obtain⟨C,r,p,dx,d,l1,l2,e1,e2,e3,e4⟩:=f
 obtain⟨p',dx',d',l1',l2',q1,q2⟩:=h.rk e1
 rw [e2] at q1
 cases q1
 have:=q2.ins
 rw [e3] at this
 cases this
 exact⟨C,r,p,dx,d,l1,l2,e1,e2,q2,e4⟩
theorem jD.at (h:SL K ad G H ρ σ) (f:jD H ρ σ i as): ∀ a∈as,G a=none/\H a≠none:=by
 obtain⟨C,r,p,dx,d,l1,l2,e1,e2,q,rfl⟩:=f.in h
 obtain⟨kvs,a1,a2⟩:=q.held
 obtain⟨v1,b1,b2⟩:=q.done
 obtain⟨v2,c1,c2⟩:=q.undone
 intro a m
 simp only [aq,List.not_mem_nil,or_false] at m
 rcases m with rfl | rfl | rfl | rfl | rfl
 ·exact⟨q.gp,by rw [q.ins];exact fun z=>nomatch z⟩
 ·exact⟨q.gx,by rw [q.own];exact fun z=>nomatch z⟩
 ·exact⟨q.gd,by rw [a1];exact fun z=>nomatch z⟩
 ·exact⟨q.g1,by rw [b1];exact fun z=>nomatch z⟩
 ·exact⟨q.g2,by rw [c1];exact fun z=>nomatch z⟩
theorem jD.back (h:SL K ad G H ρ σ) (s:Same H H1) (f:jD H1 ρ σ i as):jD H ρ σ i as:=by
 obtain⟨C,r,p,dx,d,l1,l2,e1,e2,e3,e4⟩:=f
 obtain⟨p',dx',d',l1',l2',q1,q2⟩:=h.rk e1
 rw [e2] at q1
 cases q1
 have:=s _ _ q2.ins
 rw [e3] at this
 cases this
 exact⟨C,r,p,dx,d,l1,l2,e1,e2,q2.ins,e4⟩
theorem RS.same (R:RS H₀ H ρ σ) (h:SL K ad G H ρ σ) (s:Same H H1):RS H₀ H1 ρ σ:=
 ⟨fun i as f=>R.h0 i as (f.back h s),fun i as f=>R.ow i as (f.back h s),fun i j as as' a f f'=>R.rr i j as as' a (f.back h s) (f'.back h s)⟩
theorem jD.unset {k:Nat} {sn:Slot} {ov:Option V} (w:sn.isRk=false) (f:jD H (ρ.set i sn) (σ.set i ov) k as):k≠i/\jD H ρ σ k as:=by
 obtain⟨C,r,p,dx,d,l1,l2,e1,e2,e3,e4⟩:=f
 have ne:k≠i:=fun z=>by
  subst z
  have hl:k<ρ.length:=by have:=(aw.mp e1).1;rwa [List.length_set] at this
  rw [bh hl] at e1
  cases e1
  cases w
 rw [az (Ne.symm ne)] at e1 e2
 exact⟨ne,C,r,p,dx,d,l1,l2,e1,e2,e3,e4⟩
theorem RS.set {sn:Slot} {ov:Option V} (R:RS H₀ H ρ σ) (w:sn.isRk=false) (n: ∀ a,sn.owns=true->ov=some (.ref a)-> ∀ k as,jD H ρ σ k as->a∉as):RS H₀ H (ρ.set i sn) (σ.set i ov):=by
 refine⟨fun k as f=>R.h0 k as (f.unset w).2,fun k as f a ha j sl e1 e2 e3=> ?_,fun k k' as as' a f f'=>R.rr k k' as as' a (f.unset w).2 (f'.unset w).2⟩
 by_cases z:j=i
 ·subst z
  have hl:j<ρ.length:=by have:=(aw.mp e1).1;rwa [List.length_set] at this
  have hl2:j<σ.length:=by have:=(aw.mp e3).1;rwa [List.length_set] at this
  rw [bh hl] at e1
  rw [bh hl2] at e3
  cases e1
  cases e3
  exact n a e2 rfl k as (f.unset w).2 ha
 ·rw [az (Ne.symm z)] at e1 e3
  exact R.ow k as (f.unset w).2 a ha j sl e1 e2 e3
theorem jD.reset {k:Nat} {sn:Slot} (w:sn.isRk=false) (f:jD H (ρ.set i sn) σ k as):jD H ρ σ k as:=by
 obtain⟨C,r,p,dx,d,l1,l2,e1,e2,e3,e4⟩:=f
 have ne:k≠i:=fun z=>by
  subst z
  have hl:k<ρ.length:=by have:=(aw.mp e1).1;rwa [List.length_set] at this
  rw [bh hl] at e1
  cases e1
  cases w
 rw [az (Ne.symm ne)] at e1
 exact⟨C,r,p,dx,d,l1,l2,e1,e2,e3,e4⟩
theorem RS.re {sl₀ sn:Slot} (R:RS H₀ H ρ σ) (w:sn.isRk=false) (e:ρ[i]? =some sl₀) (w₀:sl₀.owns=true):RS H₀ H (ρ.set i sn) σ:=by
 refine⟨fun k as f=>R.h0 k as (f.reset w),fun k as f a ha j sl e1 e2 e3=> ?_,fun k k' as as' a f f'=>R.rr k k' as as' a (f.reset w) (f'.reset w)⟩
 by_cases z:j=i
 ·subst z
  exact R.ow k as (f.reset w) a ha j sl₀ e w₀ e3
 ·rw [az (Ne.symm z)] at e1
  exact R.ow k as (f.reset w) a ha j sl e1 e2 e3
theorem RackIn.ups {C:Addr} {p:Addr} {r:Rk} {dx d l1 l2 a:Addr} {o:HO} (h:RackIn K ad C G H p r dx d l1 l2) (ha:a∉[p,dx,d,l1,l2]):RackIn K ad C G (upd H a o) p r dx d l1 l2:=by
 simp only [aq,List.not_mem_nil,or_false,not_or] at ha
 obtain⟨n1,n2,n3,n4,n5⟩:=ha
 obtain⟨kvs,a1,a2⟩:=h.held
 obtain⟨v1,b1,b2⟩:=h.done
 obtain⟨v2,c1,c2⟩:=h.undone
 exact⟨by rw [aI (Ne.symm n1)];exact h.ins,by rw [aI (Ne.symm n2)];exact h.own,⟨kvs,by rw [aI (Ne.symm n3)];exact a1,a2⟩,⟨v1,by rw [aI (Ne.symm n4)];exact b1,b2⟩,⟨v2,by rw [aI (Ne.symm n5)];exact c1,c2⟩,h.ne,h.gp,h.gx,h.gd,h.g1,h.g2⟩
theorem RackIn.shr {C:Addr} {p:Addr} {r:Rk} {dx d l1 l2 a:Addr} {o:HO} (h:RackIn K ad C G H p r dx d l1 l2) (ha:a∉[p,dx,d,l1,l2]) (le:Same G (upd G a o)):RackIn K ad C (upd G a o) H p r dx d l1 l2:=by
 simp only [aq,List.not_mem_nil,or_false,not_or] at ha
 obtain⟨n1,n2,n3,n4,n5⟩:=ha
 obtain⟨kvs,a1,a2⟩:=h.held
 obtain⟨v1,b1,b2⟩:=h.done
 obtain⟨v2,c1,c2⟩:=h.undone
 exact⟨h.ins,h.own,⟨kvs,a1,a2.mono le⟩,⟨v1,b1,b2.mono le⟩,⟨v2,c1,c2.mono le⟩,h.ne,by rw [aI (Ne.symm n1)];exact h.gp,by rw [aI (Ne.symm n2)];exact h.gx,by rw [aI (Ne.symm n3)];exact h.gd,by rw [aI (Ne.symm n4)];exact h.g1,by rw [aI (Ne.symm n5)];exact h.g2⟩
end
structure SS (X:Cx) (ad:Ad) (G₀ G H:Hp) (ρ:Rho) (σ:St):Prop where
 st:Step G₀ X.H₀ G H
 sl:SL X.K ad G H ρ σ
 ow: ∀ (i:Nat) (sl:Slot) (a:Addr),ρ[i]? =some sl->sl.owns=true->σ[i]? =some (some (.ref a))->X.H₀ a=none
 dj: ∀ (i j:Nat) (sl sl':Slot) (a:Addr),ρ[i]? =some sl->ρ[j]? =some sl'->sl.owns=true->sl'.owns=true->σ[i]? =some (some (.ref a))->σ[j]? =some (some (.ref a))->i=j
 rs:RS X.H₀ H ρ σ
def OKo (X:Cx) (ad:Ad) (G₀:Hp) (o:Out) (D':Ends) (E:St->Nat->Hp->Prop):Prop:=match o with
 | .nx ρ=> ∀ σ G H,SS X ad G₀ G H ρ σ->D'.nx σ H
 | .bk ρ=> ∀ σ G H,SS X ad G₀ G H ρ σ->D'.bk σ H
 | .ct ρ=> ∀ σ G H,SS X ad G₀ G H ρ σ->D'.ct σ H
 | .ex c ρ=> ∀ σ G H,SS X ad G₀ G H ρ σ->E σ c H
 | .rt (.ok d)=> ∀ v G H,Step G₀ X.H₀ G H->Rep X.K ad G d v->D'.rt v H
 | .rt (.ow xs)=> ∀ p vs G H,Step G₀ X.H₀ G H->X.H₀ p=none->G p=none->H p=some (.lst vs)->aF X.K ad G xs vs->D'.rt (.ref p) H
 | .rt _=>False
def XA (X:Cx) (ad:Ad) (Z:(St->Nat->Hp->Prop)->Prop) (E:St->Nat->Hp->Prop):Prop:=(∀ σ,XP X ad σ (E σ))/\Z E
noncomputable def tS (X:Cx) (ad:Ad) (Z:(St->Nat->Hp->Prop)->Prop) (g:FS):TS:=fun D' σ H=> ∃ G₀ G ρ E,SS X ad G₀ G H ρ σ/\XA X ad Z E/\OKo X ad G₀ (g ρ) D' E
abbrev MS (X:Cx) (ad:Ad) (Z:(St->Nat->Hp->Prop)->Prop) (st:Stmt) (g:FS):Prop:=PS X st (tS X ad Z g)
abbrev MSs (X:Cx) (ad:Ad) (Z:(St->Nat->Hp->Prop)->Prop) (st:List Stmt) (g:FS):Prop:=PSs X st (tS X ad Z g)
section
variable {X:Cx} {ad:Ad} {Z:(St->Nat->Hp->Prop)->Prop} {pins:List (Addr×Obj)} {s:Shared} {σ:St} {H G G₀:Hp} {ρ:Rho} {D':Ends} {E:St->Nat->Hp->Prop} {pos pos':Pos} {e:Expr} {f:F} {g h:FS} {st:Stmt} {sts:List Stmt}
theorem SS.step {G1 H1:Hp} (S:SS X ad G₀ G H ρ σ) (t:Step G H G1 H1):SS X ad G₀ G1 H1 ρ σ:=⟨S.st.trans t,S.sl.step t,S.ow,S.dj,S.rs.same S.sl t.sh⟩
theorem iI {G₀ Gs G H H₀ Hs:Hp} (a:Step G₀ H₀ Gs Hs) (b:Step Gs H₀ G H):Step G₀ H₀ G H:=
 ⟨a.sg.trans b.sg,b.gh,b.sh,fun x h1 h2=>by
  cases q:Gs x with
  | none=>exact b.nw x q h2
  | some o=>exact a.nw x h1 (by rw [q];exact fun z=>nomatch z)⟩
theorem SS.up {Gs Hs:Hp} (a:Step G₀ X.H₀ Gs Hs) (S:SS X ad Gs G H ρ σ):SS X ad G₀ G H ρ σ:=⟨iI a S.st,S.sl,S.ow,S.dj,S.rs⟩
theorem SS.here (S:SS X ad G₀ G H ρ σ):SS X ad G G H ρ σ:=⟨⟨Same.refl _,S.st.gh,S.st.sh,fun b h1 h2=>absurd h1 h2⟩,S.sl,S.ow,S.dj,S.rs⟩
theorem OKo.rebase {o:Out} {Gs Hs:Hp} (h:OKo X ad G₀ o D' E) (a:Step G₀ X.H₀ Gs Hs):OKo X ad Gs o D' E:=by
 cases o with
 | nx ρ=>exact fun σ G H S=>h σ G H (S.up a)
 | bk ρ=>exact fun σ G H S=>h σ G H (S.up a)
 | ct ρ=>exact fun σ G H S=>h σ G H (S.up a)
 | ex c ρ=>exact fun σ G H S=>h σ G H (S.up a)
 | rt r=>
  cases r with
  | ok d=>exact fun v G H st q=>h v G H (iI a st) q
  | ow xs=>exact fun p vs G H st n m e q=>h p vs G H (iI a st) n m e q
  | ex c=>exact h
  | bad=>exact h
theorem dD {k:D->Out} {Q':VK} (S:SS X ad G₀ G H ρ σ) (hx:XA X ad Z E) (hr:OKo X ad G₀ (fB ρ (f ρ) k) D' E)
  (q: ∀ v d G1 H1,Step G H G1 H1->Rep X.K ad G1 d v->OKo X ad G₀ (k d) D' E->Q' v H1):tE X ad f σ H Q':=by
 refine⟨G,ρ,E σ,S.st.gh,S.sl,hx.1 σ, ?_⟩
 unfold fB at hr
 cases e:f ρ with
 | ok d=>rw [e] at hr;exact fun v G1 H1 st r=>q v d G1 H1 st r hr
 | ow xs=>
  rw [e] at hr
  intro p vs G1 H1 st n m e' r
  obtain⟨G2,st2,r2⟩:=cL (X:=X) (ad:=ad) st n m e' r
  exact q _ _ G2 H1 st2 r2 hr
 | ex c=>rw [e] at hr;exact fun G1 H1 st=>hr σ G1 H1 (S.step st)
 | bad=>rw [e] at hr;exact hr
theorem aD2:MS X ad Z (.Pass pos) aY:=PS.imp aCw fun D' σ H ⟨G₀,G,ρ,E,S,hx,hr⟩=>hr σ G H S
theorem zG:MS X ad Z (.Break pos) aPn:=PS.imp yN fun D' σ H ⟨G₀,G,ρ,E,S,hx,hr⟩=>hr σ G H S
theorem p8:MS X ad Z (.Continue pos) aH6:=PS.imp pF fun D' σ H ⟨G₀,G,ρ,E,S,hx,hr⟩=>hr σ G H S
theorem vR:MSs X ad Z [] aY:=PSs.imp aCu fun D' σ H ⟨G₀,G,ρ,E,S,hx,hr⟩=>hr σ G H S
theorem aD3 (h1:MS X ad Z st g):MSs X ad Z [st] g:=aCv h1
theorem zH (h1:MS X ad Z st g) (h2:MSs X ad Z sts h):MSs X ad Z (st::sts) (aR g h):=by
 refine PSs.imp (yM h1 h2) ?_
 rintro D' σ H ⟨G₀,G,ρ,E,S,hx,hr⟩
 refine⟨G₀,G,ρ,E,S,hx, ?_⟩
 unfold aR at hr
 cases e:g ρ with
 | nx ρ'=>rw [e] at hr;exact fun σ' G' H' S'=>⟨G₀,G',ρ',E,S',hx,hr⟩
 | bk ρ'=>rw [e] at hr;exact hr
 | ct ρ'=>rw [e] at hr;exact hr
 | ex c ρ'=>rw [e] at hr;exact hr
 | rt r=>
  rw [e] at hr
  cases r<;>exact hr
theorem vS (he:ME X ad e f):MS X ad Z (.Return (some e) pos) (bW f):=by
 refine PS.imp (aBc he) ?_
 rintro D' σ H ⟨G₀,G,ρ,E,S,hx,hr⟩
 refine⟨G,ρ,E σ,S.st.gh,S.sl,hx.1 σ, ?_⟩
 unfold bW at hr
 cases e:f ρ with
 | ok d=>rw [e] at hr;exact fun v G1 H1 st r=>hr v G1 H1 (S.st.trans st) r
 | ow xs=>rw [e] at hr;exact fun p vs G1 H1 st n m e' r=>hr p vs G1 H1 (S.st.trans st) (S.st.sh.free n) m e' r
 | ex c=>rw [e] at hr;exact fun G1 H1 st=>hr σ G1 H1 (S.step st)
 | bad=>rw [e] at hr;exact hr
theorem aD4:MS X ad Z (.Return none pos) aH5:=PS.imp aCx fun D' σ H ⟨G₀,G,ρ,E,S,hx,hr⟩=>hr .non G H S.st (by unfold Rep;rfl)
theorem aD5 {i:Nat} {x:Str} {p:Pos} (hN:X.N[i]? =some x) (hv:Vis X.env.scope x) (hd:(x==("__debug__":Str))=false) (hcd:(x==("__classdict__":Str))=false):MS X ad Z (.Return (some (.Name x p)) pos) (bW (uW i)):=by
 refine PS.imp (aBc (eY hN hv hd hcd)) ?_
 rintro D' σ H ⟨G₀,G,ρ,E,S,hx,hr⟩
 unfold bW uW at hr
 cases e:ρ[i]? with
 | none=>rw [e] at hr;exact hr.elim
 | some sl=>
  rw [e] at hr
  cases sl with
  | no=>exact hr.elim
  | dc kvs=>exact hr.elim
  | sd kvs=>exact hr.elim
  | rk _ _=>exact hr.elim
  | sh d=>
   obtain⟨v,h1,h2⟩:=S.sl.sh e
   exact⟨v,h1,hr v G H S.st h2⟩
  | ow xs=>
   obtain⟨a,vs,h1,h2,h3,h4⟩:=S.sl.ow e
   exact⟨.ref a,h1,hr a vs G H S.st (S.ow i _ a e rfl h1) h2 h3 h4⟩
theorem aD6 (he:ME X ad e f) (hs:swapsWith e none pos.line X.env=pure false):MS X ad Z (.Expr e pos) (eJ f):=by
 refine PS.imp (pG he hs) ?_
 rintro D' σ H ⟨G₀,G,ρ,E,S,hx,hr⟩
 exact dD S hx hr fun v d G1 H1 st r k=>k σ G1 H1 (S.step st)
theorem SS.set {i:Nat} {d:D} {v:V} (S:SS X ad G₀ G H ρ σ) (r:Rep X.K ad G d v):SS X ad G₀ G H (ρ.set i (.sh d)) (σ.set i (some v)):=by
 have key: ∀ (j:Nat) (sl:Slot),(ρ.set i (.sh d))[j]? =some sl->(j=i/\sl= .sh d/\i<ρ.length)\/(j≠i/\ρ[j]? =some sl):=fun j sl e=>by
  by_cases z:j=i
  ·subst z
   have hl:j<ρ.length:=by have:=(aw.mp e).1;rwa [List.length_set] at this
   rw [bh hl] at e
   cases e
   exact .inl ⟨rfl,rfl,hl⟩
  ·rw [az (Ne.symm z)] at e
   exact .inr ⟨z,e⟩
 refine⟨S.st,⟨by rw [List.length_set,List.length_set];exact S.sl.len,fun j sl e=> ?_⟩,fun j xs a e w h=> ?_,fun j j' xs ys a e e' w w' h h'=> ?_,S.rs.set rfl fun _ z=>nomatch z⟩
 ·rcases key j sl e with ⟨rfl,rfl,hl⟩ | ⟨z,e⟩
  ·exact⟨some v,bh (by rw [<-S.sl.len];exact hl),v,rfl,r⟩
  ·obtain⟨ov,h1,h2⟩:=S.sl.at_ j sl e
   exact⟨ov,by rw [az (Ne.symm z)];exact h1,h2⟩
 ·rcases key j _ e with ⟨_,z,_⟩ | ⟨z,e⟩
  ·subst z;exact(bd w).elim
  ·rw [az (Ne.symm z)] at h
   exact S.ow j xs a e w h
 ·rcases key j _ e with ⟨_,z,_⟩ | ⟨z,e⟩
  ·subst z;exact(bd w).elim
  ·rcases key j' _ e' with ⟨_,z',_⟩ | ⟨z',e'⟩
   ·subst z';exact(bd w').elim
   ·rw [az (Ne.symm z)] at h
    rw [az (Ne.symm z')] at h'
    exact S.dj j j' xs ys a e e' w w' h h'
theorem SL.own_at {K:PySem.W.Frag} {j:Nat} {sl:Slot} {p:Addr} (h:SL K ad G H ρ σ) (e:ρ[j]? =some sl) (w:sl.owns=true) (hj:σ[j]? =some (some (.ref p))):G p=none/\H p≠none:=by
 obtain⟨ov,h1,h2⟩:=h.at_ j sl e
 rw [hj] at h1
 cases h1
 cases sl with
 | no=>exact(bd w).elim
 | sh d=>exact(bd w).elim
 | sd d=>exact(bd w).elim
 | rk _ _=>exact(bd w).elim
 | ow xs=>obtain⟨a,vs,k1,k2,k3,_⟩:=h2;cases k1;exact⟨k2,by rw [k3];exact fun z=>nomatch z⟩
 | dc xs=>obtain⟨a,vs,k1,k2,k3,_⟩:=h2;cases k1;exact⟨k2,by rw [k3];exact fun z=>nomatch z⟩
theorem SS.setNew {i:Nat} {sn:Slot} {p:Addr} {G1 H1:Hp} (S:SS X ad G₀ G H ρ σ) (st:Step G H G1 H1) (n:H p=none) (r:SLi X.K ad G1 H1 sn (some (.ref p))) (wr:sn.isRk=false:=by rfl):
  SS X ad G₀ G1 H1 (ρ.set i sn) (σ.set i (some (.ref p))):=by
 have S1:=S.step st
 have key: ∀ (j:Nat) (sl:Slot),(ρ.set i sn)[j]? =some sl->(j=i/\sl=sn/\i<ρ.length)\/(j≠i/\ρ[j]? =some sl):=fun j sl e=>by
  by_cases z:j=i
  ·subst z
   have hl:j<ρ.length:=by have:=(aw.mp e).1;rwa [List.length_set] at this
   rw [bh hl] at e
   cases e
   exact .inl ⟨rfl,rfl,hl⟩
  ·rw [az (Ne.symm z)] at e
   exact .inr ⟨z,e⟩
 -- no other slot holds the new list
 have other: ∀ (j:Nat) (sl:Slot),ρ[j]? =some sl->sl.owns=true->σ[j]? ≠some (some (.ref p)):=fun j sl ej w hj=>(S.sl.own_at ej w hj).2 n
 refine⟨S1.st,⟨by rw [List.length_set,List.length_set];exact S.sl.len,fun j sl e'=> ?_⟩,fun j ys a e' w h=> ?_,fun j j' ys zs a e1 e2 w1 w2 h1 h2=> ?_,S1.rs.set wr fun a _ z k as f m=>by
  cases z
  exact((f.back S.sl st.sh).at S.sl p m).2 n⟩
 ·rcases key j sl e' with ⟨q1,q2,hl⟩ | ⟨z,e'⟩
  ·rw [q1,q2]
   exact⟨some (.ref p),bh (by rw [<-S.sl.len];exact hl),r⟩
  ·obtain⟨ov,h1,h2⟩:=S1.sl.at_ j sl e'
   exact⟨ov,by rw [az (Ne.symm z)];exact h1,h2⟩
 ·rcases key j _ e' with ⟨q1,_,hl⟩ | ⟨z,e'⟩
  ·rw [q1,bh (by rw [<-S.sl.len];exact hl)] at h
   cases h
   exact S.st.sh.free n
  ·rw [az (Ne.symm z)] at h
   exact S.ow j ys a e' w h
 ·rcases key j _ e1 with ⟨q1,_,hl⟩ | ⟨z,f1⟩
  ·rcases key j' _ e2 with ⟨q2,_,_⟩ | ⟨z',f2⟩
   ·rw [q1,q2]
   ·rw [q1,bh (by rw [<-S.sl.len];exact hl)] at h1
    cases h1
    rw [az (Ne.symm z')] at h2
    exact absurd h2 (other j' zs f2 w2)
  ·rcases key j' _ e2 with ⟨q2,_,hl⟩ | ⟨z',f2⟩
   ·rw [q2,bh (by rw [<-S.sl.len];exact hl)] at h2
    cases h2
    rw [az (Ne.symm z)] at h1
    exact absurd h1 (other j ys f1 w1)
   ·rw [az (Ne.symm z)] at h1
    rw [az (Ne.symm z')] at h2
    exact S.dj j j' ys zs a f1 f2 w1 w2 h1 h2
theorem SS.setOw {i:Nat} {xs:List D} {p:Addr} {vs:List V} {G1 H1:Hp} (S:SS X ad G₀ G H ρ σ) (st:Step G H G1 H1) (n:H p=none) (m:G1 p=none) (e:H1 p=some (.lst vs)) (r:aF X.K ad G1 xs vs):
  SS X ad G₀ G1 H1 (ρ.set i (.ow xs)) (σ.set i (some (.ref p))):=S.setNew st n ⟨p,vs,rfl,m,e,r⟩
theorem aIu {i:Nat} (S:SS X ad G₀ G H ρ σ) (hx:XA X ad Z E) (hr:OKo X ad G₀ (i7 i f ρ) D' E):tE X ad f σ H fun v H1=>D'.nx (σ.set i (some v)) H1:=by
 refine⟨G,ρ,E σ,S.st.gh,S.sl,hx.1 σ, ?_⟩
 unfold i7 at hr
 cases e:f ρ with
 | ok d=>rw [e] at hr;exact fun v G1 H1 st r=>hr _ G1 H1 ((S.step st).set r)
 | ow xs=>rw [e] at hr;exact fun p vs G1 H1 st n m e' r=>hr _ G1 H1 (S.setOw st n m e' r)
 | ex c=>rw [e] at hr;exact fun G1 H1 st=>hr σ G1 H1 (S.step st)
 | bad=>rw [e] at hr;exact hr
theorem aNh {c:Expr} {a b:List Stmt} (hc:MT X ad c f) (ha:MSs X ad Z a g) (hb:MSs X ad Z b h):MS X ad Z (.If c a b pos) (sIf f g h):=by
 refine PS.imp (aMf hc ha hb) ?_
 rintro D' σ H ⟨G₀,G,ρ,E,S,hx,hr⟩
 unfold sIf at hr
 cases e:f ρ with
 | ok d=>
  rw [e] at hr
  cases d<;>try exact hr.elim
  rename_i k
  refine⟨G,ρ,E σ,S.st.gh,S.sl,hx.1 σ, .inl ⟨k,e⟩, ?_⟩
  rw [e]
  intro v G1 H1 st r
  unfold Rep at r;subst r
  refine⟨k,rfl, ?_⟩
  cases k with
  | true=>exact yT ⟨G₀,G1,ρ,E,S.step st,hx,hr⟩
  | false=>exact aBh ⟨G₀,G1,ρ,E,S.step st,hx,hr⟩
 | ow xs=>rw [e] at hr;exact hr.elim
 | ex k=>
  rw [e] at hr
  refine⟨G,ρ,E σ,S.st.gh,S.sl,hx.1 σ, .inr ⟨k,e⟩, ?_⟩
  rw [e]
  exact fun G1 H1 st=>hr σ G1 H1 (S.step st)
 | bad=>rw [e] at hr;exact hr.elim
theorem SS.shareG {i:Nat} {sl₀ sn:Slot} {a:Addr} {o:HO} (S:SS X ad G₀ G H ρ σ) (e:ρ[i]? =some sl₀) (w₀:sl₀.owns=true) (h1:σ[i]? =some (some (.ref a))) (h3:H a=some o) (hst:Step G₀ X.H₀ (upd G a o) H) (wn:sn.owns=false)
  (r:SLi X.K ad (upd G a o) H sn (some (.ref a))) (wr:sn.isRk=false:=by rfl):SS X ad G₀ (upd G a o) H (ρ.set i sn) σ:=by
 have h2:G a=none:=(S.sl.own_at e w₀ h1).1
 have le:Same G (upd G a o):=Same.upd_new h2
 have hl:i<ρ.length:=(aw.mp e).1
 have key: ∀ (j:Nat) (sl:Slot),(ρ.set i sn)[j]? =some sl->(j=i/\sl=sn)\/(j≠i/\ρ[j]? =some sl):=fun j sl e=>by
  by_cases z:j=i
  ·subst z
   rw [bh hl] at e
   cases e
   exact .inl ⟨rfl,rfl⟩
  ·rw [az (Ne.symm z)] at e
   exact .inr ⟨z,e⟩
 refine⟨hst,⟨by show(ρ.set i _).length=_;rw [List.length_set];exact S.sl.len,fun j sl e'=> ?_⟩,fun j ys b e' w h=> ?_,fun j j' ys zs b e1 e2 w1 w2 k1 k2=> ?_,S.rs.re wr e w₀⟩
 ·rcases key j sl e' with ⟨q1,q2⟩ | ⟨z,e'⟩
  ·rw [q1,q2]
   exact⟨some (.ref a),h1,r⟩
  ·obtain⟨ov,k1,k2⟩:=S.sl.at_ j sl e'
   refine⟨ov,k1, ?_⟩
   cases sl with
   | no=>trivial
   | sh d=>obtain⟨v,k3,k4⟩:=k2;exact⟨v,k3,k4.mono le⟩
   | ow ys=>
    obtain⟨b,ws,k3,k4,k5,k6⟩:=k2
    have ne:b≠a:=fun q=>by
     subst q
     subst k3
     exact z (S.dj j i _ _ b e' e rfl w₀ k1 h1)
    exact⟨b,ws,k3,by rw [aI ne];exact k4,k5,k6.mono le⟩
   | dc ys=>
    obtain⟨b,ws,k3,k4,k5,k6,k7⟩:=k2
    have ne:b≠a:=fun q=>by
     subst q
     subst k3
     exact z (S.dj j i _ _ b e' e rfl w₀ k1 h1)
    exact⟨b,ws,k3,by rw [aI ne];exact k4,k5,k6.mono le,k7⟩
   | sd ys=>
    obtain⟨b,ws,k3,k4,k5,k6,k7⟩:=k2
    exact⟨b,ws,k3,le _ _ k4,k5,k6.mono le,k7⟩
   | rk C r=>
    obtain⟨p,dx,d,l1,l2,k3,k4⟩:=k2
    have ft:jD H ρ σ j [p,dx,d,l1,l2]:=⟨C,r,p,dx,d,l1,l2,e',by rw [k1,k3],k4.ins,rfl⟩
    exact⟨p,dx,d,l1,l2,k3,k4.shr (fun m=>S.rs.ow j _ ft a m i sl₀ e w₀ h1) le⟩
 ·rcases key j _ e' with ⟨_,z⟩ | ⟨z,e'⟩
  ·rw [z,wn] at w;exact(bd w).elim
  ·exact S.ow j ys b e' w h
 ·rcases key j _ e1 with ⟨_,z⟩ | ⟨z,e1⟩
  ·rw [z,wn] at w1;exact(bd w1).elim
  ·rcases key j' _ e2 with ⟨_,z'⟩ | ⟨z',e2⟩
   ·rw [z',wn] at w2;exact(bd w2).elim
   ·exact S.dj j j' ys zs b e1 e2 w1 w2 k1 k2
theorem SS.frz1 {i:Nat} (S:SS X ad G₀ G H ρ σ): ∃ G',SS X ad G₀ G' H (SK.frz1 i ρ) σ/\Same G G':=by
 unfold SK.frz1
 cases e:ρ[i]? with
 | none=>exact⟨G,S,Same.refl _⟩
 | some sl=>
  cases sl with
  | no=>exact⟨G,S,Same.refl _⟩
  | sd d=>exact⟨G,S,Same.refl _⟩
  | rk _ _=>exact⟨G,S,Same.refl _⟩
  | sh d=>exact⟨G,S,Same.refl _⟩
  | dc kvs=>
   obtain⟨a,es,h1,h2,h3,h4,h5⟩:=S.sl.dc e
   have le:Same G (upd G a (dcO a es)):=Same.upd_new h2
   exact⟨_,S.shareG e rfl h1 h3 (S.st.shareO (S.ow i _ a e rfl h1) h2 h3) rfl ⟨a,es,rfl,aN,h3,h4.mono le,h5⟩,le⟩
  | ow xs=>
   obtain⟨a,vs,h1,h2,h3,h4⟩:=S.sl.ow e
   have le:Same G (upd G a (.lst vs)):=Same.upd_new h2
   exact⟨_,S.shareG e rfl h1 h3 (S.st.share (S.ow i _ a e rfl h1) h2 h3) rfl ⟨.ref a,rfl,by unfold Rep;exact⟨a,vs,rfl,SqL.of aN,h4.mono le⟩⟩,le⟩
theorem SS.frz {is:List Nat}: ∀ {ρ:Rho} {G:Hp},SS X ad G₀ G H ρ σ-> ∃ G',SS X ad G₀ G' H (SK.frz is ρ) σ/\Same G G':=by
 induction is with
 | nil=>intro ρ G S;exact⟨G,S,Same.refl _⟩
 | cons i is ih=>
  intro ρ G S
  obtain⟨G1,S1,l1⟩:=S.frz1 (i:=i)
  obtain⟨G2,S2,l2⟩:=ih S1
  exact⟨G2,S2,l1.trans l2⟩
theorem eA {is:List Nat} (h1:MS X ad Z st g):MS X ad Z st (cG is g):=by
 cases is with
 | nil=>exact h1
 | cons i is=>
  refine PS.imp h1 ?_
  rintro D' σ H ⟨G₀,G,ρ,E,S,hx,hr⟩
  obtain⟨G',S',_⟩:=S.frz (is:=i::is)
  exact⟨G₀,G',_,E,S',hx,hr⟩
end
section
variable {X:Cx} {ad:Ad} {Z:(St->Nat->Hp->Prop)->Prop} {pins:List (Addr×Obj)} {s:Shared} {σ:St} {H G G₀:Hp} {ρ:Rho} {D':Ends} {E:St->Nat->Hp->Prop} {pos pos':Pos} {e:Expr} {f:F} {g h:FS} {st:Stmt} {sts:List Stmt}
theorem SS.updG {i:Nat} {sl₀ sn:Slot} {a:Addr} {o:HO} (S:SS X ad G₀ G H ρ σ) (e:ρ[i]? =some sl₀) (w₀:sl₀.owns=true) (h1:σ[i]? =some (some (.ref a))) (r:SLi X.K ad G (upd H a o) sn (some (.ref a))) (wr:sn.isRk=false:=by rfl):SS X ad G₀ G (upd H a o) (ρ.set i sn) σ:=by
 have n0:X.H₀ a=none:=S.ow i sl₀ a e w₀ h1
 have h2:G a=none:=(S.sl.own_at e w₀ h1).1
 have hl:i<ρ.length:=(aw.mp e).1
 have key: ∀ (j:Nat) (sl:Slot),(ρ.set i sn)[j]? =some sl->(j=i/\sl=sn)\/(j≠i/\ρ[j]? =some sl):=fun j sl e=>by
  by_cases z:j=i
  ·subst z
   rw [bh hl] at e
   cases e
   exact .inl ⟨rfl,rfl⟩
  ·rw [az (Ne.symm z)] at e
   exact .inr ⟨z,e⟩
 refine⟨oD S.st n0 h2,⟨by rw [List.length_set];exact S.sl.len,fun j sl e'=> ?_⟩,fun j zs b e' w h=> ?_,fun j j' zs zs' b e1 e2 w1 w2 k1 k2=> ?_, ?_⟩
 ·rcases key j sl e' with ⟨q1,q2⟩ | ⟨z,f1⟩
  ·rw [q1,q2]
   exact⟨some (.ref a),h1,r⟩
  ·obtain⟨ov,k1,k2⟩:=S.sl.at_ j sl f1
   refine⟨ov,k1, ?_⟩
   cases sl with
   | no=>trivial
   | sh d=>exact k2
   | ow zs=>
    obtain⟨b,vs',k3,k4,k5,k6⟩:=k2
    have ne:b≠a:=fun q=>by
     subst q
     subst k3
     exact z (S.dj j i _ _ b f1 e rfl w₀ k1 h1)
    exact⟨b,vs',k3,k4,by rw [aI ne];exact k5,k6⟩
   | dc zs=>
    obtain⟨b,vs',k3,k4,k5,k6⟩:=k2
    have ne:b≠a:=fun q=>by
     subst q
     subst k3
     exact z (S.dj j i _ _ b f1 e rfl w₀ k1 h1)
    exact⟨b,vs',k3,k4,by rw [aI ne];exact k5,k6⟩
   | sd zs=>
    obtain⟨b,vs',k3,k4,k5,k6⟩:=k2
    have ne:b≠a:=fun q=>by
     rw [q] at k4
     rw [h2] at k4
     cases k4
    exact⟨b,vs',k3,k4,by rw [aI ne];exact k5,k6⟩
   | rk C r=>
    obtain⟨p,dx,d,l1,l2,k3,k4⟩:=k2
    have ft:jD H ρ σ j [p,dx,d,l1,l2]:=⟨C,r,p,dx,d,l1,l2,f1,by rw [k1,k3],k4.ins,rfl⟩
    exact⟨p,dx,d,l1,l2,k3,k4.ups (fun m=>S.rs.ow j _ ft a m i sl₀ e w₀ h1)⟩
 ·rcases key j _ e' with ⟨q1,q2⟩ | ⟨z,f1⟩
  ·rw [q1,h1] at h
   cases h
   exact n0
  ·exact S.ow j zs b f1 w h
 ·rcases key j _ e1 with ⟨q1,_⟩ | ⟨z,f1⟩
  ·rcases key j' _ e2 with ⟨q2,_⟩ | ⟨z',f2⟩
   ·rw [q1,q2]
   ·rw [q1] at k1 ⊢
    exact S.dj i j' _ zs' b e f2 w₀ w2 k1 k2
  ·rcases key j' _ e2 with ⟨q2,_⟩ | ⟨z',f2⟩
   ·rw [q2] at k2 ⊢
    exact S.dj j i zs _ b f1 e w1 w₀ k1 k2
   ·exact S.dj j j' zs zs' b f1 f2 w1 w2 k1 k2
 ·refine RS.re (H:=upd H a o) ?_ wr e w₀
  have bk: ∀ {k:Nat} {as:List Addr},jD (upd H a o) ρ σ k as->jD H ρ σ k as:=fun {k as} f=>by
   obtain⟨C,r,p,dx,d,l1,l2,f1,f2,f3,f4⟩:=f
   obtain⟨p',dx',d',l1',l2',q1,q2⟩:=S.sl.rk f1
   rw [f2] at q1
   cases q1
   have ft:jD H ρ σ k [p,dx',d',l1',l2']:=⟨C,r,p,dx',d',l1',l2',f1,f2,q2.ins,rfl⟩
   have ne:p≠a:=fun z=>S.rs.ow k _ ft p (by simp) i sl₀ e w₀ (by rw [z];exact h1)
   rw [aI ne] at f3
   exact⟨C,r,p,dx,d,l1,l2,f1,f2,f3,f4⟩
  exact⟨fun k as f=>S.rs.h0 k as (bk f),fun k as f=>S.rs.ow k as (bk f),fun k k' as as' c f f'=>S.rs.rr k k' as as' c (bk f) (bk f')⟩
theorem SS.upd {i:Nat} {xs ys:List D} {a:Addr} {ws:List V} (S:SS X ad G₀ G H ρ σ) (e:ρ[i]? =some (.ow xs)) (h1:σ[i]? =some (some (.ref a))) (h2:G a=none) (r:aF X.K ad G ys ws):SS X ad G₀ G (L2.upd H a (.lst ws)) (ρ.set i (.ow ys)) σ:=
 S.updG e rfl h1 ⟨a,ws,rfl,h2,aN,r⟩
theorem mF {cpos:Pos} (hs:starEach [e] X.env=(false,eval e X.env)::starEach [] X.env):((backTo cpos (starEach [e] X.env)).all (fun x=> !x.1)&&(backToKw cpos (keywordEach [] X.env)).all (fun x=>x.1.isSome)
   &&decide ([e].length+([]:List Keyword).length+(if([]:List Keyword).isEmpty then 0 else 1)<30))=true:=by
 rw [hs]
 rfl
theorem aIv {i:Nat} {x:Str} {p ap cp:Pos} (hN:X.N[i]? =some x) (hv:Vis X.env.scope x) (hd:(x==("__debug__":Str))=false) (hcd:(x==("__classdict__":Str))=false) (he:ME X ad e f) (hs:starEach [e] X.env=(false,eval e X.env)::starEach [] X.env)
  (hline:(ap.endLine==cp.line)=true):MS X ad Z (.Expr (.Call (.Attribute (.Name x p) "append" ap) [e] [] cp) pos) (aBj i f):=by
 refine PS.imp (pG (aHw (T:="list") PySem.F.plainAttrs_list PySem.F.slot_list_append PySem.F.type_list_append nL (eY hN hv hd hcd) (b9 he eI hs) rfl (mF hs) hline hs rfl) rfl) ?_
 rintro D' σ H ⟨G₀,G,ρ,E,S,hx,hr⟩
 unfold aBj at hr
 cases q:ρ[i]? with
 | none=>rw [q] at hr;exact hr.elim
 | some sl=>
  rw [q] at hr
  cases sl with
  | no=>exact hr.elim
  | sh d=>exact hr.elim
  | dc d=>exact hr.elim
  | sd d=>exact hr.elim
  | rk _ _=>exact hr.elim
  | ow xs=>
   obtain⟨a,vs,h1,h2,h3,h4⟩:=S.sl.ow q
   refine⟨.ref a,h1, .inl ⟨rfl,vs,SqL.of h3⟩, ?_⟩
   refine dD S hx hr fun v d G1 H1 st r k=> ?_
   obtain⟨g1,h1'⟩:=cM st h2 h3
   have k':OKo X ad G₀ (if xs.length<LIM then .nx (ρ.set i (.ow (xs++[d]))) else .rt .bad) D' E:=k
   by_cases hc:xs.length<LIM
   ·rw [if_pos hc] at k'
    have r4:=h4.mono st.sg
    refine⟨a,vs,v,rfl,rfl,h1', ?_,k' σ G1 _ ((S.step st).upd q h1 g1 (r4.append (aF.cons r aF.nil)))⟩
    rw [h4.length]
    exact bf hc (by decide)
   ·rw [if_neg hc] at k'
    exact k'.elim
noncomputable def aQv (K:PySem.W.Frag):V->List V->Hp->VK->Prop:=fun x vs H Q=> ∃ l b xs zs,x= .ref l/\vs=[.ref b]/\H l=some (.lst xs)/\SqL K H b zs/\xs.length+zs.length<=sizeLine/\Q .non (upd H l (.lst (xs++zs)))
theorem aIw:MtM X "list.extend" (aQv X.K):=by
 intro pins s σ H x vs v us Q I rx rv h
 obtain⟨l,b,xs,zs,rfl,rfl,hH,hB,hz,q⟩:=h
 cases rx
 obtain⟨u,rfl,ru⟩:=rv.one
 cases ru
 obtain⟨z,its,n,r,hl,e⟩:=I.lstM hH
 obtain⟨its2,r2,⟨⟨cls2,dd2,data2,sl2⟩,n2,e2,hc2,hdd2,hd2⟩,_⟩:=I.list hB
 simp only at hc2 hd2 hdd2
 subst hc2 hd2
 have hl2:=r2.length
 have hsz:its.toArray.size+its2.toArray.size<=sizeLine:=by rw [av,av];omega
 have hlong: ¬ (!its.toArray.isEmpty&&Builtin.List.listTooLong (its.toArray.size+its2.toArray.size))=true:=by
  rw [rC hsz,Bool.and_false]
  exact bd
 refine call_meets F.slot_list_extend ⟨_,e,rfl⟩ F.entry_list_extend (F.args_list_extend_2 _ _)
  (nN l its.toArray n b its2.toArray n2 dd2 sl2 hlong (by rw [av];omega) (by omega)) ⟨e,e2, ?_⟩
 refine⟨.non,_,I.lset (its':=its++its2) hH e (by simp) (r.append r2) ?_,rfl,q⟩
 rw [bn]
 omega
theorem aIx {i:Nat} {x:Str} {p ap cp:Pos} (hN:X.N[i]? =some x) (hv:Vis X.env.scope x) (hd:(x==("__debug__":Str))=false) (hcd:(x==("__classdict__":Str))=false) (he:ME X ad e f) (hs:starEach [e] X.env=(false,eval e X.env)::starEach [] X.env)
  (hline:(ap.endLine==cp.line)=true):MS X ad Z (.Expr (.Call (.Attribute (.Name x p) "extend" ap) [e] [] cp) pos) (aL1 i f):=by
 refine PS.imp (pG (aHw (T:="list") PySem.F.plainAttrs_list PySem.F.slot_list_extend PySem.F.type_list_extend aIw (eY hN hv hd hcd) (b9 he eI hs) rfl (mF hs) hline hs rfl) rfl) ?_
 rintro D' σ H ⟨G₀,G,ρ,E,S,hx,hr⟩
 unfold aL1 at hr
 cases q:ρ[i]? with
 | none=>rw [q] at hr;exact hr.elim
 | some sl=>
  rw [q] at hr
  cases sl with
  | no=>exact hr.elim
  | sh d=>exact hr.elim
  | dc d=>exact hr.elim
  | sd d=>exact hr.elim
  | rk _ _=>exact hr.elim
  | ow xs=>
   obtain⟨a,vs,h1,h2,h3,h4⟩:=S.sl.ow q
   refine⟨.ref a,h1, .inl ⟨rfl,vs,SqL.of h3⟩, ?_⟩
   refine dD S hx hr fun v d G1 H1 st r k=> ?_
   obtain⟨g1,h1'⟩:=cM st h2 h3
   cases d<;>try exact ay k
   rename_i ys
   have k':OKo X ad G₀ (if xs.length+ys.length<=LIM then .nx (ρ.set i (.ow (xs++ys))) else .rt .bad) D' E:=k
   by_cases hc:xs.length+ys.length<=LIM
   ·rw [if_pos hc] at k'
    have r4:=h4.mono st.sg
    unfold Rep at r
    obtain⟨b,ws,rfl,hq,rq⟩:=r
    refine⟨a,b,vs,ws,rfl,rfl,h1',st.gh.seq hq, ?_,k' σ G1 _ ((S.step st).upd q h1 g1 (r4.append rq))⟩
    rw [h4.length,rq.length]
    exact Nat.le_trans hc (by decide)
   ·rw [if_neg hc] at k'
    exact k'.elim
structure ItG (X:Cx) (ad:Ad) (J:It) (G:Hp) (ds:List D):Prop where
 go: ∀ (i:Nat) (G1 H1:Hp) (d:D),Same G G1->Same G1 H1->ds[i]? =some d->J.go i H1/\ ∀ x H2,J.yld i H1 x H2-> ∃ G2,Step G1 H1 G2 H2/\Rep X.K ad G2 d x
 stop: ∀ (G1 H1:Hp),Same G G1->Same G1 H1->J.stop ds.length H1
def IGK (X:Cx) (ad:Ad) (G H:Hp) (r:R) (W:It->Hp->Prop) (E:Nat->Hp->Prop):Prop:=match r with
 | .ok d=> ∃ ds,items d=some ds/\ ∀ J G' H',Step G H G' H'->ItG X ad J G' ds->W J H'
 | .ow xs=> ∀ J G' H',Step G H G' H'->ItG X ad J G' xs->W J H'
 | .ex c=> ∀ G' H',Step G H G' H'->E c H'
 | .bad=>False
noncomputable def tIG (X:Cx) (ad:Ad) (f:F):TI:=fun σ H W=> ∃ G ρ E,Same G H/\SL X.K ad G H ρ σ/\XP X ad σ E/\IGK X ad G H (f ρ) W E
abbrev MIG (X:Cx) (ad:Ad) (tg e:Expr) (f:F):Prop:=PI X tg e (tIG X ad f)
theorem aD7 {a:Addr} {vs:List V} {ds:List D} (hq:SqT X.K G a vs) (r:aF X.K ad G ds vs):ItG X ad (Itt X.K a) G ds:=by
 refine⟨fun i G1 H1 d s1 s2 e=> ?_,fun G1 H1 s1 s2=>⟨vs,s2.seqT (s1.seqT hq),by rw [r.length];exact aj _⟩⟩
 obtain⟨v,e1,r1⟩:=r.get e
 refine⟨⟨vs,v,s2.seqT (s1.seqT hq),e1⟩, ?_⟩
 rintro x H2 ⟨rfl,y⟩
 have:=y vs (s2.seqT (s1.seqT hq))
 rw [e1] at this
 cases this
 exact⟨G1,Step.refl s2,r1.mono s1⟩
theorem aD8 {a:Addr} {vs:List V} {ds:List D} (hq:SqL X.K G a vs) (r:aF X.K ad G ds vs):ItG X ad (Itl X.K a) G ds:=by
 refine⟨fun i G1 H1 d s1 s2 e=> ?_,fun G1 H1 s1 s2=>⟨vs,s2.seq (s1.seq hq),by rw [r.length];exact aj _⟩⟩
 obtain⟨v,e1,r1⟩:=r.get e
 refine⟨⟨vs,v,s2.seq (s1.seq hq),e1⟩, ?_⟩
 rintro x H2 ⟨rfl,y⟩
 have:=y vs (s2.seq (s1.seq hq))
 rw [e1] at this
 cases this
 exact⟨G1,Step.refl s2,r1.mono s1⟩
theorem aD9 {lo:Int} {n:Nat}:ItG X ad (Itr lo n) G ((List.range n).map fun(i:Nat)=>D.int (lo+(i:Int))):=by
 refine⟨fun i G1 H1 d s1 s2 e=> ?_,fun G1 H1 s1 s2=>by simp [Itr]⟩
 rw [List.getElem?_map] at e
 cases q:(List.range n)[i]? with
 | none=>rw [q] at e;cases e
 | some j=>
  rw [q] at e
  obtain⟨hi,hj⟩:=aw.mp q
  rw [List.length_range] at hi
  rw [List.getElem_range] at hj
  subst hj
  cases e
  refine⟨hi, ?_⟩
  rintro x H2 ⟨rfl,rfl⟩
  exact⟨G1,Step.refl s2,aM⟩
theorem jY {tg a:Expr} {f:F} (ha:ME X ad a f):MIG X ad tg a f:=by
 intro pins s σ H W I ⟨G,ρ,E,hG,hS,hx,hr⟩
 have key: ∀ (d:D) (ds:List D),items d=some ds->(∀ J G' H',Step G H G' H'->ItG X ad J G' ds->W J H')-> ∀ u s1 v H1 G1,Inv X pins σ H1 s1->bA v u->Step G H G1 H1->Rep X.K ad G1 d v->wpAny (model X.prog X.w) X.A (pyIter u) (PIE X pins σ tg W) X.xe s1:=by
  intro d ds e hw u s1 v H1 G1 I1 r1 st q
  obtain⟨p,vs,rfl,hq,rq⟩:=jT e q
  cases (show u=Value.ref p from r1)
  rcases hq with hq | hq
  ·obtain⟨its,rv,pt,hz⟩:=I1.tuple (st.gh.seqT hq)
   refine wpAny_pyIter_tuple (show s1.heap.IsTuple p its.toArray from pt) ?_
   refine⟨s1.heap.objs.size,[s1.heap.objs.size],_,_,H1,rfl,I1.kept (t':=s1.toks) fun b o e=>af _ e,k8 p _,⟨_,ag _ rfl,rfl,rfl⟩,fun b hb=> ?_,hw _ G1 H1 st (aD7 hq rq)⟩
   have e:b=s1.heap.objs.size:=by simpa using hb
   subst e
   exact I1.fpOk (aj _) (I1.hok.fresh (aj _))
  ·obtain⟨its,rv,pt,hz⟩:=I1.list (st.gh.seq hq)
   refine wpAny_pyIter_list pt.isList ?_
   refine⟨s1.heap.objs.size,[s1.heap.objs.size],_,_,H1,rfl,I1.kept (t':=s1.toks) fun b o e=>af _ e,mZ p _,⟨_,ag _ rfl,rfl,rfl⟩,fun b hb=> ?_,hw _ G1 H1 st (aD8 hq rq)⟩
   have e:b=s1.heap.objs.size:=by simpa using hb
   subst e
   exact I1.fpOk (aj _) (I1.hok.fresh (aj _))
 cases e:f ρ with
 | ok d=>
  rw [e] at hr
  obtain⟨ds,e2,hw⟩:=hr
  exact L2.thn (ha pins s σ H (fun v H1=> ∃ G1,Step G H G1 H1/\Rep X.K ad G1 d v) I ⟨G,ρ,E,hG,hS,hx,by rw [e];exact fun v G1 H1 st q=>⟨G1,st,q⟩⟩) fun u s1 ⟨v,H1,I1,r1,G1,st,q⟩=>key d ds e2 hw u s1 v H1 G1 I1 r1 st q
 | ow l=>
  rw [e] at hr
  exact L2.thn (ha pins s σ H (fun v H1=> ∃ G1,Step G H G1 H1/\Rep X.K ad G1 (.lst l) v) I ⟨G,ρ,E,hG,hS,hx,by rw [e];exact fun p vs G1 H1 st n m e' q=>cL st n m e' q⟩) fun u s1 ⟨v,H1,I1,r1,G1,st,q⟩=>key (.lst l) l rfl hr u s1 v H1 G1 I1 r1 st q
 | ex c=>
  rw [e] at hr
  exact L2.thn (ha pins s σ H (fun v H1=>False) I ⟨G,ρ,E,hG,hS,hx,by rw [e];exact hr⟩) fun u s1 ⟨v,H1,I1,r1,q⟩=>q.elim
 | bad=>
  rw [e] at hr
  exact ay hr
theorem vT {tg a:Expr} {f:F} {p:Pos} (hg:L2.Gl X "range") (hm:X.mg "range"=none) (ha:ME X ad a f) (hs:starEach [a] X.env=(false,eval a X.env)::starEach [] X.env):MIG X ad tg (.Call (.Name "range" p) [a] [] pos) (aU f):=by
 intro pins s σ H W I ⟨G,ρ,E,hG,hS,hx,hr⟩
 refine m6 (ta:=jL (tE X ad f) aBf) hg hm (b9 ha eI hs) hs pins s σ H W I ?_
 show tE X ad f σ H fun v H1=> ∃ j:Int,[v]=[.int j]/\ -(2 ^ 62)<=j/\j<2 ^ 62/\W (Itr 0 j.toNat) H1
 refine⟨G,ρ,E,hG,hS,hx, ?_⟩
 unfold aU at hr
 cases e:f ρ with
 | ok d=>
  rw [e] at hr
  cases d<;>try exact ay hr
  rename_i i
  have k':IGK X ad G H (if -100000<=i/\i<=100000 then .ok (.lst (iB i.toNat)) else .bad) W E:=hr
  by_cases hc: -100000<=i/\i<=100000
  ·rw [if_pos hc] at k'
   obtain⟨ds,e,hw⟩:=k'
   cases e
   intro v G1 H1 st r
   unfold Rep at r;subst r
   refine⟨i,rfl,by omega,by omega,hw _ G1 H1 st ?_⟩
   rw [vQ]
   exact aD9
  ·rw [if_neg hc] at k'
   exact k'.elim
 | ow l=>rw [e] at hr;exact ay hr
 | ex c=>rw [e] at hr;exact hr
 | bad=>rw [e] at hr;exact hr
end
noncomputable def gIs:List Nat->TGs
 | []=>aMg
 | i::is=>aCy (iY i) (gIs is)
noncomputable def zI:List Nat->List V->St->St
 | i::is,v::vs,σ=>zI is vs (σ.set i (some v))
 | _,_,σ=>σ
theorem vU: ∀ {is:List Nat} {vs:List V} {σ:St} {H:Hp} {Q:St->Hp->Prop},vs.length=is.length->Q (zI is vs σ) H->gIs is vs σ H Q
 | [],[],_,_,_,_,h=>⟨rfl,h⟩
 | i::is,v::vs,σ,H,Q,e,h=>⟨v,vs,rfl,vU (is:=is) (vs:=vs) (by simpa using e) h⟩
 | [],_::_,_,_,_,e,_=>by simp at e
 | _::_,[],_,_,_,e,_=>by simp at e
noncomputable def gTs (K:PySem.W.Frag) (k:Nat) (is:List Nat):TG:=match k,is with
 | 0,[i]=>iY i
 | k,is=>aG7 K is.length (gIs is)
def aIy (X:Cx) (x:Str) (i:Nat):Prop:=X.N[i]? =some x/\Loc X.env.scope x/\(X.fn x=true\/X.env.scope.names.lookup x=some .local)
inductive NmsOk (X:Cx):List Str->List Nat->Prop
 | nil:NmsOk X [] []
 | cons {x:Str} {i:Nat} {xs:List Str} {is:List Nat}:aIy X x i->NmsOk X xs is->NmsOk X (x::xs) (i::is)
section
variable {X:Cx} {ad:Ad} {Z:(St->Nat->Hp->Prop)->Prop} {pins:List (Addr×Obj)} {s:Shared} {σ:St} {H G G₀:Hp} {ρ:Rho} {D':Ends} {E:St->Nat->Hp->Prop} {pos pos':Pos} {e it tg:Expr} {f:F} {g h:FS} {st:Stmt} {body:List Stmt}
theorem NmsOk.len: ∀ {xs:List Str} {is:List Nat},NmsOk X xs is->is.length=xs.length
 | _,_, .nil=>rfl
 | _,_, .cons _ h=>by simp [NmsOk.len h]
theorem vV (hN:X.N.Nodup): ∀ {es:List Expr} {xs:List Str} {is:List Nat},d7 (fun(e:Expr)=>match e with | .Name x _=>some x | _=>none) es=some xs->NmsOk X xs is->PGs X es (gIs is)
 | [],xs,is,e,h=>by
  cases e
  cases h
  exact pH
 | a::es,xs,is,e,h=>by
  unfold d7 at e
  cases a<;>try (cases e)
  rename_i x px
  simp only at e
  obtain⟨r,e1,e2⟩:=zMd e
  subst e2
  cases h with
  | cons h1 h2=>exact i5 (jI hN h1.1 h1.2.1 h1.2.2) (vV hN e1 h2) rfl
theorem iJ: ∀ {es:List Expr} {xs:List Str},d7 (fun(e:Expr)=>match e with | .Name x _=>some x | _=>none) es=some xs->(assignEach es X.env).length=xs.length/\(assignEach es X.env).findIdx? (·.1)=none
 | [],xs,e=>by cases e;exact⟨rfl,rfl⟩
 | a::es,xs,e=>by
  unfold d7 at e
  cases a<;>try (cases e)
  rename_i x px
  simp only at e
  obtain⟨r,e1,e2⟩:=zMd e
  subst e2
  obtain⟨h1,h2⟩:=iJ e1
  have q:assignEach (.Name x px::es) X.env=(false,assign (.Name x px) X.env)::assignEach es X.env:=rfl
  rw [q]
  refine⟨by simp [h1], ?_⟩
  rw [List.findIdx?_cons]
  simp [h2]
theorem aEa {xs:List Str} {k:Nat} {is:List Nat} (hc:X.calm=true) (hN:X.N.Nodup) (e:bI tg=some (xs,k)) (h:NmsOk X xs is):PG X tg (gTs X.K k is)/\(k=0/\is.length=1\/k≠0/\k=is.length):=by
 cases tg<;>try (cases e)
 ·rename_i x px
  cases h with
  | cons h1 h2=>
   cases h2
   exact⟨jI hN h1.1 h1.2.1 h1.2.2, .inl ⟨rfl,rfl⟩⟩
 ·rename_i es j px
  unfold bI at e
  obtain⟨ys,e1,e2⟩:=zBd e
  by_cases hl:2<=ys.length
  ·rw [if_pos hl] at e2
   cases e2
   obtain⟨q1,q2⟩:=iJ (X:=X) e1
   have hk:=h.len
   refine⟨?_, .inr ⟨by omega,hk.symm⟩⟩
   have P:=uJ (pos:=px) (k:=j) (n:=is.length) hc (vV hN e1 h) (by rw [q1,hk]) q2
   have:gTs X.K xs.length is=aG7 X.K is.length (gIs is):=by
    unfold gTs
    cases is with
    | nil=>simp at hk;omega
    | cons i is=>
     cases hx:xs.length with
     | zero=>omega
     | succ n=>rfl
   rw [this]
   exact P
  ·rw [if_neg hl] at e2
   cases e2
theorem SS.setN: ∀ {is:List Nat} {ds:List D} {vs:List V} {ρ:Rho} {σ:St},SS X ad G₀ G H ρ σ->aF X.K ad G ds vs->SS X ad G₀ G H (SK.setN is ds ρ) (zI is vs σ)
 | [],ds,vs,ρ,σ,S,r=>by
  have e1:SK.setN [] ds ρ=ρ:=by cases ds<;>rfl
  have e2:zI [] vs σ=σ:=by cases vs<;>rfl
  rw [e1,e2]
  exact S
 | i::is,[],vs,ρ,σ,S,r=>by
  unfold aF at r
  subst r
  exact S
 | i::is,d::ds,vs,ρ,σ,S,r=>by
  unfold aF at r
  obtain⟨v,vr,rfl,r1,r2⟩:=r
  exact SS.setN (is:=is) (ds:=ds) (vs:=vr) (ρ:=ρ.set i (.sh d)) (σ:=σ.set i (some v)) (S.set r1) r2
theorem aB0 {k:Nat} {is:List Nat} {d:D} {v:V} {ρ1:Rho} {Q:St->Hp->Prop} (hk:k=0/\is.length=1\/k≠0/\k=is.length) (e:pS is (k==0) d ρ=some ρ1) (S:SS X ad G₀ G H ρ σ) (r:Rep X.K ad G d v) (q: ∀ σ1,SS X ad G₀ G H ρ1 σ1->Q σ1 H):gTs X.K k is v σ H Q:=by
 rcases hk with ⟨rfl,h1⟩ | ⟨h1,h2⟩
 ·obtain⟨i,rfl⟩:=List.length_eq_one_iff.mp h1
  cases e
  exact q _ (S.set r)
 ·have hb:(k==0)=false:=by simpa using h1
  rw [hb] at e
  have e0:pS is false d ρ=match(generalizing:=false) d with | .tup ds=>if ds.length=is.length then some (SK.setN is ds ρ) else none | _=>none:=by
   cases is with
   | nil=>rfl
   | cons _ _=>rfl
  have e':=e0.symm.trans e
  have hg:gTs X.K k is=aG7 X.K is.length (gIs is):=by
   unfold gTs
   cases k with
   | zero=>exact absurd rfl h1
   | succ k=>rfl
  rw [hg]
  cases d<;>try (cases e')
  rename_i ds
  simp only at e'
  by_cases hl:ds.length=is.length
  ·rw [if_pos hl] at e'
   cases e'
   unfold Rep at r
   obtain⟨a,vs,rfl,hq,rq⟩:=r
   exact⟨a,vs,rfl,S.st.gh.seqT hq,by rw [rq.length,hl],vU (by rw [rq.length,hl]) (q _ (S.setN rq))⟩
  ·rw [if_neg hl] at e'
   cases e'
theorem aEb {α:Type} {ds:List α} {i:Nat} {d:α} (e:ds[i]? =some d):ds.drop i=d::ds.drop (i+1):=by
 obtain⟨h,rfl⟩:=aw.mp e
 exact List.drop_eq_getElem_cons h
theorem jE {J:It} {G' H':Hp} {ds:List D} {k:Nat} {is:List Nat} (hk:k=0/\is.length=1\/k≠0/\k=is.length) (S:SS X ad G₀ G' H' ρ σ) (hx:XA X ad Z E) (it:ItG X ad J G' ds) (hr:OKo X ad G₀ (fF (pS is (k==0)) g ds ρ) D' E):
  ∃ W:Nat->Nat->St->Hp->Prop,(∃ m,W 0 m σ H')/\ ∀ i m σ H,W i m σ H->
   (J.stop i H/\D'.nx σ H)\/(J.go i H/\ ∃ N:St->Hp->Prop,(∀ σ' H',N σ' H'-> ∃ m',m'<m/\W (i+1) m' σ' H')/\ ∀ x H',J.yld i H x H'->gTs X.K k is x σ H' fun σ2 H2=>tS X ad Z g { D' with nx:=N,ct:=N,bk:=D'.nx } σ2 H2):=by
 refine⟨fun i m σ H=>m=ds.length - i/\i<=ds.length/\ ∃ G ρ,SS X ad G₀ G H ρ σ/\Same G' G/\OKo X ad G₀ (fF (pS is (k==0)) g (ds.drop i) ρ) D' E,⟨_,rfl,bq _,G',ρ,S,Same.refl _,hr⟩, ?_⟩
 rintro i m σ1 H1 ⟨rfl,hi,G1,ρ1,S1,sm,hr1⟩
 cases q:ds[i]? with
 | none=>
  have hl:ds.length<=i:=List.getElem?_eq_none_iff.mp q
  have:i=ds.length:=by omega
  subst this
  refine .inl ⟨it.stop G1 H1 sm S1.st.gh, ?_⟩
  rw [List.drop_length] at hr1
  exact hr1 σ1 G1 H1 S1
 | some d=>
  have hlt:i<ds.length:=(aw.mp q).1
  obtain⟨go,yl⟩:=it.go i G1 H1 d sm S1.st.gh q
  refine .inr ⟨go,fun σ' H'=> ∃ G ρ,SS X ad G₀ G H' ρ σ'/\Same G' G/\OKo X ad G₀ (fF (pS is (k==0)) g (ds.drop (i+1)) ρ) D' E,fun σ' H' ⟨Ga,ρa,Sa,sa,ra⟩=>⟨_,by omega,rfl,hlt,Ga,ρa,Sa,sa,ra⟩,fun x H2 y=> ?_⟩
  obtain⟨G2,st,r2⟩:=yl x H2 y
  rw [aEb q] at hr1
  unfold fF at hr1
  cases et:pS is (k==0) d ρ1 with
  | none=>rw [et] at hr1;exact hr1.elim
  | some ρ2=>
   rw [et] at hr1
   have S2:=S1.step st
   refine aB0 hk et S2 r2 fun σ2 S3=> ?_
   refine⟨G2,G2,ρ2,E,S3.here,hx, ?_⟩
   have hr2:OKo X ad G₀ (match g ρ2 with
    | .nx ρ2=>fF (pS is (k==0)) g (ds.drop (i+1)) ρ2
    | .ct ρ2=>fF (pS is (k==0)) g (ds.drop (i+1)) ρ2
    | .bk ρ2=> .nx ρ2
    | .rt r=> .rt r
    | .ex c ρ2=> .ex c ρ2) D' E:=hr1
   cases eo:g ρ2 with
   | nx ρ3=>
    rw [eo] at hr2
    exact fun σ G H S4=>⟨G,ρ3,S4.up S3.st,(sm.trans st.sg).trans S4.st.sg,hr2⟩
   | ct ρ3=>
    rw [eo] at hr2
    exact fun σ G H S4=>⟨G,ρ3,S4.up S3.st,(sm.trans st.sg).trans S4.st.sg,hr2⟩
   | bk ρ3=>
    rw [eo] at hr2
    exact fun σ G H S4=>hr2 σ G H (S4.up S3.st)
   | ex c ρ3=>
    rw [eo] at hr2
    exact fun σ G H S4=>hr2 σ G H (S4.up S3.st)
   | rt r=>
    rw [eo] at hr2
    have:=hr2.rebase S3.st
    cases r<;>exact this
theorem aIz {k:Nat} {is:List Nat} {xs:List Str} (hp:PassesOwn (model X.prog X.w) X.A X.env X.xe) (hc:X.calm=true) (hN:X.N.Nodup) (hi:MIG X ad tg it f) (ht:bI tg=some (xs,k)) (hn:NmsOk X xs is) (hb:MSs X ad Z body g)
  (hs: ∀ x,foldedSetIterable it X.env x=pure x):MS X ad Z (.For tg it body [] pos) (kU is (k==0) f g):=by
 obtain⟨P,hk⟩:=aEa hc hN ht hn
 refine PS.imp (aHa hp hc hi P hb hs) ?_
 rintro D' σ H ⟨G₀,G,ρ,E,S,hx,hr⟩
 refine⟨G,ρ,E σ,S.st.gh,S.sl,hx.1 σ, ?_⟩
 unfold kU fB at hr
 cases e:f ρ with
 | ok d=>
  rw [e] at hr
  have hr':OKo X ad G₀ (match items d with | some ds=>fF (pS is (k==0)) g ds ρ | none=> .rt .bad) D' E:=hr
  cases e2:items d with
  | none=>rw [e2] at hr';exact hr'.elim
  | some ds=>
   rw [e2] at hr'
   exact⟨ds,e2,fun J G' H' st it=>jE hk (S.step st) hx it hr'⟩
 | ow xs=>
  rw [e] at hr
  exact fun J G' H' st it=>jE hk (S.step st) hx it hr
 | ex c=>rw [e] at hr;exact fun G1 H1 st=>hr σ G1 H1 (S.step st)
 | bad=>rw [e] at hr;exact hr
theorem aI0 {st:Stmt}:MS X ad Z st aL2:=fun _ _ _ _ _ _ ⟨_,_,_,_,_,_,hr⟩=>ay hr
theorem aI1 {i:Nat} {x:Str} {op:Operator} (hN:X.N.Nodup) (hi:aIy X x i) (he:ME X ad e f) (ho:op= .Add\/op= .Sub):MS X ad Z (.AugAssign (.Name x pos') op e pos) (aL0 i op f):=by
 rcases ho with rfl | rfl
 ·refine PS.imp (aBd hN hi.1 hi.2.1 he aBe hi.2.2) ?_
  rintro D' σ H ⟨G₀,G,ρ,E,S,hx,hr⟩
  unfold aL0 at hr
  cases q:ρ[i]? with
  | none=>rw [q] at hr;exact hr.elim
  | some sl=>
   rw [q] at hr
   cases sl with
   | no=>exact hr.elim
   | ow _=>exact hr.elim
   | dc _=>exact hr.elim
   | sd _=>exact hr.elim
   | rk _ _=>exact hr.elim
   | sh d=>
    cases d<;>try exact hr.elim
    rename_i a
    obtain⟨v,h1,h2⟩:=S.sl.sh q
    unfold Rep at h2;subst h2
    refine⟨_,h1,dD S hx hr fun v d G1 H1 st r k=> ?_⟩
    cases d<;>try exact ay k
    unfold Rep at r;subst r
    exact⟨a,_,rfl,rfl,k _ G1 H1 ((S.step st).set aM)⟩
 ·refine PS.imp (aBd hN hi.1 hi.2.1 he aG9 hi.2.2) ?_
  rintro D' σ H ⟨G₀,G,ρ,E,S,hx,hr⟩
  unfold aL0 at hr
  cases q:ρ[i]? with
  | none=>rw [q] at hr;exact hr.elim
  | some sl=>
   rw [q] at hr
   cases sl with
   | no=>exact hr.elim
   | ow _=>exact hr.elim
   | dc _=>exact hr.elim
   | sd _=>exact hr.elim
   | rk _ _=>exact hr.elim
   | sh d=>
    cases d<;>try exact hr.elim
    rename_i a
    obtain⟨v,h1,h2⟩:=S.sl.sh q
    unfold Rep at h2;subst h2
    refine⟨_,h1,dD S hx hr fun v d G1 H1 st r k=> ?_⟩
    cases d<;>try exact ay k
    unfold Rep at r;subst r
    exact⟨a,_,rfl,rfl,k _ G1 H1 ((S.step st).set aM)⟩
theorem zJ:aPb X (aMs X.K):=by
 intro pins s σ H x y v u Q I rx ry h
 obtain⟨p,xs,i,z,rfl,rfl,hq,he,q⟩:=h
 cases rx
 obtain⟨t,rfl⟩:=ry
 obtain⟨its,r,pl,hz⟩:=I.list hq
 obtain⟨j,h1,h2,h3,h4,h5⟩:=lZ he
 obtain⟨w,ew,rw'⟩:=r.get h2
 have hl:=r.length
 have hn:=jK
 have fin:EP X pins σ Q w s:=⟨z,H,I,rw',q⟩
 by_cases h0:0<=i
 ·have hj:i.toNat=j:=by
   rw [seqIndex_of h0 h5] at h1
   exact Option.some.inj h1
  exact wpAny_getItem_list pl.isList h0 (by omega) (by rw [hj];simpa using ew) fin
 ·have hj:(i+(its.toArray.size:Int)).toNat=j:=by
   rw [seqIndex_neg (by omega) h4] at h1
   rw [av, <-hl]
   exact Option.some.inj h1
  exact wpAny_getItem_list_neg pl.isList (by omega) (by rw [av]<;>omega) (by omega) (by rw [hj];simpa using ew) fin
theorem aEc {i:Nat} {x:Str} {p tp:Pos} {kx:Expr} {fk:F} (hN:X.N[i]? =some x) (hv:Vis X.env.scope x) (hd:(x==("__debug__":Str))=false) (hcd:(x==("__classdict__":Str))=false) (he:ME X ad e f) (hk:ME X ad kx fk)
  (ha: ∀ ov iv new,augStore kx ov iv new=(do holding [new,ov,iv] (setItem ov iv new);release [new,ov,iv] [];pure .next)):
  MS X ad Z (.AugAssign (.Subscript (.Name x p) kx tp) .Add e pos) (yW i fk f):=by
 refine PS.imp (aC0 (eY hN hv hd hcd) hk zJ he aBe i6 ha) ?_
 rintro D' σ H ⟨G₀,G,ρ,E,S,hx,hr⟩
 unfold yW at hr
 cases q:ρ[i]? with
 | none=>rw [q] at hr;exact hr.elim
 | some sl=>
  rw [q] at hr
  cases sl with
  | no=>exact hr.elim
  | sh d=>exact hr.elim
  | dc d=>exact hr.elim
  | sd d=>exact hr.elim
  | rk _ _=>exact hr.elim
  | ow xs=>
   obtain⟨a,vs,h1,h2,h3,h4⟩:=S.sl.ow q
   refine⟨.ref a,h1, ?_⟩
   refine dD S hx hr fun v2 y G2 H2 st2 r2 k2=> ?_
   obtain⟨g2,h2'⟩:=cM st2 h2 h3
   cases y<;>try exact ay k2
   rename_i j
   unfold Rep at r2;subst r2
   have k':OKo X ad G₀ (match ixD xs.length j with | some m=>(match xs[m]? with | some (.int a)=>fB ρ (f ρ) fun d=>(match d with | .int b=> .nx (ρ.set i (.ow (xs.set m (.int (a+b))))) | _=> .rt .bad) | _=> .rt .bad) | none=> .rt .bad) D' E:=k2
   cases q2:ixD xs.length j with
   | none=>rw [q2] at k';exact k'.elim
   | some m=>
    rw [q2] at k'
    dsimp only at k'
    cases q3:xs[m]? with
    | none=>rw [q3] at k';exact k'.elim
    | some d0=>
     rw [q3] at k'
     cases d0<;>try exact ay k'
     rename_i a0
     dsimp only at k'
     have r4:=h4.mono st2.sg
     obtain⟨v0,e0,r0⟩:=r4.get q3
     unfold Rep at r0;subst r0
     have hat:atI vs j=some (.int a0):=by
      unfold atI
      rw [h4.length, <-lF,q2]
      exact e0
     refine⟨a,vs,j, .int a0,rfl,rfl,SqL.of h2',hat, ?_⟩
     refine dD (S.step st2) hx k' fun v3 d3 G3 H3 st3 r3 k3=> ?_
     obtain⟨g3,h3'⟩:=cM st3 g2 h2'
     cases d3<;>try exact ay k3
     rename_i b0
     unfold Rep at r3;subst r3
     refine⟨a0,b0,rfl,rfl,a,vs,j,m,rfl,rfl,h3',by rw [h4.length, <-lF];exact q2, ?_⟩
     exact k3 σ G3 _ (((S.step st2).step st3).upd q h1 g3 (aF.set aM m (r4.mono st3.sg)))
end
section
variable {X:Cx} {ad:Ad} {pins:List (Addr×Obj)} {s s3:Shared} {σ σ2:St} {H G G₀ H3 H':Hp} {ρ:Rho} {Q:VK} {D':Ends} {E:St->Nat->Hp->Prop} {pos pos' cpos:Pos} {elt it tg:Expr} {ifs:List Expr} {f fi fe:F} {fc:Option F} {sc:Scope} {k:Nat} {cs:List Nat} {xs:List Str}
theorem p9 {s2:Shared} {h':Heap} (I3:Inv X pins σ H3 s3) (I2:Inv X pins σ2 H' s2) (hf:H' s3.heap.objs.size=none) (sb:Heap.SameBut s3.heap.objs.size s2.heap h'):Inv X pins σ2 H' { s2 with heap:=h' }:=by
 refine I2.turned (t':=s2.toks) (it:=s3.heap.objs.size) (fun b o ne e=>(sb.2 b ne).trans e) hf ?_ (.inr I3.sz) (fun x c h z=> ?_) fun p hp z=> ?_
 ·intro z
  obtain⟨m,hn,_⟩:=I3.loc
  obtain⟨o,_,_,ho,_⟩:=hn
  exact absurd (ah ho) (by rw [<-z];exact Nat.lt_irrefl _)
 ·obtain⟨v,o,ho,_⟩:=I3.cell x c h
  exact absurd (ah ho) (by rw [z];exact Nat.lt_irrefl _)
 ·obtain⟨ho,_⟩:=I3.pin p hp
  exact absurd (ah ho) (by rw [z];exact Nat.lt_irrefl _)
theorem zK {h h':Heap} {a C:Addr} {m:Str->Option Value} (n:h.Ns C m) (sb:Heap.SameBut a h h') (ne:C≠a):h'.Ns C m:=by
 obtain⟨o,es,ep,ho,r⟩:=n
 exact⟨o,es,ep,(sb.2 C ne).trans ho,r⟩
theorem zL {U:Prop} (hw:U-> ∀ ρ y,fe ρ≠ .ok y) {C:Ctx} {i:Nat} {x:Str} (hN:X.N.Nodup) (hi:aIy X x i) (hc:X.calm=true) (S:CompSc X C sc xs cs) (hit:MI X ad tg it fi) (hset: ∀ a b c,it≠ .Set a b c) (hxs:xs.length=if k=0 then 1 else k)
  (hg: ∀ fp s3 H3 pins',PG (cX X (xs++aS sc) sc s3 H3 fp pins') tg (gTg X.K k)) (hts: ∀ fp s3 H3 pins',MTs (cX X (xs++aS sc) sc s3 H3 fp pins') ad ifs fc) (he: ∀ fp s3 H3 pins',ME (cX X (xs++aS sc) sc s3 H3 fp pins') ad elt fe)
  (hs:swapsWith (.ListComp elt [⟨tg,it,ifs,0⟩] sc cpos) (some (.Name x pos')) pos.line X.env=pure true):
  PS X (.Assign [.Name x pos'] (.ListComp elt [⟨tg,it,ifs,0⟩] sc cpos) pos) (aCz (tEW X ad U (aL k cs fi fc fe)) (iY i)):=by
 intro pins s σ H D' I ⟨G,ρ,E,hG,hS,hx,hr⟩
 rw [exec_Assign_Name_used _ _ _ _ hs]
 have hcl:closureFor sc X.env=pure (i0 X.env.cells sc.names []):=iH fun x hx=>by
  obtain⟨c,h⟩:=I.ok.has x (S.fre x hx)
  rw [h];rfl
 refine aa (wpAny_standAt (aa ?_))
 show wpAny _ X.A (do let _<-comprehension (.ListComp elt [⟨tg,it,ifs,0⟩] sc cpos) sc X.env _ (newList []) false (eval it X.env) (some (assign (.Name x pos') X.env))) _ _ s
 refine aa (wpAny_mono (wpAny_comprehension_free (use:=some (assign (.Name x pos') X.env)) (Q:=fun _ s'=>SP X pins D' .next s') rfl (vP hset) hcl S.kind S.names ?_) (fun _ s' hq=>ae (ae hq)) fun _ _ e=>e)
 refine L2.thn (hit pins s σ H _ I ⟨G,ρ,E,hG,hS,hx,aIt (W:=fun J H2=> ∃ G2 ds all,Step G H G2 H2/\ItH X ad J G2 H2 ds/\bG (cZ k (jO cs ρ) fc fe) ds=some all/\RKW X.K ad U G2 H2 (.ow all) (fun v H1=>iY i v σ H1 D'.nx) E) hr fun J G2 H2 ds all a b c d=>⟨G2,ds,all,a,b,c,d⟩⟩) fun v s1 h1=>
  L2.thn h1 fun itv s2 hz_=> ?_
 obtain⟨itA,fp,tn,J,H2,e,I2,T,st2,f2,G2,ds,all,sp,hit,hgo,hr2⟩:=hz_
 subst e
 obtain⟨σc,l1,l2,l3⟩:=lG (xs:=xs) (sc:=sc) (nt:=if k=0 then 1 else k) hxs S.N S.cs (fun x h=>oF h) (hS.step sp) I2.len
 refine oE (σc:=σc) hw hc I2 T st2 f2 hit hgo sp.gh S.kind S.cell S.fre S.frl l1 l2 rfl l3 (hg fp) (hts fp) (he fp) fun s3 s' H3 H' G' σ' D vs I3 f3 J' sp' hD gD hD' r' rn'=> ?_
 obtain⟨m,hns,_⟩:=J'.loc
 have I4:Inv X pins σ H' s':=aBy (fpO:=f3) I3 J' ⟨rfl,fun _ _=>rfl⟩
 show wpAny _ X.A (assign (.Name x pos') X.env (.ref D)) _ _ _
 refine wpAny_assign_Name (mY I4 hN hi.1 hi.2.1 (v:= .ref D) rfl (fun s'' I5 ⟨a,sb,ha⟩=> ?_) hi.2.2)
 have ne:s3.heap.objs.size≠a:=by
  rcases ha with rfl | ha
  ·intro z
   obtain⟨m',hn,_⟩:=I3.loc
   obtain⟨o,_,_,ho,_⟩:=hn
   exact absurd (ah ho) (by rw [<-z];exact Nat.lt_irrefl _)
  ·intro z
   obtain⟨v,o,ho,_⟩:=I3.cell x a ha
   exact absurd (ah ho) (by rw [<-z];exact Nat.lt_irrefl _)
 refine⟨m,zK hns sb ne,fun h' sb'=> ?_⟩
 exact⟨σ.set i (some (.ref D)),H',p9 I3 I5 J'.free sb',hr2 D vs G' H' sp' hD gD hD' r' rn'⟩
theorem aEd {C:Ctx} {i:Nat} {x:Str} (hN:X.N.Nodup) (hi:aIy X x i) (hc:X.calm=true) (S:CompSc X C sc xs cs) (hit:MI X ad tg it fi) (hset: ∀ a b c,it≠ .Set a b c) (hxs:xs.length=if k=0 then 1 else k)
  (hg: ∀ fp s3 H3 pins',PG (cX X (xs++aS sc) sc s3 H3 fp pins') tg (gTg X.K k)) (hts: ∀ fp s3 H3 pins',MTs (cX X (xs++aS sc) sc s3 H3 fp pins') ad ifs fc) (he: ∀ fp s3 H3 pins',ME (cX X (xs++aS sc) sc s3 H3 fp pins') ad elt fe)
  (hs:swapsWith (.ListComp elt [⟨tg,it,ifs,0⟩] sc cpos) (some (.Name x pos')) pos.line X.env=pure true):
  PS X (.Assign [.Name x pos'] (.ListComp elt [⟨tg,it,ifs,0⟩] sc cpos) pos) (aCz (tE X ad (aL k cs fi fc fe)) (iY i)):=
 PS.imp (zL (U:=False) ay hN hi hc S hit hset hxs hg hts he hs) fun D' σ H ⟨G,ρ,E,hG,hS,hx,hr⟩=>⟨G,ρ,E,hG,hS,hx,RK.w hr⟩
end
section
variable {X:Cx} {ad:Ad} {Z:(St->Nat->Hp->Prop)->Prop} {e:Expr} {f:F}
end
open PySem.W PySem.Calls Builtin Builtin.ObjectAttr Builtin.Getset_descriptor
section
variable {prog:Program} {w:World} {A:Around} {E:Value->Shared->Prop} {s:Shared} {K:Frag} {x C:Addr} {R:Result->Shared->Prop}
theorem nY.ty {M:Model} {h:Heap} (I:nY h x C):Looks M h (typeOf (.ref x)) (.ref C):=by
 obtain⟨o,vs,h1,h2,h3⟩:=I
 exact h2▸(Looks.ld h1).andThen .now
theorem aEe {tp:Value} (X:K.In s.heap) (I:nY s.heap x C) (hm:mroIn K C (.type "object")=some true) (h:R (.ok (.ret (.ref C))) s):
  codeAny (model prog w) A (.call (.builtin "getset_descriptor.__get__") ⟨[.builtin "object.__class__", .ref x,tp],[]⟩) R s:=by
 obtain⟨hh,g,dr,t,os⟩:=s
 have L0:=I.ty (M:=model prog w)
 have L1:=looks_mroIn (M:=model prog w) X hm
 refine codeAny_call_builtin KF.slot_gs.plain KF.entry_gs (KF.slot_gs.check _ _ _ _ _ _ _ _ KF.type_class (KF.args_gs _ _ _) ?_)
 unfold Builtin.«getset_descriptor.__get__» descrGet
 rw [dga_obj]
 refine aa (ae ?_)
 unfold descrGetter descrCheckInstance descrNameAndClass isInstance
 simp only [KF.owner_class]
 repeat lk
 refine⟨Code.quiet_builtin _ (by decide+kernel),codeAny_builtin KF.entry_class ?_⟩
 unfold Builtin.«object.__class__» shownTypeOf
 repeat lk
 exact h
theorem vW {M:Model} {nameV:Value} {Q:Unit->Shared->Prop} (X:K.In s.heap) (I:nY s.heap x C) (hm:mroIn K C (.type "BaseException")=some true) (hq:Q () s):wpAny M A (checkBuiltinCall "BaseException.__getattribute__" ⟨[.ref x,nameV],[]⟩) Q E s:=by
 obtain⟨hh,g,dr,t,os⟩:=s
 have hk:builtinKind "BaseException.__getattribute__"=some .slot:=by decide+kernel
 have hsplit:splitId "BaseException.__getattribute__"=some ("BaseException","__getattribute__"):=by decide+kernel
 have L0:=I.ty (M:=M)
 have L1:=looks_mroIn (M:=M) X hm
 have ha:=F.args_bexc_ga (.ref x) nameV
 simp only [checkBuiltinCall,hk,hsplit]
 refine aa ?_
 unfold isInstance
 refine aa (L0.at (L1.at ?_))
 repeat (any_goals (first | assumption | wp_step))
theorem vX {tk:Tok} {Q:PySem.Fin->Shared->Prop} (X:K.In s.heap) (I:nY s.heap x C) (hm:mroIn K C (.type "object")=some true) (ha:findIn K (.ref C) "__class__"=some (some (.builtin "object.__class__"))) (hq:Q (.done (.ret (.ref C))) s):
  wpAny (model prog w) A (Builtin.«object.__getattribute__» ⟨[.ref x, .str "__class__" tk],[]⟩) Q E s:=by
 obtain⟨hh,g,d,t,os⟩:=s
 have hT5:(⟨hh,g,d,t,os⟩:Shared).TypeIs (.builtin "object.__class__") "getset_descriptor":=F.typeOf_object_class
 have f5:=F.typeOf_object_class
 have f6:=F.slot_gs_get.lookup
 have f7:=F.slot_gs_set.lookup
 have L0:=I.ty (M:=model prog w)
 have L1:=looks_findIn (M:=model prog w) X ha
 obtain⟨o,vs,hx,hc,hd⟩:=id I
 repeat (any_goals (first | assumption | (with_reducible refine wpAny_loadPart_at hx ?_;rw [hc]) | with_reducible refine L1.at ?_ | wp_step))
 refine aEe X I hm ?_
 repeat (any_goals (first | assumption | wp_step))
theorem vY {Q:Option Value->Shared->Prop} (X:K.In s.heap) (I:nY s.heap x C) (hm:mroIn K C (.type "object")=some true) (hb:mroIn K C (.type "BaseException")=some true) (ha:findIn K (.ref C) "__class__"=some (some (.builtin "object.__class__")))
  (hg:findIn K (.ref C) "__getattribute__"=some (some (.builtin "BaseException.__getattribute__"))) (hn:findIn K (.ref C) "__getattr__"=some none) (h:Q (some (.ref C)) { s with toks:=s.toks+1 }):
  wpAny (model prog w) A (getAttr? (.ref x) "__class__") Q E s:=by
 obtain⟨hh,g,d,t,os⟩:=s
 have L0:=I.ty (M:=model prog w)
 have L1:=looks_findIn (M:=model prog w) X hg
 have L2:=looks_findIn (M:=model prog w) X hn
 have f3:=PySem.F.excAttr_ValueError.ga.bind (.ref x)
 have hx2:(Value.builtin "BaseException.__getattribute__"==Value.builtin "object.__getattribute__")=false:=by decide+kernel
 have hx1:(onTheHeap (Value.ref C)&&Value.builtin "BaseException.__getattribute__"==Value.builtin "object.__getattribute__")=false:=by rw [hx2];rfl
 obtain⟨o,vs,hx,hc,hd⟩:=id I
 unfold getAttr? getAttrBy? getAttrBy
 repeat (any_goals (first | assumption | (with_reducible refine wpAny_loadPart_at hx ?_;rw [hc]) | with_reducible refine L1.at ?_ | with_reducible refine L2.at ?_ | wp_step))
 refine codeAny_call_builtin PySem.F.excAttr_ValueError.ga.plain F.entry_bexc_ga (vW X I hb (vX X I hm ha ?_))
 repeat (any_goals (first | assumption | wp_step))
end
theorem _root_.L2.ObjOk.there {P:Program} {w:World} {H:Hp} {h:Heap} {a:Addr} {o:HO} (x:ObjOk P w H h a o): ∃ ob,h.get? a=some ob:=by
 cases o with
 | lst xs=>obtain⟨_,_,_,_,e⟩:=x;exact⟨_,e⟩
 | tup xs=>obtain⟨_,_,_,⟨ob,e,_⟩,_⟩:=x;exact⟨_,e⟩
 | dK kvs=>obtain⟨_,_,_,_,o,_,_,e,_⟩:=x;exact⟨_,e⟩
 | dT kvs=>obtain⟨_,_,_,_,o,_,_,e,_⟩:=x;exact⟨_,e⟩
 | set S n=>obtain⟨o,_,_,_,e,_⟩:=x;exact⟨_,e⟩
 | ins C dx fs=>obtain⟨_,_,_,e,_⟩:=x;exact⟨_,e⟩
 | own y=>exact x
 | xd fs=>obtain⟨_,⟨_,_,_,e,_⟩,_⟩:=x;exact⟨_,e⟩
 | rng lo hi=>obtain⟨_,_,_,e⟩:=x;exact⟨_,e⟩
 | frz ob u=>obtain⟨e,_⟩:=x;exact⟨_,e⟩
 | tbl ps=>exact⟨_,(show h.get? a=some _ from x)⟩
 | met f y=>exact⟨_,(show h.get? a=some _ from x)⟩
 | ext φ=>obtain⟨_,e,_⟩:=x;exact e
section
variable {X:Cx} {ad:Ad} {pins:List (Addr×Obj)} {s:Shared} {σ:St} {H H':Hp} {B h':Heap} {ea:Addr} {cls a0:Value} {E₀:XK} {E:Nat->Hp->Prop}
structure DefX (X:Cx) (E₀:XK):Prop where
 ex:X.ex=[]
 stk:X.stack=X.env::X.outer
 fr:X.env.frame=some X.env.locals
 xe: ∀ e s',wpAny (model X.prog X.w) X.A (leaving X.env e) (fun _ s''=>CXe X.prog X.w X.outer X.H₀ X.s₀ E₀ e s'') (fun e' s''=>CXe X.prog X.w X.outer X.H₀ X.s₀ E₀ e' s'') s'->X.xe e s'
theorem aI2 (J:Inv X pins σ H s) {b:Addr} {o:Obj} (e:X.s₀.heap.get? b=some o):b≠X.env.locals:=fun z=>by
 have:=ah e
 rw [z] at this
 exact absurd (bf this J.ok.above) (Nat.lt_irrefl _)
theorem vZ (J:Inv X pins σ H s) {b:Addr} {o:Obj} (e:X.s₀.heap.get? b=some o) (nf:b∉X.fs):b∉frs X.stack:=fun z=>by
 rcases aq.mp (J.stkSub b z) with q | q
 ·exact aI2 J e q
 ·exact nf q
theorem aB1 (T:DefX X E₀) (J:Inv X pins σ H' s) (fly:Heap.FlyingW B X.outer ea cls a0 h') (ff:s.heap.FunFrames B X.stack) (stays:B.StaysIn s.heap) (up:s.heap.UpToSlots h')
  (c8: ∀ b o,X.s₀.heap.get? b=some o->b∉X.fs-> ∃ o',B.get? b=some o') (c9: ∀ b o,H' b=some o-> ∃ o',B.get? b=some o') (ne:H' ea=none) (q:E₀ cls none H'):
  CXe X.prog X.w X.outer X.H₀ X.s₀ E₀ (.ref ea) { s with heap:=h' }:=by
 have nx: ∀ b,b∉X.ex:=fun b=>by rw [T.ex];simp
 have st2:B.StaysIn h':=fly.1
 have inB: ∀ b o,s.heap.get? b=some o->(∃ o',B.get? b=some o')->h'.get? b=some o:=fun b o e ⟨o',e'⟩=>by
  have:=stays b o' e'
  rw [e] at this
  cases this
  exact st2 b o e'
 have frame: ∀ b∈X.fs, ∀ o,s.heap.get? b=some o-> ∃ sl,h'.get? b=some { o with slots:=sl }:=fun b hb o e=>by
  obtain⟨_,o2,e2,nf⟩:=ff.mem (b:=b) (by rw [T.stk];show b∈frs (X.env::X.outer);unfold frs;rw [List.filterMap_cons,T.fr];exact List.mem_cons_of_mem _ hb)
  rw [e] at e2
  cases e2
  exact up b o e nf
 refine⟨ea,cls,a0,H',B,rfl,J.os,J.bare,fly,⟨fun b o e n hf _=> ?_,fun b o e n hf _=> ?_,fun b o e n _=> ?_,fun b o e _=> ?_,J.base.tups,J.base.frzs,J.base.tbls⟩,fun b o e=> ?_,ne,c8,c9,q⟩
 ·exact inB b o (J.base.keep b o e n hf (nx b)) (c8 b o e hf)
 ·obtain⟨sl,e1⟩:=J.base.slot b o e n hf (nx b)
  obtain⟨sl',e2⟩:=frame b hf _ e1
  exact⟨sl',e2⟩
 ·exact J.base.free b o e n (nx b)
 ·obtain⟨o',e1⟩:=J.base.there b o e (nx b)
  by_cases hf:b∈X.fs
  ·obtain⟨sl,e2⟩:=frame b hf _ e1
   exact⟨_,e2⟩
  ·exact⟨o',inB b o' e1 (c8 b o e hf)⟩
 ·refine(J.hok b o e).stay (fun c v hc e1=> ?_) (fun _ z=>z) fun _ _ z=>z
  rcases hc with rfl | hc
  ·exact inB c v e1 (c9 c o e)
  ·exact inB c v e1 (c9 c _ hc)
theorem aB2 (T:DefX X E₀):XP X ad σ (fun c H'=>E₀ (.ref (ad.cls c)) none H'):=by
 intro pins H s e s' I hc
 obtain⟨ea,cls,a0,H',B,rfl,ho,hg,fly,un,hok,ne,c8,c9,c,rfl,q⟩:=hc
 have J:Inv X pins σ H' s':=I.call' (ch:=[]) ho un hok hg fun b hb=>by simp at hb
 refine T.xe _ _ ?_
 have hfr:X.A.frames=some (X.env::X.outer):=by rw [<-T.stk];exact I.ok.frames
 rw [T.stk] at fly
 refine wpAny_leaves_onW hfr T.fr fly fun h' fly' up=> ?_
 refine aB1 T J fly' (by rw [T.stk];exact fly.2.2.1) fly.1 up (fun b o e hf=> ?_) c9 ne q
 obtain⟨o',e1⟩:=I.base.there b o e (by rw [T.ex];simp)
 exact c8 b o' e1 (vZ I e hf)
theorem zM {x:Str} {C:Addr} {np cpos pos kp:Pos} {msg:Str} {j:Nat} {D':Ends} (T:DefX X E₀) (hc:X.calm=true) (hg:L2.Gl X x) (hm:X.mg x=some (.ref C)) (hd:(x==("__debug__":Str))=false) (hi:excIn X.K C [.type "ValueError", .type "Exception", .type "BaseException", .type "object"] "ValueError.__new__"=true)
  (I:Inv X pins σ H s) (q:E₀ (.ref C) none H):wpAny (model X.prog X.w) X.A (exec (.Raise (some (.Call (.Name x np) [.Constant (.str msg) j kp] [] cpos)) none pos) X.env) (SP X pins D') X.xe s:=by
 have obj: ∀ h₀:Heap,X.K.In h₀-> ∃ bm N nm q bs hdct sn sub ab col dd k0 k1 k2 k3 k5 mN,h₀.get? C=some (excClassObj nm q C N bs bm hdct sn sub ab col dd k0 k1 k2 k3 k5 "ValueError.__new__")/\h₀.Ns N mN/\mN "__init__"=none/\OwnTail h₀ [.type "ValueError", .type "Exception", .type "BaseException", .type "object"] bm:=by
  intro h₀ Z
  have q:=hi
  unfold excIn at q
  split at q
  ·rename_i dd cd sl ho
   split at q
   ·rename_i C' bm k0 k1 k2 k3 n k5 hm hs
    simp only [au,beq_iff_eq,Bool.not_eq_true'] at q
    obtain⟨⟨⟨⟨⟨rfl,rfl⟩,hdel⟩,ht⟩,hok⟩,hni⟩:=q
    obtain⟨nm,bs,mro,ns,qn,hd,sn,sub,ab,col,del⟩:=cd
    dsimp only at hm hdel hok hni
    subst hm hdel
    have hsl:sl= #[k0,k1,k2,k3,some (.builtin "ValueError.__new__"),k5]:=by
     obtain⟨l⟩:=sl
     simp only at hs
     rw [hs]
    subst hsl
    exact⟨bm,ns,nm,qn,bs,hd,sn,sub,ab,col,dd,k0,k1,k2,k3,k5,_,Z _ _ ho, .of_isNs (isNs_of_in Z hok),nsMap_none_of_in Z hok hni,tail_of_in Z ht⟩
   ·cases q
  ·cases q
 obtain⟨bm,N,nm,qn,bs,hdct,sn,sub,ab,col,dd,k0,k1,k2,k3,k5,mN,hC,hN,hni,hT⟩:=obj X.base I.ok.mod.kin
 refine wpAny_Raise_call_subT (C:=C) (nm:=nm) (q:=qn) (N:=N) (bs:=bs) (bm:=bm) (hdct:=hdct) (sn:=sn) (sub:=sub) (ab:=ab) (col:=col) (dd:=dd) (k0:=k0) (k1:=k1) (k2:=k2) (k3:=k3) (k5:=k5)
  PySem.F.excBase_ValueError (mN:=mN) (hT.hasType PySem.F.excBase_ValueError.hasBase) (I.ok.hd hc) rfl hni (lY I hg hm ⟨rfl, ?_⟩ hd)
 refine Calls.evalArgs_plain (Calls.spliced_cons (Calls.Constant_str (k:=j) (pos:=kp) (Calls.spliced_nil ⟨rfl,(show 1<=sizeLine from by decide), ?_, ?_, ?_,fun h' e M=> ?_⟩)))
 ·exact I.bk _ _ hC
 ·exact hN.keeps I.bk
 ·exact hT.keeps I.bk
 ·-- the frame is left
  have I1:Inv X pins σ H { s with toks:=s.toks+1 }:=I.tok _
  have J:Inv X pins σ H { s with heap:=h',toks:=s.toks+1 }:=I.kept (t':=s.toks+1) M.keeps
  refine T.xe _ _ ?_
  have hfr:X.A.frames=some (X.env::X.outer):=by rw [<-T.stk];exact I.ok.frames
  have ff:s.heap.FunFrames (hideAll s.heap (frs X.stack)) X.stack:=funFrames_hide I.stack fun env he a ea=>List.mem_filterMap.mpr ⟨env,he,ea⟩
  have fk:h'.FunFrames (hideAll s.heap (frs X.stack)) X.stack:=ff.of_keeps fun b o hb _=>⟨o,M.keeps b o hb,rfl⟩
  have stays:(hideAll s.heap (frs X.stack)).StaysIn s.heap:=fun b o e=>of_hideAll _ e
  have ff0:=ff
  rw [T.stk] at ff0
  have stays':(hideAll s.heap (frs (X.env::X.outer))).StaysIn s.heap:=fun b o e=>of_hideAll _ e
  refine wpAny_leaves_madeW (h:=s.heap) (base:=hideAll s.heap (frs (X.env::X.outer))) hfr T.fr stays' ff0 M fun h2 t fly _ _ up=> ?_
  refine aB1 T J fly (by rw [T.stk] at fk ⊢;exact fk) (fun b o e=>M.keeps b o (of_hideAll _ e)) up (fun b o e hf=> ?_) (fun b o e=> ?_) ?_ q
  ·obtain⟨o',e1⟩:=I.base.there b o e (by rw [T.ex];simp)
   exact⟨o',hideAll_get _ e1 (by have:=vZ I e hf;rwa [T.stk] at this)⟩
  ·obtain⟨o',e1⟩:=(I.hok b o e).there
   exact⟨o',hideAll_get _ e1 fun z=>by
    have:=I.stkFree b (by rw [T.stk];exact z)
    rw [this] at e
    cases e⟩
  ·cases z:H e with
   | none=>rfl
   | some o=>
    obtain⟨o',e1⟩:=(I.hok e o z).there
    rw [M.new] at e1
    cases e1
end
section
variable {X:Cx} {ad:Ad} {pins:List (Addr×Obj)} {s:Shared} {σ:St} {H H':Hp} {B h':Heap} {ea:Addr} {cls a0:Value} {E₀:XK}
theorem _root_.L2.Inv.track {a:Addr} {o:HO} (J:Inv X pins σ H s) (hn:H a=none) (n0:X.s₀.heap.get? a=none) (hL:a≠X.env.locals) (hC: ∀ x c,X.env.cells.lookup x=some c->c≠a) (hp: ∀ p∈X.pn++pins,p.1≠a)
  (new:ObjOk X.prog X.w (upd H a o) s.heap a o):Inv X pins σ (upd H a o) s:=by
 refine⟨J.ok,J.os,J.bare,⟨J.base.keep,J.base.slot,fun b ob e n hx=> ?_,J.base.there,fun b xs e=> ?_,fun b ob u e=> ?_,fun b ps e=> ?_⟩,J.loc,J.cell, ?_,fun x c e=> ?_,fun p hq=> ?_,fun b u e=> ?_,J.len⟩
 ·have:b≠a:=fun z=>by rw [z,n0] at e;cases e
  rw [aI this]
  exact J.base.free b ob e n hx
 ·have e1:=J.base.tups b xs e
  rw [aI (bB e1 hn)]
  exact e1
 ·have e1:=J.base.frzs b ob u e
  rw [aI (bB e1 hn)]
  exact e1
 ·obtain⟨m,e1⟩:=J.base.tbls b ps e
  exact⟨m,by rw [aI (bB e1 hn)];exact e1⟩
 ·rw [aI (Ne.symm hL)]
  exact J.free
 ·rw [aI (hC x c e)]
  exact J.freeC x c e
 ·obtain⟨e,n,ne,nf,d⟩:=J.pin p hq
  exact⟨e,by rw [aI (hp p hq)];exact n,ne,nf,d⟩
 ·by_cases hb:b=a
  ·subst hb
   rw [aN] at e
   cases e
   exact new
  ·rw [aI hb] at e
   exact(J.hok b u e).stay (fun _ _ _ q=>q) (fun c q=>by rw [aI (bB q hn)];exact q) fun c xs q=>by rw [aI (bB q hn)];exact q
end
noncomputable def tX (X:Cx) (pins:List (Addr×Obj)) (D':Ends) (hd:ExceptHandler):Cx:=
 { X with pn:=X.pn++pins,xe:=fun e s₁=>wpAny (model X.prog X.w) X.A (noteFrame e X.env) (fun _ s₂=>wpAny (model X.prog X.w) X.A (setFlight e none) (fun _ s₃=>wpAny (model X.prog X.w) X.A (handleBy e X.env [hd]) (SP X pins D') X.xe s₃) X.xe s₂) X.xe s₁ }
section
variable {X:Cx} {ad:Ad} {pins pins':List (Addr×Obj)} {s:Shared} {σ:St} {H H':Hp} {B h':Heap} {ea:Addr} {cls a0:Value} {D':Ends} {hd:ExceptHandler}
structure Fram (X:Cx):Prop where
 ex:X.ex=[]
 stk:X.stack=X.env::X.outer
 fr:X.env.frame=some X.env.locals
theorem zN {E₀:XK} {x:Str} {c:Nat} {np cpos pos kp:Pos} {msg:Str} {j:Nat} (T:DefX X E₀) (hc:X.calm=true) (hg:L2.Gl X x) (hm:X.mg x=some (.ref (ad.cls c))) (hd:(x==("__debug__":Str))=false) (hi:excIn X.K (ad.cls c) [.type "ValueError", .type "Exception", .type "BaseException", .type "object"] "ValueError.__new__"=true):
  MS X ad (fun E=> ∀ σ c H,E σ c H->E₀ (.ref (ad.cls c)) none H) (.Raise (some (.Call (.Name x np) [.Constant (.str msg) j kp] [] cpos)) none pos) (iS c):=by
 intro pins s σ H D' I ⟨G₀,G,ρ,E,S,hx',hr⟩
 exact zM T hc hg hm hd hi I (hx'.2 σ c H (hr σ G H S))
end
structure ExcCls (K:Frag) (C:Addr):Prop where
 is:(clsIn K C).isSome=true
 ob:mroIn K C (.type "object")=some true
 be:mroIn K C (.type "BaseException")=some true
 ca:findIn K (.ref C) "__class__"=some (some (.builtin "object.__class__"))
 ga:findIn K (.ref C) "__getattribute__"=some (some (.builtin "BaseException.__getattribute__"))
 gn:findIn K (.ref C) "__getattr__"=some none
theorem zO {K:Frag} {x C:Addr} (T:ExcCls K C):KitX K (.ref x) (.ref C) (fun h=>nY h x C) where
 ty:=fun _ _ _ I=>I.ty
 it:=fun _ _ Z _=>by
  obtain⟨cdD,hcD⟩:=Option.isSome_iff_exists.mp T.is
  unfold clsIn at hcD
  split at hcD
  ·rename_i c' d' cd' sl' ho
   intro A' Q' E' s' k q
   unfold isType loadHead
   exact aa (wpAny_loadPart (k _ _ (Z _ _ ho)) (ae q))
  ·cases hcD
 ne:=fun h tp dd its n sl Z htp=>by
  obtain⟨cdD,hcD⟩:=Option.isSome_iff_exists.mp T.is
  refine Bool.eq_false_iff.mpr fun q=> ?_
  have e:C=tp:=Value.ref.inj (beq_iff_eq.mp q)
  subst e
  unfold clsIn at hcD
  split at hcD
  ·rename_i c' d' cd' sl' ho
   have z:=(Z _ _ ho).symm.trans htp
   cases z
  ·cases hcD
 ca:=fun Z I k=>vY Z I T.ob T.be T.ca T.ga T.gn k
noncomputable def tyD (ad:Ad):D->Option Value
 | .non=>some (.type "NoneType")
 | .bl _=>some (.type "bool")
 | .int _=>some (.type "int")
 | .str _=>some (.type "str")
 | .tup _=>some (.type "tuple")
 | .lst _=>some (.type "list")
 | .exc c=>some (.ref (ad.cls c))
 | .fn _=>none
 | .rnk=>none
def aPx (X:Cx) (ad:Ad) (cv:Value) (p:D->Option Bool):Prop:= ∀ d b,p d=some b-> ∃ t,tyD ad d=some t/\kitOne X.K t cv=some b
section
variable {X:Cx} {ad:Ad} {pins:List (Addr×Obj)} {s:Shared} {σ:St} {H G:Hp} {ρ:Rho} {E:Nat->Hp->Prop} {pos p tp:Pos} {a:Expr} {f:F}
theorem v5 {A:Around} {Q:Value->Shared->Prop} {Ex:Value->Shared->Prop} {d:D} {v:V} {u t cv:Value} {b:Bool} (hx: ∀ c,ExcCls X.K (ad.cls c)) (I:Inv X pins σ H s) (hG:Same G H) (q:Rep X.K ad G d v) (r:bA v u) (ht:tyD ad d=some t) (e:kitOne X.K t cv=some b)
  (h: ∀ tk,Q (.bool b) { s with toks:=tk }):wpAny (model X.prog X.w) A (call (.builtin "isinstance") [u,cv]) Q Ex s:=by
 cases d with
 | non=>unfold Rep at q;subst q;cases (show u=Value.none from r);cases ht;exact kia_one kitx_none I.kIn True.intro e (by intro z;cases z) h
 | bl k=>unfold Rep at q;subst q;cases (show u=Value.bool k from r);cases ht;exact kia_one kitx_bool I.kIn True.intro e (by intro z;cases z) h
 | int k=>unfold Rep at q;subst q;obtain⟨t',rfl⟩:=r;cases ht;exact kia_one kitx_int I.kIn True.intro e (by intro z;cases z) h
 | str k=>unfold Rep at q;subst q;obtain⟨t',rfl⟩:=r;cases ht;exact kia_one kitx_str I.kIn True.intro e (by intro z;cases z) h
 | tup ds=>
  unfold Rep at q
  obtain⟨p,vs,rfl,hp,_⟩:=q
  cases (show u=Value.ref p from r)
  cases ht
  obtain⟨its,_,⟨o,h1,h2,_⟩,_⟩:=I.tuple (hG.seqT hp)
  exact kia_one kitx_tuple I.kIn ⟨o,h1,h2⟩ e (by intro z;cases z) h
 | lst ds=>
  unfold Rep at q
  obtain⟨p,vs,rfl,hp,_⟩:=q
  cases (show u=Value.ref p from r)
  cases ht
  obtain⟨its,_,⟨o,n,h1,h2,_⟩,_⟩:=I.list (hG.seq hp)
  exact kia_one kitx_list I.kIn ⟨o,h1,h2⟩ e (by intro z;cases z) h
 | exc c=>
  unfold Rep at q
  obtain⟨p,rfl,hp⟩:=q
  cases (show u=Value.ref p from r)
  cases ht
  obtain⟨ex,_,_⟩:=(show ObjOk X.prog X.w H s.heap p (aPv (ad.cls c) p) from I.hok p _ (hG _ _ hp))
  exact kia_one (zO (hx c)) I.kIn ex e (by intro z;cases z) h
 | fn k=>cases ht
 | rnk=>cases ht
inductive ClNm (X:Cx) (t:Str) (cv:Value):Prop
 | blt (T:String):cv= .type T->L2.Gl X t->X.mg t=none->bootBuiltins t=some (.type T)->t≠"__name__"->(t==("__debug__":Str))=false->ClNm X t cv
 | own (C:Addr):cv= .ref C->L2.Gl X t->X.mg t=some (.ref C)->(t==("__debug__":Str))=false->ClNm X t cv
theorem ClNm.ev {t:Str} {cv:Value} {Ex:Value->Shared->Prop} {Q:Value->Shared->Prop} (c:ClNm X t cv) (I:Inv X pins σ H s) (h:Q cv s):wpAny (model X.prog X.w) X.A (eval (.Name t tp) X.env) Q Ex s:=by
 cases c with
 | blt T e g m b n d=>subst e;exact eG I g m b h n d
 | own C e g m d=>subst e;exact lY I g m h d
theorem v6 {t:Str} {cv:Value} {P:D->Option Bool} (hx: ∀ c,ExcCls X.K (ad.cls c)) (hg:L2.Gl X "isinstance") (hm:X.mg "isinstance"=none) (c:ClNm X t cv) (k:aPx X ad cv P) (ha:ML X ad a f)
  (he:starEach [a, .Name t tp] X.env=(false,eval a X.env)::starEach [.Name t tp] X.env):ME X ad (.Call (.Name "isinstance" p) [a, .Name t tp] [] pos) (rIs P f):=by
 intro pins s σ H Q I ⟨G,ρ,E,hG,hS,hx',hr⟩
 refine wpAny_Call_Name_kw (eG (u:= .builtin "isinstance") I hg hm (by decide+kernel) ?_ (by decide) (by decide))
 refine PyProof.Rows.callWith_builtin1 ?_ he rfl
 rw [he]
 refine Calls.spliced_cons (L2.thn (ha.lk pins s σ H G ρ _ Q E I hG hS hx' hr) fun u s1 hz_=> ?_)
 obtain⟨v,d,G1,H1,I1,r1,st,q,k1⟩:=hz_
 refine Calls.spliced_cons (c.ev I1 (Calls.spliced_nil ?_))
 have k1':RK X.K ad G1 H1 (match P d with | some b=> .ok (.bl b) | none=> .bad) Q E:=k1
 cases e:P d with
 | none=>rw [e] at k1';exact k1'.elim
 | some b=>
  rw [e] at k1'
  obtain⟨ty,e1,e2⟩:=k d b e
  have fin: ∀ tk,EP X pins σ Q (.bool b) { s1 with toks:=tk }:=fun tk=>⟨.bl b,H1,I1.tok tk,rfl,k1'.ok_now st.gh a8⟩
  rcases q with q | ⟨a',vs,ds,rfl,rfl,g1,h1,rp⟩
  ·exact v5 hx I1 st.gh q r1 e1 e2 fin
  ·refine v5 (G:=upd G1 a' (.lst vs)) hx I1 (fun b o e=> ?_) ?_ r1 e1 e2 fin
   ·by_cases z:b=a'
    ·subst z;rw [aN] at e;rw [h1];exact e
    ·rw [aI z] at e;exact st.gh b o e
   ·unfold Rep
    exact⟨a',vs,rfl,SqL.of aN,rp.mono (Same.upd_new g1)⟩
end
structure RkC (K:Frag) (A:Addr):Prop where
 cl:Cls K A
 n1:uP K A "held"
 n2:uP K A "done"
 n3:uP K A "undone"
structure StepR (foot:List Addr) (G H G' H':Hp):Prop where
 sg:Same G G'
 gh:Same G' H'
 sh: ∀ b o,b∉foot->H b=some o->H' b=some o
 nw: ∀ b,G b=none->G' b≠none->H b=none
 th: ∀ b,H b≠none->H' b≠none
def RMK (K:Frag) (ad:Ad) (A:Nat) (G H:Hp) (p dx d l1 l2:Addr) (m:RM) (Q:VK) (E:Nat->Hp->Prop):Prop:=match m with
 | .pure x=>RK K ad G H x Q E
 | .chg x r'=> ∀ v G' H' l2',StepR [p,dx,d,l1,l2] G H G' H'->RackIn K ad A G' H' p r' dx d l1 l2'->(l2'=l2\/H l2'=none)->Rep K ad G' x v->Q v H'
noncomputable def spM (K:Frag) (ad:Ad) (A n:Nat) (m:FM):Sp:=fun vs H Q E=> ∃ G p r dx d l1 l2 ds ws,vs=V.ref p::ws/\Same G H/\RackIn K ad A G H p r dx d l1 l2/\aF K ad G ds ws/\ds.length=n/\RMK K ad A G H p dx d l1 l2 (m r ds) Q (fun c H'=>E (.ref (ad.cls c)) none H')
structure MetOk (X:Cx) (ad:Ad) (A:Addr) (m:Str) (n:Nat) (M:FM):Prop where
 no:m≠"held"/\m≠"done"/\m≠"undone"
 ok: ∃ f k fd ps,Meth X.K A m f/\FnOk X.prog X.w X.K X.mg X.base (CXe X.prog X.w) k f fd ps (spM X.K ad A n M)/\Room k X.A/\iC X.K fd ps []
section
variable {X:Cx} {ad:Ad} {pins:List (Addr×Obj)} {s:Shared} {σ:St} {H G:Hp} {ρ:Rho} {Q:VK} {E:Nat->Hp->Prop} {pos p ap cp:Pos} {a b o:Expr} {f g:F}
def aI3 (P:Program) (w:World) (K:PySem.W.Frag) (ad:Ad) (A:Addr) (kvs:List (Str×D)):Prop:=
 (A==sysModules)=false/\ ∃ vs:List (Str×Value),(∃ o es ep,K.lookup A=some o/\o.ExactDict/\o.data= .dict es ep/\KeysOf (PySem.strKind P w) es/\Pairs (PySem.strKind P w) es.toList vs/\(vs.map (·.1)).Nodup)/\
  Paired (fun(p:Str×D) (q:Str×Value)=>p.1=q.1/\ ∃ v,bA v q.2/\ ∀ G,Rep K ad G p.2 v) kvs vs
end
noncomputable def cI:Py->Str
 | .len=>"len" | .range=>"range" | .enum=>"enumerate" | .zip=>"zip" | .isin=>"isinstance" | .int=>"int" | .bool=>"bool" | .str=>"str" | .tuple=>"tuple" | .list=>"list"
 | .sum=>"sum" | .all=>"all" | .any=>"any" | .sorted=>"sorted" | .min=>"min" | .max=>"max" | .abs=>"abs" | .set=>"set"
noncomputable def aPy (X:Cx) (ad:Ad) (x:Str):SK.Gl->Prop
 | .fn k n F=> ∃ r f,FnGood X ad r x n F f/\Room r X.A/\f=ad.fnA k
 | .exc c=>X.mg x=some (.ref (ad.cls c))/\c<ad.nb
 | .verr=>x="ValueError"/\X.mg x=none
 | .val d=> ∃ u v,X.mg x=some u/\bA v u/\ ∀ G,Rep X.K ad G d v
 | .py p=>x=cI p/\X.mg x=none
 | .tbl kvs=> ∃ A,X.mg x=some (.ref A)/\aI3 X.prog X.w X.K ad A kvs
 | .cls A ms=>X.mg x=some (.ref A)/\RkC X.K A/\ ∀ m n M,ms.lookup m=some (n,M)->MetOk X ad A m n M
structure CtxOk (X:Cx) (ad:Ad) (C:SK.Ctx):Prop where
 N:X.N=C.N
 nd:X.N.Nodup
 vis: ∀ x i,loc C x=some i->X.N[i]? =some x/\Vis X.env.scope x/\(x==("__debug__":Str))=false/\(x==("__classdict__":Str))=false
 gk: ∀ x,C.sc.names.lookup x=some .globalImplicit->L2.Gl X x
 gt: ∀ x g,C.tab.lookup x=some g->(x==("__debug__":Str))=false/\aPy X ad x g
 cap: ∀ x i,eK C x=some i->X.env.kindOf x=some .cell\/X.env.kindOf x=some .free
 calm:X.calm=true
 un:X.A.units+62<cLine
 hd:X.A.handled=none
 exc: ∀ c,ExcCls X.K (ad.cls c)
 kin: ∀ c e,c<ad.nb->kitOne X.K (.ref (ad.cls e)) (.ref (ad.cls c))=some (hit c e)
 kve: ∀ e,kitOne X.K (.ref (ad.cls e)) (.type "ValueError")=some true
 fnv: ∀ j n F,C.fns[j]? =some (n,F)-> ∃ r,FnAt X ad r n F (ad.fnA j)/\Room r X.A
section
variable {X:Cx} {ad:Ad} {C:SK.Ctx}
theorem aEf {x:Str} {g:SK.Gl} (h:glo C x=some g):C.sc.names.lookup x=some .globalImplicit/\C.tab.lookup x=some g:=by
 unfold glo at h
 split at h
 ·rename_i e;exact⟨e,h⟩
 ·cases h
theorem CtxOk.gl (O:CtxOk X ad C) {x:Str} {g:SK.Gl} (h:glo C x=some g):L2.Gl X x/\(x==("__debug__":Str))=false/\aPy X ad x g:=
 let ⟨a,b⟩:=aEf h
 ⟨O.gk x a,(O.gt x g b).1,(O.gt x g b).2⟩
theorem aI4 {t:Str} {g:SK.Gl} {P:D->Option Bool} (O:CtxOk X ad C) (h:glo C t=some g) (e:isP g=some P): ∃ cv,ClNm X t cv/\aPx X ad cv P:=by
 obtain⟨hg,hd,hk⟩:=O.gl h
 cases g with
 | fn _ _ _=>cases e
 | cls _ _=>cases e
 | val _=>cases e
 | tbl _=>cases e
 | exc c=>
  cases e
  obtain⟨hm,hc⟩:=hk
  refine⟨.ref (ad.cls c), .own _ rfl hg hm hd,fun d b hb=> ?_⟩
  cases d<;>try (cases hb;done)
  rename_i k
  cases hb
  exact⟨_,rfl,O.kin c k hc⟩
 | verr=>
  cases e
  obtain⟨hx,hm⟩:=hk
  subst hx
  refine⟨.type "ValueError", .blt "ValueError" rfl hg hm (by decide+kernel) (by decide) hd,fun d b hb=> ?_⟩
  cases d<;>try (cases hb;done)
  rename_i k
  cases hb
  refine⟨_,rfl, ?_⟩
  rw [O.kve k]
  congr 1
  unfold hit
  simp
 | py p=>
  obtain⟨hx,hm⟩:=hk
  cases p<;>try (cases e;done)
  all_goals
   cases e
   subst hx
  ·refine⟨.type "int", .blt "int" rfl hg hm (by decide+kernel) (by decide) hd,fun d b hb=> ?_⟩
   cases d<;>first | (cases hb;done) | (cases hb;exact⟨_,rfl,by rfl⟩)
  ·refine⟨.type "bool", .blt "bool" rfl hg hm (by decide+kernel) (by decide) hd,fun d b hb=> ?_⟩
   cases d<;>first | (cases hb;done) | (cases hb;exact⟨_,rfl,by rfl⟩)
  ·refine⟨.type "str", .blt "str" rfl hg hm (by decide+kernel) (by decide) hd,fun d b hb=> ?_⟩
   cases d<;>first | (cases hb;done) | (cases hb;exact⟨_,rfl,by rfl⟩)
  ·refine⟨.type "tuple", .blt "tuple" rfl hg hm (by decide+kernel) (by decide) hd,fun d b hb=> ?_⟩
   cases d<;>first | (cases hb;done) | (cases hb;exact⟨_,rfl,by rfl⟩)
  ·refine⟨.type "list", .blt "list" rfl hg hm (by decide+kernel) (by decide) hd,fun d b hb=> ?_⟩
   cases d<;>first | (cases hb;done) | (cases hb;exact⟨_,rfl,by rfl⟩)
theorem dQ {x:Str} {k:NameKind} {l:List (Str×NameKind)} (h:(l.lookup x==some k)=true):l.lookup x=some k:=by simpa using h
theorem iK {sc:Scope} {xs:List Str} (h:jR sc xs=true):sc.kind= .function/\(nV sc=[]\/(nV sc=xs/\xs.length=1))/\(∀ x∈xs,sc.names.lookup x=some (if(nV sc).isEmpty then .local else .cell))/\(∀ y∈sc.names,y.2= .local->sc.names.lookup y.1=some .local)/\
  (xs++aS sc).Nodup/\(∀ x∈xs++aS sc,(x==("__debug__":Str))=false/\(x==("__classdict__":Str))=false)/\ ∀ x∈aS sc,sc.names.lookup x=some .free:=by
 unfold jR at h
 simp only [au] at h
 obtain⟨⟨⟨⟨⟨⟨h1,h2⟩,h3⟩,h4⟩,h5⟩,h6⟩,h7⟩:=h
 refine⟨by simpa using h1,by simpa using h2,fun x hx=> ?_,fun y hy z=> ?_,of_decide_eq_true h5,fun x hx=> ?_,fun x hx=> ?_⟩
 ·exact dQ (zAd h3 x hx)
 ·have:=zAd h4 y hy
  rw [z] at this
  simpa using this
 ·have:=zAd h6 x hx
  simpa using this
 ·exact dQ (zAd h7 x hx)
theorem qD {x:Str} {N:List Str} {i:Nat} (h:idx x N=some i):x∈N:=List.mem_of_getElem? (gH h)
theorem qF {x:Str} {i:Nat} (h:loc C x=some i):idx x C.N=some i/\(C.sc.names.lookup x=some .local\/C.sc.names.lookup x=some .cell\/C.sc.names.lookup x=some .free):=by
 unfold loc at h
 split at h
 ·rename_i e;exact⟨h, .inl e⟩
 ·rename_i e;exact⟨h, .inr (.inl e)⟩
 ·rename_i e;exact⟨h, .inr (.inr e)⟩
 ·cases h
theorem fQ {x:Str} {i:Nat} (h:eK C x=some i):idx x C.N=some i/\(C.sc.names.lookup x=some .cell\/C.sc.names.lookup x=some .free):=by
 unfold eK at h
 split at h
 ·rename_i e;exact⟨h, .inl e⟩
 ·rename_i e;exact⟨h, .inr e⟩
 ·cases h
theorem mG {α β:Type} {f:α->Option β}: ∀ {l:List α} {r:List β},d7 f l=some r-> ∀ a∈l, ∃ b,f a=some b
 | [],_,_,a,ha=>by cases ha
 | x::l,r,h,a,ha=>by
  unfold d7 at h
  cases e:f x with
  | none=>rw [e] at h;cases h
  | some y=>
   rw [e] at h
   obtain⟨r',h1,_⟩:=zMd h
   rcases aq.mp ha with rfl | ha
   ·exact⟨y,e⟩
   ·exact mG h1 a ha
theorem lH {x:Str} {k:NameKind} {l:List (Str×NameKind)} (h:l.lookup x=some k):(x,k)∈l:=PySem.mem_of_lookup h
theorem mH {x:Str} {sc:Scope} (h:(x,NameKind.free)∈sc.names):x∈aS sc:=by
 unfold aS
 exact ao.mpr ⟨(x, .free),List.mem_filter.mpr ⟨h,by simp⟩,rfl⟩
theorem v7 {sc:Scope} {xs:List Str} {cs:List Nat} (O:CtxOk X ad C) (h:jR sc xs=true) (hc:d7 (fun x=>eK C x) (aS sc)=some cs):CompSc X C sc xs cs:=by
 obtain⟨h1,h2,h3,h4,h5,h6,h7⟩:=iK h
 have hC:Cel sc:=by
  rcases h2 with z | ⟨z,l⟩
  ·exact .inl z
  ·obtain⟨x,rfl⟩:=List.length_eq_one_iff.mp l
   have:=h3 x (.head _)
   rw [z] at this
   exact .inr ⟨x,z,this⟩
 refine⟨h1,hC,h4,fun x hx=> ?_,fun x hx=>h7 x (mH hx),O.N,hc⟩
 obtain⟨i,e⟩:=mG hc x (mH hx)
 exact O.cap x i e
theorem aEg {tg:Expr} {xs:List Str} {k:Nat} {x:Str} (hN:X.N.Nodup) (e:bI tg=some (xs,k)) (hx:xs=[x]) (h1:X.N[0]? =some x) (h2:X.env.scope.names.lookup x=some .cell) (h3:X.fn x=true):PG X tg (gTg X.K k):=by
 subst hx
 cases tg<;>try (cases e)
 ·exact jI hN h1 (.inr h2) (.inl h3)
 ·rename_i es j px
  unfold bI at e
  obtain⟨ys,e1,e2⟩:=zBd e
  by_cases hl:2<=ys.length
  ·rw [if_pos hl] at e2
   cases e2
   exact absurd hl (by simp)
  ·rw [if_neg hl] at e2
   cases e2
theorem aI5 {sc:Scope} {xs:List Str} {cs:List Nat} {s3:Shared} {H3:Hp} {fp:List Addr} {pins:List (Addr×Obj)} (O:CtxOk X ad C) (h:jR sc xs=true) (hc:d7 (fun x=>eK C x) (aS sc)=some cs):
  CtxOk (cX X (xs++aS sc) sc s3 H3 fp pins) ad { C with sc:=sc,N:=xs++aS sc }:=by
 obtain⟨h1,h2,h3,h4,h5,h6,h7⟩:=iK h
 have rl: ∀ x,(relabel sc X.env).names.lookup x=(sc.names.lookup x).map (fun k=>if(k==NameKind.free&&X.env.scope.kind== .function&&X.env.kindOf x==some .cell) then NameKind.cell else k):=fun x=>bM
 have fr: ∀ x,sc.names.lookup x=some .free->(relabel sc X.env).names.lookup x=some .cell\/(relabel sc X.env).names.lookup x=some .free:=fun x e=>by
  rw [rl x,e]
  simp only [Option.map]
  split
  ·exact .inl rfl
  ·exact .inr rfl
 have nc: ∀ x,sc.names.lookup x=some .cell->(relabel sc X.env).names.lookup x=some .cell:=fun x e=>by rw [rl x,e];rfl
 refine⟨rfl,h5,fun x i e=> ?_,fun x e=> ?_,fun x g e=> ?_,fun x i e=> ?_,O.calm,O.un,O.hd,O.exc,O.kin,O.kve,fun j n F e=>let ⟨r,T,hr⟩:=O.fnv j n F e;⟨r,⟨T.kp,T.ok⟩,hr⟩⟩
 ·obtain⟨e1,e2⟩:=qF e
  have hm:=qD e1
  refine⟨gH e1, ?_,(h6 x hm).1,(h6 x hm).2⟩
  rcases e2 with e2 | e2 | e2
  ·refine .inl ?_
   show(relabel sc X.env).names.lookup x=some .local
   rw [rl x]
   have:sc.names.lookup x=some .local:=e2
   rw [this]
   rfl
  ·exact .inr (.inl (nc x e2))
  ·rcases fr x e2 with z | z
   ·exact .inr (.inl z)
   ·exact .inr (.inr z)
 ·show(relabel sc X.env).names.lookup x=some .globalImplicit
  rw [rl x]
  have:sc.names.lookup x=some .globalImplicit:=e
  rw [this]
  rfl
 ·obtain⟨e1,e2⟩:=O.gt x g e
  refine⟨e1, ?_⟩
  cases g with
  | fn k n F=>
   obtain⟨r,f,T,hr,hf⟩:=e2
   exact⟨r,f,⟨T.mg,T.kp,T.ok⟩,hr,hf⟩
  | exc c=>exact e2
  | verr=>exact e2
  | val d=>exact e2
  | tbl kvs=>exact e2
  | py p=>exact e2
  | cls A ms=>exact⟨e2.1,e2.2.1,fun m n M hm=>let z:=e2.2.2 m n M hm;⟨z.no,z.ok⟩⟩
 ·obtain⟨e1,e2⟩:=fQ e
  rcases e2 with e2 | e2
  ·exact .inl (nc x e2)
  ·exact fr x e2
end
section
variable {prog:Program} {w:World} {A:Around} {Ex:Value->Shared->Prop} {s:Shared}
theorem tJ {it t:Addr} {i:Nat} {items:Array Value} {x:Value} {Q:Value->Shared->Prop} (hit:s.heap.IsTupleIter it t i) (ht:s.heap.IsTuple t items) (hx:items[i]? =some x)
  (hQ: ∀ h',h'.IsTupleIter it t (i+1)->Heap.SameBut it s.heap h'->Q x { s with heap:=h' }):wpAny (model prog w) A (Builtin.SmallTypes.nextOf (.ref it)) Q Ex s:=by
 obtain⟨o,o1,o2,o3⟩:=id hit
 obtain⟨u,u1,_,nu,u2⟩:=ht
 unfold Builtin.SmallTypes.nextOf
 refine aa (wpAny_callSpecial?_slot (name:=Str.ofString "__next__") hit.typeIs F.slot_tuple_iterator_next (wpAny_call_entry F.slot_tuple_iterator_next hit.typeIs F.entry_tuple_iterator_next ?_ (F.args_tuple_iterator_next_1 _)))
 show wpAny _ _ (field (.ref it) 0 >>= _) _ _ s
 refine aa (wpAny_field o1 o3 (x:= .ref t) rfl ?_)
 show wpAny _ _ (if(Value.ref t==Value.none)=true then _ else _) _ _ s;rw [if_neg (show ¬ ((Value.ref t==Value.none)=true) from bd)]
 show wpAny _ _ (field (.ref it) 1 >>= _) _ _ s
 refine aa (wpAny_field o1 o3 (x:= .int i 0) rfl ?_)
 show wpAny _ _ (seqItems? (.ref t) >>= _) _ _ s
 refine aa (wpAny_seqItems u1 u2 ?_)
 simp only [Int.toNat_natCast,hx]
 refine aa (wpAny_setField o1 o3 (by simp) (ae ⟨x,rfl,ae (hQ _ ?_ (Heap.SameBut.update ..))⟩))
 exact⟨_,Heap.get?_update_self _ o1 (Obj.isFreed_of_fields (Obj.data_mapFields o3 _)),(Obj.cls_mapFields ..).trans o2,by rw [Obj.data_mapFields o3];simp [rawInt]⟩
theorem v8 {it t:Addr} {i:Nat} {items:Array Value} {Q:Value->Shared->Prop} (hh:A.handled=none) (hit:s.heap.IsTupleIter it t i) (ht:s.heap.IsTuple t items) (hx:items[i]? =none)
  (hE: ∀ h' e,Heap.ExtBut it s.heap h'->(∃ o,h'.get? e=some o/\o.cls= .type "StopIteration")->Ex (.ref e) { s with heap:=h' }):wpAny (model prog w) A (Builtin.SmallTypes.nextOf (.ref it)) Q Ex s:=by
 obtain⟨o,o1,o2,o3⟩:=id hit
 obtain⟨u,u1,_,nu,u2⟩:=ht
 unfold Builtin.SmallTypes.nextOf
 refine aa (wpAny_callSpecial?_slot (name:=Str.ofString "__next__") hit.typeIs F.slot_tuple_iterator_next (wpAny_call_entry F.slot_tuple_iterator_next hit.typeIs F.entry_tuple_iterator_next ?_ (F.args_tuple_iterator_next_1 _)))
 show wpAny _ _ (field (.ref it) 0 >>= _) _ _ s
 refine aa (wpAny_field o1 o3 (x:= .ref t) rfl ?_)
 show wpAny _ _ (if(Value.ref t==Value.none)=true then _ else _) _ _ s;rw [if_neg (show ¬ ((Value.ref t==Value.none)=true) from bd)]
 show wpAny _ _ (field (.ref it) 1 >>= _) _ _ s
 refine aa (wpAny_field o1 o3 (x:= .int i 0) rfl ?_)
 show wpAny _ _ (seqItems? (.ref t) >>= _) _ _ s
 refine aa (wpAny_seqItems u1 u2 ?_)
 simp only [Int.toNat_natCast,hx]
 refine aa (wpAny_rule (aa (wpAny_setField o1 o3 (by simp) ?_)))
 show wpAny _ _ (newExc (.type "StopIteration") [] >>= _) _ _ _
 refine aa ?_;simp only [newExc,newTuple]
 refine aa (wpAny_newObj_type ?_ (by size_fits));refine aa (m:=firstArgMember _ _) (wpAny_of_eq (a:=Value.none) (by first | rfl | (simp only [firstArgMember];rfl)) ?_)
 refine wpAny_newObj_type ?_ (by size_fits);simp only [raiseNew]
 refine aa (wpAny_handled ?_)
 first | rw [show A.in1.handled=none from hh] | rw [hh]
 refine aa (ae (wpAny_throw ?_))
 refine hE _ _ (fun b ob ne e=> ?_) ⟨_,ag _ rfl,rfl⟩
 exact af _ (af _ ((Heap.get?_update_other _ _ (Ne.symm ne)).trans e))
end
section
variable {prog:Program} {w:World} {A:Around} {Ex:Value->Shared->Prop} {s:Shared}
end
theorem v9 {n l m:Nat} (a:l<n) (b:m<n):ZipApart (n+4) (n+2) (n+3) n (n+1) l m:=by
 constructor<;>(intro h;have h2:(_:Nat)=_:=h;revert h2;omega)
theorem eL {X:Cx} {pins:List (Addr×Obj)} {σ:L2.St} {H:Hp} {s:Shared} {h':Heap} {t':Nat} {fp:List Addr} (I:Inv X pins σ H s) (k: ∀ b o,b∉fp->s.heap.get? b=some o->h'.get? b=some o) (hf: ∀ b∈fp,iR X pins H b):Inv X pins σ H { s with heap:=h',toks:=t' }:=by
 have nit: ∀ b u,H b=some u->b∉fp:=fun b u e z=>by rw [(hf b z).1] at e;cases e
 refine I.step (g':=s.gens) (d':=s.drawn) (ch:=fp) (fun b hb=> ?_) (fun b o _ _ hc e _=>k b o hc e) (fun b o _ _ hc e _=>⟨o.slots,k b o hc e⟩) (fun _ _ _ _ n=>n)
  (fun b o hc e=>⟨o,k b o hc e⟩) (fun _ _ e=>e) (fun _ _ _ e=>e) (fun b ps e=>⟨#[],by rw [e];simp⟩) (fun m hm=> ?_) (fun b u e=> ?_) I.bare
 ·obtain⟨_,f1,_,f3,f4,f5⟩:=hf b hb
  exact⟨f3,f1,f4,f5⟩
 ·obtain⟨o,es,ep,ho,r⟩:=hm
  exact⟨o,es,ep,k _ o (fun z=>(hf _ z).2.1 rfl) ho,r⟩
 ·refine(I.hok b u e).stay (fun c v hc q=>k c v ?_ q) (fun _ q=>q) fun _ _ q=>q
  rcases hc with z | z
  ·rw [z];exact nit b u e
  ·exact nit c _ z
section
variable {prog:Program} {w:World} {A:Around} {Ex:Value->Shared->Prop} {s:Shared}
theorem tK {It:Heap->Nat->Prop} {e it:Addr} {i:Nat} {x old:Value} {Q:Option Value->Shared->Prop} (he:IsEnum s.heap e it i old) (hne:e≠it)
  (hn: ∀ (A':Around) (E':Value->Shared->Prop) (Q':Value->Shared->Prop),(∀ h',It h' (i+1)->Heap.SameBut it s.heap h'->Q' x { s with heap:=h' })->wpAny (model prog w) A' (Builtin.SmallTypes.nextOf (.ref it)) Q' E' s)
  (hk: ∀ h h',It h (i+1)->(∀ o,h.get? it=some o->h'.get? it=some o)->It h' (i+1))
  (hQ: ∀ h',IsEnumOut h' e it ((i:Int)+1) x s.heap.objs.size->It h' (i+1)->h'.get? s.heap.objs.size=some { cls:= .type "tuple",data:= .seq #[.int i s.toks,x] }->h'.objs.size=s.heap.objs.size+1->
   (∀ b o,b≠e->b≠it->s.heap.get? b=some o->h'.get? b=some o)->Q (some (.ref s.heap.objs.size)) { s with heap:=h',toks:=s.toks+1 }):wpAny (model prog w) A (pyNext (.ref e)) Q Ex s:=by
 have hT:s.TypeIs (.ref e) "enumerate":=⟨_,he,rfl⟩
 unfold pyNext
 refine aa (wpAny_attempt (wpAny_callSpecial?_slot (name:=Str.ofString "__next__") hT F.slot_enumerate_next (wpAny_call_entry F.slot_enumerate_next hT F.entry_enumerate_next ?_ (F.args_enumerate_next_1 _))))
 obtain⟨hp,g,d,tk,os⟩:=s
 show wpAny _ _ (field (.ref e) 2 >>= _) _ _ _
 refine aa (wpAny_field he rfl (x:= .ref it) rfl (aa (hn _ _ _ fun g1 t1 s1=> ?_)))
 replace s1:Heap.SameBut it hp g1:=s1
 have e1:IsEnum g1 e it i old:=(s1.2 e hne).trans he
 show wpAny _ _ (field (.ref e) 3 >>= _) _ _ ⟨g1,g,d,tk,os⟩
 refine aa (wpAny_field e1 rfl (x:=rawInt i) rfl ?_);show wpAny _ _ (field (.ref e) 4 >>= _) _ _ ⟨g1,g,d,tk,os⟩
 refine aa (wpAny_field e1 rfl (x:= .none) rfl ?_);show wpAny _ _ (mkInt i >>= _) _ _ ⟨g1,g,d,tk,os⟩
 refine aa (wpAny_mkInt ?_);show wpAny _ _ (setField (.ref e) 3 (rawInt ((i:Int)+1)) >>= _) _ _ ⟨g1,g,d,tk+1,os⟩
 refine aa (wpAny_setField_rec e1 (by simp) fun g2 e2 s2=> ?_)
 replace s2:Heap.SameBut e g1 g2:=s2
 replace e2:IsEnum g2 e it ((i:Int)+1) old:=e2
 show wpAny _ _ (setField (.ref e) 4 .none >>= _) _ _ ⟨g2,g,d,tk+1,os⟩
 refine aa (wpAny_setField_rec e2 (by simp) fun g3 e3 s3=> ?_)
 replace s3:Heap.SameBut e g2 g3:=s3
 replace e3:IsEnum g3 e it ((i:Int)+1) old:=e3
 show wpAny _ _ (newTuple [.int i tk,x] >>= _) _ _ ⟨g3,g,d,tk+1,os⟩
 refine aa (wpAny_newTuple ?_)
 have e4:IsEnum (g3.push { cls:= .type "tuple",data:= .seq #[.int i tk,x] }) e it ((i:Int)+1) old:=af _ e3
 generalize hg4:g3.push { cls:= .type "tuple",data:= .seq #[.int i tk,x] }=g4 at e4
 have hsz:g3.objs.size=hp.objs.size:=by rw [s3.1,s2.1,s1.1]
 have le:e<hp.objs.size:=ah he
 have t4:g4.get? hp.objs.size=some { cls:= .type "tuple",data:= .seq #[.int i tk,x] }:=by rw [<-hg4, <-hsz];exact ag _ rfl
 have z4:g4.objs.size=hp.objs.size+1:=by rw [<-hg4,ai,hsz]
 have k4: ∀ b o,b≠e->b≠it->hp.get? b=some o->g4.get? b=some o:=fun b o n1 n2 q=>by
  rw [<-hg4];exact af _ ((s3.2 b n1).trans ((s2.2 b n1).trans ((s1.2 b n2).trans q)))
 have i4:It g4 (i+1):=hk g1 g4 t1 fun o q=>by rw [<-hg4];exact af _ ((s3.2 it hne.symm).trans ((s2.2 it hne.symm).trans q))
 show wpAny _ _ (Builtin.SmallTypes.ownedTupleIsFree (.ref e) >>= _) _ _ ⟨g4,g,d,tk+1,os⟩
 rw [hsz]
 refine aa ?_;unfold Builtin.SmallTypes.ownedTupleIsFree
 refine aa (wpAny_field e4 rfl (x:= .none) rfl (ae ?_));simp only [if_true]
 refine aa (wpAny_rule (aa (wpAny_field e4 rfl (x:=old) rfl (aa (wpAny_setField_rec e4 (by simp) fun g5 e5 s5=> ?_)))))
 replace s5:Heap.SameBut e g4 g5:=s5
 replace e5:IsEnum g5 e it ((i:Int)+1) x:=e5
 show wpAny _ _ (Builtin.SmallTypes.ownedTupleHandOut (.ref e) (.ref hp.objs.size) >>= _) _ _ ⟨g5,g,d,tk+1,os⟩
 refine aa ?_;unfold Builtin.SmallTypes.ownedTupleHandOut
 refine aa (wpAny_setField_rec e5 (by simp) fun g6 e6 s6=> ?_)
 replace s6:Heap.SameBut e g5 g6:=s6
 replace e6:IsEnumOut g6 e it ((i:Int)+1) x hp.objs.size:=e6
 refine wpAny_setField_rec e6 (by simp) fun g7 e7 s7=> ?_
 replace s7:Heap.SameBut e g6 g7:=s7
 replace e7:IsEnumOut g7 e it ((i:Int)+1) x hp.objs.size:=e7
 have up: ∀ b o,b≠e->g4.get? b=some o->g7.get? b=some o:=fun b o n q=>(s7.2 b n).trans ((s6.2 b n).trans ((s5.2 b n).trans q))
 refine aa (wpAny_letGo (ae ⟨_,rfl,ae (hQ g7 e7 (hk g4 g7 i4 fun o q=>up it o hne.symm q) (up _ _ (Nat.ne_of_gt le) t4) ?_ fun b o n1 n2 q=>up b o n1 (k4 b o n1 n2 q))⟩))
 rw [s7.1,s6.1,s5.1,z4]
theorem wA {e it:Addr} {i:Nat} {old:Value} {Q:Option Value->Shared->Prop} (he:IsEnum s.heap e it i old)
  (hn: ∀ (A':Around) (E':Value->Shared->Prop) (Q':Value->Shared->Prop),A'.handled=A.handled->(∀ h' x,Heap.ExtBut it s.heap h'->(∃ o,h'.get? x=some o/\o.cls= .type "StopIteration")->E' (.ref x) { s with heap:=h' })->wpAny (model prog w) A' (Builtin.SmallTypes.nextOf (.ref it)) Q' E' s)
  (hQ: ∀ h',Heap.ExtBut it s.heap h'->Q none { s with heap:=h' }):wpAny (model prog w) A (pyNext (.ref e)) Q Ex s:=by
 have hT:s.TypeIs (.ref e) "enumerate":=⟨_,he,rfl⟩
 unfold pyNext
 refine aa (wpAny_attempt (wpAny_callSpecial?_slot (name:=Str.ofString "__next__") hT F.slot_enumerate_next (wpAny_call_entry F.slot_enumerate_next hT F.entry_enumerate_next ?_ (F.args_enumerate_next_1 _))))
 show wpAny _ _ (field (.ref e) 2 >>= _) _ _ _
 refine aa (wpAny_field he rfl (x:= .ref it) rfl (aa (hn _ _ _ rfl fun h' x k q=> ?_)))
 obtain⟨o,ho,hc⟩:=q
 exact aa (wpAny_isInstance (T:="StopIteration") (b:=true) ⟨o,ho,hc⟩ isSubtype_stop (ae (hQ _ k)))
end
noncomputable abbrev eh (h:Heap) (T:String) (l:Addr):Heap:=(h.push { cls:= .type T,data:= .fields #[.ref l, .int 0 0] }).push { cls:= .type "enumerate",data:= .fields #[.none, .bool false, .ref h.objs.size,rawInt 0, .none, .none] }
open AutoSeq1 (wpAny_loadPart') in
theorem wB (l:Addr) (xs:Array Value) (n:Nat) (dd:Option Addr) (sl:Array (Option Value)):Meets (Builtin.«enumerate.__new__» ⟨[.type "enumerate", .ref l],[]⟩) (fun _ R s=>s.heap.get? l=some { cls:= .type "tuple",dict:=dd,data:= .seq xs n,slots:=sl }/\
  R (.ok (.ret (.ref (s.heap.objs.size+1)))) { s with heap:=eh s.heap "tuple_iterator" l }):=
 .of_wp fun prog w A R s h=>by
  obtain⟨hp,g,d,tk,os⟩:=s
  obtain⟨hl,h⟩:=h
  have hsub:=sub_enumerate
  have q1:Heap.IsTuple (Shared.heap ⟨hp,g,d,tk,os⟩) l xs:=⟨_,hl,rfl,n,rfl⟩
  rw [<-show(hp.push { cls:= .type "tuple_iterator",data:= .fields #[.ref l, .int 0 0] }).objs.size=hp.objs.size+1 from ai ..] at h
  wp_walk using wpAny_loadPart' hl
  refine wpAny_stack_any fun st=>ae ?_
  split
  ·rename_i c _ _ _ _ _
   cases (c==Value.type "enumerate")
   ·wp_walk using wpAny_loadPart' hl,wpAny_pyIter_tuple q1
    exact⟨_,rfl,h⟩
   ·wp_walk using wpAny_loadPart' hl,wpAny_pyIter_tuple q1
    exact⟨_,rfl,h⟩
  ·wp_walk using wpAny_loadPart' hl,wpAny_pyIter_tuple q1
   exact⟨_,rfl,h⟩
open AutoSeq1 (wpAny_loadPart') in
theorem wC (l:Addr) (xs:Array Value) (n:Nat) (dd:Option Addr) (sl:Array (Option Value)):Meets (Builtin.«enumerate.__new__» ⟨[.type "enumerate", .ref l],[]⟩) (fun _ R s=>s.heap.get? l=some { cls:= .type "list",dict:=dd,data:= .seq xs n,slots:=sl }/\
  R (.ok (.ret (.ref (s.heap.objs.size+1)))) { s with heap:=eh s.heap "list_iterator" l }):=
 .of_wp fun prog w A R s h=>by
  obtain⟨hp,g,d,tk,os⟩:=s
  obtain⟨hl,h⟩:=h
  have hsub:=sub_enumerate
  have q1:Heap.IsList (Shared.heap ⟨hp,g,d,tk,os⟩) l xs:=⟨_,hl,rfl,n,rfl⟩
  rw [<-show(hp.push { cls:= .type "list_iterator",data:= .fields #[.ref l, .int 0 0] }).objs.size=hp.objs.size+1 from ai ..] at h
  wp_walk using wpAny_loadPart' hl
  refine wpAny_stack_any fun st=>ae ?_
  split
  ·rename_i c _ _ _ _ _
   cases (c==Value.type "enumerate")
   ·wp_walk using wpAny_loadPart' hl,wpAny_pyIter_list q1
    exact⟨_,rfl,h⟩
   ·wp_walk using wpAny_loadPart' hl,wpAny_pyIter_list q1
    exact⟨_,rfl,h⟩
  ·wp_walk using wpAny_loadPart' hl,wpAny_pyIter_list q1
   exact⟨_,rfl,h⟩
section
variable {prog:Program} {w:World} {A:Around} {Ex:Value->Shared->Prop} {s:Shared}
theorem tM {l:Addr} {xs:Array Value} {Q:Value->Shared->Prop} (hl:s.heap.IsTuple l xs)
  (h: ∀ h',IsEnum h' (s.heap.objs.size+1) s.heap.objs.size 0 .none->h'.IsTupleIter s.heap.objs.size l 0->h'.objs.size=s.heap.objs.size+2->(∀ b o,s.heap.get? b=some o->h'.get? b=some o)->Q (.ref (s.heap.objs.size+1)) { s with heap:=h' }):
  wpAny (model prog w) A (call (.type "enumerate") [.ref l]) Q Ex s:=by
 obtain⟨⟨c,dd,da,sl⟩,e1,e2,n,e3⟩:=hl
 simp only at e2 e3;subst e2 e3
 refine callType_new F.called_enumerate (by decide) (F.typeCall_enumerate_1 _) (F.newCall_enumerate_1 _) (fun obj=>F.args_object_init_2 obj _) F.entry_enumerate_new (wB l xs n dd sl) ⟨e1, ?_⟩
 have hz:(s.heap.push { cls:= .type "tuple_iterator",data:= .fields #[.ref l, .int 0 0] }).objs.size=s.heap.objs.size+1:=ai ..
 have he:IsEnum (eh s.heap "tuple_iterator" l) (s.heap.objs.size+1) s.heap.objs.size 0 .none:=by rw [<-hz];exact ag _ rfl
 exact⟨⟨_,he,rfl⟩,h _ he ⟨_,af _ (ag _ rfl),rfl,rfl⟩ (by rw [ai,hz]) fun b o x=>af _ (af _ x)⟩
theorem tN {l:Addr} {xs:Array Value} {Q:Value->Shared->Prop} (hl:s.heap.IsList l xs)
  (h: ∀ h',IsEnum h' (s.heap.objs.size+1) s.heap.objs.size 0 .none->h'.IsListIter s.heap.objs.size l 0->h'.objs.size=s.heap.objs.size+2->(∀ b o,s.heap.get? b=some o->h'.get? b=some o)->Q (.ref (s.heap.objs.size+1)) { s with heap:=h' }):
  wpAny (model prog w) A (call (.type "enumerate") [.ref l]) Q Ex s:=by
 obtain⟨⟨c,dd,da,sl⟩,e1,e2,n,e3⟩:=hl
 simp only at e2 e3;subst e2 e3
 refine callType_new F.called_enumerate (by decide) (F.typeCall_enumerate_1 _) (F.newCall_enumerate_1 _) (fun obj=>F.args_object_init_2 obj _) F.entry_enumerate_new (wC l xs n dd sl) ⟨e1, ?_⟩
 have hz:(s.heap.push { cls:= .type "list_iterator",data:= .fields #[.ref l, .int 0 0] }).objs.size=s.heap.objs.size+1:=ai ..
 have he:IsEnum (eh s.heap "list_iterator" l) (s.heap.objs.size+1) s.heap.objs.size 0 .none:=by rw [<-hz];exact ag _ rfl
 exact⟨⟨_,he,rfl⟩,h _ he ⟨_,af _ (ag _ rfl),rfl,rfl⟩ (by rw [ai,hz]) fun b o x=>af _ (af _ x)⟩
end
def SqA (t:Bool) (K:PySem.W.Frag) (H:Hp) (a:Addr) (xs:List V):Prop:=match t with
 | true=>SqT K H a xs
 | false=>SqL K H a xs
def ItA (t:Bool) (h:Heap) (it l:Addr) (i:Nat):Prop:=match t with
 | true=>h.IsTupleIter it l i
 | false=>h.IsListIter it l i
def SeA (t:Bool) (h:Heap) (l:Addr) (xs:Array Value):Prop:=match t with
 | true=>h.IsTuple l xs
 | false=>h.IsList l xs
section
variable {X:Cx} {pins:List (Addr×Obj)} {σ:L2.St} {H:Hp} {s:Shared} {t:Bool}
theorem eU {a:Addr} {xs:List V} (I:Inv X pins σ H s) (h:SqA t X.K H a xs): ∃ its:List Value,bF xs its/\SeA t s.heap a its.toArray/\xs.length<=sizeLine:=by
 cases t with
 | true=>
  obtain⟨its,r,p,z⟩:=I.tuple h
  exact⟨its,r,p,z⟩
 | false=>
  obtain⟨its,r,p,z⟩:=I.list h
  exact⟨its,r,p.isList,z⟩
theorem gI {a:Addr} {xs ys:List V} (I:Inv X pins σ H s) (h:SqA t X.K H a xs) (h':SqA t X.K H a ys):xs=ys:=by
 cases t with
 | true=>exact I.tuple_inj h h'
 | false=>exact I.list_inj h h'
theorem aJ {K:PySem.W.Frag} {H H':Hp} {a:Addr} {xs:List V} (e:Same H H') (h:SqA t K H a xs):SqA t K H' a xs:=by
 cases t with
 | true=>exact e.seqT h
 | false=>exact e.seq h
theorem cN {h h':Heap} {it l:Addr} {i:Nat} (q:ItA t h it l i) (k: ∀ o,h.get? it=some o->h'.get? it=some o):ItA t h' it l i:=by
 cases t with
 | true=>obtain⟨o,e,r⟩:=q;exact⟨o,k o e,r⟩
 | false=>obtain⟨o,e,r⟩:=q;exact⟨o,k o e,r⟩
theorem wD {h:Heap} {it l:Addr} {i:Nat} (q:ItA t h it l i): ∃ o,h.get? it=some o/\ ∀ v,o.data≠ .cell v:=by
 cases t with
 | true=>obtain⟨o,e,_,d⟩:=q;exact⟨o,e,fun v z=>by rw [d] at z;cases z⟩
 | false=>obtain⟨o,e,_,d⟩:=q;exact⟨o,e,fun v z=>by rw [d] at z;cases z⟩
theorem fR {prog:Program} {w:World} {A:Around} {Ex:Value->Shared->Prop} {it l:Addr} {i:Nat} {xs:Array Value} {x:Value} {Q:Value->Shared->Prop} (q:ItA t s.heap it l i) (hl:SeA t s.heap l xs) (hx:xs[i]? =some x)
  (hQ: ∀ h',ItA t h' it l (i+1)->Heap.SameBut it s.heap h'->Q x { s with heap:=h' }):wpAny (model prog w) A (Builtin.SmallTypes.nextOf (.ref it)) Q Ex s:=by
 cases t with
 | true=>exact tJ q hl hx hQ
 | false=>exact wpAny_nextOf_list_item q hl hx hQ
theorem jZ {prog:Program} {w:World} {A:Around} {Ex:Value->Shared->Prop} {it l:Addr} {i:Nat} {xs:Array Value} {Q:Value->Shared->Prop} (hh:A.handled=none) (q:ItA t s.heap it l i) (hl:SeA t s.heap l xs) (hx:xs[i]? =none)
  (hE: ∀ h' e,Heap.ExtBut it s.heap h'->(∃ o,h'.get? e=some o/\o.cls= .type "StopIteration")->Ex (.ref e) { s with heap:=h' }):wpAny (model prog w) A (Builtin.SmallTypes.nextOf (.ref it)) Q Ex s:=by
 cases t with
 | true=>exact v8 hh q hl hx hE
 | false=>exact wpAny_nextOf_list_end hh q hl hx hE
end
noncomputable def Ite (t:Bool) (K:PySem.W.Frag) (l:Addr):It:=
 ⟨fun i H=> ∃ xs x,SqA t K H l xs/\xs[i]? =some x,
  fun i H v H'=> ∃ p x,H p=none/\v= .ref p/\(∀ xs,SqA t K H l xs->xs[i]? =some x)/\H'=upd H p (.tup [.int i,x]),
  fun i H=> ∃ xs,SqA t K H l xs/\xs.length<=i⟩
theorem wE {P:Program} {w:World} {K:PySem.W.Frag} {es:List Expr} {x1} {tp:Pos} {t:Bool} {e it l:Addr} (hne:e≠it):
  Turn P w K (.Tuple es x1 tp) (Ite t K l) [e,it] e (fun i h=>(∃ old,IsEnum h e it i old)/\ItA t h it l i) where
 mem:=by simp
 obj:=fun i h st b hb=>by
  obtain⟨⟨old,z1⟩,z2⟩:=st
  simp only [aq,List.not_mem_nil,or_false] at hb
  rcases hb with rfl | rfl
  ·exact⟨_,z1,fun v e=>by cases e⟩
  ·exact wD z2
 keep:=fun i h h' st k=>by
  obtain⟨⟨old,z1⟩,z2⟩:=st
  exact⟨⟨old,k _ (by simp) _ z1⟩,cN z2 fun o q=>k _ (by simp) o q⟩
 item:=by
  intro X hP hw hK hc i pins s σ H E I hf st hg
  subst hP hw hK
  obtain⟨xs,x,q1,hx⟩:=hg
  obtain⟨us,r1,p1,_⟩:=eU I q1
  obtain⟨u,hu,ru⟩:=r1.get hx
  obtain⟨⟨old,z1⟩,z2⟩:=st
  have te:e<s.heap.objs.size:=ah z1
  have ti:it<s.heap.objs.size:=by obtain⟨o,q,_⟩:=wD z2;exact ah q
  refine tK (It:=fun h j=>ItA t h it l j) (x:=u) z1 hne (fun A' E' Q' hq=>fR z2 p1 (by simpa using hu) hq) (fun h h' a k=>cN a k) fun h' a1 a2 a3 a4 a5=>⟨_,rfl, ?_⟩
  have hfr:H s.heap.objs.size=none:=I.hok.fresh (aj _)
  have Ia:Inv X pins σ (upd H s.heap.objs.size (.tup [.int i,x])) { s with heap:=s.heap.push { cls:= .type "tuple",data:= .seq #[.int i s.toks,u] },toks:=s.toks+1 }:=
   I.laid (t':=s.toks+1) (fun b o e=>af _ e) (aj _) (show ObjOk X.prog X.w _ _ _ (.tup [.int i,x]) from⟨by rw [sizeLine_eq];simp,[.int i s.toks,u], .cons ⟨_,rfl⟩ (.cons ru .nil),⟨_,ag _ rfl,rfl,_,rfl⟩,⟨_,ag _ rfl,rfl⟩⟩)
  have hnew: ∀ b∈[e,it],b≠s.heap.objs.size:=fun b hb=>by
   simp only [aq,List.not_mem_nil,or_false] at hb
   rcases hb with rfl | rfl
   ·exact bg te
   ·exact bg ti
  have hf2: ∀ b∈[e,it],iR X pins (upd H s.heap.objs.size (.tup [.int i,x])) b:=fun b hb=>⟨by rw [aI (hnew b hb)];exact(hf b hb).1,(hf b hb).2⟩
  have Ib:Inv X pins σ (upd H s.heap.objs.size (.tup [.int i,x])) { s with heap:=h',toks:=s.toks+1 }:=by
   refine eL (s:={ s with heap:=s.heap.push { cls:= .type "tuple",data:= .seq #[.int i s.toks,u] },toks:=s.toks+1 }) (t':=s.toks+1) Ia (fun b o hb q=> ?_) hf2
   simp only [aq,List.not_mem_nil,or_false,not_or] at hb
   by_cases hq:b=s.heap.objs.size
   ·subst hq
    rw [show(s.heap.push { cls:= .type "tuple",data:= .seq #[.int i s.toks,u] }).get? s.heap.objs.size=some _ from ag _ rfl] at q
    cases q
    exact a3
   ·exact a5 b o hb.1 hb.2 ((Heap.get?_push_ne _ b _ hq).symm.trans q)
  refine wpAny_letOwnedTupleGo_enum a1 fun h2 b1 b2=> ?_
  have Ic:Inv X pins σ (upd H s.heap.objs.size (.tup [.int i,x])) { s with heap:=h2,toks:=s.toks+1 }:=eL (s:={ s with heap:=h',toks:=s.toks+1 }) (t':=s.toks+1) Ib (fun b o hb q=>(b2.2 b (fun z=>hb (by simp [z]))).trans q) hf2
  refine⟨.ref s.heap.objs.size,_,Ic,rfl,⟨_,x,hfr,rfl,fun xs' hx'=>by rw [gI I hx' q1];exact hx,rfl⟩,⟨⟨u, ?_⟩,cN a2 fun o q=>(b2.2 it hne.symm).trans q⟩,fun b hb=>(hf2 b hb).1⟩
  rw [Int.natCast_add];exact b1
 done:=by
  intro X hP hw hK hc i pins s σ H E I hf st hg
  subst hP hw hK
  obtain⟨xs,q1,hx⟩:=hg
  obtain⟨us,r1,p1,_⟩:=eU I q1
  obtain⟨⟨old,z1⟩,z2⟩:=st
  have n1:=r1.length
  refine wA z1 (fun A' E' Q' ha hq=>jZ (ha.trans (I.ok.hd hc)) z2 p1 (by simp;omega) hq) fun h' k=>⟨rfl,eL (t':=s.toks) I (fun b o hb q=> ?_) hf⟩
  simp only [aq,List.not_mem_nil,or_false,not_or] at hb
  exact k b o hb.2 q
 self:=fun _ _ _ _ _ st h=>by
  obtain⟨⟨old,z1⟩,_⟩:=st
  exact wpAny_pyIter_enum z1 h
theorem tP {prog:Program} {w:World} {A:Around} {Ex:Value->Shared->Prop} {s:Shared} {t:Bool} {l:Addr} {xs:Array Value} {Q:Value->Shared->Prop} (hl:SeA t s.heap l xs)
  (h: ∀ h',IsEnum h' (s.heap.objs.size+1) s.heap.objs.size 0 .none->ItA t h' s.heap.objs.size l 0->h'.objs.size=s.heap.objs.size+2->(∀ b o,s.heap.get? b=some o->h'.get? b=some o)->Q (.ref (s.heap.objs.size+1)) { s with heap:=h' }):
  wpAny (model prog w) A (call (.type "enumerate") [.ref l]) Q Ex s:=by
 cases t with
 | true=>exact tM hl h
 | false=>exact tN hl h
theorem wF {t:Bool} {h h':Heap} {l:Addr} {it:Array Value} (q:SeA t h l it) (k: ∀ o,h.get? l=some o->h'.get? l=some o):SeA t h' l it:=by
 cases t with
 | true=>obtain⟨o,e1,e2⟩:=q;exact⟨o,k o e1,e2⟩
 | false=>obtain⟨o,e1,e2⟩:=q;exact⟨o,k o e1,e2⟩
theorem mI {t:Bool} {h:Heap} {it l:Addr} {k:Nat} (x:ItA t h it l k): ∃ o,h.get? it=some o/\o.data= .fields #[.ref l, .int k 0]:=by
 cases t with
 | true=>obtain⟨o,a,_,c⟩:=x;exact⟨o,a,c⟩
 | false=>obtain⟨o,a,_,c⟩:=x;exact⟨o,a,c⟩
section
variable {prog:Program} {w:World} {A:Around} {Ex:Value->Shared->Prop} {s:Shared} {t t2:Bool}
theorem wG {z TI TO i1 i2 l1 l2:Addr} {k1 k2:Nat} {xs ys:Array Value} {x y a b:Value} {Q:Option Value->Shared->Prop} (D:ZipApart z TI TO i1 i2 l1 l2) (hz:IsZip s.heap z TI TO .none) (hTI:IsPair s.heap TI (.ref i1) (.ref i2)) (hTO:IsPair s.heap TO a b)
  (h1:ItA t s.heap i1 l1 k1) (h2:ItA t2 s.heap i2 l2 k2) (hl1:SeA t s.heap l1 xs) (hl2:SeA t2 s.heap l2 ys) (hx:xs[k1]? =some x) (hy:ys[k2]? =some y)
  (hQ: ∀ h',IsZip h' z TI TO (rawInt s.heap.objs.size)->IsPair h' TO x y->ItA t h' i1 l1 (k1+1)->ItA t2 h' i2 l2 (k2+1)->IsPair h' s.heap.objs.size x y->h'.objs.size=s.heap.objs.size+1->
   (∀ c o,c≠z->c≠TO->c≠i1->c≠i2->s.heap.get? c=some o->h'.get? c=some o)->Q (some (.ref s.heap.objs.size)) { s with heap:=h' }):wpAny (model prog w) A (pyNext (.ref z)) Q Ex s:=by
 have hT:s.TypeIs (.ref z) "zip":=⟨_,hz,rfl⟩
 have isT: ∀ {t:Bool} {h h':Heap} {it l:Addr} {k:Nat} {c:Addr},ItA t h it l k->Heap.SameBut c h h'->it≠c->ItA t h' it l k:=fun q sb ne=>cN q fun o e=>(sb.2 _ ne).trans e
 have isU: ∀ {t:Bool} {h h':Heap} {l:Addr} {it:Array Value} {c:Addr},SeA t h l it->Heap.SameBut c h h'->l≠c->SeA t h' l it:=fun q sb ne=>wF q fun o e=>(sb.2 _ ne).trans e
 unfold pyNext
 refine aa (wpAny_attempt (wpAny_callSpecial?_slot (name:=Str.ofString "__next__") hT F.slot_zip_next (wpAny_call_entry F.slot_zip_next hT F.entry_zip_next ?_ (F.args_zip_next_1 _))))
 show wpAny _ _ (field (.ref z) 2 >>= _) _ _ _
 refine aa (wpAny_field hz rfl (x:= .bool false) rfl ?_)
 show wpAny _ _ (field (.ref z) 3 >>= _) _ _ _
 refine aa (wpAny_field hz rfl (x:= .ref TI) rfl (aa (wpAny_seqItems hTI rfl ?_)))
 show wpAny _ _ (Builtin.SmallTypes.ownedTupleIsFree (.ref z) >>= _) _ _ _
 refine aa ?_;unfold Builtin.SmallTypes.ownedTupleIsFree
 refine aa (wpAny_field hz rfl (x:= .none) rfl (ae ?_));simp only [if_true]
 refine aa (wpAny_rule (aa (wpAny_field hz rfl (x:= .ref TO) rfl (aa (wpAny_setField_rec hz (by simp) fun g1 z1 s1=> ?_)))))
 replace z1:IsZip g1 z TI TO .ellipsis:=z1
 refine aa ?_;simp only [List.zipIdx_cons,List.zipIdx_nil,List.forIn_cons,List.forIn_nil]
 refine aa (aa (wpAny_onRaise ?_));show wpAny _ _ (Builtin.SmallTypes.nextOf (.ref i1) >>= _) _ _ _
 refine aa (fR (isT h1 s1 D.i1z) (isU hl1 s1 D.l1z) hx fun g2 p2 s2=>ae ?_)
 have o2:IsPair g2 TO a b:=(s2.2 _ D.TOi1).trans ((s1.2 _ D.TOz).trans hTO)
 refine aa (wpAny_seqItems o2 rfl (aa (wpAny_updateSeq_pair o2 fun g3 o3 s3=> ?_)))
 replace o3:IsPair g3 TO x b:=o3
 refine aa (wpAny_letGo (ae (aa (aa (wpAny_onRaise ?_)))));show wpAny _ _ (Builtin.SmallTypes.nextOf (.ref i2) >>= _) _ _ _
 refine aa (fR (isT (isT (isT h2 s1 D.i2z) s2 D.i12.symm) s3 D.TOi2.symm) (isU (isU (isU hl2 s1 D.l2z) s2 D.l2i1) s3 D.l2TO) hy fun g4 p4 s4=>ae ?_)
 have o4:IsPair g4 TO x b:=(s4.2 _ D.TOi2).trans o3
 refine aa (wpAny_seqItems o4 rfl (aa (wpAny_updateSeq_pair o4 fun g5 o5 s5=> ?_)))
 replace o5:IsPair g5 TO x y:=o5
 refine aa (wpAny_letGo (ae (ae (aa (wpAny_seqItems o5 rfl (aa (wpAny_newTuple ?_)))))))
 have hsz:g5.objs.size=s.heap.objs.size:=by rw [s5.1,s4.1,s3.1,s2.1,s1.1]
 have z5:IsZip g5 z TI TO .ellipsis:=(s5.2 _ D.TOz.symm).trans ((s4.2 _ D.i2z.symm).trans ((s3.2 _ D.TOz.symm).trans ((s2.2 _ D.i1z.symm).trans z1)))
 have k5: ∀ c o,c≠z->c≠TO->c≠i1->c≠i2->s.heap.get? c=some o->g5.get? c=some o:=fun c o c1 c2 c3 c4 e=>(s5.2 _ c2).trans ((s4.2 _ c4).trans ((s3.2 _ c2).trans ((s2.2 _ c3).trans ((s1.2 _ c1).trans e))))
 have q1:ItA t g5 i1 l1 (k1+1):=isT (isT (isT p2 s3 D.TOi1.symm) s4 D.i12) s5 D.TOi1.symm
 have q2:ItA t2 g5 i2 l2 (k2+1):=isT p4 s5 D.TOi2.symm
 have lz:z<g5.objs.size:=ah z5
 show wpAny _ _ (Builtin.SmallTypes.ownedTupleHandOut (.ref z) (.ref g5.objs.size) >>= _) _ _ _
 refine aa ?_;unfold Builtin.SmallTypes.ownedTupleHandOut
 have z6:IsZip (g5.push { cls:= .type "tuple",data:= .seq #[x,y] }) z TI TO .ellipsis:=af _ z5
 refine aa (wpAny_setField_rec z6 (by simp) fun g7 z7 s7=> ?_)
 replace z7:IsZip g7 z TI TO (rawInt g5.objs.size):=z7
 refine wpAny_setField_rec z7 (by simp) fun g8 z8 s8=> ?_
 replace z8:IsZip g8 z TI TO (rawInt g5.objs.size):=z8
 have up: ∀ c o,c≠z->g5.get? c=some o->g8.get? c=some o:=fun c o c1 e=>(s8.2 _ c1).trans ((s7.2 _ c1).trans (af _ e))
 have t8:IsPair g8 g5.objs.size x y:=(s8.2 _ (Nat.ne_of_gt lz)).trans ((s7.2 _ (Nat.ne_of_gt lz)).trans (ag _ rfl))
 have n8:g8.objs.size=g5.objs.size+1:=by rw [s8.1,s7.1,ai]
 rw [hsz] at z8 t8 n8
 refine ae ⟨_,rfl,ae ?_⟩
 show Q (some (.ref g5.objs.size)) _;rw [hsz]
 refine hQ g8 z8 (up _ _ D.TOz o5) ?_ ?_ t8 n8 fun c o c1 c2 c3 c4 e=>up c o c1 (k5 c o c1 c2 c3 c4 e)
 ·exact cN q1 fun o e=>up _ o D.i1z e
 ·exact cN q2 fun o e=>up _ o D.i2z e
theorem zP {z TI TO i1 i2 l1 l2:Addr} {k1 k2:Nat} {xs ys:Array Value} {a b:Value} {Q:Option Value->Shared->Prop} (hh:A.handled=none) (D:ZipApart z TI TO i1 i2 l1 l2) (hz:IsZip s.heap z TI TO .none) (hTI:IsPair s.heap TI (.ref i1) (.ref i2)) (hTO:IsPair s.heap TO a b)
  (h1:ItA t s.heap i1 l1 k1) (h2:ItA t2 s.heap i2 l2 k2) (hl1:SeA t s.heap l1 xs) (hl2:SeA t2 s.heap l2 ys) (he:xs[k1]? =none\/ys[k2]? =none)
  (hQ: ∀ h',(∀ c o,c≠z->c≠TO->c≠i1->c≠i2->s.heap.get? c=some o->h'.get? c=some o)->Q none { s with heap:=h' }):wpAny (model prog w) A (pyNext (.ref z)) Q Ex s:=by
 have hT:s.TypeIs (.ref z) "zip":=⟨_,hz,rfl⟩
 have isT: ∀ {t:Bool} {h h':Heap} {it l:Addr} {k:Nat} {c:Addr},ItA t h it l k->Heap.SameBut c h h'->it≠c->ItA t h' it l k:=fun q sb ne=>cN q fun o e=>(sb.2 _ ne).trans e
 have isU: ∀ {t:Bool} {h h':Heap} {l:Addr} {it:Array Value} {c:Addr},SeA t h l it->Heap.SameBut c h h'->l≠c->SeA t h' l it:=fun q sb ne=>wF q fun o e=>(sb.2 _ ne).trans e
 unfold pyNext
 have fin: ∀ (h':Heap) (e:Addr),(∀ c o,c≠z->c≠TO->c≠i1->c≠i2->s.heap.get? c=some o->h'.get? c=some o)->(∃ o,h'.get? e=some o/\o.cls= .type "StopIteration")->wpAny (model prog w) A (do if(<-isInstance (.ref e) (.type "StopIteration"))=true then pure none else throw (.ref e)) Q Ex { s with heap:=h' }:=fun h' e kk he=>by
  obtain⟨o,ho,hc⟩:=he
  exact aa (wpAny_isInstance (T:="StopIteration") (b:=true) ⟨o,ho,hc⟩ isSubtype_stop (ae (hQ _ kk)))
 refine aa (wpAny_attempt (wpAny_callSpecial?_slot (name:=Str.ofString "__next__") hT F.slot_zip_next (wpAny_call_entry F.slot_zip_next hT F.entry_zip_next ?_ (F.args_zip_next_1 _))))
 show wpAny _ _ (field (.ref z) 2 >>= _) _ _ _
 refine aa (wpAny_field hz rfl (x:= .bool false) rfl ?_)
 show wpAny _ _ (field (.ref z) 3 >>= _) _ _ _
 refine aa (wpAny_field hz rfl (x:= .ref TI) rfl (aa (wpAny_seqItems hTI rfl ?_)))
 show wpAny _ _ (Builtin.SmallTypes.ownedTupleIsFree (.ref z) >>= _) _ _ _
 refine aa ?_;unfold Builtin.SmallTypes.ownedTupleIsFree
 refine aa (wpAny_field hz rfl (x:= .none) rfl (ae ?_));simp only [if_true]
 refine aa (wpAny_rule (aa (wpAny_field hz rfl (x:= .ref TO) rfl (aa (wpAny_setField_rec hz (by simp) fun g1 z1 s1=> ?_)))))
 replace z1:IsZip g1 z TI TO .ellipsis:=z1
 refine aa ?_;simp only [List.zipIdx_cons,List.zipIdx_nil,List.forIn_cons,List.forIn_nil]
 refine aa (aa (wpAny_onRaise ?_));show wpAny _ _ (Builtin.SmallTypes.nextOf (.ref i1) >>= _) _ _ _
 cases hx:xs[k1]? with
 | none=>
  refine aa (jZ hh (isT h1 s1 D.i1z) (isU hl1 s1 D.l1z) hx fun g2 e s2 he=> ?_)
  obtain⟨oe,q1,q2⟩:=he
  have z2:IsZip g2 z TI TO .ellipsis:=s2 _ _ D.i1z.symm z1
  have ez:e≠z:=fun x=>by subst x;rw [z2] at q1;cases q1;simp at q2
  exact wpAny_setField_rec z2 (by simp) fun g3 _ s3=>fin g3 e (fun c o c1 _ c3 _ x=>(s3.2 _ c1).trans (s2 _ _ c3 ((s1.2 _ c1).trans x))) ⟨oe,(s3.2 _ ez).trans q1,q2⟩
 | some x=>
  have hy:ys[k2]? =none:=he.resolve_left fun h=>by rw [hx] at h;cases h
  refine aa (fR (isT h1 s1 D.i1z) (isU hl1 s1 D.l1z) hx fun g2 p2 s2=>ae ?_)
  have o2:IsPair g2 TO a b:=(s2.2 _ D.TOi1).trans ((s1.2 _ D.TOz).trans hTO)
  refine aa (wpAny_seqItems o2 rfl (aa (wpAny_updateSeq_pair o2 fun g3 o3 s3=> ?_)))
  refine aa (wpAny_letGo (ae (aa (aa (wpAny_onRaise ?_)))));show wpAny _ _ (Builtin.SmallTypes.nextOf (.ref i2) >>= _) _ _ _
  refine aa (jZ hh (isT (isT (isT h2 s1 D.i2z) s2 D.i12.symm) s3 D.TOi2.symm) (isU (isU (isU hl2 s1 D.l2z) s2 D.l2i1) s3 D.l2TO) hy fun g4 e s4 he=> ?_)
  obtain⟨oe,q1,q2⟩:=he
  have z4:IsZip g4 z TI TO .ellipsis:=s4 _ _ D.i2z.symm ((s3.2 _ D.TOz.symm).trans ((s2.2 _ D.i1z.symm).trans z1))
  have ez:e≠z:=fun x=>by subst x;rw [z4] at q1;cases q1;simp at q2
  exact wpAny_setField_rec z4 (by simp) fun g5 _ s5=>fin g5 e (fun c o c1 c2 c3 c4 x=>(s5.2 _ c1).trans (s4 _ _ c4 ((s3.2 _ c2).trans ((s2.2 _ c3).trans ((s1.2 _ c1).trans x))))) ⟨oe,(s5.2 _ ez).trans q1,q2⟩
end
noncomputable def itC (t:Bool):String:=if t then "tuple_iterator" else "list_iterator"
noncomputable abbrev zg1 (t:Bool) (h:Heap) (l:Addr):Heap:=h.push { cls:= .type (itC t),data:= .fields #[.ref l, .int 0 0] }
noncomputable abbrev zg3 (t t2:Bool) (h:Heap) (l m:Addr):Heap:=(zg1 t2 (zg1 t h l) m).push { cls:= .type "tuple",data:= .seq #[.ref h.objs.size, .ref (zg1 t h l).objs.size] }
noncomputable abbrev zg4 (t t2:Bool) (h:Heap) (l m:Addr):Heap:=(zg3 t t2 h l m).push { cls:= .type "tuple",data:= .seq #[.none, .none] }
noncomputable abbrev zg5 (t t2:Bool) (h:Heap) (l m:Addr):Heap:=(zg4 t t2 h l m).push { cls:= .type "zip",data:= .fields #[.none, .bool false, .bool false, .ref (zg1 t2 (zg1 t h l) m).objs.size, .ref (zg3 t t2 h l m).objs.size] }
theorem zQ (t t2:Bool) (l m:Addr) (xs ys:Array Value):Meets (Builtin.«zip.__new__» ⟨[.type "zip", .ref l, .ref m],[]⟩) (fun _ R s=>SeA t s.heap l xs/\SeA t2 s.heap m ys/\R (.ok (.ret (.ref (zg4 t t2 s.heap l m).objs.size))) { s with heap:=zg5 t t2 s.heap l m }):=
 .of_wp fun prog w A R s h=>by
  obtain⟨hp,g,d,tk,os⟩:=s
  obtain⟨t1,t2',h⟩:=h
  have hsub:=sub_zip
  cases t with
  | true=>
   have q1:Heap.IsTuple (Shared.heap ⟨hp,g,d,tk,os⟩) l xs:=t1
   cases t2 with
   | true=>
    have q2:Heap.IsTuple (Shared.heap ⟨hp.push { cls:= .type "tuple_iterator",data:= .fields #[.ref l, .int 0 0] },g,d,tk,os⟩) m ys:=Heap.IsTuple.push t2' _
    wp_walk using wpAny_pyIter_tuple q1,wpAny_pyIter_tuple q2
    exact⟨_,rfl,h⟩
   | false=>
    have q2:Heap.IsList (Shared.heap ⟨hp.push { cls:= .type "tuple_iterator",data:= .fields #[.ref l, .int 0 0] },g,d,tk,os⟩) m ys:=Heap.IsList.push t2' _
    wp_walk using wpAny_pyIter_tuple q1,wpAny_pyIter_list q2
    exact⟨_,rfl,h⟩
  | false=>
   have q1:Heap.IsList (Shared.heap ⟨hp,g,d,tk,os⟩) l xs:=t1
   cases t2 with
   | true=>
    have q2:Heap.IsTuple (Shared.heap ⟨hp.push { cls:= .type "list_iterator",data:= .fields #[.ref l, .int 0 0] },g,d,tk,os⟩) m ys:=Heap.IsTuple.push t2' _
    wp_walk using wpAny_pyIter_list q1,wpAny_pyIter_tuple q2
    exact⟨_,rfl,h⟩
   | false=>
    have q2:Heap.IsList (Shared.heap ⟨hp.push { cls:= .type "list_iterator",data:= .fields #[.ref l, .int 0 0] },g,d,tk,os⟩) m ys:=Heap.IsList.push t2' _
    wp_walk using wpAny_pyIter_list q1,wpAny_pyIter_list q2
    exact⟨_,rfl,h⟩
section
variable {prog:Program} {w:World} {A:Around} {Ex:Value->Shared->Prop} {s:Shared} {t t2:Bool}
theorem wH {t:Bool} {h:Heap} {it l:Addr} (e:h.get? it=some { cls:= .type (itC t),data:= .fields #[.ref l, .int 0 0] }):ItA t h it l 0:=by
 cases t with
 | true=>exact⟨_,e,rfl,rfl⟩
 | false=>exact⟨_,e,rfl,rfl⟩
theorem wI {l m:Addr} {xs ys:Array Value} {Q:Value->Shared->Prop} (t1:SeA t s.heap l xs) (t2':SeA t2 s.heap m ys)
  (h: ∀ h',IsZip h' (s.heap.objs.size+4) (s.heap.objs.size+2) (s.heap.objs.size+3) .none->IsPair h' (s.heap.objs.size+2) (.ref s.heap.objs.size) (.ref (s.heap.objs.size+1))->IsPair h' (s.heap.objs.size+3) .none .none->
   ItA t h' s.heap.objs.size l 0->ItA t2 h' (s.heap.objs.size+1) m 0->h'.objs.size=s.heap.objs.size+5->(∀ c o,s.heap.get? c=some o->h'.get? c=some o)->Q (.ref (s.heap.objs.size+4)) { s with heap:=h' }):
  wpAny (model prog w) A (call (.type "zip") [.ref l, .ref m]) Q Ex s:=by
 refine callType_new F.called_zip (by decide) (F.typeCall_zip_2 _ _) (F.newCall_zip_2 _ _) (fun obj=>F.args_object_init_3 obj _ _) F.entry_zip_new (zQ t t2 l m xs ys) ⟨t1,t2', ?_⟩
 have n1:(zg1 t s.heap l).objs.size=s.heap.objs.size+1:=ai ..
 have n2:(zg1 t2 (zg1 t s.heap l) m).objs.size=s.heap.objs.size+2:=by rw [ai,n1]
 have n3:(zg3 t t2 s.heap l m).objs.size=s.heap.objs.size+3:=by rw [ai,n2]
 have n4:(zg4 t t2 s.heap l m).objs.size=s.heap.objs.size+4:=by rw [ai,n3]
 have n5:(zg5 t t2 s.heap l m).objs.size=s.heap.objs.size+5:=by rw [ai,n4]
 have up: ∀ {h:Heap} {o:Obj} {c:Addr} {x:Obj},h.get? c=some x->(h.push o).get? c=some x:=fun e=>af _ e
 have g5:(zg5 t t2 s.heap l m).get? (zg4 t t2 s.heap l m).objs.size=some _:=ag _ rfl
 have g4:(zg5 t t2 s.heap l m).get? (zg3 t t2 s.heap l m).objs.size=some _:=up (ag _ rfl)
 have g3:(zg5 t t2 s.heap l m).get? (zg1 t2 (zg1 t s.heap l) m).objs.size=some _:=up (up (ag _ rfl))
 have g2:(zg5 t t2 s.heap l m).get? (zg1 t s.heap l).objs.size=some _:=up (up (up (ag _ rfl)))
 have g1:(zg5 t t2 s.heap l m).get? s.heap.objs.size=some _:=up (up (up (up (ag _ rfl))))
 show _/\_
 rw [n2,n3,n4] at g5;rw [n1,n2] at g3;rw [n3] at g4;rw [n1] at g2;rw [n4]
 exact⟨⟨_,g5,rfl⟩,h _ g5 g3 g4 (wH g1) (wH g2) n5 fun c o x=>up (up (up (up (up x))))⟩
end
noncomputable def aB3 (t t2:Bool) (K:PySem.W.Frag) (l m:Addr):It:=
 ⟨fun i H=> ∃ xs ys x y,SqA t K H l xs/\SqA t2 K H m ys/\xs[i]? =some x/\ys[i]? =some y,
  fun i H v H'=> ∃ p x y,H p=none/\v= .ref p/\(∀ xs,SqA t K H l xs->xs[i]? =some x)/\(∀ ys,SqA t2 K H m ys->ys[i]? =some y)/\H'=upd H p (.tup [x,y]),
  fun i H=> ∃ xs ys,SqA t K H l xs/\SqA t2 K H m ys/\(xs.length<=i\/ys.length<=i)⟩
theorem wJ {t t2:Bool} {P:Program} {w:World} {K:PySem.W.Frag} {es:List Expr} {x1} {tp:Pos} {z TI TO i1 i2 l m:Addr} (D:ZipApart z TI TO i1 i2 l m):
  Turn P w K (.Tuple es x1 tp) (aB3 t t2 K l m) [z,TI,TO,i1,i2] z (fun i h=>IsZip h z TI TO .none/\IsPair h TI (.ref i1) (.ref i2)/\(∃ a b,IsPair h TO a b)/\ItA t h i1 l i/\ItA t2 h i2 m i) where
 mem:=by simp
 obj:=fun i h st b hb=>by
  obtain⟨z1,z2,⟨a,c,z3⟩,y4,y5⟩:=st
  obtain⟨o4,z4,d4⟩:=mI y4
  obtain⟨o5,z5,d5⟩:=mI y5
  simp only [aq,List.not_mem_nil,or_false] at hb
  rcases hb with rfl | rfl | rfl | rfl | rfl
  ·exact⟨_,z1,fun v e=>by cases e⟩
  ·exact⟨_,z2,fun v e=>by cases e⟩
  ·exact⟨_,z3,fun v e=>by cases e⟩
  ·exact⟨_,z4,fun v e=>by rw [d4] at e;cases e⟩
  ·exact⟨_,z5,fun v e=>by rw [d5] at e;cases e⟩
 keep:=fun i h h' st k=>by
  obtain⟨z1,z2,⟨a,c,z3⟩,y4,y5⟩:=st
  exact⟨k _ (by simp) _ z1,k _ (by simp) _ z2,⟨a,c,k _ (by simp) _ z3⟩,cN y4 fun o e=>k _ (by simp) o e,cN y5 fun o e=>k _ (by simp) o e⟩
 item:=by
  intro X hP hw hK hc i pins s σ H E I hf st hg
  subst hP hw hK
  obtain⟨xs,ys,x,y,q1,q2,hx,hy⟩:=hg
  obtain⟨us,r1,p1,_⟩:=eU I q1
  obtain⟨vs,r2,p2,_⟩:=eU I q2
  obtain⟨u,hu,ru⟩:=r1.get hx
  obtain⟨v,hv,rv⟩:=r2.get hy
  obtain⟨z1,z2,⟨a,c,z3⟩,z4,z5⟩:=st
  have tI:TI<s.heap.objs.size:=ah z2
  have tz:z<s.heap.objs.size:=ah z1
  have tO:TO<s.heap.objs.size:=ah z3
  have t4:i1<s.heap.objs.size:=by obtain⟨o,e,_⟩:=mI z4;exact ah e
  have t5:i2<s.heap.objs.size:=by obtain⟨o,e,_⟩:=mI z5;exact ah e
  refine wG D z1 z2 z3 z4 z5 p1 p2 (x:=u) (y:=v) (by simpa using hu) (by simpa using hv) fun h' a1 a2 a3 a4 a5 a6 a7=>⟨_,rfl, ?_⟩
  have hfr:H s.heap.objs.size=none:=I.hok.fresh (aj _)
  -- the pair, laid
  have Ia:Inv X pins σ (upd H s.heap.objs.size (.tup [x,y])) { s with heap:=s.heap.push { cls:= .type "tuple",data:= .seq #[u,v] } }:=
   I.laid (t':=s.toks) (fun b o e=>af _ e) (aj _) (show ObjOk X.prog X.w _ _ _ (.tup [x,y]) from⟨by rw [sizeLine_eq];simp,[u,v], .cons ru (.cons rv .nil),⟨_,ag _ rfl,rfl,_,rfl⟩,⟨_,ag _ rfl,rfl⟩⟩)
  have hne: ∀ b∈[z,TI,TO,i1,i2],b≠s.heap.objs.size:=fun b hb=>by
   simp only [aq,List.not_mem_nil,or_false] at hb
   rcases hb with rfl | rfl | rfl | rfl | rfl
   ·exact bg tz
   ·exact bg tI
   ·exact bg tO
   ·exact bg t4
   ·exact bg t5
  have hf2: ∀ b∈[z,TI,TO,i1,i2],iR X pins (upd H s.heap.objs.size (.tup [x,y])) b:=fun b hb=>⟨by rw [aI (hne b hb)];exact(hf b hb).1,(hf b hb).2⟩
  have Ib:Inv X pins σ (upd H s.heap.objs.size (.tup [x,y])) { s with heap:=h' }:=by
   refine eL (s:={ s with heap:=s.heap.push { cls:= .type "tuple",data:= .seq #[u,v] } }) (t':=s.toks) Ia (fun b o hb e=> ?_) hf2
   simp only [aq,List.not_mem_nil,or_false,not_or] at hb
   by_cases hq:b=s.heap.objs.size
   ·subst hq
    rw [show(s.heap.push { cls:= .type "tuple",data:= .seq #[u,v] }).get? s.heap.objs.size=some _ from ag _ rfl] at e
    cases e
    exact a5
   ·have e2:s.heap.get? b=some o:=by
     exact(Heap.get?_push_ne _ b _ hq).symm.trans e
    exact a7 b o hb.1 hb.2.2.1 hb.2.2.2.1 hb.2.2.2.2 e2
  refine wpAny_letOwnedTupleGo_zip a1 fun h2 b1 b2=> ?_
  have Ic:Inv X pins σ (upd H s.heap.objs.size (.tup [x,y])) { s with heap:=h2 }:=eL (s:={ s with heap:=h' }) (t':=s.toks) Ib (fun b o hb e=>(b2.2 b (fun q=>hb (by simp [q]))).trans e) hf2
  refine⟨.ref s.heap.objs.size,_,Ic,rfl,⟨_,x,y,hfr,rfl,fun xs' hx'=>by rw [gI I hx' q1];exact hx,fun ys' hy'=>by rw [gI I hy' q2];exact hy,rfl⟩,⟨b1, ?_,⟨u,v, ?_⟩, ?_, ?_⟩,fun b hb=>(hf2 b hb).1⟩
  ·exact(b2.2 _ D.TIz).trans (a7 _ _ D.TIz D.TITO D.TIi1 D.TIi2 z2)
  ·exact(b2.2 _ D.TOz).trans a2
  ·exact cN a3 fun o e=>(b2.2 _ D.i1z).trans e
  ·exact cN a4 fun o e=>(b2.2 _ D.i2z).trans e
 done:=by
  intro X hP hw hK hc i pins s σ H E I hf st hg
  subst hP hw hK
  obtain⟨xs,ys,q1,q2,hx⟩:=hg
  obtain⟨us,r1,p1,_⟩:=eU I q1
  obtain⟨vs,r2,p2,_⟩:=eU I q2
  obtain⟨z1,z2,⟨a,c,z3⟩,z4,z5⟩:=st
  have n1:=r1.length
  have n2:=r2.length
  refine zP (I.ok.hd hc) D z1 z2 z3 z4 z5 p1 p2 (hx.elim (fun h=> .inl (by simp;omega)) fun h=> .inr (by simp;omega)) fun h' k=>⟨rfl,eL (t':=s.toks) I (fun b o hb e=> ?_) hf⟩
  simp only [aq,List.not_mem_nil,or_false,not_or] at hb
  exact k b o hb.1 hb.2.2.1 hb.2.2.2.1 hb.2.2.2.2 e
 self:=fun _ _ _ _ _ st h=>wpAny_pyIter_zip st.1 h
section
variable {X:Cx} {ad:Ad} {pins:List (Addr×Obj)} {s:Shared} {σ:St} {H G:Hp} {ρ:Rho} {Q:VK} {E:Nat->Hp->Prop} {pos p ap cp:Pos} {o a b c tg:Expr} {f g h:F}
theorem wK {G1 H1:Hp} {x:V} {ds:List D} (e:Same G1 H1) (q:Seq X ad G1 H1 (.lst ds) x): ∃ l xs,x= .ref l/\SqL X.K H1 l xs/\aF X.K ad G1 ds xs:=by
 rcases q with q | ⟨l,vs,ds',e1,e2,e3,e4,e5⟩
 ·unfold Rep at q
  obtain⟨l,vs,rfl,h1,h2⟩:=q
  exact⟨l,vs,rfl,e.seq h1,h2⟩
 ·cases e1
  exact⟨l,vs,e2,SqL.of e4,e5⟩
theorem wL {m:Str} {id:String} {r:Fn} (slot:PySem.Slot "list" m id) (hty:typeOf (.builtin id)=pure (.type "method_descriptor"))
  (ho:ML X ad o f) (ha:ME X ad a g) (hs:starEach [a] X.env=(false,eval a X.env)::starEach [] X.env) (hbase:attributeBase o m X.env (eval o X.env)=eval o X.env) (hline:(ap.endLine==cp.line)=true)
  (hm: ∀ (pins:List (Addr×Obj)) (s:Shared) (σ:St) (H G:Hp) (l:Addr) (xs:List V) (ds:List D) (y:D) (v:V) (u:Value) (Q:VK) (E:Nat->Hp->Prop),Inv X pins σ H s->Same G H->SqL X.K H l xs->aF X.K ad G ds xs->Rep X.K ad G y v->bA v u->
   RK X.K ad G H (r [.lst ds,y]) Q E->wpAny (model X.prog X.w) X.A (call (.builtin id) [.ref l,u]) (EP X pins σ Q) X.xe s):ME X ad (.Call (.Attribute o m ap) [a] [] cp) (nR r f g):=by
 intro pins s σ H Q I ⟨G,ρ,E,hG,hS,hx,hr⟩
 refine wpAny_Call_method_late hbase (mF hs) hline rfl (L2.thn (ho.lk pins s σ H G ρ _ Q E I hG hS hx hr) fun v s1 hz_=> ?_)
 obtain⟨x,d,G1,H1,I1,r1,st1,q1,k1⟩:=hz_
 cases d<;>try exact ay k1
 rename_i ds
 obtain⟨l,xs,rfl,hq,rq⟩:=wK st1.gh q1
 cases (show v=Value.ref l from r1)
 obtain⟨its,rv,pl,_⟩:=I1.list hq
 obtain⟨ob,n,e1,e2,e3,e4⟩:=pl
 refine⟨"list",id,PySem.F.plainAttrs_list,slot,hty,⟨ob,e1,e2⟩,fun a' ea=>by cases ea;exact⟨ob,e1,e3⟩, ?_⟩
 rw [hs]
 refine Calls.callWith_builtin rfl (Calls.evalArgs_plain (Calls.spliced_cons (L2.thn (ha.thn I1 st1.gh (hS.step st1) hx k1) fun u s2 ⟨w,y,G2,H2,I2,r2,st2,q2,k2⟩=>Calls.spliced_nil ?_)))
 exact hm pins s2 σ H2 G2 l xs ds y w u Q E I2 st2.gh (st2.sh.seq hq) (rq.mono st2.sg) q2 r2 k2
theorem zR (hu:X.A.units+62<cLine) (ho:ML X ad o f) (ha:ME X ad a g) (hs:starEach [a] X.env=(false,eval a X.env)::starEach [] X.env) (hbase:attributeBase o "count" X.env (eval o X.env)=eval o X.env) (hline:(ap.endLine==cp.line)=true):
  ME X ad (.Call (.Attribute o "count" ap) [a] [] cp) (nR rG f g):=by
 refine wL PySem.F.slot_list_count PySem.F.type_list_count ho ha hs hbase hline ?_
 intro pins s σ H G l xs ds y v u Q E I hG hq rq q r k
 have k':RK X.K ad G H (if mV y ds then .ok (.int ((ds.countP fun z=>deq z y):Nat)) else .bad) Q E:=k
 by_cases hc:mV y ds=true
 ·rw [if_pos hc] at k'
  obtain⟨its,rv,⟨⟨cls,dd,data,sl⟩,n,e1,e2,e3,e4⟩,_⟩:=I.list hq
  simp only at e2 e3 e4
  subst e2 e4
  obtain⟨e,he,_,hcount,_⟩:=lE hu I hG hc q r rq rv
  refine call_meets PySem.F.slot_list_count ⟨_,e1,rfl⟩ PySem.F.entry_list_count (PySem.F.args_list_count_2 _ _) (SeqAt.list_countAt l its.toArray n dd sl u e) ⟨e1,he, ?_⟩
  refine⟨.int _,H,I.tok _,⟨_,rfl⟩, ?_⟩
  rw [<-hcount] at k'
  exact k'.ok_now hG aM
 ·rw [if_neg hc] at k'
  exact k'.elim
theorem zS (hu:X.A.units+62<cLine) (ho:ML X ad o f) (ha:ME X ad a g) (hs:starEach [a] X.env=(false,eval a X.env)::starEach [] X.env) (hbase:attributeBase o "index" X.env (eval o X.env)=eval o X.env) (hline:(ap.endLine==cp.line)=true):
  ME X ad (.Call (.Attribute o "index" ap) [a] [] cp) (nR nU f g):=by
 refine wL PySem.F.slot_list_index PySem.F.type_list_index ho ha hs hbase hline ?_
 intro pins s σ H G l xs ds y v u Q E I hG hq rq q r k
 have k':RK X.K ad G H (if mV y ds then(match ds.findIdx? fun z=>deq z y with | some k=> .ok (.int (k:Nat)) | none=> .bad) else .bad) Q E:=k
 by_cases hc:mV y ds=true
 ·rw [if_pos hc] at k'
  obtain⟨its,rv,⟨⟨cls,dd,data,sl⟩,n,e1,e2,e3,e4⟩,hz⟩:=I.list hq
  simp only at e2 e3 e4
  subst e2 e4
  obtain⟨e,he,_,_,hfind⟩:=lE hu I hG hc q r rq rv
  cases hf:ds.findIdx? fun z=>deq z y with
  | none=>rw [hf] at k';exact k'.elim
  | some j=>
   rw [hf] at k' hfind
   obtain⟨hj,hit,hno⟩:=List.findIdx?_eq_some_iff_getElem.mp hfind
   have hl:=rv.length
   refine call_meets PySem.F.slot_list_index ⟨_,e1,rfl⟩ PySem.F.entry_list_index (PySem.F.args_list_index_2 _ _) (SeqAt.list_indexAt l its.toArray n dd sl u e j (by simpa using hj) ?_ (by simpa using hit) (fun m hm hlt=>by simpa using hno m hlt)) ⟨e1,he, ?_⟩
   ·have:(sizeLine:Nat)<2 ^ 63 - 1:=by decide
    omega
   ·exact⟨.int _,H,I.tok _,⟨_,rfl⟩,k'.ok_now hG aM⟩
 ·rw [if_neg hc] at k'
  exact k'.elim
theorem mJ {f:F} {k:D->R} {W:It->Hp->Prop} {Q':VK} (hG:Same G H) (hS:SL X.K ad G H ρ σ) (hx:XP X ad σ E) (hr:IGK X ad G H ((f ρ).bind k) W E)
  (q: ∀ v d G1 H1,Step G H G1 H1->Rep X.K ad G1 d v->IGK X ad G1 H1 (k d) W E->Q' v H1):tE X ad f σ H Q':=by
 have ikst: ∀ {r:R} {G1 H1:Hp},IGK X ad G H r W E->Step G H G1 H1->IGK X ad G1 H1 r W E:=fun {r G1 H1} h st=>by
  cases r with
  | ok d=>obtain⟨ds,e,h⟩:=h;exact⟨ds,e,fun J G' H' st' hi=>h J G' H' (st.trans st') hi⟩
  | ow l=>exact fun J G' H' st' hi=>h J G' H' (st.trans st') hi
  | ex c=>exact fun G' H' st'=>h G' H' (st.trans st')
  | bad=>exact h
 refine⟨G,ρ,E,hG,hS,hx, ?_⟩
 cases e:f ρ with
 | ok d=>
  rw [e] at hr
  exact fun v G1 H1 st r=>q v d G1 H1 st r (ikst hr st)
 | ow xs=>
  rw [e] at hr
  intro p vs G1 H1 st n m e' r
  obtain⟨G2,st2,r2⟩:=cL (X:=X) (ad:=ad) st n m e' r
  exact q _ _ G2 H1 st2 r2 (ikst hr st2)
 | ex c=>
  rw [e] at hr
  exact hr
 | bad=>
  rw [e] at hr
  exact hr
noncomputable def iZp (K:PySem.W.Frag) (ta:TA):TI:=fun σ H R=>ta σ H fun vs H1=> ∃ t t2 l m xs ys,vs=[.ref l, .ref m]/\SqA t K H1 l xs/\SqA t2 K H1 m ys/\(xs.length<=sizeLine->R (aB3 t t2 K l m) H1)
theorem aB4 {es:List Expr} {kt} {tp:Pos} {ta:TA} (hg:L2.Gl X "zip") (hm:X.mg "zip"=none) (ha:PA X [a,b] ta) (he:starEach [a,b] X.env=(false,eval a X.env)::starEach [b] X.env) (he2:starEach [b] X.env=(false,eval b X.env)::starEach [] X.env):
  PI X (.Tuple es kt tp) (.Call (.Name "zip" p) [a,b] [] pos) (iZp X.K ta):=by
 intro pins s σ H R I h
 refine Call_ (eG (u:= .type "zip") I hg hm (by decide+kernel) (PyProof.Rows.callWith_type1 (L2.thn (ha pos pins s σ H _ I h) fun us s1 ⟨vs,H1,I1,r1,q1⟩=> ?_) he (by rw [he2];rfl)) (by decide) (by decide))
 obtain⟨t,t2,l,m,xs,ys,rfl,hq1,hq2,q⟩:=q1
 obtain⟨u,v,rfl,ru,rv⟩:=r1.two
 cases (show u=Value.ref l from ru)
 cases (show v=Value.ref m from rv)
 obtain⟨its,_,p1,z1⟩:=eU I1 hq1
 obtain⟨its2,_,p2,_⟩:=eU I1 hq2
 refine wI p1 p2 fun h' a1 a2 a3 a4 a5 a6 a7=>wpAny_pyIter_zip a1 ?_
 have l1:l<s1.heap.objs.size:=by cases t<;>(obtain⟨o,e,_⟩:=p1;exact ah e)
 have l2:m<s1.heap.objs.size:=by cases t2<;>(obtain⟨o,e,_⟩:=p2;exact ah e)
 refine⟨s1.heap.objs.size+4,[s1.heap.objs.size+4,s1.heap.objs.size+2,s1.heap.objs.size+3,s1.heap.objs.size,s1.heap.objs.size+1],_,aB3 t t2 X.K l m,H1,rfl,I1.kept (t':=s1.toks) a7,wJ (v9 l1 l2),⟨a1,a2,⟨_,_,a3⟩,a4,a5⟩,fun b hb=> ?_,q z1⟩
 have hb':s1.heap.objs.size<=b:=by
  simp only [aq,List.not_mem_nil,or_false] at hb
  rcases hb with rfl | rfl | rfl | rfl | rfl
  ·exact Nat.le_add_right _ 4
  ·exact Nat.le_add_right _ 2
  ·exact Nat.le_add_right _ 3
  ·exact aj _
  ·exact Nat.le_add_right _ 1
 exact I1.fpOk hb' (I1.hok.fresh hb')
theorem aEh {ds es:List D} {i:Nat} {d:D} (e:((ds.zip es).map fun p=>D.tup [p.1,p.2])[i]? =some d): ∃ x y,ds[i]? =some x/\es[i]? =some y/\d= .tup [x,y]:=by
 rw [List.getElem?_map] at e
 cases q:(ds.zip es)[i]? with
 | none=>rw [q] at e;cases e
 | some p=>
  rw [q] at e
  rw [List.getElem?_zip_eq_some] at q
  exact⟨p.1,p.2,q.1,q.2,(Option.some.inj e).symm⟩
noncomputable def isA:Bool->List D->D->Prop
 | true,ds,d=>d= .tup ds
 | false,ds,d=>d= .lst ds
theorem mK {t:Bool} {G1:Hp} {d:D} {v:V} {ds:List D} (c:isA t ds d) (r:Rep X.K ad G1 d v): ∃ l vs,v= .ref l/\SqA t X.K G1 l vs/\aF X.K ad G1 ds vs:=by
 cases t with
 | true=>cases c;unfold Rep at r;exact r
 | false=>cases c;unfold Rep at r;exact r
theorem rT {t t2:Bool} {G1 H1 H2:Hp} {l m:Addr} {i:Nat} {vs ws:List V} {ds es:List D} {d:D} {x:V} (h1:SqA t X.K G1 l vs) (r1:aF X.K ad G1 ds vs) (h2:SqA t2 X.K G1 m ws) (r2:aF X.K ad G1 es ws) (hg:Same G1 H1) (e:((ds.zip es).map fun p=>D.tup [p.1,p.2])[i]? =some d):
  (aB3 t t2 X.K l m).go i H1/\ ∀ x H2,(aB3 t t2 X.K l m).yld i H1 x H2-> ∃ G2,Step G1 H1 G2 H2/\Rep X.K ad G2 d x:=by
 obtain⟨x,y,e1,e2,rfl⟩:=aEh e
 obtain⟨v,g1,q1⟩:=r1.get e1
 obtain⟨w,g2,q2⟩:=r2.get e2
 refine⟨⟨vs,ws,v,w,aJ hg h1,aJ hg h2,g1,g2⟩, ?_⟩
 rintro x' H2' ⟨p,x2,y2,hn,rfl,b1,b2,rfl⟩
 have c1:=b1 vs (aJ hg h1);rw [g1] at c1;cases c1
 have c2:=b2 ws (aJ hg h2);rw [g2] at c2;cases c2
 refine⟨upd G1 p (.tup [v,w]),Step.new hg hn, ?_⟩
 have sm:Same G1 (upd G1 p (.tup [v,w])):=Same.upd_new (hg.free hn)
 unfold Rep
 exact⟨p,[v,w],rfl,SqT.of aN,aF.cons (q1.mono sm) (aF.cons (q2.mono sm) aF.nil)⟩
theorem rV {t t2:Bool} {G1 H1:Hp} {l m:Addr} {vs ws:List V} {ds es:List D} (h1:SqA t X.K H1 l vs) (n1:vs.length=ds.length) (h2:SqA t2 X.K H1 m ws) (n2:ws.length=es.length):(aB3 t t2 X.K l m).stop ((ds.zip es).map fun p=>D.tup [p.1,p.2]).length H1:=by
 refine⟨vs,ws,h1,h2, ?_⟩
 simp only [am,List.length_zip]
 omega
theorem aI6 {es:List Expr} {kt} {tp:Pos} (hg:L2.Gl X "zip") (hm:X.mg "zip"=none) (ha:ME X ad a f) (hb:ME X ad b g) (he:starEach [a,b] X.env=(false,eval a X.env)::starEach [b] X.env) (he2:starEach [b] X.env=(false,eval b X.env)::starEach [] X.env):
  MI X ad (.Tuple es kt tp) (.Call (.Name "zip" p) [a,b] [] pos) (nT f g):=by
 intro pins s σ H W I ⟨G,ρ,E,hG,hS,hx,hr⟩
 refine aB4 (ta:=jL (tE X ad f) (jL (tE X ad g) aBf)) hg hm (b9 ha (b9 hb eI he2) he) he he2 pins s σ H W I ?_
 show tE X ad f σ H fun v H1=>tE X ad g σ H1 fun v2 H2=> ∃ t t2 l m xs ys,[v,v2]=[.ref l, .ref m]/\SqA t X.K H2 l xs/\SqA t2 X.K H2 m ys/\(xs.length<=sizeLine->W (aB3 t t2 X.K l m) H2)
 refine mE hG hS hx hr fun v d G1 H1 st r k=> ?_
 refine mE st.gh (hS.step st) hx k fun v2 d2 G2 H2 st2 r2 k2=> ?_
 obtain⟨t,t2,ds,es',c1,c2,k2⟩: ∃ t t2 ds es',isA t ds d/\isA t2 es' d2/\IK X ad G2 H2 (.ok (.lst ((ds.zip es').map fun p=>D.tup [p.1,p.2]))) W E:=by
  cases d<;>try exact ay k2
  ·cases d2<;>try exact ay k2
   ·exact⟨true,true,_,_,rfl,rfl,k2⟩
   ·exact⟨true,false,_,_,rfl,rfl,k2⟩
  ·cases d2<;>try exact ay k2
   ·exact⟨false,true,_,_,rfl,rfl,k2⟩
   ·exact⟨false,false,_,_,rfl,rfl,k2⟩
 obtain⟨al,e,hw⟩:=k2
 cases e
 obtain⟨l,vs,rfl,q1,y1⟩:=mK c1 r
 obtain⟨m,ws,rfl,q2,y2⟩:=mK c2 r2
 have q1':=aJ st2.sg q1
 have y1':=y1.mono st2.sg
 refine⟨t,t2,l,m,vs,ws,rfl,aJ st2.gh q1',aJ st2.gh q2,fun few=>hw _ G2 H2 (Step.refl st2.gh) ⟨fun i G3 H3 d' s3 e=> ?_,fun G3 H3 s3=>rV (G1:=G3) (aJ s3.sh (aJ st2.gh q1')) y1'.length (aJ s3.sh (aJ st2.gh q2)) y2.length, ?_⟩⟩
 ·exact rT (H2:=H3) (x:= .ref l) (aJ s3.sg q1') (y1'.mono s3.sg) (aJ s3.sg q2) (y2.mono s3.sg) s3.gh e
 ·have:=y1'.length
  simp only [am,List.length_zip]
  omega
theorem aEi {es:List Expr} {kt} {tp:Pos} (hg:L2.Gl X "zip") (hm:X.mg "zip"=none) (ha:ME X ad a f) (hb:ME X ad b g) (he:starEach [a,b] X.env=(false,eval a X.env)::starEach [b] X.env) (he2:starEach [b] X.env=(false,eval b X.env)::starEach [] X.env):
  MIG X ad (.Tuple es kt tp) (.Call (.Name "zip" p) [a,b] [] pos) (nT f g):=by
 intro pins s σ H W I ⟨G,ρ,E,hG,hS,hx,hr⟩
 refine aB4 (ta:=jL (tE X ad f) (jL (tE X ad g) aBf)) hg hm (b9 ha (b9 hb eI he2) he) he he2 pins s σ H W I ?_
 show tE X ad f σ H fun v H1=>tE X ad g σ H1 fun v2 H2=> ∃ t t2 l m xs ys,[v,v2]=[.ref l, .ref m]/\SqA t X.K H2 l xs/\SqA t2 X.K H2 m ys/\(xs.length<=sizeLine->W (aB3 t t2 X.K l m) H2)
 refine mJ hG hS hx hr fun v d G1 H1 st r k=> ?_
 refine mJ st.gh (hS.step st) hx k fun v2 d2 G2 H2 st2 r2 k2=> ?_
 obtain⟨t,t2,ds,es',c1,c2,k2⟩: ∃ t t2 ds es',isA t ds d/\isA t2 es' d2/\IGK X ad G2 H2 (.ok (.lst ((ds.zip es').map fun p=>D.tup [p.1,p.2]))) W E:=by
  cases d<;>try exact ay k2
  ·cases d2<;>try exact ay k2
   ·exact⟨true,true,_,_,rfl,rfl,k2⟩
   ·exact⟨true,false,_,_,rfl,rfl,k2⟩
  ·cases d2<;>try exact ay k2
   ·exact⟨false,true,_,_,rfl,rfl,k2⟩
   ·exact⟨false,false,_,_,rfl,rfl,k2⟩
 obtain⟨al,e,hw⟩:=k2
 cases e
 obtain⟨l,vs,rfl,q1,y1⟩:=mK c1 r
 obtain⟨m,ws,rfl,q2,y2⟩:=mK c2 r2
 have q1':=aJ st2.sg q1
 have y1':=y1.mono st2.sg
 refine⟨t,t2,l,m,vs,ws,rfl,aJ st2.gh q1',aJ st2.gh q2,fun few=>hw _ G2 H2 (Step.refl st2.gh) ⟨fun i G3 H3 d' s3 s4 e=> ?_,fun G3 H3 s3 s4=>rV (G1:=G3) (aJ s4 (aJ s3 q1')) y1'.length (aJ s4 (aJ s3 q2)) y2.length⟩⟩
 exact rT (H2:=H3) (x:= .ref l) (aJ s3 q1') (y1'.mono s3) (aJ s3 q2) (y2.mono s3) s4 e
noncomputable def iEn (K:PySem.W.Frag) (ta:TA):TI:=fun σ H R=>ta σ H fun vs H1=> ∃ t l xs,vs=[.ref l]/\SqA t K H1 l xs/\(xs.length<=sizeLine->R (Ite t K l) H1)
theorem wM {es:List Expr} {kt} {tp:Pos} {ta:TA} (hg:L2.Gl X "enumerate") (hm:X.mg "enumerate"=none) (ha:PA X [a] ta) (he:starEach [a] X.env=(false,eval a X.env)::starEach [] X.env):
  PI X (.Tuple es kt tp) (.Call (.Name "enumerate" p) [a] [] pos) (iEn X.K ta):=by
 intro pins s σ H R I h
 refine Call_ (eG (u:= .type "enumerate") I hg hm (by decide+kernel) (PyProof.Rows.callWith_type1 (L2.thn (ha pos pins s σ H _ I h) fun us s1 ⟨vs,H1,I1,r1,q1⟩=> ?_) he rfl) (by decide) (by decide))
 obtain⟨t,l,xs,rfl,hq,q⟩:=q1
 obtain⟨u,rfl,ru⟩:=r1.one
 cases (show u=Value.ref l from ru)
 obtain⟨its,_,p1,z1⟩:=eU I1 hq
 refine tP p1 fun h' a1 a2 a3 a4=>wpAny_pyIter_enum a1 ?_
 refine⟨s1.heap.objs.size+1,[s1.heap.objs.size+1,s1.heap.objs.size],_,Ite t X.K l,H1,rfl,I1.kept (t':=s1.toks) a4,wE (Nat.succ_ne_self _),⟨⟨_,a1⟩,a2⟩,fun b hb=> ?_,q z1⟩
 have hb':s1.heap.objs.size<=b:=by
  simp only [aq,List.not_mem_nil,or_false] at hb
  rcases hb with rfl | rfl
  ·exact Nat.le_succ _
  ·exact aj _
 exact I1.fpOk hb' (I1.hok.fresh hb')
theorem oG {G1:Hp} {d:D} {v:V} {ds:List D} (r:Rep X.K ad G1 d v) (e:items d=some ds): ∃ t l vs,v= .ref l/\SqA t X.K G1 l vs/\aF X.K ad G1 ds vs:=by
 cases d<;>try (cases e;done)
 ·cases e;unfold Rep at r;obtain⟨l,vs,rfl,q,t⟩:=r;exact⟨true,l,vs,rfl,q,t⟩
 ·cases e;unfold Rep at r;obtain⟨l,vs,rfl,q,t⟩:=r;exact⟨false,l,vs,rfl,q,t⟩
theorem rW {t:Bool} {G1 H1:Hp} {l:Addr} {i:Nat} {vs:List V} {ds:List D} {d:D} (h1:SqA t X.K G1 l vs) (r1:aF X.K ad G1 ds vs) (hg:Same G1 H1) (e:(ds.zipIdx.map fun p=>D.tup [.int (p.2:Nat),p.1])[i]? =some d):
  (Ite t X.K l).go i H1/\ ∀ x H2,(Ite t X.K l).yld i H1 x H2-> ∃ G2,Step G1 H1 G2 H2/\Rep X.K ad G2 d x:=by
 rw [List.getElem?_map,List.getElem?_zipIdx] at e
 cases q:ds[i]? with
 | none=>rw [q] at e;cases e
 | some x=>
  rw [q] at e
  have e2:=(Option.some.inj e).symm
  simp only [Nat.zero_add] at e2
  subst e2
  obtain⟨v,g1,q1⟩:=r1.get q
  refine⟨⟨vs,v,aJ hg h1,g1⟩, ?_⟩
  rintro x' H2' ⟨p,x2,hn,rfl,b1,rfl⟩
  have c1:=b1 vs (aJ hg h1);rw [g1] at c1;cases c1
  refine⟨upd G1 p (.tup [.int i,v]),Step.new hg hn, ?_⟩
  have sm:Same G1 (upd G1 p (.tup [.int i,v])):=Same.upd_new (hg.free hn)
  unfold Rep
  exact⟨p,[.int i,v],rfl,SqT.of aN,aF.cons aM (aF.cons (q1.mono sm) aF.nil)⟩
theorem aEj {es:List Expr} {kt} {tp:Pos} (hg:L2.Gl X "enumerate") (hm:X.mg "enumerate"=none) (ha:ME X ad a f) (he:starEach [a] X.env=(false,eval a X.env)::starEach [] X.env):
  MI X ad (.Tuple es kt tp) (.Call (.Name "enumerate" p) [a] [] pos) (nS f):=by
 intro pins s σ H W I ⟨G,ρ,E,hG,hS,hx,hr⟩
 refine wM (ta:=jL (tE X ad f) aBf) hg hm (b9 ha eI he) he pins s σ H W I ?_
 show tE X ad f σ H fun v H1=> ∃ t l xs,[v]=[.ref l]/\SqA t X.K H1 l xs/\(xs.length<=sizeLine->W (Ite t X.K l) H1)
 refine mE hG hS hx hr fun v d G1 H1 st r k=> ?_
 have k':IK X ad G1 H1 (match items d with | some xs=> .ok (.lst (xs.zipIdx.map fun p=>D.tup [.int (p.2:Nat),p.1])) | none=> .bad) W E:=k
 cases e:items d with
 | none=>rw [e] at k';exact k'.elim
 | some ds=>
  rw [e] at k'
  obtain⟨al,e2,hw⟩:=k'
  cases e2
  obtain⟨t,l,vs,rfl,q1,t1⟩:=oG r e
  have n1:=t1.length
  refine⟨t,l,vs,rfl,aJ st.gh q1,fun few=>hw _ G1 H1 (Step.refl st.gh) ⟨fun i G3 H3 d' s3 e=>rW (aJ s3.sg q1) (t1.mono s3.sg) s3.gh e,fun G3 H3 s3=>⟨vs,aJ s3.sh (aJ st.gh q1),by simp;omega⟩,by simp;omega⟩⟩
theorem zT {es:List Expr} {kt} {tp:Pos} (hg:L2.Gl X "enumerate") (hm:X.mg "enumerate"=none) (ha:ME X ad a f) (he:starEach [a] X.env=(false,eval a X.env)::starEach [] X.env):
  MIG X ad (.Tuple es kt tp) (.Call (.Name "enumerate" p) [a] [] pos) (nS f):=by
 intro pins s σ H W I ⟨G,ρ,E,hG,hS,hx,hr⟩
 refine wM (ta:=jL (tE X ad f) aBf) hg hm (b9 ha eI he) he pins s σ H W I ?_
 show tE X ad f σ H fun v H1=> ∃ t l xs,[v]=[.ref l]/\SqA t X.K H1 l xs/\(xs.length<=sizeLine->W (Ite t X.K l) H1)
 refine mJ hG hS hx hr fun v d G1 H1 st r k=> ?_
 have k':IGK X ad G1 H1 (match items d with | some xs=> .ok (.lst (xs.zipIdx.map fun p=>D.tup [.int (p.2:Nat),p.1])) | none=> .bad) W E:=k
 cases e:items d with
 | none=>rw [e] at k';exact k'.elim
 | some ds=>
  rw [e] at k'
  obtain⟨al,e2,hw⟩:=k'
  cases e2
  obtain⟨t,l,vs,rfl,q1,t1⟩:=oG r e
  have n1:=t1.length
  refine⟨t,l,vs,rfl,aJ st.gh q1,fun few=>hw _ G1 H1 (Step.refl st.gh) ⟨fun i G3 H3 d' s3 s4 e=>rW (aJ s3 q1) (t1.mono s3) s4 e,fun G3 H3 s3 s4=>⟨vs,aJ s4 (aJ s3 q1),by simp;omega⟩⟩⟩
theorem zU (hc:MT X ad c h) (ha:MT X ad a f) (hb:MT X ad b g):MT X ad (.IfExp c a b pos) (rIf h f g):=by
 intro pins s σ H Q I ⟨G,ρ,E,hG,hS,hx,ht,hr⟩
 have hr':RK X.K ad G H ((h ρ).bind fun x=>match x with | .bl true=>f ρ | .bl false=>g ρ | _=> .bad) (fun v H'=> ∃ b,v= .bl b/\Q b H') E:=hr
 have ht':lB ((h ρ).bind fun x=>match x with | .bl true=>f ρ | .bl false=>g ρ | _=> .bad):=ht
 have e:isTrue (.IfExp c a b pos) X.env (eval (.IfExp c a b pos) X.env)=(do if<-isTrue c X.env (eval c X.env) then isTrue a X.env (eval a X.env) else isTrue b X.env (eval b X.env)):=rfl
 rw [e]
 refine aa ?_
 rcases eQ ht' with ⟨d,e1,ht2⟩ | ⟨xs,e1,ht2⟩ | ⟨k,e1⟩
 ·cases d<;>try exact(bJ ht2).elim
  rename_i k
  rw [e1] at hr'
  refine L2.thn (hc pins s σ H (fun b H1=>b=k/\ ∃ G1,Step G H G1 H1) I ⟨G,ρ,E,hG,hS,hx, .inl ⟨k,e1⟩, ?_⟩) fun b s1 ⟨H1,I1,e2,G1,st⟩=> ?_
  ·rw [e1]
   intro v G1 H1 st r
   unfold Rep at r;subst r
   exact⟨k,rfl,rfl,G1,st⟩
  ·subst e2
   cases b with
   | true=>exact wpAny_ite_true (by decide) (ha pins s1 σ H1 Q I1 ⟨G1,ρ,E,st.gh,hS.step st,hx,ht2,RK.step hr' st⟩)
   | false=>exact wpAny_ite_false (by decide) (hb pins s1 σ H1 Q I1 ⟨G1,ρ,E,st.gh,hS.step st,hx,ht2,RK.step hr' st⟩)
 ·exact(bJ ht2).elim
 ·rw [e1] at hr'
  refine L2.thn (hc pins s σ H (fun b H1=>False) I ⟨G,ρ,E,hG,hS,hx, .inr ⟨k,e1⟩, ?_⟩) fun b s1 ⟨H1,I1,z⟩=>z.elim
  rw [e1]
  exact hr'
end
theorem aEk {f:F} {ρ:Rho}:aA kT [aU f] ρ=(f ρ).bind fun x=>yF x fun i=>if -100000<=i/\i<=100000 then .ow (iB i.toNat) else .bad:=by
 unfold aA nQ args args aU
 cases f ρ with
 | ok d=>
  cases d<;>try rfl
  rename_i i
  by_cases h: -100000<=i/\i<=100000<;>simp [R.bind,yF,h,RA.cons,RA.then,kT,items]
 | ow xs=>rfl
 | ex c=>rfl
 | bad=>rfl
section
variable {X:Cx} {ad:Ad} {pins:List (Addr×Obj)} {s:Shared} {σ:St} {H G:Hp} {ρ:Rho} {Q:VK} {E:Nat->Hp->Prop} {pos p p2 pos2:Pos} {a:Expr} {f:F}
theorem lI {acc:Array Value} {n:Nat} (h:ItemsOf (fun i v=> ∃ t,v=Value.int (0+i * 1) t) acc n):bF ((List.range n).map fun(i:Nat)=>V.int (i:Int)) acc.toList:=by
 obtain⟨hs,hv⟩:=h
 have key: ∀ (m:Nat) (l:List Value) (k:Nat),l.length=m->(∀ j v,l[j]? =some v-> ∃ t,v=Value.int ((k+j:Nat):Int) t)->bF ((List.range' k m).map fun(i:Nat)=>V.int (i:Int)) l:=by
  intro m
  induction m with
  | zero=>intro l k e _;cases List.length_eq_zero_iff.mp e;exact .nil
  | succ m ih=>
   intro l k e hv
   cases l with
   | nil=>cases e
   | cons v l=>
    refine .cons (hv 0 v rfl) (ih l (k+1) (by simpa using e) fun j w hw=> ?_)
    obtain⟨t,q⟩:=hv (j+1) w (by simpa using hw)
    exact⟨t,by rw [q];congr 1;omega⟩
 rw [List.range_eq_range']
 refine key n acc.toList 0 (by simpa using hs) fun j v e=> ?_
 obtain⟨t,q⟩:=hv j v (by simpa using e)
 exact⟨t,by rw [q];congr 1;omega⟩
theorem lJ {n:Nat}:aF X.K ad G (iB n) ((List.range n).map fun(i:Nat)=>V.int (i:Int)):=by
 unfold iB
 induction (List.range n) with
 | nil=>exact aF.nil
 | cons x r ih=>exact aF.cons aM ih
theorem mL (hg:L2.Gl X "range") (hm:X.mg "range"=none) (hgl:L2.Gl X "list") (hml:X.mg "list"=none) (hc:X.calm=true) (ha:ME X ad a f) (hs:starEach [a] X.env=(false,eval a X.env)::starEach [] X.env):
  ME X ad (.Call (.Name "list" p) [.Call (.Name "range" p2) [a] [] pos2] [] pos) (aA kT [aU f]):=by
 intro pins s σ H Q I ⟨G,ρ,E,hG,hS,hx,hr⟩
 rw [aEk] at hr
 refine Call_ (eG (u:= .type "list") I hgl hml (by decide+kernel) (PyProof.Rows.callWith_type1 ?_ rfl rfl) (by decide) (by decide))
 refine Calls.spliced_cons ?_
 refine Call_ (eG (u:= .type "range") I hg hm boot_range (PyProof.Rows.callWith_type1 ?_ hs rfl) (by decide) (by decide))
 rw [hs]
 refine Calls.spliced_cons (L2.thn (ha.thn I hG hS hx hr) fun u s1 ⟨v,d,G1,H1,I1,r1,st,q,k1⟩=>Calls.spliced_nil ?_)
 cases d<;>try exact ay k1
 rename_i i
 unfold Rep at q;subst q
 obtain⟨t,rfl⟩:=r1
 have k2:RK X.K ad G1 H1 (if -100000<=i/\i<=100000 then .ow (iB i.toNat) else .bad) Q E:=k1
 by_cases hb: -100000<=i/\i<=100000
 ·rw [if_pos hb] at k2
  refine call_range_1 (Calls.spliced_nil ?_)
  have I2:Inv X pins σ H1 { s1 with heap:=s1.heap.push { cls:= .type "range",data:= .fields #[.int 0 s1.toks, .int i t, .int 1 (s1.toks+1)] },toks:=s1.toks+1+1 }:=I1.kept fun b o e=>af _ e
  have hn:Builtin.Range.rangeSize 0 i 1=(i.toNat:Int):=by rw [rangeSize_one];split<;>omega
  refine call_list_range (I1.ok.hd hc) (IsRange.new ..) (small_one (by omega) (by omega) (by omega) (by omega)) hn (by omega) fun h' tk acc c' hk hS' hacc=> ?_
  have hv:=lI hacc
  have hz:((List.range i.toNat).map fun(i:Nat)=>V.int (i:Int)).length<=sizeLine:=by rw [sizeLine_eq];simp;omega
  refine⟨.ref _,_,I2.laid (t':=tk) hk (aj _) (show ObjOk X.prog X.w _ h' _ (.lst _) from⟨hz,acc.toList,c',hv,by simpa using hS'⟩),rfl,k2.ow_new st.gh lJ (I2.hok.fresh (aj _))⟩
 ·rw [if_neg hb] at k2
  exact k2.elim
end
theorem j0 (i:Int): ∀ l:List Int,(aGg i l).Perm (i::l)
 | []=>List.Perm.refl _
 | j::r=>by
  unfold aGg
  split
  ·exact List.Perm.refl _
  ·exact((j0 i r).cons j).trans (List.Perm.swap i j r)
theorem gJ: ∀ l:List Int,(l5 l).Perm l
 | []=>List.Perm.refl _
 | i::r=>(j0 i (l5 r)).trans ((gJ r).cons i)
theorem lK (i:Int): ∀ {l:List Int},l.Pairwise (· <= ·)->(aGg i l).Pairwise (· <= ·)
 | [],_=>List.pairwise_singleton _ _
 | j::r,h=>by
  unfold aGg
  have h1:=List.pairwise_cons.mp h
  split
  ·rename_i hij
   refine List.pairwise_cons.mpr ⟨fun a ha=> ?_,h⟩
   rcases aq.mp ha with rfl | ha
   ·exact hij
   ·exact Int.le_trans hij (h1.1 a ha)
  ·rename_i hij
   refine List.pairwise_cons.mpr ⟨fun a ha=> ?_,lK i h1.2⟩
   rcases aq.mp ((j0 i r).mem_iff.mp ha) with rfl | ha
   ·omega
   ·exact h1.1 a ha
theorem iW: ∀ l:List Int,(l5 l).Pairwise (· <= ·)
 | []=>List.Pairwise.nil
 | i::r=>lK i (iW r)
theorem tQ {l m:List Int} (p:m.Perm l) (h:m.Pairwise (· <= ·)):m=l5 l:=
 List.Perm.eq_of_pairwise (fun _ _ _ _ a b=>Int.le_antisymm a b) h (iW l) (p.trans (gJ l).symm)
section
variable {prog:Program} {w:World} {A:Around} {Ex:Value->Shared->Prop} {s:Shared}
theorem tR {l:Addr} {T:String} {o:Obj} {vs:List Value} {ns:List Int} {n:Nat} {Q:Value->Shared->Prop} (hT:T="list"\/T="tuple") (ho:s.heap.get? l=some o) (hc:o.cls= .type T) (hd:o.data= .seq vs.toArray n) (hI:IntsAre vs ns) (h64:vs.length<64)
  (h: ∀ (h1 h':Heap) (out:Array Value) (ns':List Int) (e:Nat),(∀ b o,s.heap.get? b=some o->h1.get? b=some o)->(∀ b o,h1.get? b=some o->h'.get? b=some o)->h'.get? h1.objs.size=some (seqObj "list" out e)->IntsAre out.toList ns'->ns'.Perm ns->ns'.Pairwise (· <= ·)->Q (.ref h1.objs.size) { s with heap:=h' }):
  wpAny (model prog w) A (call (.builtin "sorted") [.ref l]) Q Ex s:=by
 have hz:vs.toArray.size<=sizeLine:=by rw [sizeLine_eq];simp;omega
 refine Calls.call_function_entry kind_sorted plain_sorted entry_sorted (args_sorted1 _) ?_
 unfold Builtin.«sorted»
 refine aa (m:=checkCount "sorted" 1 1 _) (ae ?_)
 refine aa (wpAny_collect_seq (hsz:=hz) l hT ho hc hd fun h1 k1=> ?_)
 refine aa (wpAny_newList ?_ (by rw [sizeLine_eq];simp;omega))
 have hoL:(h1.push (seqObj "list" vs.toArray 0)).get? h1.objs.size=some (seqObj "list" vs.toArray 0):=ag _ rfl
 show wpAny _ _ _ _ _ { s with heap:=h1.push (seqObj "list" vs.toArray 0) }
 refine aa (wpAny_holding (wpAny_call_entry slot_list_sort ⟨_,hoL,rfl⟩ entry_list_sort (list_sort_tree hoL hI h64 fun out ns' a1 a2 a3=>⟨_,rfl, ?_⟩) (args_list_sort _)))
 obtain⟨e,he⟩:=sortedHeap_at (out:=out) hoL
 refine ae ⟨_,rfl,h h1 _ out ns' e k1 (fun b o' q1=> ?_) he a1 a2 a3⟩
 have lt:b<h1.objs.size:=ah q1
 rw [sortedHeap_old (bg lt) (by rw [ai];exact Nat.lt_succ_of_lt lt),Heap.get?_push_ne _ _ _ (bg lt)]
 exact q1
end
section
variable {X:Cx} {ad:Ad}
theorem oH: ∀ {us:List Value} {ns:List Int},IntsAre us ns->bF (ns.map V.int) us
 | _,_, .nil=> .nil
 | _,_, .cons n t h=> .cons ⟨t,rfl⟩ (oH h)
theorem rX: ∀ {ds:List D} {ns:List Int},dI ds=some ns->ds=ns.map D.int
 | [],ns,h=>by cases h;rfl
 | d::r,ns,h=>by
  cases d<;>try (cases h;done)
  rename_i i
  obtain⟨ms,h1,rfl⟩:=zMd (show(dI r).map (i:: ·)=some ns from h)
  rw [rX h1];rfl
theorem oI {G:Hp}: ∀ {ns:List Int} {vs:List V},aF X.K ad G (ns.map D.int) vs->vs=ns.map V.int
 | [],vs,h=>by unfold aF at h;exact h
 | n::r,vs,h=>by
  unfold aF at h
  obtain⟨v,rs,rfl,h1,h2⟩:=h
  unfold Rep at h1
  rw [h1,oI h2];rfl
theorem kY {pins:List (Addr×Obj)} {s:Shared} {σ:St} {H G:Hp} {x:D} {v:V} {u:Value} {Q:VK} {E:Nat->Hp->Prop} {ds:List D} {ns:List Int} (I:Inv X pins σ H s) (hG:Same G H) (q:Seq X ad G H x v) (ru:bA v u) (e1:items x=some ds) (e2:dI ds=some ns)
  (hr2:RK X.K ad G H (if ns.length<64 then .ow ((l5 ns).map D.int) else .bad) Q E):wpAny (model X.prog X.w) X.A (call (.builtin "sorted") [u]) (EP X pins σ Q) X.xe s:=by
  by_cases h64:ns.length<64
  ·rw [if_pos h64] at hr2
   cases rX e2
   obtain⟨p,vs,rfl,hq,rq⟩:=q.items hG e1
   cases oI rq
   cases (show u=Value.ref p from ru)
   obtain⟨T,o,its,n,hT,h1,h2,h3,hv⟩: ∃ T o its n,(T="list"\/T="tuple")/\s.heap.get? p=some o/\o.cls= .type T/\o.data= .seq (List.toArray its) n/\bF (ns.map V.int) its:=by
    rcases hq with z | z
    ·obtain⟨its,rv,⟨o,a,b,n,c⟩,_⟩:=I.tuple z.2
     exact⟨"tuple",o,its,n, .inr rfl,a,b,c,rv⟩
    ·obtain⟨its,rv,pl,_⟩:=I.list z.2
     obtain⟨o,a,b,n,c⟩:=pl.isList
     exact⟨"list",o,its,n, .inl rfl,a,b,c,rv⟩
   refine tR hT h1 h2 h3 (sY hv) (by rw [<-hv.length];simpa using h64) fun g1 g2 out ns' e k1 k2 at' hi pm sr=> ?_
   have I1:Inv X pins σ H { s with heap:=g1 }:=I.kept (t':=s.toks) k1
   cases tQ pm sr
   have hz:((l5 ns).map V.int).length<=sizeLine:=by rw [sizeLine_eq,am,(gJ ns).length_eq];omega
   refine⟨.ref g1.objs.size,_,I1.laid (t':=s.toks) k2 (aj _) (show ObjOk X.prog X.w _ g2 _ (.lst _) from⟨hz,out.toList,e,oH hi,by simpa using at'⟩),rfl,hr2.ow_new hG aF.map_int (I1.hok.fresh (aj _))⟩
  ·rw [if_neg h64] at hr2
   exact hr2.elim
end
section
variable {prog:Program} {w:World} {A:Around} {Ex:Value->Shared->Prop} {s:Shared}
theorem zV {r:Addr} {a b c:Int} {t u v:Tok} {n:Nat} {Q:List Value->Shared->Prop} (hh:A.handled=none) (hr:IsRange s.heap r a b c t u v) (hsmall:Builtin.Range.small a b c=true) (hn:Builtin.Range.rangeSize a b c=n) (hlen:n<=2 ^ 24)
  (hQ: ∀ (h':Heap) (tk:Nat) (acc:Array Value),(∀ b o,s.heap.get? b=some o->h'.get? b=some o)->ItemsOf (fun i v=> ∃ t,v=Value.int (a+i * c) t) acc n->Q acc.toList { s with heap:=h',toks:=tk }):wpAny (model prog w) A (collect (.ref r)) Q Ex s:=by
 unfold collect
 refine aa (wpAny_runValue (codeAny_builtin F.entry_proto_collect ?_));rw [Around.under_plainId F.plain_proto_collect _]
 show wpAny _ A.in1 (newList [] >>= fun l=>again (.builtin "list.__iadd__" ⟨[l, .ref r],[]⟩)) _ _ s
 refine aa (wpAny_newObj_type (ae ⟨plainId_quiet F.plain_list_iadd _,codeAny_builtin F.entry_list_iadd ?_⟩));rw [Around.under_plainId F.plain_list_iadd _]
 show wpAny _ A.in1 (Builtin.List.listExtendWith (.ref s.heap.objs.size) (.ref r) (.ref s.heap.objs.size)) _ _ _
 have hS:(s.heap.push { cls:= .type "list",data:= .seq ([]:List Value).toArray }).get? s.heap.objs.size=some { cls:= .type "list",data:= .seq #[] 0 }:=ag _ rfl
 refine wpAny_mono (wpAny_extend_range (A:=A) (R:=fun res s'=> ∃ h' tk acc c',res= .ok (.ret (.ref s.heap.objs.size))/\s'={ s with heap:=h',toks:=tk }/\(∀ b o,s.heap.get? b=some o->h'.get? b=some o)/\h'.get? s.heap.objs.size=some { cls:= .type "list",dict:=none,data:= .seq acc c',slots:= #[] }/\ItemsOf (fun i v=> ∃ t,v=Value.int (a+i * c) t) acc n)
  (s:={ s with heap:=s.heap.push { cls:= .type "list",data:= .seq ([]:List Value).toArray } }) hh (af _ hr) hsmall hn hlen _ _ 0 hS fun h' tk acc c' hk hS' hacc=>⟨h',tk,acc,c',rfl,rfl,fun b o e=>hk b o (bg (ah e)) (af _ e),hS',hacc⟩) (fun fin s' h=> ?_) (fun e s' h=> ?_)
 ·cases fin with
  | done f=>
   obtain⟨h',tk,acc,c',e,rfl,k,at',ia⟩:=h
   cases e
   show wpAny _ A (load s.heap.objs.size >>= _) _ _ _
   exact aa (wpAny_load at' (ae (hQ h' tk acc k ia)))
  | again cd=>
   refine⟨h.1,codeAny_mono h.2 fun res s'' hr=> ?_⟩
   obtain⟨h',tk,acc,c',rfl,rfl,k,at',ia⟩:=hr
   show wpAny _ A (load s.heap.objs.size >>= _) _ _ _
   exact aa (wpAny_load at' (ae (hQ h' tk acc k ia)))
 ·obtain⟨h',tk,acc,c',z,_⟩:=h
  cases z
end
open AutoSeq1 (wpAny_loadPart') in
theorem zW (r:Addr) (a b c:Int) (t u v:Tok) (n:Nat) (hsmall:Builtin.Range.small a b c=true) (hn:Builtin.Range.rangeSize a b c=n) (hlen:n<=2 ^ 24):
  Meets (Builtin.«tuple.__new__» ⟨[.type "tuple", .ref r],[]⟩) (fun A R s=>A.handled=none/\IsRange s.heap r a b c t u v/\ ∀ (h':Heap) (tk:Nat) (acc:Array Value),(∀ b o,s.heap.get? b=some o->h'.get? b=some o)->ItemsOf (fun i v=> ∃ t,v=Value.int (a+i * c) t) acc n->
   R (.ok (.ret (.ref h'.objs.size))) { s with heap:=h'.push { cls:= .type "tuple",data:= .seq acc },toks:=tk }):=
 .of_wp fun prog w A R s h=>by
  obtain⟨hp,g,d,tk,os⟩:=s
  obtain⟨hh,hr,h⟩:=h
  have hsub:=sub_tuple_self
  have hinit:=init_tuple_lookup
  have hmh:=madeHere_tuple
  have hT:Shared.TypeIs ⟨hp,g,d,tk,os⟩ (.ref r) "range":=⟨_,hr,rfl⟩
  wp_walk using wpAny_loadPart' hr,wpAny_typeOf hT,zV (A:=A.in1) hh hr hsmall hn hlen
  intro h' tk' acc hk hacc
  show wpAny _ _ (Builtin.Tuple.tupleExact acc.toList.toArray >>= fun v=>ret v) _ _ _
  unfold Builtin.Tuple.tupleExact
  have e:acc.toList.toArray=acc:=by simp
  rw [e]
  refine aa (wpAny_newObj_type ?_ (by show acc.size<=sizeLine;rw [hacc.1,sizeLine_eq];omega))
  exact ae ⟨_,rfl,h h' tk' acc hk hacc⟩
section
variable {prog:Program} {w:World} {A:Around} {Ex:Value->Shared->Prop} {s:Shared}
theorem qG {r:Addr} {a b c:Int} {t u v:Tok} {n:Nat} {Q:Value->Shared->Prop} (hh:A.handled=none) (hr:IsRange s.heap r a b c t u v) (hsmall:Builtin.Range.small a b c=true) (hn:Builtin.Range.rangeSize a b c=n) (hlen:n<=2 ^ 24)
  (hQ: ∀ (h':Heap) (tk:Nat) (acc:Array Value),(∀ b o,s.heap.get? b=some o->h'.get? b=some o)->ItemsOf (fun i v=> ∃ t,v=Value.int (a+i * c) t) acc n->Q (.ref h'.objs.size) { s with heap:=h'.push { cls:= .type "tuple",data:= .seq acc },toks:=tk }):
  wpAny (model prog w) A (call (.type "tuple") [.ref r]) Q Ex s:=
 callType_new F.called_tuple (by decide) (F.typeCall_tuple_1 _) (F.newCall_tuple_1 _) (fun obj=>F.args_object_init_2 obj _) F.entry_tuple_new (zW r a b c t u v n hsmall hn hlen)
  ⟨hh,hr,fun h' tk acc hk hacc=>⟨⟨_,ag _ rfl,rfl⟩,hQ h' tk acc hk hacc⟩⟩
end
theorem aI7 {f:F} {ρ:Rho}:aA bN [aU f] ρ=(f ρ).bind fun x=>yF x fun i=>if -100000<=i/\i<=100000 then .ok (.tup (iB i.toNat)) else .bad:=by
 unfold aA nQ args args aU
 cases f ρ with
 | ok d=>
  cases d<;>try rfl
  rename_i i
  by_cases h: -100000<=i/\i<=100000<;>simp [R.bind,yF,h,RA.cons,RA.then,bN,items]
 | ow xs=>rfl
 | ex c=>rfl
 | bad=>rfl
section
variable {X:Cx} {ad:Ad} {pos p p2 pos2:Pos} {a:Expr} {f:F}
theorem kZ (hg:L2.Gl X "range") (hm:X.mg "range"=none) (hgl:L2.Gl X "tuple") (hml:X.mg "tuple"=none) (hc:X.calm=true) (ha:ME X ad a f) (hs:starEach [a] X.env=(false,eval a X.env)::starEach [] X.env):
  ME X ad (.Call (.Name "tuple" p) [.Call (.Name "range" p2) [a] [] pos2] [] pos) (aA bN [aU f]):=by
 intro pins s σ H Q I ⟨G,ρ,E,hG,hS,hx,hr⟩
 rw [aI7] at hr
 refine Call_ (eG (u:= .type "tuple") I hgl hml (by decide+kernel) (PyProof.Rows.callWith_type1 ?_ rfl rfl) (by decide) (by decide))
 refine Calls.spliced_cons ?_
 refine Call_ (eG (u:= .type "range") I hg hm boot_range (PyProof.Rows.callWith_type1 ?_ hs rfl) (by decide) (by decide))
 rw [hs]
 refine Calls.spliced_cons (L2.thn (ha.thn I hG hS hx hr) fun u s1 ⟨v,d,G1,H1,I1,r1,st,q,k1⟩=>Calls.spliced_nil ?_)
 cases d<;>try exact ay k1
 rename_i i
 unfold Rep at q;subst q
 obtain⟨t,rfl⟩:=r1
 have k2:RK X.K ad G1 H1 (if -100000<=i/\i<=100000 then .ok (.tup (iB i.toNat)) else .bad) Q E:=k1
 by_cases hb: -100000<=i/\i<=100000
 ·rw [if_pos hb] at k2
  refine call_range_1 (Calls.spliced_nil ?_)
  have I2:Inv X pins σ H1 { s1 with heap:=s1.heap.push { cls:= .type "range",data:= .fields #[.int 0 s1.toks, .int i t, .int 1 (s1.toks+1)] },toks:=s1.toks+1+1 }:=I1.kept fun b o e=>af _ e
  have hn:Builtin.Range.rangeSize 0 i 1=(i.toNat:Int):=by rw [rangeSize_one];split<;>omega
  refine qG (I1.ok.hd hc) (IsRange.new ..) (small_one (by omega) (by omega) (by omega) (by omega)) hn (by omega) fun h' tk acc hk hacc=> ?_
  have hv:=lI hacc
  have I3:Inv X pins σ H1 { s1 with heap:=h',toks:=tk }:=I2.kept (t':=tk) hk
  have hz:((List.range i.toNat).map fun(i:Nat)=>V.int (i:Int)).length<=sizeLine:=by rw [sizeLine_eq];simp;omega
  refine⟨.ref _,_,I3.laid (t':=tk) (fun b o e=>af _ e) (aj _) (show ObjOk X.prog X.w _ _ _ (.tup _) from⟨hz,acc.toList,hv,⟨_,ag _ rfl,rfl,0,by simp⟩,⟨_,ag _ rfl,rfl⟩⟩),rfl,k2.tup_new st.gh lJ (I3.hok.fresh (aj _))⟩
 ·rw [if_neg hb] at k2
  exact k2.elim
end
theorem wN: ∀ (l:List Int) (m:Int),m<=uE m l/\ ∀ x∈l,x<=uE m l
 | [],m=>⟨Int.le_refl _,nofun⟩
 | i::r,m=>by
  have h:=wN r (if m<i then i else m)
  unfold uE
  by_cases c:m<i
  ·rw [if_pos c] at h ⊢
   exact⟨by omega,fun x hx=>by rcases aq.1 hx with e | e;(subst e;exact h.1);exact h.2 x e⟩
  ·rw [if_neg c] at h ⊢
   exact⟨h.1,fun x hx=>by rcases aq.1 hx with e | e;(subst e;omega);exact h.2 x e⟩
theorem rY: ∀ (l:List Int) (m:Int),uE m l∈m::l
 | [],m=> .head _
 | i::r,m=>by
  unfold uE
  have h:=rY r (if m<i then i else m)
  by_cases c:m<i
  ·rw [if_pos c] at h ⊢;exact .tail _ h
  ·rw [if_neg c] at h ⊢
   rcases aq.1 h with e | e
   ·rw [e];exact .head _
   ·exact .tail _ (.tail _ e)
theorem zX {l:List Int} {j:Nat} (h:j<l.length):l.getD j 0∈l:=by
 have e:l.getD j 0=l[j]:=by simp [h]
 rw [e];exact List.getElem_mem h
theorem zY {l:List Int} {x:Int} (h:x∈l): ∃ j,j<l.length/\l.getD j 0=x:=by
 obtain⟨j,hj,e⟩:=List.getElem_of_mem h
 exact⟨j,hj,by simp [hj,e]⟩
theorem aI8 {n:Int} {r:List Int} {j:Nat} (hj:j<(n::r).length) (h: ∀ i,i<(n::r).length->(n::r).getD i 0<=(n::r).getD j 0):(n::r).getD j 0=uE n r:=by
 have a:=wN r n
 have b:=zX hj
 obtain⟨k,hk,e⟩:=zY (rY r n)
 have c:=h k hk
 have d:(n::r).getD j 0<=uE n r:=by
  rcases aq.1 b with e | e
  ·rw [e];exact a.1
  ·exact a.2 _ e
 rw [e] at c;omega
section
variable {X:Cx} {ad:Ad}
theorem zZ (hh:X.A.handled=none):BOp X ad (.builtin "max") aC9:=by
 intro pins s σ H G x v u Q E I hG q ru hr
 have hr':RK X.K ad G H (match(items x).bind dI with | some (n::ns)=> .ok (.int (uE n ns)) | _=> .bad) Q E:=hr
 cases e:items x with
 | none=>rw [e] at hr';exact hr'.elim
 | some ds=>
  rw [e] at hr'
  have hr2:RK X.K ad G H (match dI ds with | some (n::ns)=> .ok (.int (uE n ns)) | _=> .bad) Q E:=hr'
  cases e2:dI ds with
  | none=>rw [e2] at hr2;exact hr2.elim
  | some ns=>
   rw [e2] at hr2
   cases ns with
   | nil=>exact hr2.elim
   | cons n ns=>
   obtain⟨p,vs,rfl,hq,rq⟩:=q.items hG e
   have hq':SqL X.K H p vs\/SqT X.K H p vs:=hq.elim (fun z=> .inr z.2) fun z=> .inl z.2
   cases (show u=Value.ref p from ru)
   have ev:=jU e2 rq
   subst ev
   refine call_max_walkS (i9 (A:=X.A.in1) hh I hq' fun its s2 I' fp wr Stt rv W st hfp h1 h2 h3 h4 h5=> ?_)
   have hl:its.length=(n::ns).length:=by rw [<-rv.length,am]
   refine⟨I',fp,wr,_,its.length,_,_,_,rfl,W.toS,st,hfp,by rw [hl];simp,CmpOf.ints_gt (fun i=>(n::ns).getD i 0) fun i v e=>rP rv e,fun v s' hv m=> ?_⟩
   obtain⟨t',rfl⟩:=rP rv hv
   have hb:=argBest_gt (fun i=>(n::ns).getD i 0) (its.length - 1)
   refine⟨.int (uE n ns),H,I.moved h5 h4 h1 h2 h3 m,⟨t', ?_⟩,hr2.ok_now hG aM⟩
   rw [aI8 (by rw [<-hl];have:0<its.length:=(by rw [hl];simp);omega) fun i hi=>hb.2 i (by omega)]
end
section
variable {prog:Program} {w:World} {A:Around} {Ex:Value->Shared->Prop} {s:Shared}
theorem tU (n:Nat):Builtin.Slice.sliceAdjust none none (-1) (n:Int)=((n:Int) - 1, -1):=by
 unfold Builtin.Slice.sliceAdjust
 first | rfl | simp
theorem tV (n:Nat):Builtin.Slice.slicePlaces ((n:Int) - 1) (-1) (-1)=n:=by
 unfold Builtin.Slice.slicePlaces
 have h1: ¬ ((-1:Int) > 0):=by decide
 simp only [h1,if_false]
 by_cases h:(n:Int) - 1 > -1
 ·rw [if_pos h,show(-(-1):Int)=1 by decide,Int.ediv_one];omega
 ·rw [if_neg h];omega
theorem qI {sl:Addr} {t:Tok} {n:Nat} {Q:Int×Int×Nat->Shared->Prop} (hs:s.heap.IsSliceOf sl .none .none (.int (-1) t)) (h:Q ((n:Int) - 1, -1,n) s):wpAny (model prog w) A (Builtin.Slice.sliceApplied (.ref sl) (pure (n:Int))) Q Ex s:=by
 obtain⟨os,hos,hcs,hds⟩:=id hs
 unfold Builtin.Slice.sliceApplied Builtin.Slice.sliceFields
 refine aa (aa (wpAny_field hos hds (x:= .none) rfl (aa (wpAny_field hos hds (x:= .none) rfl (aa (wpAny_field hos hds (x:= .int (-1) t) rfl (ae ?_)))))))
 refine aa (slicePart_int ?_)
 show wpAny _ _ (if((-1:Int)==0)=true then _ else _) _ _ s
 rw [if_neg (by decide)]
 refine aa (slicePart_none (aa (slicePart_none (aa (ae ?_)))))
 show wpAny _ _ (match Builtin.Slice.sliceAdjust none none (-1) (n:Int) with | (lo,hi)=>pure (lo,(-1:Int),Builtin.Slice.slicePlaces lo hi (-1))) _ _ s
 rw [tU]
 show wpAny _ _ (pure ((n:Int) - 1,(-1:Int),Builtin.Slice.slicePlaces ((n:Int) - 1) (-1) (-1))) _ _ s
 rw [tV]
 exact ae h
theorem z9 (xs:Array Value):((List.range xs.size).filterMap fun(k:Nat)=>xs[((xs.size:Int) - 1+(k:Int) * -1).toNat]?).toArray=xs.toList.reverse.toArray:=by
 congr 1
 have e: ∀ k∈List.range xs.size,xs[((xs.size:Int) - 1+(k:Int) * -1).toNat]? =some (xs.toList.reverse.getD k .none):=fun k hk=>by
  have hk:=zRd hk
  have h1:((xs.size:Int) - 1+(k:Int) * -1).toNat=xs.size - 1 - k:=by omega
  have h2:xs.size - 1 - k<xs.size:=by omega
  rw [h1,Array.getElem?_eq_getElem h2]
  have h3:k<xs.toList.reverse.length:=by simpa using hk
  rw [bu,ba h3,List.getElem_reverse]
  simp
 have: ∀ l:List Nat,(∀ k∈l,k∈List.range xs.size)->l.filterMap (fun(k:Nat)=>xs[((xs.size:Int) - 1+(k:Int) * -1).toNat]?)=l.map fun k=>xs.toList.reverse.getD k .none:=by
  intro l
  induction l with
  | nil=>intro _;rfl
  | cons a l ih=>intro h;rw [List.filterMap_cons,e a (h a (.head _)),List.map_cons,ih fun k hk=>h k (.tail _ hk)]
 rw [this _ fun _ h=>h]
 apply List.ext_getElem
 ·simp
 ·intro i h1 h2;simp at h1;simp [h1]
theorem iL {t sl:Addr} {items:Array Value} {tk:Tok} {Q:Value->Shared->Prop} (ht:IsTup s.heap t items) (hs:s.heap.IsSliceOf sl .none .none (.int (-1) tk))
  (h:Q (.ref s.heap.objs.size) { s with heap:=s.heap.push { cls:= .type "tuple",data:= .seq items.toList.reverse.toArray } }) (hsz:items.size<=sizeLine):wpAny (model prog w) A (getItem (.ref t) (.ref sl)) Q Ex s:=by
 have htake:sizeOk (.seq items.toList.reverse.toArray):=by
  show items.toList.reverse.toArray.size<=sizeLine
  rw [av,List.length_reverse,Array.length_toList]
  exact hsz
 obtain⟨os,hos,hcs,hds⟩:=id hs
 have hTs:s.TypeIs (.ref sl) "slice":=⟨os,hos,hcs⟩
 unfold getItem
 try with_reducible refine wpAny_holding ?_
 first | refine aa (ae ?_) | skip
 refine aa (wpAny_sequenceKey ht.typeIs (by decide) ?_)
 refine aa (wpAny_callSpecial?_slot (name:=Str.ofString "__getitem__") ht.typeIs PyProof.Rows.slot_tuple_getitem
  (wpAny_call_entry PyProof.Rows.slot_tuple_getitem ht.typeIs entry_tuple_getitem ?_ (args_tuple_getitem _ _)))
 show wpAny _ _ (Builtin.Tuple.tupleItemsOf (.ref t) >>= _) _ _ s
 refine aa (tupleItemsOf_ ht ?_)
 refine aa (wpAny_typeOf hTs ?_)
 rw [if_pos (by decide)]
 refine aa (qI hs ?_)
 have hno: ¬ (((items.size:Int) - 1==0&&(-1:Int)==1&&items.size==items.size)=true):=by
  rw [show((-1:Int)==1)=false by decide,Bool.and_false,Bool.false_and];exact bd
 show wpAny _ _ (if((items.size:Int) - 1==0&&(-1:Int)==1&&items.size==items.size)=true then _ else _) _ _ s
 rw [if_neg hno,z9]
 first
  | exact aa (m:=Builtin.Tuple.tupleExact _) (wpAny_newObj_type (ae ⟨_,rfl,ae h⟩) htake)
  | exact aa (m:=Builtin.Tuple.tupleExact _) (wpAny_newObj_type (aa (ae (ae ⟨_,rfl,ae h⟩))) htake)
  | exact aa (aa (m:=Builtin.Tuple.tupleExact _) (wpAny_newObj_type (ae (ae ⟨_,rfl,ae h⟩)) htake))
  | exact aa (aa (m:=Builtin.Tuple.tupleExact _) (wpAny_newObj_type (ae ⟨_,rfl,ae h⟩) htake))
end
section
variable {prog:Program} {w:World} {A:Around} {Ex:Value->Shared->Prop} {s:Shared}
end
section
open AutoSeq1 (wpAny_loadPart')
open MeetsSeq MeetsSeq2 MeetsSeq3 SeqRoads2 SeqAt
end
section
variable {X:Cx} {ad:Ad} {pins:List (Addr×Obj)} {s:Shared} {σ:St} {H G:Hp} {ρ:Rho} {Q:VK} {E:Nat->Hp->Prop} {pos p ap cp tp:Pos} {o a b c tg:Expr} {f g h:F}
theorem aF.rev {ds:List D} {vs:List V} (r:aF X.K ad G ds vs):aF X.K ad G ds.reverse vs.reverse:=by
 induction ds generalizing vs with
 | nil=>cases vs with
  | nil=>exact r
  | cons v vs=>exact absurd r.length (by simp)
 | cons d ds ih=>
  cases vs with
  | nil=>exact absurd r.length (by simp)
  | cons v vs=>
   obtain⟨w,r',e,r1,r2⟩:=r
   cases e
   rw [List.reverse_cons,List.reverse_cons]
   exact(ih r2).append (aF.cons r1 aF.nil)
theorem aI9 {j:Nat} {p2 p3 p4:Pos} (ha:MLk X ad a f):ME X ad (.Subscript a (.Slice none none (some (.UnaryOp .USub (.Constant (.int 1) j p4) p3)) p2) pos) (aMy f):=by
 intro pins s σ H Q I ⟨G,ρ,E,hG,hS,hx,hr⟩
 refine Subscript_ (L2.thn (ha pins s σ H G ρ aH2 Q E I hG hS hx hr) fun v s1 hz_=> ?_)
 obtain⟨x,d1,G1,H1,I1,r1,st1,q1,k1⟩:=hz_
 refine wpAny_Slice ?_
 rw [evalPart_none]
 refine ae (ae ?_)
 rw [evalPart_some]
 have k1':RK X.K ad G1 H1 ((aLw (rK (.int 1)) ρ).bind fun y=>match y with | .int i=>if i= -1 then aH2 d1 else .bad | _=> .bad) Q E:=k1
 refine L2.thn (ME.thn (aBr (rH (d:= .int 1) rfl)) I1 st1.gh (hS.step st1) hx k1') fun vk s2 hz_=> ?_
 obtain⟨y,d2,G2,H2,I2,r2,st2,q2,k2⟩:=hz_
 cases d2<;>try exact ay k2
 rename_i i
 by_cases hi:i= -1
 ·subst hi
  have k3:RK X.K ad G2 H2 (aH2 d1) Q E:=k2
  unfold Rep at q2;subst q2
  obtain⟨t,rfl⟩:=r2
  have I4:Inv X pins σ H2 { s2 with heap:=s2.heap.push { cls:= .type "slice",data:= .fields #[.none, .none, .int (-1) t] } }:=I2.kept (t':=s2.toks) fun b ob q=>af _ q
  obtain⟨ds,hd⟩: ∃ ds,d1= .lst ds\/d1= .tup ds:=by cases d1<;>first | exact⟨_, .inl rfl⟩ | exact⟨_, .inr rfl⟩ | exact ay k3
  rcases hd with rfl | rfl
  rotate_left
  ·obtain⟨l,xs,rfl,hq,rq⟩:=(Seq.step q1 st2).items st2.gh rfl
   rcases hq with hq | hq
   rotate_left
   ·exact absurd hq.1 (fun z=>nomatch z)
   cases (show v=Value.ref l from r1)
   obtain⟨its,r,ht,hz⟩:=I4.tuple hq.2
   have hlen:=r.length
   refine tail_any (T:="tuple") ht.typeIs PyProof.Rows.slot_tuple_getitem.lookup ?_ (by with_unfolding_all rfl)
   refine iL ht (Heap.IsSliceOf.new ..) ?_ (by rw [av]<;>omega)
   refine⟨.ref _,_,I4.laid (t':=s2.toks) (o:= .tup xs.reverse) (fun b ob q=>af _ q) (aj _) ?_,rfl,RK.tup_new (xs:=ds.reverse) k3 st2.gh rq.rev (I4.hok.fresh (aj _))⟩
   exact⟨by simpa using hz,_,r.reverse,IsTup.new _ _,⟨_,ag _ rfl,rfl⟩⟩
  obtain⟨l,xs,rfl,hq,rq⟩:=wK st2.gh (Seq.step q1 st2)
  cases (show v=Value.ref l from r1)
  obtain⟨its,r,ht,hz⟩:=I4.list hq
  have hlen:=r.length
  refine tail_any (T:="list") ht.isList.typeIs list_getitem_lookup ?_ (by with_unfolding_all rfl)
  refine wpAny_getItem_list_slice ht.isList (Heap.IsSliceOf.new ..) .none .none (.int (-1) t) (by decide) ?_ (by rw [av]<;>omega)
  rw [krv_pick]
  refine⟨.ref _,_,I4.laid (t':=s2.toks) (o:= .lst xs.reverse) (fun b ob q=>af _ q) (aj _) ?_,rfl,RK.ow_new (xs:=ds.reverse) k3 st2.gh rq.rev (I4.hok.fresh (aj _))⟩
  exact⟨by simpa using hz,_,0,r.reverse,ag _ rfl⟩
 ·have:RK X.K ad G2 H2 (if i= -1 then aH2 d1 else .bad) Q E:=k2
  rw [if_neg hi] at this
  exact this.elim
theorem aEl (ho:ME X ad o f) (hbase:attributeBase o "bit_length" X.env (eval o X.env)=eval o X.env) (hline:(ap.endLine==cp.line)=true):ME X ad (.Call (.Attribute o "bit_length" ap) [] [] cp) (aA aH3 [f]):=by
 intro pins s σ H Q I ⟨G,ρ,E,hG,hS,hx,hr⟩
 unfold aA at hr
 rw [mC] at hr
 refine wpAny_Call_method_late hbase (by rfl) hline rfl (L2.thn (ho.thn I hG hS hx hr) fun v s1 hz_=> ?_)
 obtain⟨x,d,G1,H1,I1,r1,st1,q1,k1⟩:=hz_
 cases d<;>try exact ay k1
 rename_i i
 unfold Rep at q1;subst q1
 obtain⟨t,rfl⟩:=r1
 have k2:RK X.K ad G1 H1 (.ok (.int (Builtin.Int.intBits i))) Q E:=k1
 refine⟨"int","int.bit_length",PySem.F.plainAttrs_int,PySem.F.slot_int_bit_length,PySem.F.type_int_bit_length,typeIs_int s1 i t,(fun a' ea=>by cases ea), ?_⟩
 refine PyProof.Rows.callWith_method0 ?_
 exact call_int_bit_length ⟨.int _,H1,I1.tok _,⟨_,rfl⟩,k2.ok_now st1.gh aM⟩
theorem aJa (ha:ME X ad a f) (he: ∀ whole,isTrue a X.env whole=(do let v<-whole;standAt a.pos;holding [v] (truthy v))):MT X ad a (aLy f):=by
 intro pins s σ H Q I ⟨G,ρ,E,hG,hS,hx,ht,hr⟩
 refine isTrue_plain (L2.thn (ha.thn I hG hS hx hr) fun v s1 ⟨x,d,G1,H1,I1,r1,st1,q1,k1⟩=> ?_) (he _)
 cases d<;>try exact ay k1
 ·rename_i b
  have k2:RK X.K ad G1 H1 (.ok (.bl b)) (fun v H'=> ∃ b,v= .bl b/\Q b H') E:=k1
  unfold Rep at q1;subst q1
  cases r1
  obtain⟨b',e,q⟩:=k2.ok_now st1.gh (by unfold Rep;rfl)
  cases e
  exact wpAny_truthy_bool ⟨H1,I1,q⟩
 ·rename_i ds
  have k2:RK X.K ad G1 H1 (.ok (.bl (!ds.isEmpty))) (fun v H'=> ∃ b,v= .bl b/\Q b H') E:=k1
  unfold Rep at q1
  obtain⟨l,xs,rfl,hq,rq⟩:=q1
  cases (show v=Value.ref l from r1)
  obtain⟨its,rv,ht2,hz⟩:=I1.list (st1.gh.seq hq)
  have hl:=rv.length
  have hlen:=rq.length
  have:(sizeLine:Nat)<2 ^ 63 - 1:=by decide
  refine wpAny_truthy_list ht2.isList (by simp only [av];omega) ?_
  obtain⟨b',e,q⟩:=k2.ok_now st1.gh (v:= .bl (!ds.isEmpty)) (by unfold Rep;rfl)
  cases e
  have e2:(!its.toArray.isEmpty)= !ds.isEmpty:=by
   have e3:ds.length=its.length:=by omega
   cases ds with
   | nil=>cases its with
    | nil=>rfl
    | cons _ _=>simp at e3
   | cons _ _=>cases its with
    | nil=>simp at e3
    | cons _ _=>rfl
  rw [e2]
  exact⟨H1,I1.kept (t':=s1.toks+1+1) (fun _ _ q=>q),q⟩
theorem aNi (c1:ME X ad c f) (c2:MT X ad c f):MT X ad c (if yX c then aLy f else f):=by
 cases c<;>first | exact c2 | exact aJa c1 (fun _=>rfl)
end
section
variable {X:Cx} {ad:Ad} {Z:(St->Nat->Hp->Prop)->Prop} {pins:List (Addr×Obj)} {s:Shared} {σ:St} {H G G₀:Hp} {ρ:Rho} {D':Ends} {E:St->Nat->Hp->Prop} {pos pos':Pos} {e:Expr} {f:F} {g h:FS} {st:Stmt} {sts:List Stmt}
mutual
theorem Rep.less {K:PySem.W.Frag} {G G2:Hp} (le: ∀ b xs,Rd G b (.tup xs)->G2 b=G b): ∀ {d:D} {v:V},noL d=true->Rep K ad G d v->Rep K ad G2 d v
 | .non,_,_,h=>h
 | .bl _,_,_,h=>h
 | .int _,_,_,h=>h
 | .str _,_,_,h=>h
 | .tup ds,v,n,h=>by
  unfold Rep at h ⊢
  obtain⟨a,vs,h1,h2,h3⟩:=h
  refine⟨a,vs,h1, ?_,aF.less le n h3⟩
  rcases h2 with h2 | h2
  ·refine .inl ?_
   have:=le a vs h2
   unfold Rd at h2 ⊢
   rw [this]
   exact h2
  ·exact .inr h2
 | .lst _,_,n,_=>by cases n
 | .exc _,_,n,_=>by cases n
 | .fn _,_,n,_=>by cases n
 | .rnk,_,n,_=>by cases n
theorem aF.less {K:PySem.W.Frag} {G G2:Hp} (le: ∀ b xs,Rd G b (.tup xs)->G2 b=G b): ∀ {ds:List D} {vs:List V},aLz ds=true->aF K ad G ds vs->aF K ad G2 ds vs
 | [],_,_,h=>h
 | d::ds,vs,n,h=>by
  unfold aF at h ⊢
  obtain⟨v,r,h1,h2,h3⟩:=h
  have n':(noL d&&aLz ds)=true:=n
  rw [au] at n'
  exact⟨v,r,h1,Rep.less le n'.1 h2,aF.less le n'.2 h3⟩
end
end
section
variable {X:Cx} {ad:Ad} {pins:List (Addr×Obj)} {s:Shared} {σ:St} {H G:Hp} {pos:Pos}
theorem aEm {P:Program} {w:World} {h:Heap} {a:Addr} (d:aIa h a):ObjOk P w H h a (aGj a):=by
 refine⟨d, ?_,fun h1 h2 d k=> ?_⟩
 ·obtain⟨_,_,_,_,d⟩:=d
  obtain⟨o,_,_,ho,_⟩:=d P w
  exact⟨o,ho⟩
 ·obtain⟨z,t0,t1,t2,d⟩:=d
  refine⟨z,t0,t1,t2,fun P' w'=> ?_⟩
  obtain⟨o,es,ep,ho,r⟩:=d P' w'
  exact⟨o,es,ep,k _ ho,r⟩
theorem aEn (I:Inv X pins σ H s):(s.heap.objs.size==sysModules)=false:=by
 obtain⟨o,_,_,ho,_⟩:=I.mod.glob
 have h:=ah (I.bk _ _ ho)
 have e:mainGlobals=3:=rfl
 have e2:sysModules=1:=rfl
 rw [e] at h
 rw [e2]
 exact beq_false_of_ne (fun z:s.heap.objs.size=1=>by have h2:(3:Nat)<s.heap.objs.size:=h;rw [z] at h2;exact absurd h2 (by decide))
theorem aJb {j1 j2 j3 j4 j5 j6:Nat} {p1 p2 p3 p4 p5 p6:Pos}:ME X ad (.Dict [some (.Constant (.int 0) j1 p1),some (.Constant (.int 1) j2 p2),some (.Constant .none j3 p3)] [.Constant (.int 0) j4 p4, .Constant (.int 1) j5 p5, .Constant (.int 2) j6 p6] pos) (rK .rnk):=by
 intro pins s σ H Q I ⟨G,ρ,E,hG,hS,hx,hr⟩
 refine wpAny_Dict_pairs (knd:=pV X.prog X.w) (pairs:=[(eval (.Constant (.int 0) j1 p1) X.env,do let x<-eval (.Constant (.int 0) j4 p4) X.env;standAt pos;pure x),(eval (.Constant (.int 1) j2 p2) X.env,do let x<-eval (.Constant (.int 1) j5 p5) X.env;standAt pos;pure x),(eval (.Constant .none j3 p3) X.env,do let x<-eval (.Constant (.int 2) j6 p6) X.env;standAt pos;pure x)]) rfl (by simp) (by simp) ?_
 refine evalPairs_cons (wpAny_Constant_int (aa (wpAny_Constant_int (aa (wpAny_standAt (ae ?_))))))
 refine evalPairs_cons (wpAny_Constant_int (aa (wpAny_Constant_int (aa (wpAny_standAt (ae ?_))))))
 refine evalPairs_cons (Constant_none (aa (wpAny_Constant_int (aa (wpAny_standAt (ae ?_))))))
 refine evalPairs_nil ⟨[(some 0,_),(some 1,_),(none,_)],⟨rfl,rfl,rfl,rfl,rfl,rfl,trivial⟩,Heap.DictOf.new s.heap,fun h' d sb=> ?_⟩
 have hf:H s.heap.objs.size=none:=I.hok.fresh (aj _)
 have st:Step G H (upd G s.heap.objs.size (aGj s.heap.objs.size)) (upd H s.heap.objs.size (aGj s.heap.objs.size)):=Step.new hG hf
 refine⟨.ref s.heap.objs.size,upd H s.heap.objs.size (aGj s.heap.objs.size),I.laid (fun b u e=>(sb.2 b (bg (ah e))).trans (af _ e)) (aj _) (aEm ⟨aEn I,_,_,_,aDg d⟩),rfl,hr _ _ _ st ?_⟩
 unfold Rep
 exact⟨_,rfl,aN⟩
end
noncomputable def tab (m mv:Nat) (ps:List Nat):SetTable:={ mask:=m,place:=ps.toArray,dummies:= #[],finger:=0,led:=true,moves:=mv,plain:=true }
noncomputable def tbl (m mv:Nat) (led:Bool) (ps:List Nat):SetTable:={ mask:=m,place:=ps.toArray,dummies:= #[],finger:=0,led:=led,moves:=mv,plain:=true }
noncomputable def adv (m:Nat) (p:SetTable.Probe):SetTable.Probe:=(tab m 0 []).advance p
noncomputable def pr (m:Nat) (h:Int):Nat->SetTable.Probe
 | 0=>(tab m 0 []).probeStart h
 | k+1=>adv m (pr m h k)
noncomputable def lp (m:Nat) (h:Int):Nat->Nat×Nat
 | 0=>(SetTable.bits h % (m+1),SetTable.bits h)
 | r+1=>SetTable.leap m (lp m h r).1 (lp m h r).2
def Rch (m:Nat) (h:Int) (ps:List Nat) (p:Nat):Prop:= ∃ k,k<10 * SetTable.turns m/\(pr m h k).j=p/\ ∀ b,b<k->(pr m h b).j∈ps
structure TI (m:Nat) (L:List (Nat×Int×Value)):Prop where
 up:(L.map (·.1)).Pairwise (· < ·)
 le: ∀ x∈L,x.1<=m
 rch: ∀ x∈L,Rch m x.2.1 (L.map (·.1)) x.1
mutual
noncomputable def hk:PyData->Bool
 | .none=>true
 | .int _=>true
 | .tuple xs=>hks xs
 | _=>false
noncomputable def hks:List PyData->Bool
 | []=>true
 | x::xs=>hk x&&hks xs
end
mutual
noncomputable def hsh:PyData->Int
 | .none=>0xFCA86420
 | .int i=>hashInt i
 | .tuple xs=>reduceHash (Builtin.Tuple.tupleHashOf (yI xs))
 | _=>0
noncomputable def yI:List PyData->List Int
 | []=>[]
 | x::xs=>hsh x::yI xs
end
mutual
theorem rZ: ∀ d:PyData,hk d=true->d.canLay0=true
 | .none,_=>rfl
 | .int _,_=>rfl
 | .tuple xs,h=>by
  rw [hk] at h
  rw [PyData.canLay0]
  exact wO xs h
 | .bool _,h=>by simp [hk] at h
 | .str _,h=>by simp [hk] at h
 | .list _,h=>by simp [hk] at h
 | .dict _,h=>by simp [hk] at h
theorem wO: ∀ xs:List PyData,hks xs=true->PyData.canLayAll0 xs=true
 | [],_=>rfl
 | x::xs,h=>by
  rw [hks,au] at h
  rw [PyData.canLayAll0,rZ x h.1,wO xs h.2]
  rfl
end
mutual
theorem qJ: ∀ d1 d2:PyData,hk d1=true->hk d2=true->PyData.eqv d1 d2=true->d1=d2
 | .none,d2,_,h2,e=>by cases d2<;>simp [hk] at h2<;>simp [PyData.eqv] at e ⊢
 | .int i,d2,_,h2,e=>by cases d2<;>simp [hk] at h2<;>simp [PyData.eqv] at e ⊢<;>exact e
 | .tuple xs,d2,h1,h2,e=>by
  cases d2<;>simp [hk] at h2<;>simp [PyData.eqv] at e
  rename_i ys
  rw [r8 xs ys (by simpa [hk] using h1) h2 e]
 | .bool _,_,h,_,_=>by simp [hk] at h
 | .str _,_,h,_,_=>by simp [hk] at h
 | .list _,_,h,_,_=>by simp [hk] at h
 | .dict _,_,h,_,_=>by simp [hk] at h
theorem r8: ∀ xs ys:List PyData,hks xs=true->hks ys=true->PyData.eqvAll xs ys=true->xs=ys
 | [],[],_,_,_=>rfl
 | [],_::_,_,_,e=>by simp [PyData.eqvAll] at e
 | _::_,[],_,_,e=>by simp [PyData.eqvAll] at e
 | x::xs,y::ys,h1,h2,e=>by
  rw [hks,au] at h1 h2
  rw [PyData.eqvAll,au] at e
  rw [qJ x y h1.1 h2.1 e.1,r8 xs ys h1.2 h2.2 e.2]
end
section
variable {prog:Program} {w:World}
theorem oJ {A:Around} {s:Shared} {Q:Int->Shared->Prop} {E:Value->Shared->Prop} (h:Q 0xFCA86420 { s with toks:=s.toks+1 }):wpAny (model prog w) A (pyHash .none) Q E s:=by
 have hT:s.TypeIs .none "NoneType":=rfl
 unfold pyHash pyHashByItsType
 refine aa (wpAny_cRoomFor_or (.inl rfl) ?_)
 refine aa (wpAny_specialOf hT F.slot_NoneType_hash.lookup ?_)
 show wpAny _ _ (if(some (Value.builtin "NoneType.__hash__")==some Value.none)=true then _ else _) Q E s
 rw [if_neg (by rw [beq_builtin_none];exact bd)]
 refine aa (wpAny_specialOf hT F.slot_NoneType_hash.lookup ?_)
 show wpAny _ _ (callSpecialIfBoundUnlessNone? .none "__hash__" _ >>= _) Q E s
 refine aa (wpAny_callSpecialIfBoundUnlessNone?_slot hT F.slot_NoneType_hash (wpAny_call_entry F.slot_NoneType_hash hT F.entry_NoneType_hash ?_ (F.args_NoneType_hash_1 _)))
 show wpAny _ _ (retInt 0xFCA86420) _ _ s
 refine wpAny_ret_mkInt ?_
 exact ae h
mutual
noncomputable def dr:PyData->Nat
 | .tuple xs=>drs xs+1
 | _=>1
noncomputable def drs:List PyData->Nat
 | []=>0
 | x::xs=>dr x+drs xs
end
theorem aEo: ∀ (n:Nat) (d:PyData) (v:Value) (as:List Addr) (A:Around) (s:Shared) (Q:Int->Shared->Prop) (E:Value->Shared->Prop),hk d=true->d.depth<=n->Reads s.heap v d as->A.units+n<cLine->Q (hsh d) { s with toks:=s.toks+dr d }->wpAny (model prog w) A (pyHash v) Q E s:=by
 intro n
 induction n with
 | zero=>
  intro d v as A s Q E hd hn hr hu h
  cases hr with
  | none=>exact oJ (by simpa [hsh,dr] using h)
  | int i t=>exact wpAny_pyHash_int (by simpa [hsh,dr] using h)
  | bool b=>cases hd
  | str x t=>cases hd
  | list=>cases hd
  | tuple=>simp [PyData.depth] at hn
  | dict=>cases hd
 | succ n ih=>
  intro d v as A s Q E hd hn hr hu h
  cases hr with
  | none=>exact oJ (by simpa [hsh,dr] using h)
  | int i t=>exact wpAny_pyHash_int (by simpa [hsh,dr] using h)
  | bool b=>cases hd
  | str x t=>cases hd
  | list=>cases hd
  | dict=>cases hd
  | @tuple a o vs k xs as ho hc hdat hall=>
   have hT:s.TypeIs (.ref a) "tuple":=⟨o,ho,hc⟩
   have hd':hks xs=true:=by simpa [hk] using hd
   have hn':PyData.depthAll xs<=n:=by simp only [PyData.depth] at hn;omega
   unfold pyHash
   unfold pyHashByItsType
   refine aa (wpAny_cRoomFor_or (.inr (by omega)) ?_)
   refine aa (wpAny_specialOf hT F.slot_tuple_hash.lookup ?_)
   show wpAny _ _ (if(some (Value.builtin "tuple.__hash__")==some Value.none)=true then _ else _) Q E s
   rw [if_neg (by rw [beq_builtin_none];exact bd)]
   refine aa (wpAny_specialOf hT F.slot_tuple_hash.lookup ?_)
   show wpAny _ _ (callSpecialIfBoundUnlessNone? (.ref a) "__hash__" _ >>= _) Q E s
   refine aa (wpAny_callSpecialIfBoundUnlessNone?_slot hT F.slot_tuple_hash (wpAny_call_entry F.slot_tuple_hash hT F.entry_tuple_hash ?_ (F.args_tuple_hash_1 _)))
   show wpAny _ _ (Builtin.Tuple.tupleItemsOf (.ref a) >>= _) _ _ s
   refine aa (wpAny_tupleItemsOf ho hdat ?_)
   refine aa ?_
   rw [<-Array.forIn_toList]
   refine wpAny_forIn_list _
    (fun gO (b:Array Int) s'=> ∃ ds bs tk,ReadsAll s.heap gO ds bs/\hks ds=true/\PyData.depthAll ds<=n/\yI xs=b.toList++yI ds/\s.toks+drs xs=tk+drs ds/\s'={ s with toks:=tk })
    _ ?_ ?_ _ _ ⟨xs,as,s.toks,hall,hd',hn',rfl,rfl,rfl⟩
   ·rintro x gO b s' ⟨ds,bs,tk,hra,k1,k2,k3,k4,rfl⟩
    cases hra with
    | @cons _ _ d1 ds1 as1 bs1 r1 r2=>
     simp only [hks,au] at k1
     simp only [PyData.depthAll] at k2
     refine aa (ih d1 x as1 _ _ _ _ k1.1 (by omega) r1 (by have:=A.in1_units;omega) ?_)
     have k5:s.toks+drs xs=tk+dr d1+drs ds1:=by rw [k4];simp only [drs];omega
     first
      | exact ae ⟨ds1,bs1,_,r2,k1.2,by omega,by rw [k3];simp [yI],k5,rfl⟩
      | exact aa (ae (ae ⟨ds1,bs1,_,r2,k1.2,by omega,by rw [k3];simp [yI],k5,rfl⟩))
   ·rintro b s' ⟨ds,bs,tk,hra,k1,k2,k3,k4,rfl⟩
    cases hra
    simp only [yI,List.append_nil] at k3
    have h':=h
    simp only [hsh,k3,dr,show s.toks+(drs xs+1)=tk+1 from by simp only [drs] at k4;omega] at h'
    show wpAny _ _ (retInt (Builtin.Tuple.tupleHashOf b.toList)) _ _ _
    refine wpAny_ret_mkInt ?_
    show wpAny _ _ (if(decide (-(2:Int) ^ 63<=Builtin.Tuple.tupleHashOf b.toList)&&decide (Builtin.Tuple.tupleHashOf b.toList<2 ^ 63))=true then _ else _) Q E _
    unfold reduceHash at h'
    by_cases hr:(decide (-(2:Int) ^ 63<=Builtin.Tuple.tupleHashOf b.toList)&&decide (Builtin.Tuple.tupleHashOf b.toList<2 ^ 63))=true
    ·rw [if_pos hr]
     rw [if_pos hr] at h'
     exact ae h'
    ·rw [if_neg hr]
     rw [if_neg hr] at h'
     exact aa (wpAny_rule (ae h'))
theorem aAa: ∀ (n:Nat) (d:PyData) (v:Value) (as:List Addr) (A:Around) (s:Shared) (Q:Bool->Shared->Prop) (E:Value->Shared->Prop),hk d=true->d.depth<=n->Reads s.heap v d as->Q true s->wpAny (model prog w) A (eqIsQuiet n v) Q E s:=by
 intro n
 induction n with
 | zero=>
  intro d v as A s Q E hd hn hr h
  cases hr with
  | tuple=>simp [PyData.depth] at hn
  | none=>rw [eqIsQuiet_byValue _ rfl];exact ae h
  | int i t=>rw [eqIsQuiet_byValue _ rfl];exact ae h
  | bool b=>cases hd
  | str x t=>cases hd
  | list=>cases hd
  | dict=>cases hd
 | succ n ih=>
  intro d v as A s Q E hd hn hr h
  cases hr with
  | none=>rw [eqIsQuiet_byValue _ rfl];exact ae h
  | int i t=>rw [eqIsQuiet_byValue _ rfl];exact ae h
  | bool b=>cases hd
  | str x t=>cases hd
  | list=>cases hd
  | dict=>cases hd
  | @tuple a o vs k xs as ho hc hdat hall=>
   have hT:s.TypeIs (.ref a) "tuple":=⟨o,ho,hc⟩
   have hd':hks xs=true:=by simpa [hk] using hd
   have hn':PyData.depthAll xs<=n:=by simp only [PyData.depth] at hn;omega
   unfold eqIsQuiet
   refine aa (wpAny_specialOf hT F.slot_tuple_eq.lookup ?_)
   show wpAny _ _ (isInstance (.ref a) (.type "tuple") >>= _) _ _ s
   refine aa (wpAny_isInstance hT isSubtype_tuple_tuple ?_)
   simp only [Bool.not_true,ax,if_false]
   refine aa (wpAny_seqItems ho hdat ?_)
   refine aa ?_
   show wpAny _ _ (forIn vs _ _) _ _ s
   rw [<-Array.forIn_toList]
   refine wpAny_forIn_list _ (fun gO r s'=>r.1=none/\s'=s/\ ∃ ds bs,ReadsAll s.heap gO ds bs/\hks ds=true/\PyData.depthAll ds<=n) _ ?_ ?_ _ _ ⟨rfl,rfl,xs,as,hall,hd',hn'⟩
   ·rintro x gO r s' ⟨hr,rfl,ds,bs,hra,k1,k2⟩
    cases hra with
    | @cons _ _ d1 ds1 as1 bs1 r1 r2=>
     simp only [hks,au] at k1
     simp only [PyData.depthAll] at k2
     refine aa (ih d1 x as1 _ _ _ _ k1.1 (by omega) r1 ?_)
     simp only [Bool.not_true,ax,if_false]
     exact ae ⟨rfl,rfl,ds1,bs1,r2,k1.2,by omega⟩
   ·rintro⟨r1,r2⟩ s' ⟨hr,rfl,_⟩
    simp only at hr
    subst hr
    exact ae h
end
section
variable {prog:Program} {w:World} {A:Around} {E:Value->Shared->Prop} {s:Shared}
end
section
variable {prog:Program} {w:World} {A:Around} {E:Value->Shared->Prop} {s:Shared}
end
def Key (h:Heap) (d:PyData) (v:Value):Prop:=(∃ b,v= .ref b)/\hk d=true/\d.depth<=8/\ ∃ as,Reads h v d as
section
variable {prog:Program} {w:World} {A:Around} {E:Value->Shared->Prop} {s:Shared}
end
mutual
theorem mM: ∀ {x y:D},same x y=true->(rE x).length=(rE y).length
 | .int _,y,h=>by cases y<;>simp [same] at h;rfl
 | .tup xs,y,h=>by
  cases y<;>simp [same] at h
  simp only [rE];exact oK h
 | .non,_,h=>by simp [same] at h
 | .bl _,_,h=>by simp [same] at h
 | .str _,_,h=>by simp [same] at h
 | .lst _,_,h=>by simp [same] at h
 | .exc _,_,h=>by simp [same] at h
 | .fn _,_,h=>by simp [same] at h
 | .rnk,_,h=>by simp [same] at h
theorem oK: ∀ {xs ys:List D},cD xs ys=true->(jP xs).length=(jP ys).length
 | [],[],_=>rfl
 | [],_::_,h=>by simp [cD] at h
 | _::_,[],h=>by simp [cD] at h
 | x::xs,y::ys,h=>by
  simp only [cD,au] at h
  simp only [jP,bn,mM h.1,oK h.2]
end
mutual
theorem aAb: ∀ {x y:D},same x y=true->rE x=rE y->x=y
 | .int _,y,h,e=>by cases y<;>simp [same] at h;simpa [rE] using e
 | .tup xs,y,h,e=>by
  cases y<;>simp [same] at h
  simp only [rE] at e
  rw [oM h e]
 | .non,_,h,_=>by simp [same] at h
 | .bl _,_,h,_=>by simp [same] at h
 | .str _,_,h,_=>by simp [same] at h
 | .lst _,_,h,_=>by simp [same] at h
 | .exc _,_,h,_=>by simp [same] at h
 | .fn _,_,h,_=>by simp [same] at h
 | .rnk,_,h,_=>by simp [same] at h
theorem oM: ∀ {xs ys:List D},cD xs ys=true->jP xs=jP ys->xs=ys
 | [],[],_,_=>rfl
 | [],_::_,h,_=>by simp [cD] at h
 | _::_,[],h,_=>by simp [cD] at h
 | x::xs,y::ys,h,e=>by
  simp only [cD,au] at h
  simp only [jP] at e
  obtain⟨e1,e2⟩:=List.append_inj e (mM h.1)
  rw [aAb h.1 e1,oM h.2 e2]
end
mutual
theorem aAc: ∀ {x y:D},same x y=true->deq x y=(rE x==rE y)
 | .int i,y,h=>by
  cases y<;>simp [same] at h
  simp [deq,rE]
 | .tup xs,y,h=>by
  cases y<;>simp [same] at h
  simp only [deq,rE];exact oN h
 | .non,_,h=>by simp [same] at h
 | .bl _,_,h=>by simp [same] at h
 | .str _,_,h=>by simp [same] at h
 | .lst _,_,h=>by simp [same] at h
 | .exc _,_,h=>by simp [same] at h
 | .fn _,_,h=>by simp [same] at h
 | .rnk,_,h=>by simp [same] at h
theorem oN: ∀ {xs ys:List D},cD xs ys=true->tF xs ys=(jP xs==jP ys)
 | [],[],_=>rfl
 | [],_::_,h=>by simp [cD] at h
 | _::_,[],h=>by simp [cD] at h
 | x::xs,y::ys,h=>by
  simp only [cD,au] at h
  simp only [tF,jP,aAc h.1,oN h.2]
  rw [Bool.eq_iff_iff]
  simp only [au,beq_iff_eq]
  constructor
  ·rintro⟨a,b⟩;rw [a,b]
  ·intro e;exact List.append_inj e (mM h.1)
end
mutual
theorem aEp: ∀ {x:D},same x x=true->hk (bL x)=true
 | .int _,_=>by simp [bL,hk]
 | .tup xs,h=>by
  simp only [bL,hk];exact sA (by simpa [same] using h)
 | .non,h=>by simp [same] at h
 | .bl _,h=>by simp [same] at h
 | .str _,h=>by simp [same] at h
 | .lst _,h=>by simp [same] at h
 | .exc _,h=>by simp [same] at h
 | .fn _,h=>by simp [same] at h
 | .rnk,h=>by simp [same] at h
theorem sA: ∀ {xs:List D},cD xs xs=true->hks (dJ xs)=true
 | [],_=>by simp [dJ,hks]
 | x::xs,h=>by
  simp only [cD,au] at h
  simp [dJ,hks,aEp h.1,sA h.2]
end
mutual
theorem tW: ∀ {x:D},same x x=true->plain x=true
 | .int _,_=>by simp [plain]
 | .tup xs,h=>by
  simp only [plain];exact j7 (by simpa [same] using h)
 | .non,h=>by simp [same] at h
 | .bl _,h=>by simp [same] at h
 | .str _,h=>by simp [same] at h
 | .lst _,h=>by simp [same] at h
 | .exc _,h=>by simp [same] at h
 | .fn _,h=>by simp [same] at h
 | .rnk,h=>by simp [same] at h
theorem j7: ∀ {xs:List D},cD xs xs=true->bC xs=true
 | [],_=>by simp [bC]
 | x::xs,h=>by
  simp only [cD,au] at h
  simp [bC,tW h.1,j7 h.2]
end
mutual
theorem aJc: ∀ {x y:D},same x y=true->same y y=true/\same x x=true/\dep y=dep x
 | .int _,y,h=>by cases y<;>simp [same] at h;simp [same,dep]
 | .tup xs,y,h=>by
  cases y<;>simp [same] at h
  simp only [same,dep]
  have:=wP h
  exact⟨this.1,this.2.1,by rw [this.2.2]⟩
 | .non,_,h=>by simp [same] at h
 | .bl _,_,h=>by simp [same] at h
 | .str _,_,h=>by simp [same] at h
 | .lst _,_,h=>by simp [same] at h
 | .exc _,_,h=>by simp [same] at h
 | .fn _,_,h=>by simp [same] at h
 | .rnk,_,h=>by simp [same] at h
theorem wP: ∀ {xs ys:List D},cD xs ys=true->cD ys ys=true/\cD xs xs=true/\pN ys=pN xs
 | [],[],_=>⟨rfl,rfl,rfl⟩
 | [],_::_,h=>by simp [cD] at h
 | _::_,[],h=>by simp [cD] at h
 | x::xs,y::ys,h=>by
  simp only [cD,au] at h
  have a:=aJc h.1
  have b:=wP h.2
  simp only [cD,pN,a.1,b.1,a.2.1,b.2.1,a.2.2,b.2.2,Bool.and_self,and_self]
end
mutual
theorem aEq: ∀ {x y z:D},same x y=true->same x z=true->same y z=true
 | .int _,y,z,h,k=>by cases y<;>simp [same] at h;cases z<;>simp [same] at k;rfl
 | .tup xs,y,z,h,k=>by
  cases y<;>simp [same] at h
  cases z<;>simp [same] at k
  simp only [same];exact sB h k
 | .non,_,_,h,_=>by simp [same] at h
 | .bl _,_,_,h,_=>by simp [same] at h
 | .str _,_,_,h,_=>by simp [same] at h
 | .lst _,_,_,h,_=>by simp [same] at h
 | .exc _,_,_,h,_=>by simp [same] at h
 | .fn _,_,_,h,_=>by simp [same] at h
 | .rnk,_,_,h,_=>by simp [same] at h
theorem sB: ∀ {xs ys zs:List D},cD xs ys=true->cD xs zs=true->cD ys zs=true
 | [],[],[],_,_=>rfl
 | [],_::_,_,h,_=>by simp [cD] at h
 | [],[],_::_,_,h=>by simp [cD] at h
 | _::_,[],_,h,_=>by simp [cD] at h
 | _::_,_::_,[],_,h=>by simp [cD] at h
 | x::xs,y::ys,z::zs,h,k=>by
  simp only [cD,au] at h k ⊢
  exact⟨aEq h.1 k.1,sB h.2 k.2⟩
end
section
variable {prog:Program} {w:World}
end
section
variable {O:KeyOrd} {key:Nat->O.α} {n:Nat} {cmp:Nat->Nat->(Bool->Shared->Prop)->Shared->Prop} {s:Shared}
noncomputable def PK (key:Nat->O.α) (p:Array Nat) (i:Nat):O.α:=key (p.getD i 0)
def Gd (n:Nat) (p:Array Nat):Prop:=p.Perm (List.toArray (List.range n))
theorem Gd.size {p:Array Nat} (g:Gd n p):p.size=n:=by rw [Array.Perm.size_eq g];simp
theorem Gd.lt {p:Array Nat} (g:Gd n p) {i:Nat} (hi:i<n):p.getD i 0<n:=by
 have h:i<p.size:=by rw [g.size];exact hi
 have e:p.getD i 0=p[i]:=by simp [Array.getD,h]
 have m:p[i]∈p:=Array.getElem_mem h
 have:=(Array.Perm.mem_iff g).mp m
 rw [e]
 simpa using this
def Srt (key:Nat->O.α) (p:Array Nat) (m:Nat):Prop:= ∀ i j,i<=j->j<m->O.kle (PK key p i) (PK key p j)
def Fal (key:Nat->O.α) (p:Array Nat) (m:Nat):Prop:= ∀ i j,i<=j->j<m->O.kle (PK key p j) (PK key p i)
def Cm (key:Nat->O.α) (n:Nat) (cmp:Nat->Nat->(Bool->Shared->Prop)->Shared->Prop) (s:Shared):Prop:= ∀ i j (C:Bool->Shared->Prop),i<n->j<n->C (O.blt (key i) (key j)) s->cmp i j C s
theorem oO {p q:Array Nat} {i j:Nat} (h:p[i]? =q[j]?):PK key p i=PK key q j:=by
 unfold PK
 simp only [Array.getD_eq_getD_getElem?,h]
theorem oP {p:Array Nat} {i j:Nat} (hj:j<=p.size) (k:Nat):PK key (kas_rev p i j) k=if i<=k/\k<j then PK key p (i+j - 1 - k) else PK key p k:=by
 have e:=getElem?_mirror_all (i:=i) hj k
 unfold kas_rev
 split
 ·rename_i h;rw [if_pos h] at e;exact oO e
 ·rename_i h;rw [if_neg h] at e;exact oO e
theorem oQ {p:Array Nat} (g:Gd n p) (i j:Nat):Gd n (kas_rev p i j):=(mirror_perm _ _ _ _).trans g
theorem aB5 {p:Array Nat} {k d:Nat} (hk:k<p.size) (hd:d<=k) (i:Nat):PK key (bubble p k d) i=if i=k - d then PK key p k else if k - d<i/\i<=k then PK key p (i - 1) else PK key p i:=by
 have e:=getElem?_bubble hk d hd i
 by_cases h1:i=k - d
 ·rw [if_pos h1] at e ⊢;exact oO e
 ·rw [if_neg h1] at e ⊢
  by_cases h2:k - d<i/\i<=k
  ·rw [if_pos h2] at e ⊢;exact oO e
  ·rw [if_neg h2] at e ⊢;exact oO e
theorem aJd {p:Array Nat} (g:Gd n p) (k d:Nat):Gd n (bubble p k d):=(bubble_perm _ _ _).trans g
theorem wQ (hc:Cm key n cmp s) {p:Array Nat} (g:Gd n p) {G:Nat->Shared->Prop}: ∀ (f k:Nat),1<=k->k+f<=n->Srt key p k->(∀ m,k<=m->m<=k+f->Srt key p m->(m<k+f->O.klt (PK key p m) (PK key p (m - 1)))->G m s)->(kas_asc p f k).kasWp cmp G s
 | 0,k,_,_,hs,h=>h k (aj _) (aj _) hs fun z=>absurd z (Nat.lt_irrefl _)
 | f+1,k,h1,hf,hs,h=>by
  refine hc _ _ _ (g.lt (by omega)) (g.lt (by omega)) ?_
  cases hb:O.blt (key (p.getD k 0)) (key (p.getD (k - 1) 0)) with
  | true=>exact h k (aj _) (by omega) hs fun _=>hb
  | false=>
   refine wQ hc g f (k+1) (by omega) (by omega) (fun i j hij hj=> ?_) fun m a b c d=>h m (by omega) (by omega) c fun z=>d (by omega)
   by_cases hjk:j<k
   ·exact hs i j hij hjk
   ·have:j=k:=by omega
    subst this
    by_cases hi:i=j
    ·subst hi;exact KeyOrd.kle_refl _
    ·exact KeyOrd.kle_trans (hs i (j - 1) (by omega) (by omega)) hb
theorem mO (hc:Cm key n cmp s) {G:Array Nat×Nat×Nat->Shared->Prop}: ∀ (f:Nat) (p:Array Nat) (k q:Nat),Gd n p->1<=k->k+f<=n->Fal key p k->q+1<=k->(∀ i,k - (q+1)<=i->i<k->PK key p i=PK key p (k - 1))->
  (∀ p' m q',Gd n p'->k<=m->m<=k+f->Fal key p' m->q'+1<=m->(∀ i,m - (q'+1)<=i->i<m->PK key p' i=PK key p' (m - 1))->G (p',m,q') s)->(kas_desc f p k q).kasWp cmp G s
 | 0,p,k,q,g,h1,hf,hs,hq,he,h=>h p k q g (aj _) (aj _) hs hq he
 | f+1,p,k,q,g,h1,hf,hs,hq,he,h=>by
  have gs:=g.size
  refine hc _ _ _ (g.lt (by omega)) (g.lt (by omega)) ?_
  cases hb:O.blt (key (p.getD k 0)) (key (p.getD (k - 1) 0)) with
  | true=>
   have step: ∀ p':Array Nat,(∀ i,PK key p' i=PK key p i)->Fal key p' (k+1):=fun p' hp i j hij hj=>by
    rw [hp,hp]
    by_cases hjk:j<k
    ·exact hs i j hij hjk
    ·have:j=k:=by omega
     subst this
     by_cases hi:i=j
     ·subst hi;exact KeyOrd.kle_refl _
     ·exact KeyOrd.kle_trans (KeyOrd.kle_of_klt hb) (hs i (j - 1) (by omega) (by omega))
   have same: ∀ i,PK key (kas_rev p (k - (q+1)) k) i=PK key p i:=fun i=>by
    rw [oP (by omega)]
    split
    ·rw [he _ (by omega) (by omega),he i (by omega) (by omega)]
    ·rfl
   show KasT.kasWp cmp (if true=true then(if q > 0 then kas_desc f (kas_rev p (k - (q+1)) k) (k+1) 0 else kas_desc f p (k+1) 0) else _) G s
   rw [if_pos rfl]
   split
   ·exact mO hc f _ (k+1) 0 (oQ g _ _) (by omega) (by omega) (step _ same) (by omega) (fun i a b=>by rw [show i=k+1 - 1 by omega]) fun p' m q' a b c=>h p' m q' a (by omega) (by omega)
   ·exact mO hc f _ (k+1) 0 g (by omega) (by omega) (step _ fun _=>rfl) (by omega) (fun i a b=>by rw [show i=k+1 - 1 by omega]) fun p' m q' a b c=>h p' m q' a (by omega) (by omega)
  | false=>
   show KasT.kasWp cmp (if false=true then _ else KasT.ask (p.getD (k - 1) 0) (p.getD k 0) fun d=>if d=true then .ret (p,k,q) else kas_desc f p (k+1) (q+1)) G s
   rw [if_neg (by decide)]
   refine hc _ _ _ (g.lt (by omega)) (g.lt (by omega)) ?_
   cases hd:O.blt (key (p.getD (k - 1) 0)) (key (p.getD k 0)) with
   | true=>exact h p k q g (aj _) (by omega) hs hq he
   | false=>
    have eq:PK key p k=PK key p (k - 1):=KeyOrd.kle_antisymm hd hb
    refine mO hc f p (k+1) (q+1) g (by omega) (by omega) (fun i j hij hj=> ?_) (by omega) (fun i a b=> ?_) fun p' m q' a b c=>h p' m q' a (by omega) (by omega)
    ·by_cases hjk:j<k
     ·exact hs i j hij hjk
     ·have:j=k:=by omega
      subst this
      by_cases hi:i=j
      ·subst hi;exact KeyOrd.kle_refl _
      ·rw [eq];exact hs i (j - 1) (by omega) (by omega)
    ·rw [show k+1 - 1=k by omega]
     by_cases hi:i=k
     ·subst hi;rfl
     ·rw [eq];exact he i (by omega) (by omega)
theorem wR (hc:Cm key n cmp s) {p:Array Nat} (g:Gd n p) {k:Nat} (h1:1<=k) (hk:k<=n) (hs:Fal key p k) {G:Nat×Array Nat->Shared->Prop} (h: ∀ m p',Gd n p'->1<=m->m<=n->Srt key p' m->G (m,p') s):(kas_tail3 k n p).kasWp cmp G s:=by
 unfold kas_tail3
 rw [KasT.kasWp_bind]
 have gs:=g.size
 refine wQ hc (oQ g 0 k) (n - k) k h1 (by omega) (fun i j hij hj=> ?_) fun m a b c _=>h m _ (oQ g 0 k) (by omega) (by omega) c
 rw [oP (by omega),oP (by omega),if_pos (by omega),if_pos (by omega)]
 exact hs _ _ (by omega) (by omega)
theorem wS (hc:Cm key n cmp s) {p:Array Nat} (g:Gd n p) {k:Nat} (hk:k+1<=n) (hs:Fal key p (k+1)) {G:Nat×Array Nat->Shared->Prop} (h: ∀ m p',Gd n p'->1<=m->m<=n->Srt key p' m->G (m,p') s):(kas_descPart k n p).kasWp cmp G s:=by
 unfold kas_descPart
 rw [KasT.kasWp_bind]
 refine mO hc _ p (k+1) 0 g (by omega) (by omega) hs (by omega) (fun i a b=>by rw [show i=k+1 - 1 by omega]) fun p' m q' g' a b f' c e=> ?_
 have gs:=g'.size
 dsimp only
 split
 ·refine wR hc (oQ g' _ _) (by omega) (by omega) (fun i j hij hj=> ?_) h
  have same: ∀ i,PK key (kas_rev p' (m - (q'+1)) m) i=PK key p' i:=fun i=>by
   rw [oP (by omega)]
   split
   ·rw [e _ (by omega) (by omega),e i (by omega) (by omega)]
   ·rfl
  rw [same,same];exact f' i j hij hj
 ·exact wR hc g' (by omega) (by omega) f' h
theorem aAd (hc:Cm key n cmp s) (hn:1<=n) {p:Array Nat} (g:Gd n p) {G:Nat×Array Nat->Shared->Prop} (h: ∀ m p',Gd n p'->1<=m->m<=n->Srt key p' m->G (m,p') s):(kas_count n p).kasWp cmp G s:=by
 unfold kas_count
 rw [KasT.kasWp_bind]
 have gs:=g.size
 refine wQ hc g (n - 1) 1 (aj _) (by omega) (fun i j hij hj=>by rw [show i=j by omega];exact KeyOrd.kle_refl _) fun m h1 h2 hs st=> ?_
 by_cases e:(m==n)=true
 ·rw [if_pos e];exact h m p g h1 (by omega) hs
 rw [if_neg e]
 have hmn:m<n:=by
  have:m≠n:=by simpa using e
  omega
 have hl:=st (by omega)
 by_cases hm:m > 1
 ·rw [if_pos hm]
  refine hc _ _ _ (g.lt (by omega)) (g.lt (by omega)) ?_
  cases hb:O.blt (key (p.getD 0 0)) (key (p.getD (m - 1) 0)) with
  | true=>exact h m p g h1 (by omega) hs
  | false=>
   -- all alike
   have eq: ∀ i,i<m->PK key p i=PK key p (m - 1):=fun i hi=>by
    have a:=hs i (m - 1) (by omega) (by omega)
    have b:O.kle (PK key p (m - 1)) (PK key p 0):=hb
    exact KeyOrd.kle_antisymm a (KeyOrd.kle_trans b (hs 0 i (bq _) hi))
   refine wS hc (oQ g 0 m) (by omega) (fun i j hij hj=> ?_) h
   have same: ∀ i,PK key (kas_rev p 0 m) i=PK key p i:=fun i=>by
    rw [oP (by omega)]
    split
    ·rw [eq _ (by omega),eq i (by omega)]
    ·rfl
   rw [same,same]
   by_cases hjm:j<m
   ·rw [eq j hjm,eq i (by omega)];exact KeyOrd.kle_refl _
   ·have:j=m:=by omega
    subst this
    by_cases hi:i=j
    ·subst hi;exact KeyOrd.kle_refl _
    ·rw [eq i (by omega)];exact KeyOrd.kle_of_klt hl
 ·rw [if_neg hm]
  have:m=1:=by omega
  subst this
  refine wS hc g (by omega) (fun i j hij hj=> ?_) h
  by_cases hi:i=j
  ·subst hi;exact KeyOrd.kle_refl _
  ·have h0:i=0:=by omega
   have h1':j=1:=by omega
   subst h0 h1'
   exact KeyOrd.kle_of_klt hl
theorem mP (hc:Cm key n cmp s) {p:Array Nat} (g:Gd n p) {k:Nat} (hk:k<n) (hs:Srt key p k) {G:Nat->Shared->Prop}: ∀ (f l r:Nat),l<=r->r<=k->r - l<=f->(∀ i,i<l->O.kle (PK key p i) (PK key p k))->(∀ i,r<=i->i<k->O.klt (PK key p k) (PK key p i))->
  (∀ l',l'<=k->(∀ i,i<l'->O.kle (PK key p i) (PK key p k))->(∀ i,l'<=i->i<k->O.klt (PK key p k) (PK key p i))->G l' s)->(kas_place p k f l r).kasWp cmp G s
 | 0,l,r,hlr,hrk,hf,lo,hi,h=>by
  have:l=r:=by omega
  subst this
  exact h l hrk lo hi
 | f+1,l,r,hlr,hrk,hf,lo,hi,h=>by
  unfold kas_place
  split
  ·have:l=r:=by omega
   subst this
   exact h l hrk lo hi
  ·refine hc _ _ _ (g.lt (by omega)) (g.lt (by omega)) ?_
   cases hb:O.blt (key (p.getD k 0)) (key (p.getD ((l+r) / 2) 0)) with
   | true=>
    refine mP hc g hk hs f l ((l+r) / 2) (by omega) (by omega) (by omega) lo (fun i a b=> ?_) h
    exact KeyOrd.klt_of_klt_of_kle hb (hs _ _ a b)
   | false=>
    refine mP hc g hk hs f ((l+r) / 2+1) r (by omega) (by omega) (by omega) (fun i a=> ?_) hi h
    exact KeyOrd.kle_trans (hs i ((l+r) / 2) (by omega) (by omega)) hb
theorem aB6 (hc:Cm key n cmp s) {G:Array Nat->Shared->Prop} (h: ∀ p',Gd n p'->Srt key p' n->G p' s): ∀ (f:Nat) (p:Array Nat) (k:Nat),Gd n p->k+f=n->Srt key p k->(kas_bin f p k).kasWp cmp G s
 | 0,p,k,g,e,hs=>by
  have:k=n:=by omega
  subst this
  exact h p g hs
 | f+1,p,k,g,e,hs=>by
  unfold kas_bin
  rw [KasT.kasWp_bind]
  have gs:=g.size
  refine mP hc g (by omega) hs k 0 k (bq _) (aj _) (by omega) (fun i z=>by omega) (fun i a b=>by omega) fun l hl lo hi=> ?_
  refine aB6 hc h f _ (k+1) (aJd g k (k - l)) (by omega) fun i j hij hj=> ?_
  have d:k - (k - l)=l:=by omega
  rw [aB5 (by omega) (by omega),aB5 (by omega) (by omega),d]
  by_cases i1:i=l
  ·rw [if_pos i1]
   by_cases j1:j=l
   ·rw [if_pos j1];exact KeyOrd.kle_refl _
   ·rw [if_neg j1,if_pos (by omega)]
    exact KeyOrd.kle_of_klt (hi _ (by omega) (by omega))
  ·rw [if_neg i1]
   by_cases i2:l<i/\i<=k
   ·rw [if_pos i2,if_neg (by omega),if_pos (by omega)]
    exact hs _ _ (by omega) (by omega)
   ·rw [if_neg i2]
    by_cases j1:j=l
    ·rw [if_pos j1];exact lo i (by omega)
    ·rw [if_neg j1]
     by_cases j2:l<j/\j<=k
     ·rw [if_pos j2];exact hs _ _ (by omega) (by omega)
     ·rw [if_neg j2];exact hs _ _ hij (by omega)
theorem qK (hc:Cm key n cmp s) (hn:1<=n) {G:Array Nat->Shared->Prop} (h: ∀ p',Gd n p'->Srt key p' n->G p' s):(kas_sort n).kasWp cmp G s:=by
 unfold kas_sort
 rw [KasT.kasWp_bind]
 refine aAd hc hn (Array.Perm.refl _) fun m p g h1 h2 hs=> ?_
 dsimp only
 split
 ·rw [show max m 1=m by omega]
  exact aB6 hc h _ p m g (by omega) hs
 ·have:m=n:=by omega
  subst this
  exact h p g hs
end
theorem gK: ∀ a,fE a a=false
 | []=>rfl
 | a::r=>by simp [fE,gK r]
theorem iM: ∀ a b c,fE a b=true->fE b c=true->fE a c=true
 | [],[],_,h,_=>by cases h
 | [],_::_,[],_,h=>by cases h
 | [],_::_,_::_,_,_=>rfl
 | _::_,[],_,h,_=>by cases h
 | _::_,_::_,[],_,h=>by cases h
 | a::r,b::t,c::u,h1,h2=>by
  unfold fE at h1 h2 ⊢
  by_cases ab:a=b
  ·subst ab
   rw [if_pos rfl] at h1
   by_cases ac:a=c
   ·rw [if_pos ac] at h2 ⊢;exact iM r t u h1 h2
   ·rw [if_neg ac] at h2 ⊢;exact h2
  ·rw [if_neg ab] at h1
   have h1:=of_decide_eq_true h1
   by_cases bc:b=c
   ·subst bc;rw [if_neg ab];exact decide_eq_true h1
   ·rw [if_neg bc] at h2
    have h2:=of_decide_eq_true h2
    rw [if_neg (by omega)];exact decide_eq_true (by omega)
theorem mQ: ∀ a b c,fE a c=true->fE a b=true\/fE b c=true
 | [],[],[],h=>by cases h
 | [],[],_::_,_=> .inr rfl
 | [],_::_,_,_=> .inl rfl
 | _::_,_,[],h=>by cases h
 | _::_,[],_::_,_=> .inr rfl
 | a::r,b::t,c::u,h=>by
  unfold fE at h ⊢
  by_cases ac:a=c
  ·subst ac
   rw [if_pos rfl] at h
   by_cases ab:a=b
   ·subst ab;rw [if_pos rfl,if_pos rfl];exact mQ r t u h
   ·rw [if_neg ab,if_neg (Ne.symm ab)]
    rcases Int.lt_or_gt_of_ne ab with z | z
    ·exact .inl (decide_eq_true z)
    ·exact .inr (decide_eq_true z)
  ·rw [if_neg ac] at h
   have h:=of_decide_eq_true h
   by_cases ab:a=b
   ·subst ab;rw [if_neg ac];exact .inr (decide_eq_true h)
   ·rw [if_neg ab]
    by_cases z:a<b
    ·exact .inl (decide_eq_true z)
    ·rw [if_neg (by omega)];exact .inr (decide_eq_true (by omega))
theorem iN: ∀ a b,fE a b=false->fE b a=false->a=b
 | [],[],_,_=>rfl
 | [],_::_,h,_=>by cases h
 | _::_,[],_,h=>by cases h
 | a::r,b::t,h1,h2=>by
  unfold fE at h1 h2
  by_cases ab:a=b
  ·subst ab
   rw [if_pos rfl] at h1 h2
   rw [iN r t h1 h2]
  ·rw [if_neg ab] at h1
   rw [if_neg (Ne.symm ab)] at h2
   have h1:=of_decide_eq_false h1
   have h2:=of_decide_eq_false h2
   omega
noncomputable def aB7:KeyOrd:=⟨List Int,fE,gK,iM,mQ,iN⟩
theorem aEr {a b c:List Int} (h1:fE b a=false) (h2:fE c b=false):fE c a=false:=by
 cases h:fE c a
 ·rfl
 ·rcases mQ c b a h with z | z
  ·rw [h2] at z;cases z
  ·rw [h1] at z;cases z
section
variable {prog:Program} {w:World} {A:Around} {Ex:Value->Shared->Prop} {s:Shared}
mutual
theorem tY {h h':Heap} (k: ∀ b o,o.cls= .type "tuple"->h.get? b=some o->h'.get? b=some o): ∀ {d:PyData} {v:Value} {as:List Addr},hk d=true->Reads h v d as->Reads h' v d as
 | _,_,_,_, .none=> .none
 | _,_,_,_, .int i t=> .int i t
 | _,_,_,hd, .tuple e c q r=> .tuple (k _ _ c e) c q (gW k (by simpa [hk] using hd) r)
 | _,_,_,hd, .bool _=>by simp [hk] at hd
 | _,_,_,hd, .str _ _=>by simp [hk] at hd
 | _,_,_,hd, .list _ _ _ _=>by simp [hk] at hd
 | _,_,_,hd, .dict _ _ _ _ _=>by simp [hk] at hd
theorem gW {h h':Heap} (k: ∀ b o,o.cls= .type "tuple"->h.get? b=some o->h'.get? b=some o): ∀ {ds:List PyData} {vs:List Value} {as:List Addr},hks ds=true->ReadsAll h vs ds as->ReadsAll h' vs ds as
 | _,_,_,_, .nil=> .nil
 | _,_,_,hd, .cons a b=>by
  simp only [hks,au] at hd
  exact .cons (tY k hd.1 a) (gW k hd.2 b)
end
end
section
variable {prog:Program} {w:World} {A:Around} {I:Addr} {fp wr:List Addr} {G:Array GenState->Array GenState->Prop} {n:Nat} {P:Nat->Value->Prop} {St:Nat->Shared->Prop} {E:Value->Shared->Prop} {s:Shared} {R:_->Shared->Prop}
end
section
variable {X:Cx} {ad:Ad} {G:Hp}
theorem oR {ds:List D} {vs:List V} (h:aF X.K ad G ds vs): ∀ {l:List Nat},(∀ i∈l,i<ds.length)->aF X.K ad G (l.map fun i=>ds.getD i .non) (l.map fun i=>vs.getD i .non)
 | [],_=>aF.nil
 | i::l,hl=>by
  have hi:=hl i (.head _)
  obtain⟨v,e,r⟩:=h.get (ba hi)
  refine aF.cons ?_ (oR h fun j hj=>hl j (.tail _ hj))
  have e1:ds.getD i .non=ds[i]:=by simp [hi]
  have e2:vs.getD i .non=v:=by simp [e]
  show Rep X.K ad G (ds.getD i .non) (vs.getD i .non)
  rw [e1,e2];exact r
theorem tZ (hu:X.A.units+62<cLine):BOp X ad (.builtin "sorted") pR:=by
 intro pins s σ H G x v u Q E I hG q ru hr
 have hr':RK X.K ad G H (match items x with | some ds=>rF ds | none=> .bad) Q E:=hr
 cases e1:items x with
 | none=>rw [e1] at hr';exact hr'.elim
 | some ds=>
  rw [e1] at hr'
  have hr2:RK X.K ad G H (match dI ds with
   | some ns=>if ns.length<64 then .ow ((l5 ns).map D.int) else .bad
   | none=> .bad) Q E:=hr'
  cases e2:dI ds with
  | some ns=>rw [e2] at hr2;exact kY I hG q ru e1 e2 hr2
  | none=>rw [e2] at hr2;exact hr2.elim
end
section
variable {prog:Program} {w:World} {A:Around} {E:Value->Shared->Prop} {s:Shared}
noncomputable def ddS (acc:List Nat) (n:Nat):List Nat:=if n∈acc then acc else n::acc
noncomputable def dd (ns:List Nat):List Nat:=ns.foldl ddS []
end
section
variable {prog:Program} {w:World} {A:Around} {E:Value->Shared->Prop} {s:Shared}
end
section
variable {prog:Program} {w:World} {A:Around} {E:Value->Shared->Prop} {s:Shared}
end
section
variable {prog:Program} {w:World} {A:Around} {E:Value->Shared->Prop} {s:Shared}
end
section
variable {prog:Program} {w:World} {A:Around} {E:Value->Shared->Prop} {s:Shared}
end
section
variable {X:Cx} {ad:Ad} {a:Expr} {f:F} {p p2 pos pos2:Pos}
end
section
variable {prog:Program} {w:World} {A:Around} {E:Value->Shared->Prop} {R:Result->Shared->Prop} {I:Addr} {fp wr:List Addr} {G:Array GenState->Array GenState->Prop} {n:Nat} {P:Nat->Value->Prop} {St:Nat->Shared->Prop}
end
noncomputable def iv:Value->Int
 | .int n _=>n
 | _=>0
section
variable {X:Cx} {ad:Ad} {a:Expr} {f:F} {p p2 pos pos2:Pos}
end
section
variable {h h':Heap} {d:Addr} {o:Obj} {es:Array DictEntry} {ep:Nat}
theorem aAe (ho:h.get? d=some o) (hd:o.data= .dict es ep) (hs:Heap.SameBut d h h') {a:Addr} {u:Obj} {vs:Array Value} {n:Nat} (hu:h.get? a=some u) (hq:u.data= .seq vs n):h'.get? a=some u:=by
 have ne:a≠d:=fun z=>by
  subst z
  rw [ho] at hu
  cases hu
  rw [hd] at hq
  cases hq
 exact(hs.2 a ne).trans hu
mutual
theorem rk1 (ho:h.get? d=some o) (hd:o.data= .dict es ep) (hs:Heap.SameBut d h h'): ∀ (k:PyData) (v:Value) (as:List Addr),hk k=true->Reads h v k as->Reads h' v k as
 | .none,v,as,_,r=>by cases r;exact .none
 | .int i,v,as,_,r=>by cases r;exact .int _ _
 | .tuple xs,v,as,hk',r=>by
  cases r with
  | tuple h1 h2 h3 h4=>exact .tuple (aAe ho hd hs h1 h3) h2 h3 (rk2 ho hd hs xs _ _ (by simpa [hk] using hk') h4)
 | .bool _,_,_,h,_=>by simp [hk] at h
 | .str _,_,_,h,_=>by simp [hk] at h
 | .list _,_,_,h,_=>by simp [hk] at h
 | .dict _,_,_,h,_=>by simp [hk] at h
theorem rk2 (ho:h.get? d=some o) (hd:o.data= .dict es ep) (hs:Heap.SameBut d h h'): ∀ (ks:List PyData) (vs:List Value) (as:List Addr),hks ks=true->ReadsAll h vs ks as->ReadsAll h' vs ks as
 | [],_,_,_,r=>by cases r;exact .nil
 | k::ks,_,_,hk',r=>by
  rw [hks,au] at hk'
  cases r with
  | cons r1 r2=>exact .cons (rk1 ho hd hs k _ _ hk'.1 r1) (rk2 ho hd hs ks _ _ hk'.2 r2)
end
end
mutual
theorem aNj: ∀ x:PyData,hk x=true->PyData.eqv x x=true
 | .none,_=>by simp [PyData.eqv]
 | .int i,_=>by simp [PyData.eqv]
 | .tuple xs,h=>by
  rw [PyData.eqv]
  exact aJe xs (by simpa [hk] using h)
 | .bool _,h=>by simp [hk] at h
 | .str _,h=>by simp [hk] at h
 | .list _,h=>by simp [hk] at h
 | .dict _,h=>by simp [hk] at h
theorem aJe: ∀ xs:List PyData,hks xs=true->PyData.eqvAll xs xs=true
 | [],_=>by simp [PyData.eqvAll]
 | x::xs,h=>by
  rw [hks,au] at h
  rw [PyData.eqvAll,aNj x h.1,aJe xs h.2]
  rfl
end
noncomputable instance decPy:DecidableEq PyData:=fun a b=>Classical.propDecidable (a=b)
def aL4 (h:Heap) (d:PyData) (a:Addr):Prop:=hk d=true/\d.depth<=8/\ ∃ as,Reads h (.ref a) d as
noncomputable def aAf (prog:Program) (w:World):HeapKind prog w PyData where
 is:=aL4
 hash:=hsh
 draws:=dr
 room:=fun A=>A.units+20<cLine
 inj:=fun {h a x y} k1 k2=>by
  obtain⟨a1,_,b1,c1⟩:=k1
  obtain⟨a2,_,b2,c2⟩:=k2
  exact SeqAt.Reads.unique x y _ b1 b2 (rZ _ a1) c1 c2
 keeps:=fun {h h' k a d o es ep} k1 ho hd hs=>by
  obtain⟨a1,a2,b1,c1⟩:=k1
  exact⟨a1,a2,b1,rk1 ho hd hs _ _ _ a1 c1⟩
 pyHash:=fun {A E s k a Q} hu k1 hq=>by
  obtain⟨a1,a2,b1,c1⟩:=k1
  exact aEo 8 k _ b1 A s Q E a1 a2 c1 (by omega) hq
 eqBool:=fun {A E s x y a b Q} hu k1 k2 hq=>by
  obtain⟨a1,a2,b1,c1⟩:=k1
  obtain⟨a3,a4,b2,c2⟩:=k2
  have e:=SeqAt.eqAt_reads x y A s (.ref a) (.ref b) b1 b2 c1 c2 (rZ _ a1) (rZ _ a3) (by omega)
  refine e prog w E Q ?_
  by_cases z:x=y
  ·subst z
   rw [decide_eq_true rfl] at hq
   cases q:PyData.eqv x x with
   | true=>exact hq
   | false=>
    have:=aNj x a1
    rw [this] at q;cases q
  ·rw [decide_eq_false z] at hq
   cases q:PyData.eqv x y with
   | false=>exact hq
   | true=>exact absurd (qJ x y a1 a3 q) z
 quiet:=fun {A E s k a Q} k1 hq=>by
  obtain⟨a1,a2,b1,c1⟩:=k1
  exact aAa 8 k _ b1 A s Q E a1 a2 c1 hq
mutual
theorem gX: ∀ d:D,hkD d=true->plain d=true
 | .non,_=>by simp [plain]
 | .int _,_=>by simp [plain]
 | .tup xs,h=>by simpa [plain] using lL xs (by simpa [hkD] using h)
 | .bl _,h=>by simp [hkD] at h
 | .str _,h=>by simp [hkD] at h
 | .lst _,h=>by simp [hkD] at h
 | .exc _,h=>by simp [hkD] at h
 | .fn _,h=>by simp [hkD] at h
 | .rnk,h=>by simp [hkD] at h
theorem lL: ∀ ds:List D,aBi ds=true->bC ds=true
 | [],_=>by simp [bC]
 | d::ds,h=>by
  have h':hkD d=true/\aBi ds=true:=by simpa [aBi] using h
  simp [bC,gX d h'.1,lL ds h'.2]
end
mutual
theorem lM: ∀ d:D,hkD d=true->hk (bL d)=true/\hsh (bL d)=hD d
 | .non,_=>by simp [bL,hk,hsh,hD]
 | .int _,_=>by simp [bL,hk,hsh,hD]
 | .tup xs,h=>by
  have:=wT xs (by simpa [hkD] using h)
  simp [bL,hk,hsh,hD,this.1,this.2]
 | .bl _,h=>by simp [hkD] at h
 | .str _,h=>by simp [hkD] at h
 | .lst _,h=>by simp [hkD] at h
 | .exc _,h=>by simp [hkD] at h
 | .fn _,h=>by simp [hkD] at h
 | .rnk,h=>by simp [hkD] at h
theorem wT: ∀ ds:List D,aBi ds=true->hks (dJ ds)=true/\yI (dJ ds)=hDs ds
 | [],_=>by simp [dJ,hks,yI,hDs]
 | d::ds,h=>by
  have h':hkD d=true/\aBi ds=true:=by simpa [aBi] using h
  have h1:=lM d h'.1
  have h2:=wT ds h'.2
  simp [dJ,hks,yI,hDs,h1.1,h1.2,h2.1,h2.2]
end
theorem j8 {k:D} (h:cT k=true):uX k=true/\hkD k=true/\dep k<=8:=by
 simp only [cT,au,decide_eq_true_eq] at h
 exact⟨h.1.1,h.1.2,h.2⟩
theorem wU {k l:D} (h1:cT k=true) (h2:cT l=true):deq k l=decide (bL k=bL l):=by
 have a1:=(j8 h1).2.1
 have a2:=(j8 h2).2.1
 rw [<-iD k l (gX k a1) (gX l a2)]
 by_cases z:bL k=bL l
 ·rw [decide_eq_true z,z];exact aNj _ (lM l a2).1
 ·rw [decide_eq_false z]
  refine Bool.eq_false_iff.mpr fun q=>z (qJ _ _ (lM k a1).1 (lM l a2).1 q)
noncomputable def mkE (x:Int×Addr×Value):DictEntry:=⟨x.1, .ref x.2.1,x.2.2⟩
noncomputable def y3 (p:D×D) (x:Int×Addr×Value):PyData×Addr×Value:=(bL p.1,x.2.1,x.2.2)
abbrev RX (p:Int×Addr×V) (q:Int×Addr×Value):Prop:=p.1=q.1/\p.2.1=q.2.1/\bA p.2.2 q.2.2
noncomputable def aB8 (kvs:List (D×D)) (es:List (Int×Addr×V)) (k:D) (b:Addr) (v:V):List (Int×Addr×V):=
 if pC kvs k then List.zipWith (fun p e=>if deq p.1 k then(e.1,e.2.1,v) else e) kvs es else es++[(hD k,b,v)]
noncomputable def aGk (kvs:List (D×D)) (xs:List (Int×Addr×Value)) (k:D) (b:Addr) (u:Value):List (Int×Addr×Value):=
 if pC kvs k then List.zipWith (fun p e=>if deq p.1 k then(e.1,e.2.1,u) else e) kvs xs else xs++[(hD k,b,u)]
section
variable {K:PySem.W.Frag} {ad:Ad} {G:Hp} {prog:Program} {w:World}
theorem wV {kvs:List (D×D)} {es:List (Int×Addr×V)} (h:DL K ad G kvs es):kvs.length=es.length:=Paired.length h
theorem aJf {k d:D} {b:Addr} {v:V} (hk:Rep K ad G k (.ref b)) (hd:Rep K ad G d v) {kvs:List (D×D)} {es:List (Int×Addr×V)} (h:DL K ad G kvs es):DL K ad G (yG kvs k d) (aB8 kvs es k b v):=by
 unfold yG aB8
 split
 ·have go: ∀ {kvs:List (D×D)} {es:List (Int×Addr×V)},DL K ad G kvs es->DL K ad G (kvs.map (fun p=>if deq p.1 k then(p.1,d) else p)) (List.zipWith (fun p e=>if deq p.1 k then(e.1,e.2.1,v) else e) kvs es):=by
   intro kvs es h
   induction h with
   | nil=>exact .nil
   | @cons p q _ _ r _ ih=>
    refine .cons ?_ ih
    dsimp only
    by_cases z:deq p.1 k=true
    ·rw [if_pos z,if_pos z];exact⟨r.1,r.2.1,hd⟩
    ·rw [if_neg z,if_neg z];exact r
  exact go h
 ·exact Paired.snoc h ⟨rfl,hk,hd⟩
theorem t3 {kvs:List (D×D)} {k:D} (h: ¬ pC kvs k=true): ∀ p∈kvs,deq p.1 k=false:=fun p hp=>by
 refine Bool.eq_false_iff.mpr fun z=>h ?_
 unfold pC
 exact List.any_eq_true.mpr ⟨p,hp,z⟩
theorem wW {kvs:List (D×D)} {k d:D} (h:KOk kvs) (hk:cT k=true):KOk (yG kvs k d):=by
 unfold yG
 split
 ·have e: ∀ p:D×D,(if deq p.1 k then(p.1,d) else p).1=p.1:=fun p=>by split<;>rfl
  refine⟨fun p hp=> ?_, ?_⟩
  ·obtain⟨q,hq,rfl⟩:=ao.mp hp
   rw [e];exact h.1 q hq
  ·refine List.pairwise_map.mpr (h.2.imp fun {p q} z=> ?_)
   rw [e,e];exact z
 ·rename_i hn
  refine⟨fun p hp=> ?_,List.pairwise_append.mpr ⟨h.2,List.pairwise_singleton _ _,fun p hp q hq=> ?_⟩⟩
  ·rcases List.mem_append.mp hp with z | z
   ·exact h.1 p z
   ·rw [List.mem_singleton.mp z];exact hk
  ·rw [List.mem_singleton.mp hq];exact t3 hn p hp
theorem aJg {k:D} {b:Addr} {v:V} {u:Value} (r:bA v u) (kvs:List (D×D)) {es:List (Int×Addr×V)} {xs:List (Int×Addr×Value)} (h:Paired RX es xs):Paired RX (aB8 kvs es k b v) (aGk kvs xs k b u):=by
 unfold aB8 aGk
 split
 ·have go: ∀ {es:List (Int×Addr×V)} {xs:List (Int×Addr×Value)},Paired RX es xs-> ∀ kvs:List (D×D),Paired RX (List.zipWith (fun p e=>if deq p.1 k then(e.1,e.2.1,v) else e) kvs es) (List.zipWith (fun p e=>if deq p.1 k then(e.1,e.2.1,u) else e) kvs xs):=by
   intro es xs h
   induction h with
   | nil=>intro kvs;cases kvs<;>exact .nil
   | @cons p q _ _ r' _ ih=>
    intro kvs
    cases kvs with
    | nil=>exact .nil
    | cons c kvs=>
     refine .cons ?_ (ih kvs)
     dsimp only
     by_cases z:deq c.1 k=true
     ·rw [if_pos z,if_pos z];exact⟨r'.1,r'.2.1,r⟩
     ·rw [if_neg z,if_neg z];exact r'
  exact go h kvs
 ·exact Paired.snoc h ⟨rfl,rfl,r⟩
abbrev HX (p:D×D) (x:Int×Addr×Value):Prop:=x.1=hD p.1
theorem aJh {kvs:List (D×D)} {es:List (Int×Addr×V)} {xs:List (Int×Addr×Value)} (hd:DL K ad G kvs es) (hx:Paired RX es xs):Paired HX kvs xs:=by
 induction hd generalizing xs with
 | nil=>cases hx;exact .nil
 | cons r _ ih=>
  cases hx with
  | cons r2 hx=>exact .cons (by show _=_;rw [<-r2.1,r.1]) (ih hx)
theorem aJi {kvs:List (D×D)} {xs:List (Int×Addr×Value)} {k d:D} {b:Addr} {u:Value} (h:Paired HX kvs xs):Paired HX (yG kvs k d) (aGk kvs xs k b u):=by
 unfold yG aGk
 split
 ·have go: ∀ {kvs:List (D×D)} {xs:List (Int×Addr×Value)},Paired HX kvs xs->Paired HX (kvs.map (fun p=>if deq p.1 k then(p.1,d) else p)) (List.zipWith (fun p e=>if deq p.1 k then(e.1,e.2.1,u) else e) kvs xs):=by
   intro kvs xs h
   induction h with
   | nil=>exact .nil
   | @cons p q _ _ r _ ih=>
    refine .cons ?_ ih
    dsimp only
    by_cases z:deq p.1 k=true
    ·rw [if_pos z,if_pos z];exact r
    ·rw [if_neg z,if_neg z];exact r
  exact go h
 ·exact Paired.snoc h rfl
theorem aB9 {kvs:List (D×D)} {xs:List (Int×Addr×Value)} (h:Paired HX kvs xs) (hk: ∀ p∈kvs,cT p.1=true):(List.zipWith y3 kvs xs).map (entryOfKey (aAf prog w))=xs.map mkE:=by
 induction h with
 | nil=>rfl
 | @cons p x _ _ r _ ih=>
  show _::_=_::_
  rw [ih fun p hp=>hk p (.tail _ hp)]
  congr 1
  show(⟨hsh (bL p.1), .ref x.2.1,x.2.2⟩:DictEntry)=⟨x.1, .ref x.2.1,x.2.2⟩
  rw [(lM p.1 (j8 (hk p (.head _))).2.1).2, <-r]
theorem aEs {h:Heap} {kvs:List (D×D)} {es:List (Int×Addr×V)} {xs:List (Int×Addr×Value)} (hr: ∀ k b,cT k=true->Rep K ad G k (.ref b)->aL4 h (bL k) b) (hd:DL K ad G kvs es) (hx:Paired RX es xs) (hk: ∀ p∈kvs,cT p.1=true):
  (∀ y∈List.zipWith y3 kvs xs,aL4 h y.1 y.2.1)/\(List.zipWith y3 kvs xs).map (·.1)=kvs.map fun p=>bL p.1:=by
 induction hd generalizing xs with
 | nil=>cases hx;exact⟨fun y hy=>by simp at hy,rfl⟩
 | @cons p q _ _ r _ ih=>
  cases hx with
  | @cons _ x _ xs r2 hx=>
   obtain⟨i2,i3⟩:=ih hx fun p hp=>hk p (.tail _ hp)
   have kp:=hk p (.head _)
   refine⟨fun y hy=> ?_, ?_⟩
   ·rcases aq.mp hy with rfl | hy
    ·have:=hr p.1 q.2.1 kp r.2.1
     rw [r2.2.1] at this
     exact this
    ·exact i2 y hy
   ·show _::_=_::_
    rw [i3]
    rfl
theorem aJj {kvs:List (D×D)} {xs:List (Int×Addr×Value)} {k:D} (hk:cT k=true) (hl:kvs.length=xs.length) (ha: ∀ p∈kvs,cT p.1=true):(atKey (List.zipWith y3 kvs xs) (bL k)).isSome=pC kvs k:=by
 unfold atKey pC
 rw [Option.isSome_map]
 induction kvs generalizing xs with
 | nil=>rfl
 | cons p kvs ih=>
  cases xs with
  | nil=>cases hl
  | cons x xs=>
   have i:=ih (xs:=xs) (by simpa using hl) fun p hp=>ha p (.tail _ hp)
   show((y3 p x::List.zipWith y3 kvs xs).find? _).isSome=_
   rw [List.find?_cons,List.any_cons,wU (ha p (.head _)) hk]
   show Option.isSome (match decide (bL p.1=bL k) with | true=>some (y3 p x) | false=>_)=_
   cases decide (bL p.1=bL k) with
   | true=>rfl
   | false=>exact i
theorem aJk {kvs:List (D×D)} {xs:List (Int×Addr×Value)} {k d:D} {b:Addr} {u:Value} (hk:cT k=true) (hl:kvs.length=xs.length) (ha: ∀ p∈kvs,cT p.1=true):
  storedH (List.zipWith y3 kvs xs) (bL k) b u=List.zipWith y3 (yG kvs k d) (aGk kvs xs k b u):=by
 unfold storedH yG aGk
 rw [aJj hk hl ha]
 by_cases z:pC kvs k=true
 ·rw [if_pos z,if_pos z,if_pos z]
  clear z
  induction kvs generalizing xs with
  | nil=>rfl
  | cons p kvs ih=>
   cases xs with
   | nil=>cases hl
   | cons x xs=>
    have i:=ih (xs:=xs) (by simpa using hl) fun p hp=>ha p (.tail _ hp)
    show putAt (bL k) u (y3 p x)::_=y3 _ _::_
    rw [i]
    congr 1
    unfold putAt
    have e:=wU (ha p (.head _)) hk
    by_cases q:bL p.1=bL k
    ·rw [decide_eq_true q] at e
     have e1:(if(y3 p x).1=bL k then((y3 p x).1,(y3 p x).2.1,u) else y3 p x)=((y3 p x).1,(y3 p x).2.1,u):=if_pos q
     rw [e1]
     dsimp only
     rw [if_pos e,if_pos e]
     rfl
    ·rw [decide_eq_false q] at e
     have e1:(if(y3 p x).1=bL k then((y3 p x).1,(y3 p x).2.1,u) else y3 p x)=y3 p x:=if_neg q
     have e': ¬ deq p.1 k=true:=by rw [e];exact bd
     rw [e1]
     dsimp only
     rw [if_neg e',if_neg e']
 ·rw [if_neg z,if_neg z,if_neg z,List.zipWith_append hl]
  rfl
end
section
variable {X:Cx} {ad:Ad} {Z:(St->Nat->Hp->Prop)->Prop} {pins:List (Addr×Obj)} {s:Shared} {σ:St} {H G G₀:Hp} {ρ:Rho} {D':Ends} {E:St->Nat->Hp->Prop} {pos pos':Pos} {e:Expr} {f:F} {g h:FS} {st:Stmt} {sts:List Stmt}
theorem _root_.L2.Inv.big (I:Inv X pins σ H s):(s.heap.objs.size==sysModules)=false:=by
 obtain⟨o,_,_,ho,_⟩:=I.mod.glob
 have h:=ah (I.bk _ _ ho)
 have e:mainGlobals=3:=rfl
 have e2:sysModules=1:=rfl
 rw [e] at h
 rw [e2]
 exact beq_false_of_ne (fun z:s.heap.objs.size=1=>by have h2:(3:Nat)<s.heap.objs.size:=h;rw [z] at h2;exact absurd h2 (by decide))
theorem aCa {h:Heap} {a:Addr} {es:Nat×List (Int×Addr×V)} (d:aM9 h a es):ObjOk X.prog X.w H h a (dcO a es):=by
 refine⟨d, ?_,fun h1 h2 d k=> ?_⟩
 ·obtain⟨_,_,o,_,_,ho,_⟩:=d
  exact⟨o,ho⟩
 ·obtain⟨z,l,o,ar,xs,ho,r⟩:=d
  exact⟨z,l,o,ar,xs,k _ ho,r⟩
noncomputable def tD0:TE:=fun _ H Q=> ∀ p,H p=none->Q (.ref p) (upd H p (dcO p (0,[])))
theorem aAg:PE X (.Dict [] [] pos) tD0:=by
 intro pins s σ H Q I hq
 refine wpAny_Dict_empty ?_
 have hf:H s.heap.objs.size=none:=I.hok.fresh (aj _)
 refine⟨.ref s.heap.objs.size,upd H s.heap.objs.size (dcO s.heap.objs.size (0,[])),I.laid (t':=s.toks) (fun b u e=>af _ e) (aj _) (aCa ?_),rfl,hq _ hf⟩
 exact⟨I.big,by decide,_, #[],[],ag _ rfl,⟨rfl,rfl,rfl⟩,rfl,rfl, .nil⟩
theorem aEt {i:Nat} {x:Str} {p:Pos} (hN:X.N.Nodup) (hi:X.N[i]? =some x) (hx:Loc X.env.scope x) (hs:swapsWith (.Dict [] [] p) (some (.Name x pos')) pos.line X.env=pure false) (hf:X.fn x=true\/X.env.scope.names.lookup x=some .local):
  MS X ad Z (.Assign [.Name x pos'] (.Dict [] [] p) pos) (aDa i):=by
 refine PS.imp (uM hN hi hx aAg hs hf) ?_
 rintro D' σ H ⟨G₀,G,ρ,E,S,hx,hr⟩
 exact fun q n=>hr _ G _ (S.setNew (Step.own S.st.gh n) n ⟨q,(0,[]),rfl,S.st.gh.free n,aN, .nil,fun p hp=>by simp at hp, .nil⟩)
theorem wX {k:D} {b:Addr} (I:Inv X pins σ H s) (hG:Same G H) (hk:cT k=true) (r:Rep X.K ad G k (.ref b)):aL4 s.heap (bL k) b:=by
 obtain⟨h1,h2,h3⟩:=j8 hk
 obtain⟨as,q⟩:=dO I hG (gX k h2) r (u:= .ref b) rfl
 exact⟨(lM k h2).1,by rw [iV];exact h3,as,q⟩
theorem aEu {a:Addr} {es:Nat×List (Int×Addr×V)} {kvs:List (D×D)} (I:Inv X pins σ H s) (hG:Same G H) (ha:H a=some (dcO a es)) (hd:DR X.K ad G kvs es) (hk:KOk kvs):
  (a==sysModules)=false/\es.2.length<=200000/\ ∃ xs,Paired RX es.2 xs/\s.heap.DictOfH (aAf X.prog X.w) a (List.zipWith y3 kvs xs):=by
 obtain⟨⟨z,l,o,ar,xs,ho,he,hdat,hl,hx⟩,_,_⟩:=I.hok a _ ha
 obtain⟨o2,o3⟩:=aEs (h:=s.heap) (fun k b h1 h2=>wX I hG h1 h2) hd hx hk.1
 refine⟨z,l,xs,hx,o,ar,es.1,ho,he,hdat, ?_,o2, ?_⟩
 ·rw [hl,aB9 (aJh hd hx) hk.1];rfl
 ·rw [o3]
  refine List.pairwise_map.mpr ?_
  have:=hk.2
  refine List.Pairwise.imp_of_mem ?_ this
  intro p q hp hq hn e
  rw [wU (hk.1 p hp) (hk.1 q hq),decide_eq_true e] at hn
  cases hn
noncomputable def aJl (K:PySem.W.Frag) (ad:Ad):V->V->V->Hp->(Hp->Prop)->Prop:=fun o i v H Q=> ∃ a es b k G kvs,o= .ref a/\i= .ref b/\H a=some (dcO a es)/\Same G H/\DR K ad G kvs es/\KOk kvs/\Rep K ad G k (.ref b)/\cT k=true/\kvs.length<LIM/\ ∀ n,Q (upd H a (dcO a (n,aB8 kvs es.2 k b v)))
theorem aAh {kvs:List (D×D)} {es:List (Int×Addr×V)} {k:D} {b:Addr} {v:V}:(aB8 kvs es k b v).length<=es.length+1:=by
 unfold aB8
 split
 ·rw [List.length_zipWith];omega
 ·simp
theorem aAi (hu:X.A.units+62<cLine):aG6 X (aJl X.K ad):=by
 intro pins s σ H o i v ov iv u Q I ro ri rv h
 obtain⟨a,es,b,k,G,kvs,rfl,rfl,ha,hG,hd,hko,rk,hk,hl,q⟩:=h
 cases ro
 cases ri
 obtain⟨hz,hln,xs,hx,hm⟩:=aEu I hG ha hd hko
 have hlen:kvs.length=xs.length:=(wV hd).trans (Paired.length hx)
 have hle:=wV hd
 have hlim:LIM=100000:=rfl
 refine wpAny_mono (wpAny_setItem_heap (knd:=aAf X.prog X.w) (show X.A.in1.units+20<cLine by have:=X.A.in1_units;omega) (wX I hG hk rk) hm (fun h' hm' hs=> ?_) (by rw [List.length_zipWith];exact Nat.le_trans (Nat.min_le_left _ _) (Nat.le_trans (Nat.le_of_lt hl) (by decide)))) (fun _ _ z=>z) fun _ _ z=>z
 rw [aJk (d:= .non) hk hlen hko.1] at hm'
 obtain⟨o',ar',ep',ho',he',hdat',hl',_⟩:=hm'
 refine⟨_,I.write (x:=a) (e:=a) (t':=_) (by rw [ha];trivial) (.inl rfl) (fun c u' hc qc=>(hs.2 c hc).trans qc) ⟨_,ho'⟩ (aCa ?_),q ep'⟩
 have hx':=aJg (k:=k) (b:=b) rv kvs hx
 refine⟨hz,by have:= @aAh kvs es.2 k b v;show(aB8 kvs es.2 k b v).length<=200000;omega,o',ar',_,ho',he',hdat', ?_,hx'⟩
 rw [hl',aB9 (aJi (aJh hd hx)) (wW hko hk).1]
 rfl
end
section
variable {X:Cx} {ad:Ad} {Z:(St->Nat->Hp->Prop)->Prop} {pins:List (Addr×Obj)} {s:Shared} {σ:St} {H G G₀:Hp} {ρ:Rho} {D':Ends} {E:St->Nat->Hp->Prop} {pos pos':Pos} {e:Expr} {f:F} {g h:FS} {st:Stmt} {sts:List Stmt}
noncomputable def aNk (K:PySem.W.Frag) (ad:Ad):V->V->V->Hp->(Hp->Prop)->Prop:=fun o i v H Q=>aHu o i v H Q\/aJl K ad o i v H Q
theorem aAj (hu:X.A.units+62<cLine):aG6 X (aNk X.K ad):=fun pins s σ H o i v ov iv u Q I ro ri rv h=>
 h.elim (i6 pins s σ H o i v ov iv u Q I ro ri rv) (aAi hu pins s σ H o i v ov iv u Q I ro ri rv)
theorem sC {k:D} {v:V} (hk:cT k=true) (r:Rep X.K ad G k v): ∃ b,v= .ref b:=by
 have h:=(j8 hk).1
 cases k<;>try (cases h;done)
 unfold Rep at r
 obtain⟨a,_,rfl,_⟩:=r
 exact⟨a,rfl⟩
theorem aJm {i:Nat} {x:Str} {p tp:Pos} {kx:Expr} {fk:F} (hu:X.A.units+62<cLine) (hN:X.N[i]? =some x) (hv:Vis X.env.scope x) (hd:(x==("__debug__":Str))=false) (hcd:(x==("__classdict__":Str))=false) (he:ME X ad e f) (hk:ME X ad kx fk)
  (ha: ∀ v,assign (.Subscript (.Name x p) kx tp) X.env v=(do
   let ov<-holding [v] (eval (.Name x p) X.env)
   let iv<-holding [v,ov] (eval kx X.env)
   standAt tp
   holding [v,ov,iv] (setItem ov iv v)
   release [v,ov,iv] [])) (hs:swapsWithSole [.Subscript (.Name x p) kx tp] e pos.line X.env=pure false) (hw:swappedStores [.Subscript (.Name x p) kx tp] e X.env=pure none):
  MS X ad Z (.Assign [.Subscript (.Name x p) kx tp] e pos) (uF i fk f):=by
 refine PS.imp (uL he (uK (eY hN hv hd hcd) hk (aAj (ad:=ad) hu) ha) hs hw rfl) ?_
 rintro D' σ H ⟨G₀,G,ρ,E,S,hx,hr⟩
 unfold uF at hr
 refine dD S hx hr fun v d G1 H1 st r k=> ?_
 cases q:ρ[i]? with
 | none=>rw [q] at k;exact k.elim
 | some sl=>
  rw [q] at k
  cases sl with
  | no=>exact k.elim
  | sh d=>exact k.elim
  | sd d=>exact k.elim
  | rk _ _=>exact k.elim
  | ow xs=>
   obtain⟨a,vs,h1,h2,h3,h4⟩:=(S.step st).sl.ow q
   refine⟨.ref a,h1, ?_⟩
   refine dD (S.step st) hx k fun v2 y G2 H2 st2 r2 k2=> ?_
   obtain⟨g2,h2'⟩:=cM st2 h2 h3
   cases y<;>try exact ay k2
   rename_i j
   unfold Rep at r2;subst r2
   have k':OKo X ad G₀ (match ixD xs.length j with | some m=> .nx (ρ.set i (.ow (xs.set m d))) | none=> .rt .bad) D' E:=k2
   cases q2:ixD xs.length j with
   | none=>rw [q2] at k';exact k'.elim
   | some m=>
    rw [q2] at k'
    have r4:=h4.mono st2.sg
    refine .inl ⟨a,vs,j,m,rfl,rfl,h2',by rw [h4.length, <-lF];exact q2, ?_⟩
    exact k' σ G2 _ (((S.step st).step st2).upd q h1 g2 (aF.set (r.mono st2.sg) m r4))
  | dc kvs=>
   obtain⟨a,es,h1,h2,h3,h4,h5⟩:=(S.step st).sl.dc q
   refine⟨.ref a,h1, ?_⟩
   refine dD (S.step st) hx k fun v2 y G2 H2 st2 r2 k2=> ?_
   have S2:=(S.step st).step st2
   obtain⟨a',es',h1',h2',h3',h4',h5'⟩:=S2.sl.dc q
   have ea:a'=a:=by rw [h1] at h1';cases h1';rfl
   subst ea
   have k':OKo X ad G₀ (if(cT y&&decide (kvs.length<LIM))=true then .nx (ρ.set i (.dc (yG kvs y d))) else .rt .bad) D' E:=k2
   by_cases hc:(cT y&&decide (kvs.length<LIM))=true
   ·rw [if_pos hc] at k'
    rw [au,decide_eq_true_eq] at hc
    obtain⟨b,rfl⟩:=sC hc.1 r2
    refine .inr ⟨a',es',b,y,G2,kvs,rfl,rfl,h3',st2.gh,h4',h5',r2,hc.1,hc.2, ?_⟩
    exact fun n=>k' σ G2 _ (S2.updG q rfl h1 ⟨a',_,rfl,h2',aN,aJf r2 (r.mono st2.sg) h4',wW h5' hc.1⟩)
   ·rw [if_neg hc] at k'
    exact k'.elim
theorem RK.bool_share {a:Addr} {vs:List V} {r:R} {Q:VK} {E:Nat->Hp->Prop} (hb:(∃ b,r= .ok (.bl b))\/r= .bad) (g:G a=none) (k:RK X.K ad G H r Q E):RK X.K ad (upd G a (.lst vs)) H r Q E:=by
 rcases hb with ⟨b,rfl⟩ | rfl
 ·intro v G1 H1 st q
  have q':v= .bl b:=by unfold Rep at q;exact q
  subst q'
  refine k (.bl b) (fun c=>if c=a then none else G1 c) H1 ⟨fun c u e=> ?_,fun c u e=> ?_,st.sh,fun c e1 e2=> ?_⟩ a8
  ·have ne:c≠a:=bB e g
   show(if c=a then none else G1 c)=some u
   rw [if_neg ne]
   exact st.sg c u (by rw [aI ne];exact e)
  ·have e':(if c=a then none else G1 c)=some u:=e
   by_cases z:c=a
   ·rw [if_pos z] at e';cases e'
   ·rw [if_neg z] at e';exact st.gh c u e'
  ·have e':(if c=a then none else G1 c)≠none:=e2
   by_cases z:c=a
   ·rw [if_pos z] at e';exact absurd rfl e'
   ·rw [if_neg z] at e';exact st.nw c (by rw [aI z];exact e1) e'
 ·exact k
theorem qM {op:CmpOp} {x y:D} {v w:V} {u z:Value} {Q:VK} {E:Nat->Hp->Prop} (hu:X.A.units+62<cLine) (I:Inv X pins σ H s) (hG:Same G H) (qx:Seq X ad G H x v) (qy:Seq X ad G H y w) (ru:bA v u) (rz:bA w z)
  (k:RK X.K ad G H (gB op x y) Q E):wpAny (model X.prog X.w) X.A (compareOp op u z) (EP X pins σ Q) X.xe s:=by
 have hb:=vA (op:=op) (x:=x) (y:=y)
 -- the left one is shared for the time
 have sh: ∀ {G:Hp} {a:Addr} {vs:List V} {ds:List D},Same G H->H a=some (.lst vs)->aF X.K ad G ds vs->Same (upd G a (.lst vs)) H/\Rep X.K ad (upd G a (.lst vs)) (.lst ds) (.ref a):=fun {G a vs ds} hG h2 h3=>by
  have st:G a=none\/G a=some (.lst vs):=by
   cases q:G a with
   | none=>exact .inl rfl
   | some o=>rw [hG a o q] at h2;exact .inr h2
  have le:Same G (upd G a (.lst vs)):=fun b o e=>by
   by_cases zb:b=a
   ·subst zb
    rcases st with q | q
    ·rw [q] at e;cases e
    ·rw [aN, <-q];exact e
   ·rw [aI zb];exact e
  refine⟨fun b o e=> ?_, ?_⟩
  ·by_cases zb:b=a
   ·subst zb;rw [aN] at e;cases e;exact h2
   ·rw [aI zb] at e;exact hG b o e
  ·unfold Rep
   exact⟨a,vs,rfl,SqL.of aN,h3.mono le⟩
 have mo: ∀ {G:Hp} {a:Addr} {vs:List V},G a=none->Same G (upd G a (.lst vs)):=fun g=>Same.upd_new g
 have right: ∀ {G:Hp},Same G H->Rep X.K ad G x v->Seq X ad G H y w->RK X.K ad G H (gB op x y) Q E->wpAny (model X.prog X.w) X.A (compareOp op u z) (EP X pins σ Q) X.xe s:=fun {G} hG rx qy k=>by
  rcases qy with ry | ⟨a,vs,ds,rfl,rfl,g1,h2,h3⟩
  ·exact iF op hu pins s σ H G x y v w u z Q E I hG rx ry ru rz k
  ·obtain⟨s1,s2⟩:=sh hG h2 h3
   exact iF op hu pins s σ H _ x _ v _ u z Q E I s1 (rx.mono (mo g1)) s2 ru rz (k.bool_share hb g1)
 rcases qx with rx | ⟨a,vs,ds,rfl,rfl,g1,h2,h3⟩
 ·exact right hG rx qy k
 ·obtain⟨s1,s2⟩:=sh hG h2 h3
  refine right s1 s2 ?_ (k.bool_share hb g1)
  rcases qy with ry | ⟨a',vs',ds',rfl,rfl,g1',h2',h3'⟩
  ·exact .inl (ry.mono (mo g1))
  ·by_cases za:a'=a
   ·subst za
    rw [h2] at h2'
    cases h2'
    refine .inl ?_
    unfold Rep
    exact⟨a',vs,rfl,SqL.of aN,h3'.mono (mo g1)⟩
   ·exact .inr ⟨a',vs',ds',rfl,rfl,by rw [aI za];exact g1',h2',h3'.mono (mo g1)⟩
theorem wY {op:CmpOp} {a b:Expr} {f g:F} {Q:VK} {E:Nat->Hp->Prop} (hu:X.A.units+62<cLine) (ha:MLk X ad a f) (hb:MLk X ad b g) (I:Inv X pins σ H s) (hG:Same G H) (hS:SL X.K ad G H ρ σ) (hx:XP X ad σ E) (hr:RK X.K ad G H (aZ op f g ρ) Q E):
  wpAny (model X.prog X.w) X.A (eval a X.env) (fun u s1=>wpAny (model X.prog X.w) X.A (eval b X.env) (fun z s2=>wpAny (model X.prog X.w) X.A (compareOp op u z) (EP X pins σ Q) X.xe s2) X.xe s1) X.xe s:=by
 refine L2.thn (ha pins s σ H G ρ (fun x=>(g ρ).bind fun y=>gB op x y) Q E I hG hS hx hr) fun u s1 hz1=> ?_
 obtain⟨v,d1,G1,H1,I1,r1,st1,q1,k1⟩:=hz1
 refine L2.thn (hb pins s1 σ H1 G1 ρ (fun y=>gB op d1 y) Q E I1 st1.gh (hS.step st1) hx k1) fun z s2 hz2=> ?_
 obtain⟨w,d2,G2,H2,I2,r2,st2,q2,k2⟩:=hz2
 exact qM hu I2 st2.gh (Seq.step q1 st2) q2 r1 r2 k2
theorem aEv {op:CmpOp} {a b:Expr} {f g:F} (hu:X.A.units+62<cLine) (ha:MLk X ad a f) (hb:MLk X ad b g) (hm:behindInMarks op b=false):ME X ad (.Compare a [op] [b] pos) (aZ op f g):=by
 intro pins s σ H Q I ⟨G,ρ,E,hG,hS,hx,hr⟩
 exact wpAny_Compare1 (wY hu ha hb I hG hS hx hr) hm
theorem sD {op:CmpOp} {a b:Expr} {F':F} (hm:behindInMarks op b=false)
  (go: ∀ {pins:List (Addr×Obj)} {s:Shared} {σ:St} {H G:Hp} {ρ:Rho} {Q:VK} {E:Nat->Hp->Prop},Inv X pins σ H s->Same G H->SL X.K ad G H ρ σ->XP X ad σ E->RK X.K ad G H (F' ρ) Q E->
   wpAny (model X.prog X.w) X.A (eval a X.env) (fun u s1=>wpAny (model X.prog X.w) X.A (eval b X.env) (fun z s2=>wpAny (model X.prog X.w) X.A (compareOp op u z) (EP X pins σ Q) X.xe s2) X.xe s1) X.xe s):MT X ad (.Compare a [op] [b] pos) F':=by
 intro pins s σ H Q I ⟨G,ρ,E,hG,hS,hx,ht,hr⟩
 refine wpAny_isTrue_Compare1 (L2.thn (go I hG hS hx hr) fun v s1 h1=>L2.thn h1 fun u s2 h2=>L2.thn h2 fun c s3 hz=> ?_) hm
 obtain⟨x,H1,I1,r1,k,e,q⟩:=hz
 subst e
 cases r1
 exact wpAny_truthy_bool ⟨H1,I1,q⟩
theorem aEw {op:CmpOp} {a b:Expr} {f g:F} (hu:X.A.units+62<cLine) (ha:MLk X ad a f) (hb:MLk X ad b g) (hm:behindInMarks op b=false):MT X ad (.Compare a [op] [b] pos) (aZ op f g):=
 sD hm fun I hG hS hx hr=>wY hu ha hb I hG hS hx hr
theorem qN {x y:Value} {A:Around} {E':Value->Shared->Prop} {Q:Bool->Shared->Prop} (h:wpAny (model X.prog X.w) A (compareOp .In x y) (fun v s=> ∃ b,v= .bool b/\Q b s) E' s):wpAny (model X.prog X.w) A (contains y x) Q E' s:=fun Γ p hΓ=>by
 have t:=h Γ p hΓ
 rw [show compareOp .In x y=(contains y x >>= fun b=>pure (.bool b)) from rfl,Sem.wp_bind'] at t
 refine Sem.wp_mono _ _ _ (fun b p' s' q=> ?_) (fun _ _ _ q=>q) _ _ t
 rw [Sem.wp_pure'] at q
 obtain⟨b',e,q⟩:=q
 cases e
 exact q
theorem wZ {op:CmpOp} {x:D} {v:V} {u:Value} {a:Addr} {es:Nat×List (Int×Addr×V)} {kvs:List (D×D)} {Q:VK} {E:Nat->Hp->Prop} (hu:X.A.units+62<cLine) (I:Inv X pins σ H s) (hG:Same G H) (ru:bA v u) (rx:Rep X.K ad G x v) (hk:cT x=true)
  (ha:H a=some (dcO a es)) (hd:DR X.K ad G kvs es) (hko:KOk kvs) (k:RK X.K ad G H (inK op (pC kvs x)) Q E):wpAny (model X.prog X.w) X.A (compareOp op u (.ref a)) (EP X pins σ Q) X.xe s:=by
 obtain⟨b,rfl⟩:=sC hk rx
 cases ru
 obtain⟨hz,hln,xs,hx,hm⟩:=aEu I hG ha hd hko
 have hlen:kvs.length=xs.length:=(wV hd).trans (Paired.length hx)
 have go:wpAny (model X.prog X.w) X.A (contains (.ref a) (.ref b)) (fun c s'=>c=pC kvs x/\Inv X pins σ H s') X.xe s:=by
  refine qN (wpAny_in_heap (knd:=aAf X.prog X.w) (show X.A.in1.units+20<cLine by have:=X.A.in1_units;omega) (wX I hG hk rx) hz hm ⟨_,rfl, ?_⟩)
  rw [aJj hk hlen hko.1]
  exact⟨rfl,I.tok _⟩
 cases op<;>try exact ay k
 ·rw [show compareOp .In (.ref b) (.ref a)=(contains (.ref a) (.ref b) >>= fun b=>pure (.bool b)) from rfl]
  refine aa (L2.thn go fun c s' hc=>ae ?_)
  obtain⟨rfl,I'⟩:=hc
  exact⟨.bl _,H,I',rfl,k.ok_now hG a8⟩
 ·rw [show compareOp .NotIn (.ref b) (.ref a)=(contains (.ref a) (.ref b) >>= fun b=>pure (.bool !b)) from rfl]
  refine aa (L2.thn go fun c s' hc=>ae ?_)
  obtain⟨rfl,I'⟩:=hc
  exact⟨.bl _,H,I',rfl,k.ok_now hG a8⟩
theorem aCb {op:CmpOp} {a:Expr} {f:F} {i:Nat} {x:Str} {p:Pos} {Q:VK} {E:Nat->Hp->Prop} (hN:X.N[i]? =some x) (hv:Vis X.env.scope x) (hd:(x==("__debug__":Str))=false) (hcd:(x==("__classdict__":Str))=false) (hu:X.A.units+62<cLine) (ha:MLk X ad a f) (I:Inv X pins σ H s) (hG:Same G H) (hS:SL X.K ad G H ρ σ) (hx:XP X ad σ E) (hr:RK X.K ad G H (aH4 op f i ρ) Q E):
  wpAny (model X.prog X.w) X.A (eval a X.env) (fun u s1=>wpAny (model X.prog X.w) X.A (eval (.Name x p) X.env) (fun z s2=>wpAny (model X.prog X.w) X.A (compareOp op u z) (EP X pins σ Q) X.xe s2) X.xe s1) X.xe s:=by
 refine L2.thn (ha pins s σ H G ρ (fun x=>match ρ[i]? with
  | some (.dc kvs)=>if cT x then inK op (pC kvs x) else .bad
  | some (.sd kvs)=>if cT x then inK op (pC kvs x) else .bad
  | some (.sh y)=>gB op x y
  | some (.ow ys)=>gB op x (.lst ys)
  | _=> .bad) Q E I hG hS hx hr) fun u s1 hz1=> ?_
 obtain⟨v,d1,G1,H1,I1,r1,st1,q1,k1⟩:=hz1
 have S1:=hS.step st1
 cases e:ρ[i]? with
 | none=>rw [e] at k1;exact k1.elim
 | some sl=>
  rw [e] at k1
  have look: ∀ (w:V),σ[i]? =some (some w)->(∀ z s2,Inv X pins σ H1 s2->bA w z->wpAny (model X.prog X.w) X.A (compareOp op u z) (EP X pins σ Q) X.xe s2)->
    wpAny (model X.prog X.w) X.A (eval (.Name x p) X.env) (fun z s2=>wpAny (model X.prog X.w) X.A (compareOp op u z) (EP X pins σ Q) X.xe s2) X.xe s1:=fun w h1 h=>by
   refine L2.thn (eY hN hv hd hcd pins s1 σ H1 (fun v' H'=>v'=w/\H'=H1) I1 ⟨w,h1,rfl,rfl⟩) fun z s2 hz_=> ?_
   obtain⟨v',H',I2,r2,e1,e2⟩:=hz_
   subst e1;subst e2
   exact h z s2 I2 r2
  cases sl with
  | no=>exact k1.elim
  | rk _ _=>exact k1.elim
  | sh y=>
   obtain⟨w,h1,h2⟩:=S1.sh e
   exact look w h1 fun z s2 I2 r2=>qM hu I2 st1.gh q1 (.inl h2) r1 r2 k1
  | ow ys=>
   obtain⟨b,vs,h1,h2,h3,h4⟩:=S1.ow e
   exact look _ h1 fun z s2 I2 r2=>qM hu I2 st1.gh q1 (.inr ⟨b,vs,ys,rfl,rfl,h2,h3,h4⟩) r1 r2 k1
  | dc kvs=>
   obtain⟨b,es,h1,h2,h3,h4,h5⟩:=S1.dc e
   have k2:RK X.K ad G1 H1 (if cT d1=true then inK op (pC kvs d1) else .bad) Q E:=k1
   by_cases hk:cT d1=true
   ·rw [if_pos hk] at k2
    refine look _ h1 fun z s2 I2 r2=> ?_
    cases r2
    rcases q1 with q1 | ⟨_,_,ds,rfl,_⟩
    ·exact wZ hu I2 st1.gh r1 q1 hk h3 h4 h5 k2
    ·exact absurd (j8 hk).1 bd
   ·rw [if_neg hk] at k2
    exact k2.elim
  | sd kvs=>
   obtain⟨b,es,h1,h2,h3,h4,h5⟩:=S1.sd e
   have k2:RK X.K ad G1 H1 (if cT d1=true then inK op (pC kvs d1) else .bad) Q E:=k1
   by_cases hk:cT d1=true
   ·rw [if_pos hk] at k2
    refine look _ h1 fun z s2 I2 r2=> ?_
    cases r2
    rcases q1 with q1 | ⟨_,_,ds,rfl,_⟩
    ·exact wZ hu I2 st1.gh r1 q1 hk h3 h4 h5 k2
    ·exact absurd (j8 hk).1 bd
   ·rw [if_neg hk] at k2
    exact k2.elim
theorem aJn {op:CmpOp} {a:Expr} {f:F} {i:Nat} {x:Str} {p:Pos} (hN:X.N[i]? =some x) (hv:Vis X.env.scope x) (hd:(x==("__debug__":Str))=false) (hcd:(x==("__classdict__":Str))=false) (hu:X.A.units+62<cLine) (ha:MLk X ad a f) (hm:behindInMarks op (.Name x p)=false):ME X ad (.Compare a [op] [.Name x p] pos) (aH4 op f i):=by
 intro pins s σ H Q I ⟨G,ρ,E,hG,hS,hx,hr⟩
 exact wpAny_Compare1 (aCb hN hv hd hcd hu ha I hG hS hx hr) hm
theorem aJo {op:CmpOp} {a:Expr} {f:F} {i:Nat} {x:Str} {p:Pos} (hN:X.N[i]? =some x) (hv:Vis X.env.scope x) (hd:(x==("__debug__":Str))=false) (hcd:(x==("__classdict__":Str))=false) (hu:X.A.units+62<cLine) (ha:MLk X ad a f) (hm:behindInMarks op (.Name x p)=false):MT X ad (.Compare a [op] [.Name x p] pos) (aH4 op f i):=
 sD hm fun I hG hS hx hr=>aCb hN hv hd hcd hu ha I hG hS hx hr
end
section
variable {prog:Program} {w:World} {A:Around} {E:Value->Shared->Prop} {s:Shared}
theorem aEx {d:Addr} {o:Obj} {ar:Array DictEntry} {ep:Nat} {Q:Value->Shared->Prop} (hd:(d==sysModules)=false) (ho:s.heap.get? d=some o) (hc:o.ExactDict) (hdat:o.data= .dict ar ep)
  (hQ:Q (.ref s.heap.objs.size) { s with heap:=s.heap.push { cls:= .type "dict_keyiterator",data:= .fields #[.ref d, .int 0 0, .int ar.size 0, .int ep 0] } }):
  wpAny (model prog w) A (pyIter (.ref d)) Q E s:=by
 have ty:s.TypeIs (.ref d) "dict":=⟨o,ho,hc.1⟩
 refine wpAny_pyIter_slot ty F.slot_dict_iter (wpAny_call_entry F.slot_dict_iter ty F.entry_dict_iter ?_ (F.args_dict_iter_1 _))
 unfold Builtin.«dict.__iter__» Builtin.Dict.dictSlotNone
 refine aa (aa (wpAny_notOrdered_dict ty ?_))
 refine ae ?_
 unfold Builtin.Dict.showsAll
 show wpAny _ _ ((if(d==sysModules)=true then _ else _) >>= _) _ _ s
 rw [hd,if_neg bd]
 refine aa (ae (aa (wpAny_dictEntries ho hdat (aa (wpAny_dictEpoch ho hdat ?_)))))
 refine aa (wpAny_newObj_type (ae ⟨_,rfl,"dict_keyiterator",_,⟨_,ag _ rfl,rfl⟩,F.slot_dict_keyiterator_next.lookup, ?_⟩))
 simpa [rawInt] using hQ
theorem aEy {it d:Addr} {i ep:Nat} {o:Obj} {ar:Array DictEntry} {Q:Option Value->Shared->Prop} (hit:s.heap.IsKeyIter it d i ar.size ep) (ho:s.heap.get? d=some o) (hdat:o.data= .dict ar ep) (hi:i<ar.size)
  (hQ: ∀ h',h'.IsKeyIter it d (i+1) ar.size ep->Heap.SameBut it s.heap h'->Q (some ar[i].key) { s with heap:=h' }):wpAny (model prog w) A (pyNext (.ref it)) Q E s:=by
 obtain⟨oi,hoi,hci,hdi⟩:=id hit
 have ty:=hit.typeIs
 unfold pyNext
 refine aa (wpAny_attempt (wpAny_callSpecial?_slot (name:=Str.ofString "__next__") ty F.slot_dict_keyiterator_next (wpAny_call_entry F.slot_dict_keyiterator_next ty F.entry_dict_keyiterator_next ?_ (F.args_dict_keyiterator_next_1 _))))
 refine aa (ae (aa (aa ?_)))
 first
  | refine aa (wpAny_typeNameOfWhole_keyiter ty (ae (aa (wpAny_fieldsOf hoi hdi ?_))))
  | refine aa (wpAny_typeNameOf_keyiter ty (ae (aa (wpAny_fieldsOf hoi hdi ?_))))
 have own:Builtin.Dict_items.ownsTuple "dict_keyiterator"=false:=by decide
 simp only [own,ax,if_false]
 show wpAny _ _ (if(Value.ref d==Value.none)=true then _ else _) _ _ s
 rw [if_neg (show ¬ (Value.ref d==Value.none)=true from bd)]
 refine aa (ae (aa (wpAny_dictEntries ho hdat ?_)))
 rw [if_neg (by simp)]
 refine aa (ae (aa (wpAny_dictEpoch ho hdat ?_)))
 rw [if_neg (by simp)]
 refine ae ?_
 simp only [show ¬ ((i:Int)<0) from by omega,if_false,Int.toNat_natCast,Array.getElem?_eq_getElem hi]
 refine aa ?_
 first
  | refine aa (wpAny_typeNameOfWhole_keyiter ty (ae (aa (wpAny_isOneOf_keyiter ty ?_))))
  | refine aa (wpAny_typeNameOf_keyiter ty (ae (aa (wpAny_isOneOf_keyiter ty ?_))))
  | refine aa (wpAny_typeNameOfWhole_keyiter ty (ae ?_))
 show wpAny _ _ (setField (.ref it) 1 (rawInt ((i:Int)+1)) >>= _) _ _ s
 refine aa (wpAny_setField hoi hdi (by simp) ?_)
 have nx:(s.heap.update it (Obj.mapFields (·.setIfInBounds 1 (rawInt ((i:Int)+1))))).IsKeyIter it d (i+1) ar.size ep:=
  ⟨_,Heap.get?_update_self _ hoi (Obj.isFreed_of_fields (Obj.data_mapFields hdi _)),(Obj.cls_mapFields ..).trans hci,by rw [Obj.data_mapFields hdi];simp [rawInt]⟩
 refine aa (wpAny_holding (aa (wpAny_isOneOf_keyiter (s:={ s with heap:=s.heap.update it (Obj.mapFields (·.setIfInBounds 1 (rawInt ((i:Int)+1)))) }) nx.typeIs ?_)))
 exact ae (ae ⟨_,rfl,ae (hQ _ nx (Heap.SameBut.update ..))⟩)
theorem aEz {it d:Addr} {i ep:Nat} {o:Obj} {ar:Array DictEntry} {Q:Option Value->Shared->Prop} (hh:A.handled=none) (hit:s.heap.IsKeyIter it d i ar.size ep) (ho:s.heap.get? d=some o) (hdat:o.data= .dict ar ep) (hi:ar.size<=i)
  (hQ: ∀ h',Heap.ExtBut it s.heap h'->Q none { s with heap:=h' }):wpAny (model prog w) A (pyNext (.ref it)) Q E s:=by
 obtain⟨oi,hoi,hci,hdi⟩:=id hit
 have ty:=hit.typeIs
 unfold pyNext
 refine aa (wpAny_attempt (wpAny_callSpecial?_slot (name:=Str.ofString "__next__") ty F.slot_dict_keyiterator_next (wpAny_call_entry F.slot_dict_keyiterator_next ty F.entry_dict_keyiterator_next ?_ (F.args_dict_keyiterator_next_1 _))))
 refine aa (ae (aa (aa ?_)))
 first
  | refine aa (wpAny_typeNameOfWhole_keyiter ty (ae (aa (wpAny_fieldsOf hoi hdi ?_))))
  | refine aa (wpAny_typeNameOf_keyiter ty (ae (aa (wpAny_fieldsOf hoi hdi ?_))))
 have own:Builtin.Dict_items.ownsTuple "dict_keyiterator"=false:=by decide
 simp only [own,ax,if_false]
 show wpAny _ _ (if(Value.ref d==Value.none)=true then _ else _) _ _ s
 rw [if_neg (show ¬ (Value.ref d==Value.none)=true from bd)]
 refine aa (ae (aa (wpAny_dictEntries ho hdat ?_)))
 rw [if_neg (by simp)]
 refine aa (ae (aa (wpAny_dictEpoch ho hdat ?_)))
 rw [if_neg (by simp)]
 refine ae ?_
 simp only [show ¬ ((i:Int)<0) from by omega,if_false,Int.toNat_natCast,Array.getElem?_eq_none hi]
 refine aa ?_
 first
  | refine aa (wpAny_typeNameOfWhole_keyiter ty (ae ?_))
  | refine aa (wpAny_typeNameOf_keyiter ty (ae ?_))
 show wpAny _ _ (setField (.ref it) 0 .none >>= _) _ _ s
 refine aa (wpAny_setField hoi hdi (by simp) (aa ?_))
 simp only [newExc,newTuple]
 refine aa (wpAny_newObj_type (aa (m:=firstArgMember _ _) (wpAny_of_eq (a:=Value.none) (by first | rfl | (simp only [firstArgMember];rfl)) (wpAny_newObj_type ?_ (by size_fits)))) (by size_fits))
 simp only [raiseNew]
 refine aa (wpAny_handled ?_)
 rw [show A.in1.handled=none from hh]
 refine aa (ae (wpAny_throw ?_))
 refine aa (wpAny_isInstance (b:=true) (T:="StopIteration") ⟨_,ag _ rfl,rfl⟩ isSubtype_stop ?_)
 exact ae (hQ _ (((Heap.SameBut.update ..).extBut.push _).push _))
end
noncomputable def Itd (a:Addr) (ep n:Nat):It:=
 ⟨fun i H=>i<n/\ ∃ es,H a=some (dcO a (ep,es))/\es.length=n,fun i H x H'=>H'=H/\ ∀ es,H a=some (dcO a es)-> ∃ e,es.2[i]? =some e/\x= .ref e.2.1,fun i H=>n<=i/\ ∃ es,H a=some (dcO a (ep,es))/\es.length=n⟩
theorem oS {α β:Type} {R:α->β->Prop}: ∀ {l:List α} {m:List β},Paired R l m-> ∀ {i:Nat} {b:β},m[i]? =some b-> ∃ a,l[i]? =some a/\R a b
 | _,_, .nil,i,b,h=>by simp at h
 | _,_, .cons r t,0,b,h=>by simp at h;subst h;exact⟨_,rfl,r⟩
 | _,_, .cons r t,i+1,b,h=>by
  obtain⟨a,e,r⟩:=oS t (i:=i) (b:=b) (by simpa using h)
  exact⟨a,by simpa using e,r⟩
theorem lN {α β:Type} {R:α->β->Prop}: ∀ {l:List α} {m:List β},Paired R l m-> ∀ {i:Nat} {a:α},l[i]? =some a-> ∃ b,m[i]? =some b/\R a b
 | _,_, .nil,i,b,h=>by simp at h
 | _,_, .cons r t,0,b,h=>by simp at h;subst h;exact⟨_,rfl,r⟩
 | _,_, .cons r t,i+1,b,h=>by
  obtain⟨a,e,r⟩:=lN t (i:=i) (a:=b) (by simpa using h)
  exact⟨a,by simpa using e,r⟩
theorem w4 {P:Program} {w:World} {K:PySem.W.Frag} {tg:Expr} (a it:Addr) (ep n:Nat):Turn P w K tg (Itd a ep n) [it] it (fun i h=>h.IsKeyIter it a i n ep) where
 mem:=by simp
 obj:=fun i h st b hb=>by
  have e:b=it:=by simpa using hb
  subst e
  obtain⟨o,e,c,d⟩:=st
  exact⟨o,e,fun v z=>by rw [d] at z;cases z⟩
 keep:=fun i h h' st k=>st.at fun o e=>k it (by simp) o e
 item:=by
  intro X hP hw hK hc i pins s σ H E I hf st hg
  subst hP hw hK
  obtain⟨hi,es,ha,hl⟩:=hg
  obtain⟨⟨z,l,o,ar,xs,ho,he,hdat,har,hx⟩,_,_⟩:=I.hok a _ ha
  have sz:ar.size=n:=by rw [<-Array.length_toList,har,am, <-Paired.length hx];exact hl
  obtain⟨f0,f1,f2,f3,f4,f5⟩:=hf it (by simp)
  have hi':i<ar.size:=by rw [sz];exact hi
  refine aEy (ar:=ar) (by rw [sz];exact st) ho hdat hi' fun h' st' sb=> ?_
  have I1:Inv X pins σ H { s with heap:=h' }:=I.turned (t':=s.toks) (fun b o hb e=>(sb.2 b hb).trans e) f0 f1 f3 f4 f5
  have exi:xs[i]? =some (xs[i]'(by have:=congrArg List.length har;rw [Array.length_toList,am] at this;omega)):=ba _
  have key: ∀ (es:Nat×List (Int×Addr×V)),aM9 s.heap a es-> ∃ e,es.2[i]? =some e/\ar[i].key= .ref e.2.1:=fun es d=>by
   obtain⟨_,_,o',ar',xs',ho',_,hdat',har',hx'⟩:=d
   have eo:o'=o:=by rw [ho] at ho';cases ho';rfl
   subst eo
   rw [hdat] at hdat'
   cases hdat'
   have hlx:i<xs'.length:=by have:=congrArg List.length har';rw [Array.length_toList,am] at this;omega
   obtain⟨e,e1,r⟩:=oS hx' (i:=i) (b:=xs'[i]) (ba _)
   refine⟨e,e1, ?_⟩
   have:ar.toList[i]? =some ⟨xs'[i].1, .ref xs'[i].2.1,xs'[i].2.2⟩:=by rw [har',List.getElem?_map,ba hlx];rfl
   rw [Array.getElem?_toList,Array.getElem?_eq_getElem hi'] at this
   rw [Option.some.inj this,r.2.1]
  obtain⟨e0,_,k0⟩:=key (ep,es) ⟨z,l,o,ar,xs,ho,he,hdat,har,hx⟩
  obtain⟨oi,e,c,d⟩:=id st'
  rw [k0]
  refine⟨_,rfl,yO (s:={ s with heap:=h' }) e c d (by decide) ⟨.ref e0.2.1,H,I1,rfl,⟨rfl,fun es' h'=> ?_⟩,by rw [<-sz];exact st',fun b hb=>(hf b hb).1⟩⟩
  obtain⟨e1,q1,q2⟩:=key es' (I.hok a _ h').1
  refine⟨e1,q1, ?_⟩
  rw [Value.ref.inj (k0.symm.trans q2)]
 done:=by
  intro X hP hw hK hc i pins s σ H E I hf st hg
  subst hP hw hK
  obtain⟨hi,es,ha,hl⟩:=hg
  obtain⟨⟨z,l,o,ar,xs,ho,he,hdat,har,hx⟩,_,_⟩:=I.hok a _ ha
  have sz:ar.size=n:=by rw [<-Array.length_toList,har,am, <-Paired.length hx];exact hl
  obtain⟨f0,f1,f2,f3,f4,f5⟩:=hf it (by simp)
  exact aEz (ar:=ar) (I.ok.hd hc) (by rw [sz];exact st) ho hdat (by rw [sz];exact hi) fun h' eb=>⟨rfl,I.turned (t':=s.toks) (fun b o hb e=>eb b o hb e) f0 f1 f3 f4 f5⟩
 self:=fun _ _ _ _ _ st h=>wpAny_pyIter_keyiter st h
section
variable {X:Cx} {ad:Ad} {pins:List (Addr×Obj)} {s:Shared} {σ:St} {H G:Hp} {ρ:Rho} {tg:Expr}
theorem aAk {a:Addr} {es:Nat×List (Int×Addr×V)} {kvs:List (D×D)} (ha:H a=some (dcO a es)) (hd:DR X.K ad G kvs es) (few:es.2.length<=200000):ItH X ad (Itd a es.1 es.2.length) G H (kvs.map (·.1)):=by
 have hl:kvs.length=es.2.length:=Paired.length hd
 refine⟨fun i G1 H1 d st e=> ?_,fun G1 H1 st=>⟨by rw [am,hl];exact aj _,es.2,st.sh _ _ ha,rfl⟩,by rw [am,hl];exact Nat.le_trans few (by decide)⟩
 rw [List.getElem?_map] at e
 obtain⟨p,e1,rfl⟩:=zMd e
 obtain⟨q,e2,r⟩:=lN hd e1
 have hi:i<es.2.length:=(aw.mp e2).1
 refine⟨⟨hi,es.2,st.sh _ _ ha,rfl⟩, ?_⟩
 rintro x H2 ⟨rfl,y⟩
 obtain⟨q',e3,rfl⟩:=y es (st.sh _ _ ha)
 rw [e2] at e3
 cases e3
 exact⟨G1,Step.refl st.gh,r.2.1.mono st.sg⟩
theorem w5 {i:Nat} {x:Str} {p:Pos} {a:Addr} {es:Nat×List (Int×Addr×V)} {kvs:List (D×D)} {W:It->Hp->Prop} (hN:X.N[i]? =some x) (hv:Vis X.env.scope x) (hd:(x==("__debug__":Str))=false) (hcd:(x==("__classdict__":Str))=false)
  (I:Inv X pins σ H s) (hG:Same G H) (h1:σ[i]? =some (some (.ref a))) (h3:H a=some (dcO a es)) (h4:DR X.K ad G kvs es) (h5:KOk kvs) (hw: ∀ J G' H',Step G H G' H'->ItH X ad J G' H' (kvs.map (·.1))->W J H'):
  wpAny (model X.prog X.w) X.A (eval (.Name x p) X.env) (fun v s1=>wpAny (model X.prog X.w) X.A (pyIter v) (PIE X pins σ tg W) X.xe s1) X.xe s:=by
 refine L2.thn (eY hN hv hd hcd pins s σ H (fun v' H'=>v'= .ref a/\H'=H) I ⟨.ref a,h1,rfl,rfl⟩) fun z s1 hz_=> ?_
 obtain⟨v',H',I1,r1,e1,e2⟩:=hz_
 subst e1;subst e2
 cases r1
 obtain⟨hz,hln,_⟩:=aEu I1 hG h3 h4 h5
 obtain⟨⟨z,l,o,ar,xs,ho,he,hdat,har,hx⟩,_,_⟩:=I1.hok a _ h3
 have sz:ar.size=es.2.length:=by rw [<-Array.length_toList,har,am, <-Paired.length hx]
 refine aEx hz ho he hdat ?_
 refine⟨s1.heap.objs.size,[s1.heap.objs.size],_,_,H',rfl,I1.kept (t':=s1.toks) fun b o e=>af _ e,w4 a _ es.1 es.2.length,⟨_,ag _ rfl,rfl,by rw [sz];rfl⟩,fun b hb=> ?_,hw _ G H' (Step.refl hG) (aAk h3 h4 hln)⟩
 have e:b=s1.heap.objs.size:=by simpa using hb
 subst e
 exact I1.fpOk (aj _) (I1.hok.fresh (aj _))
theorem aE0 {i:Nat} {x:Str} {p:Pos} (hN:X.N[i]? =some x) (hv:Vis X.env.scope x) (hd:(x==("__debug__":Str))=false) (hcd:(x==("__classdict__":Str))=false):MI X ad tg (.Name x p) (jQ i):=by
 intro pins s σ H W I ⟨G,ρ,E,hG,hS,hx,hr⟩
 have other:jQ i ρ=aD i ρ->wpAny (model X.prog X.w) X.A (eval (.Name x p) X.env) (fun v s1=>wpAny (model X.prog X.w) X.A (pyIter v) (PIE X pins σ tg W) X.xe s1) X.xe s:=fun z=>
  rS (vE hN hv hd hcd) pins s σ H W I ⟨G,ρ,E,hG,hS,hx,by rw [<-z];exact hr⟩
 cases e:ρ[i]? with
 | none=>exact other (by unfold jQ;rw [e])
 | some sl=>
  cases sl with
  | no=>exact other (by unfold jQ;rw [e])
  | rk _ _=>exact other (by unfold jQ;rw [e])
  | sh d=>exact other (by unfold jQ;rw [e])
  | ow d=>exact other (by unfold jQ;rw [e])
  | dc kvs=>
   unfold jQ at hr
   rw [e] at hr
   obtain⟨ds,e1,hw⟩:=hr
   cases e1
   obtain⟨a,es,h1,h2,h3,h4,h5⟩:=hS.dc e
   exact w5 hN hv hd hcd I hG h1 h3 h4 h5 hw
  | sd kvs=>
   unfold jQ at hr
   rw [e] at hr
   obtain⟨ds,e1,hw⟩:=hr
   cases e1
   obtain⟨a,es,h1,h2,h3,h4,h5⟩:=hS.sd e
   exact w5 hN hv hd hcd I hG h1 h3 h4 h5 hw
end
theorem j9 {i:Int} {e:Expr} (h:aGi i e=true): ∃ j p,e= .Constant (.int i) j p:=by
 cases e<;>try (cases h;done)
 rename_i c j p
 cases c<;>try (cases h;done)
 rename_i k
 have hk:k=i:=eq_of_beq h
 subst hk
 exact⟨j,p,rfl⟩
theorem t6 {e:Expr} (h:uZ e=true): ∃ j p,e= .Constant .none j p:=by
 cases e<;>try (cases h;done)
 rename_i c j p
 cases c<;>try (cases h;done)
 exact⟨j,p,rfl⟩
theorem aAl {ks:List (Option Expr)} {vs:List Expr} (h:aDd ks vs=true): ∃ j1 j2 j3 j4 j5 j6 p1 p2 p3 p4 p5 p6,ks=[some (.Constant (.int 0) j1 p1),some (.Constant (.int 1) j2 p2),some (.Constant .none j3 p3)]/\vs=[.Constant (.int 0) j4 p4, .Constant (.int 1) j5 p5, .Constant (.int 2) j6 p6]:=by
 unfold aDd at h
 split at h
 ·rename_i a b c hm
  split at h
  ·rename_i x y z
   simp only [au] at h
   obtain⟨⟨⟨⟨⟨h1,h2⟩,h3⟩,h4⟩,h5⟩,h6⟩:=h
   obtain⟨j1,p1,rfl⟩:=j9 h1
   obtain⟨j2,p2,rfl⟩:=j9 h2
   obtain⟨j3,p3,rfl⟩:=t6 h3
   obtain⟨j4,p4,rfl⟩:=j9 h4
   obtain⟨j5,p5,rfl⟩:=j9 h5
   obtain⟨j6,p6,rfl⟩:=j9 h6
   refine⟨j1,j2,j3,j4,j5,j6,p1,p2,p3,p4,p5,p6, ?_,rfl⟩
   have key: ∀ (l:List (Option Expr)) (m:List Expr),d7 (fun o=>o) l=some m->l=m.map some:=by
    intro l
    induction l with
    | nil=>intro m e;cases e;rfl
    | cons o l ih=>
     intro m e
     unfold d7 at e
     cases o with
     | none=>cases e
     | some y=>
      obtain⟨r,e1,rfl⟩:=zMd e
      rw [ih r e1]
      rfl
   exact key _ _ hm
  ·cases h
 ·cases h
theorem dS {l:List Expr} {a:Expr} (h:one l=some a):l=[a]:=by
 unfold one at h
 split at h
 ·cases h;rfl
 ·cases h
theorem kB {l:List Expr} {a b:Expr} (h:two l=some (a,b)):l=[a,b]:=by
 unfold two at h
 split at h
 ·cases h;rfl
 ·cases h
theorem bY {e:Expr} {x:Str} {p:Pos} (h:cU e=some (x,p)):e= .Name x p:=by
 cases e<;>first | (cases h;rfl) | (cases h;done)
theorem aAm {e:Expr} (h:cU e=none): ∀ x p,e≠ .Name x p:=fun x p z=>by subst z;cases h
theorem w6 {e:Expr} {es:List Expr} {k:Nat} {p:Pos} (h:aGh e=some (es,k,p)):e= .Tuple es k p:=by
 cases e<;>first | (cases h;rfl) | (cases h;done)
theorem w8 {e:Expr} {lo hi:Option Expr} (h:aBl e=some (lo,hi)): ∃ p,e= .Slice lo hi none p:=by
 cases e<;>try (cases h;done)
 rename_i a b c p
 cases c with
 | none=>cases h;exact⟨p,rfl⟩
 | some c=>cases h
theorem aAn {e:Expr} (h:aDb e=true): ∃ j p,e= .Constant (.int 1) j p:=by
 cases e<;>try (cases h;done)
 rename_i c j p
 cases c<;>try (cases h;done)
 rename_i i
 have:i=1:=by simpa [aDb] using h
 subst this
 exact⟨j,p,rfl⟩
theorem aE1 {e:Expr} (h:aPp e=true): ∃ j p q,e= .UnaryOp .USub (.Constant (.int 1) j q) p:=by
 cases e<;>try (cases h;done)
 rename_i op e p
 cases op<;>try (cases h;done)
 obtain⟨j,q,rfl⟩:=aAn (e:=e) h
 exact⟨j,p,q,rfl⟩
theorem aE2 {e:Expr} (h:aPr e=true): ∃ j p2 p3 p4,e= .Slice none none (some (.UnaryOp .USub (.Constant (.int 1) j p4) p3)) p2:=by
 cases e<;>try (cases h;done)
 rename_i lo hi st p
 cases lo<;>try (cases h;done)
 cases hi<;>try (cases h;done)
 cases st<;>try (cases h;done)
 obtain⟨j,q,r,rfl⟩:=aE1 h
 exact⟨j,p,q,r,rfl⟩
theorem sE {dE:Expr->Option F} {C:SK.Ctx} {a:Expr} {f:F} (h:yY dE C a=some f): ∃ x p b q,a= .Call (.Name x p) [b] [] q/\glo C x=some (.py .range)/\dE b=some f:=by
 unfold yY at h
 split at h
 ·rename_i f' as kws q
  split at h
  ·rename_i hk
   obtain⟨⟨x,p⟩,h1,h⟩:=zBd h
   obtain⟨b,h2,h⟩:=zBd h
   split at h
   ·rename_i e1 e2
    exact⟨x,p,b,q,by rw [bY h1,dS h2,List.isEmpty_iff.mp hk],e2,h⟩
   ·cases h
  ·cases h
 ·cases h
theorem fS {α:Type} {l:List α} (h:l.isEmpty=true):l=[]:=List.isEmpty_iff.mp h
noncomputable def mR:Expr->Prop
 | .Starred _ _=>False
 | _=>True
theorem aQ {e:Expr} {es:List Expr} {env:PySem.Env} (h:mR e):starEach (e::es) env=(false,eval e env)::starEach es env:=by
 cases e<;>first | rfl | exact h.elim
noncomputable def lO:Expr->Prop
 | .Set _ _ _=>False
 | _=>True
theorem aJp {C:SK.Ctx} {e:Expr} {i:Nat} (h:dnN C e=some i): ∃ x p,e= .Name x p/\loc C x=some i:=by
 unfold dnN at h
 obtain⟨⟨x,p⟩,h1,h2⟩:=zBd h
 cases bY h1
 have h3:(if C.bs.contains (nW x)=true then loc C x else none)=some i:=h2
 by_cases hc:C.bs.contains (nW x)=true
 ·rw [if_pos hc] at h3
  exact⟨x,p,rfl,h3⟩
 ·rw [if_neg hc] at h3
  cases h3
theorem aJq {C:SK.Ctx} {op:CmpOp} {e:Expr} {i:Nat} (h:inN C op e=some i): ∃ x p,e= .Name x p/\loc C x=some i:=by
 unfold inN at h
 split at h
 ·obtain⟨⟨x,p⟩,h1,h2⟩:=zBd h
  cases bY h1
  exact⟨x,p,rfl,h2⟩
 ·cases h
theorem gY {e:Expr} {op:CmpOp} (h:lO e):behindInMarks op e=false:=by
 cases e<;>first | rfl | exact h.elim
theorem oT {b c:Expr} {op op':CmpOp} (h:lO c):lastMarks [op,op'] [b,c]=false:=by
 show behindInMarks op' c=false
 exact gY h
theorem aAo {e:Expr} (h: ∀ a b c d,e≠ .Slice a b c d):uS e:=by
 intro o i
 cases e<;>first | rfl | exact absurd rfl (h _ _ _ _)
theorem aK {n:Nat} {C:SK.Ctx} {e:Expr} {f:F} (h:bO n C e=some f):mR e/\lO e/\ ∀ a b c d,e≠ .Slice a b c d:=by
 cases n with
 | zero=>cases h
 | succ n=>cases e<;>first | (cases h;done) | (refine⟨trivial,trivial, ?_⟩;intro a b c d z;cases z;done)
theorem bE {n:Nat} {C:SK.Ctx} {e:Expr} {f:F} (h:pD n C e=some f):mR e/\lO e:=by
 cases n with
 | zero=>cases h
 | succ n=>
  by_cases hn: ∃ x p,e= .Name x p
  ·obtain⟨x,p,rfl⟩:=hn
   exact⟨trivial,trivial⟩
  ·have:bO n C e=some f:=by
    rw [<-h]
    cases e<;>first | rfl | exact absurd ⟨_,_,rfl⟩ hn
   exact⟨(aK this).1,(aK this).2.1⟩
theorem kC {n:Nat} {C:SK.Ctx} {tt:Bool} {e:Expr} {f:F} (h:aBm n C tt e=some f):lO e:=by
 cases n with
 | zero=>cases h
 | succ n=>cases e<;>first | trivial | exact(bE h).2
section
variable {ad:Ad}
def yJ (ad:Ad) (n:Nat):Prop:= ∀ (X:Cx) (C:SK.Ctx) (e:Expr) (f:F),CtxOk X ad C->bO n C e=some f->ME X ad e f/\MT X ad e f/\ ∀ op es p,e= .BoolOp op es p->MW X ad e f
def aGl (ad:Ad) (n:Nat):Prop:= ∀ (X:Cx) (C:SK.Ctx) (e:Expr) (f:F),CtxOk X ad C->pD n C e=some f->ML X ad e f
def aJr (ad:Ad) (n:Nat):Prop:= ∀ (X:Cx) (C:SK.Ctx) (tg e:Expr) (tt:Bool) (f:F),CtxOk X ad C->(tt=true-> ∃ es k p,tg= .Tuple es k p)->aBm n C tt e=some f->MI X ad tg e f/\((∀ x p,e≠ .Name x p)->MIG X ad tg e f)
variable {X:Cx} {C:SK.Ctx} {n:Nat}
theorem aAp (hE:yJ ad n) (O:CtxOk X ad C): ∀ {es:List Expr} {fs:List F},d7 (bO n C) es=some fs->MA X ad es fs/\ ∀ e∈es,mR e
 | [],fs,h=>by
  cases h
  exact⟨aBw,fun _ h=>by cases h⟩
 | e::es,fs,h=>by
  unfold d7 at h
  cases e1:bO n C e with
  | none=>rw [e1] at h;cases h
  | some f=>
   rw [e1] at h
   obtain⟨r,h1,h2⟩:=zMd h
   subst h2
   obtain⟨q1,q2⟩:=aAp hE O h1
   have ns:=(aK e1).1
   exact⟨pZ (hE X C e f O e1).1 q1 (aQ ns),fun a ha=>by
    rcases aq.mp ha with rfl | ha
    ·exact ns
    ·exact q2 a ha⟩
theorem jF {α β:Type} {f:α->Option β}: ∀ {l:List α} {r:List β},d7 f l=some r->r.length=l.length
 | [],r,h=>by cases h;rfl
 | x::l,r,h=>by
  unfold d7 at h
  cases e:f x with
  | none=>rw [e] at h;cases h
  | some y=>
   rw [e] at h
   obtain⟨r',h1,h2⟩:=zMd h
   subst h2
   simp [jF h1]
theorem sF {env:PySem.Env} {pos:Pos}: ∀ {es:List Expr},(∀ e∈es,mR e)->(backTo pos (starEach es env)).any (·.1)=false
 | [],_=>rfl
 | e::es,h=>by
  rw [aQ (h e (.head _))]
  show(false||(backTo pos (starEach es env)).any (·.1))=false
  rw [sF fun a ha=>h a (.tail _ ha)]
  rfl
theorem aNl (hE:yJ ad n) (hL:aGl ad n) (O:CtxOk X ad C) {x:Str} {p:Py} {as:List Expr} {f:F} {np pos:Pos} (hg:glo C x=some (.py p)) (h:aDc (bO n C) (pD n C) C p as=some f):ME X ad (.Call (.Name x np) as [] pos) f:=by
 obtain⟨g1,g2,g3,g4⟩:=O.gl hg
 unfold aDc at h
 split at h
 ·have hx:=zBd h
  clear h
  obtain⟨a,h0,h⟩:=hx
  cases dS h0
  obtain⟨fa,h1,rfl⟩:=zMd h
  subst g3
  exact gG aDp g1 g4 (by decide+kernel) (hL X C _ fa O h1) (by decide) g2 (aQ (bE h1).1)
 ·have hx:=zBd h
  clear h
  obtain⟨a,h0,h⟩:=hx
  cases dS h0
  obtain⟨fa,h1,rfl⟩:=zMd h
  subst g3
  exact vF aDq g1 g4 (by decide+kernel) (hL X C _ fa O h1) (by decide) g2 (aQ (bE h1).1)
 ·have hx:=zBd h
  clear h
  obtain⟨a,h0,h⟩:=hx
  cases dS h0
  subst g3
  cases h1:pD n C a with
  | some fa=>
   rw [h1] at h
   cases h
   exact vF vG g1 g4 (by decide+kernel) (hL X C _ fa O h1) (by decide) g2 (aQ (bE h1).1)
  | none=>
   rw [h1] at h
   obtain⟨fa,h2,rfl⟩:=zMd h
   obtain⟨y,yp,b,yq,rfl,e1,e2⟩:=sE h2
   obtain⟨r1,r2,r3,r4⟩:=O.gl e1
   subst r3
   exact kZ r1 r4 g1 g4 O.calm (hE X C _ fa O e2).1 (aQ (aK e2).1)
 ·have hx:=zBd h
  clear h
  obtain⟨a,h0,h⟩:=hx
  cases dS h0
  subst g3
  cases h1:pD n C a with
  | some fa=>
   rw [h1] at h
   cases h
   exact vF zA g1 g4 (by decide+kernel) (hL X C _ fa O h1) (by decide) g2 (aQ (bE h1).1)
  | none=>
   rw [h1] at h
   obtain⟨fa,h2,rfl⟩:=zMd h
   obtain⟨y,yp,b,yq,rfl,e1,e2⟩:=sE h2
   obtain⟨r1,r2,r3,r4⟩:=O.gl e1
   subst r3
   exact mL r1 r4 g1 g4 O.calm (hE X C _ fa O e2).1 (aQ (aK e2).1)
 ·have hx:=zBd h
  clear h
  obtain⟨a,h0,h⟩:=hx
  cases dS h0
  obtain⟨fa,h1,rfl⟩:=zMd h
  subst g3
  exact gG (aDs O.hd) g1 g4 (by decide+kernel) (hL X C _ fa O h1) (by decide) g2 (aQ (bE h1).1)
 ·have hx:=zBd h
  clear h
  obtain⟨a,h0,h⟩:=hx
  cases dS h0
  obtain⟨fa,h1,rfl⟩:=zMd h
  subst g3
  exact gG (aDt O.hd) g1 g4 (by decide+kernel) (hL X C _ fa O h1) (by decide) g2 (aQ (bE h1).1)
 ·have hx:=zBd h
  clear h
  obtain⟨a,h0,h⟩:=hx
  cases dS h0
  obtain⟨fa,h1,rfl⟩:=zMd h
  subst g3
  exact gG (aDu O.hd) g1 g4 (by decide+kernel) (hL X C _ fa O h1) (by decide) g2 (aQ (bE h1).1)
 ·have hx:=zBd h
  clear h
  obtain⟨a,h0,h⟩:=hx
  cases dS h0
  obtain⟨fa,h1,rfl⟩:=zMd h
  subst g3
  exact gG aDr g1 g4 (by decide+kernel) (hL X C _ fa O h1) (by decide) g2 (aQ (bE h1).1)
 ·have hx:=zBd h
  clear h
  obtain⟨a,h0,h⟩:=hx
  cases dS h0
  obtain⟨fa,h1,rfl⟩:=zMd h
  subst g3
  exact gG (tZ O.un) g1 g4 (by decide+kernel) (hL X C _ fa O h1) (by decide) g2 (aQ (bE h1).1)
 ·cases h
 ·split at h
  ·rename_i a
   obtain⟨fa,h1,rfl⟩:=zMd h
   subst g3
   exact gG (zZ O.hd) g1 g4 (by decide+kernel) (hL X C _ fa O h1) (by decide) g2 (aQ (bE h1).1)
  ·have hx:=zBd h
   clear h
   obtain⟨⟨a,b⟩,h0,h⟩:=hx
   cases kB h0
   obtain⟨fa,h1,h⟩:=zBd h
   obtain⟨fb,h2,rfl⟩:=zMd h
   subst g3
   exact tH (r:=aPh) (op:=fun i j=>if j > i then j else i) (fun _ _=>rfl) (fun x y Q E G H k=>by cases x<;>cases y<;>first | exact⟨_,_,rfl,rfl⟩ | exact k.elim) (uO O.calm) g1 g4 (by decide+kernel) (hE X C _ fa O h1).1 (hE X C _ fb O h2).1 (by decide) g2 (aQ (aK h1).1) (aQ (aK h2).1)
 ·have hx:=zBd h
  clear h
  obtain⟨⟨a,b⟩,h0,h⟩:=hx
  cases kB h0
  have hx:=zBd h
  clear h
  obtain⟨⟨tn,tp⟩,hv,h⟩:=hx
  cases bY hv
  obtain⟨fa,h1,h⟩:=zBd h
  obtain⟨g,h2,h⟩:=zBd h
  obtain⟨P,h3,rfl⟩:=zMd h
  subst g3
  obtain⟨cv,c1,c2⟩:=aI4 O h2 h3
  by_cases hb:bsN C a=true
  ·rw [if_pos hb] at h1
   exact v6 O.exc g1 g4 c1 c2 (hL X C _ fa O h1) (aQ (bE h1).1)
  ·rw [if_neg hb] at h1
   exact v6 O.exc g1 g4 c1 c2 (hE X C _ fa O h1).1.ml (aQ (aK h1).1)
 ·cases h
theorem uG {e:Expr} {f:F} (h:ME X ad e f) (ht: ∀ whole,isTrue e X.env whole=(do let v<-whole;standAt e.pos;holding [v] (truthy v))) (hb: ∀ op es p,e≠ .BoolOp op es p):ME X ad e f/\MT X ad e f/\ ∀ op es p,e= .BoolOp op es p->MW X ad e f:=
 ⟨h,aIg h ht,fun op es p z=>absurd z (hb op es p)⟩
theorem aAq {e:Expr} {f:F} (h:MW X ad e f):MT X ad e f:=fun pins s σ H Q I t=>h _ pins s σ H Q I t
theorem w9 {tg:Expr} {xs:List Str} {k:Nat} (h:bI tg=some (xs,k)):xs.length=(if k=0 then 1 else k)/\((k != 0)=true-> ∃ es j p,tg= .Tuple es j p):=by
 cases tg<;>try (cases h;done)
 ·cases h
  exact⟨rfl,fun z=>absurd z (by decide)⟩
 ·rename_i es j p
  unfold bI at h
  obtain⟨ys,e1,e2⟩:=zBd h
  by_cases hl:2<=ys.length
  ·rw [if_pos hl] at e2
   cases e2
   exact⟨by rw [if_neg (by omega)],fun _=>⟨es,j,p,rfl⟩⟩
  ·rw [if_neg hl] at e2
   cases e2
theorem lP (hE:yJ ad n) (hI:aJr ad n) (O:CtxOk X ad C) {elt tg it:Expr} {ifs:List Expr} {sc:Scope} {pos:Pos} {f:F} (h:bO (n+1) C (.ListComp elt [⟨tg,it,ifs,0⟩] sc pos)=some f):
  ∃ xs k cs fi fc fe,f=aL k cs fi fc fe/\(bI tg=some (xs,k)/\bO n { C with sc:=sc,N:=xs++aS sc } elt=some fe)/\CompSc X C sc xs cs/\MI X ad tg it fi/\(∀ a b c,it≠ .Set a b c)/\xs.length=(if k=0 then 1 else k)/\(∀ fp s3 H3 pins',PG (cX X (xs++aS sc) sc s3 H3 fp pins') tg (gTg X.K k))/\
   (∀ fp s3 H3 pins',MTs (cX X (xs++aS sc) sc s3 H3 fp pins') ad ifs fc)/\ ∀ fp s3 H3 pins',ME (cX X (xs++aS sc) sc s3 H3 fp pins') ad elt fe:=by
 have h':((bI tg).bind fun(xs,k)=>(aBm n C (k != 0) it).bind fun fi=>if jR sc xs then
    (d7 (fun x=>eK C x) (aS sc)).bind fun cs=>(match ifs with
    | []=>some none
    | [c]=>(bO n { C with sc:=sc,N:=xs++aS sc } c).map some
    | _=>none).bind fun c=>(bO n { C with sc:=sc,N:=xs++aS sc } elt).map fun e=>aL k cs fi c e
   else none)=some f:=h
 clear h
 obtain⟨⟨xs,k⟩,e1,h⟩:=zBd h'
 obtain⟨fi,e2,h⟩:=zBd h
 obtain⟨l1,l2⟩:=w9 e1
 by_cases hc:jR sc xs=true
 ·rw [if_pos hc] at h
  obtain⟨cs,e3,h⟩:=zBd h
  obtain⟨fc,e4,h⟩:=zBd h
  obtain⟨fe,e5,e6⟩:=zMd h
  obtain⟨c1,c2,c3,c4,c5,c6,c7⟩:=iK hc
  have inn: ∀ fp s3 H3 pins',CtxOk (cX X (xs++aS sc) sc s3 H3 fp pins') ad { C with sc:=sc,N:=xs++aS sc }:=fun fp s3 H3 pins'=>aI5 O hc e3
  refine⟨xs,k,cs,fi,fc,fe,e6.symm,⟨e1,e5⟩,v7 O hc e3,(hI X C tg it _ fi O l2 e2).1,fun a b c z=> ?_,l1,fun fp s3 H3 pins'=> ?_,fun fp s3 H3 pins'=> ?_,fun fp s3 H3 pins'=>(hE _ _ elt fe (inn fp s3 H3 pins') e5).1⟩
  ·subst z
   exact kC e2
  ·by_cases hcel:nV sc=[]
   case neg=>
    rcases c2 with z | ⟨z,l⟩
    ·exact absurd z hcel
    ·obtain⟨x,rfl⟩:=List.length_eq_one_iff.mp l
     refine aEg (X:=cX X ([x]++aS sc) sc s3 H3 fp pins') (x:=x) c5 e1 rfl rfl ?_ (decide_eq_true z)
     show(relabel sc X.env).names.lookup x=some .cell
     have e7:=bM (env:=X.env) (x:=x) (names:=sc.names)
     rw [c3 x (.head _),z] at e7
     exact e7
   refine aNg (X:=cX X (xs++aS sc) sc s3 H3 fp pins') O.calm c5 e1 fun i x hx=>⟨?_, ?_⟩
   ·show(xs++aS sc)[i]? =some x
    rw [bt (aw.mp hx).1]
    exact hx
   ·show(relabel sc X.env).names.lookup x=some .local
    have e7:=bM (env:=X.env) (x:=x) (names:=sc.names)
    rw [c3 x (List.mem_of_getElem? hx),hcel] at e7
    exact e7
  ·split at e4
   ·cases e4
    trivial
   ·obtain⟨g,e8,rfl⟩:=zMd e4
    exact(hE _ _ _ g (inn fp s3 H3 pins') e8).2.1
   ·cases e4
 ·rw [if_neg hc] at h
  cases h
theorem aNm (hE:yJ ad n) (hL:aGl ad n) (hI:aJr ad n):yJ ad (n+1):=by
 intro X C e f O h
 unfold bO at h
 split at h
 ·-- a name
  rename_i x pos
  refine uG ?_ (fun _=>rfl) (fun _ _ _ z=>nomatch z)
  cases e1:loc C x with
  | some i=>
   rw [e1] at h
   cases h
   obtain⟨v1,v2,v3,v4⟩:=O.vis x i e1
   exact aBq v1 v2 v3 v4
  | none=>
   rw [e1] at h
   simp only at h
   split at h
   ·rename_i d e2
    cases h
    obtain⟨g1,g2,u,v,g3,g4,g5⟩:=O.gl e2
    exact u9 g1 g3 g4 g5 g2
   ·rename_i k0 n0 f0 e2
    cases h
    obtain⟨g1,g2,r,f,T,hr,hf⟩:=O.gl e2
    subst hf
    exact u9 (v:= .ref (ad.fnA k0)) g1 T.mg rfl (fun G=>by unfold Rep;rfl) g2
   ·cases h
 ·obtain⟨d,h1,rfl⟩:=zMd h
  exact uG (rH h1) (fun _=>rfl) (fun _ _ _ z=>nomatch z)
 ·obtain⟨fa,h1,h⟩:=zBd h
  obtain⟨fb,h2,rfl⟩:=zMd h
  exact uG (aIc (hE X C _ fa O h1).1 (hE X C _ fb O h2).1) (fun _=>rfl) (fun _ _ _ z=>nomatch z)
 ·obtain⟨fa,h1,h⟩:=zBd h
  obtain⟨q1,q2,_⟩:=hE X C _ fa O h1
  split at h
  ·cases h;exact⟨aId q1,aIi q2,fun _ _ _ z=>nomatch z⟩
  ·cases h;exact uG (aBr q1) (fun _=>rfl) (fun _ _ _ z=>nomatch z)
  ·cases h
 ·rename_i op es pos
  split at h
  ·rename_i a b
   obtain⟨fa,h1,h⟩:=zBd h
   obtain⟨fb,h2,rfl⟩:=zMd h
   obtain⟨q1,q2,_⟩:=hE X C _ fa O h1
   obtain⟨r1,r2,_⟩:=hE X C _ fb O h2
   cases op with
   | And=>
    have W:MW X ad (.BoolOp .And [a,b] pos) (gC fa fb):=aBu q2 (aBv r2)
    exact⟨aBs q1 (aBt r1),aAq W,fun _ _ _ _=>W⟩
   | Or=>
    have W:MW X ad (.BoolOp .Or [a,b] pos) (rOr fa fb):=aIk q2 (aBv r2)
    exact⟨aIf q1 (aBt r1),aAq W,fun _ _ _ _=>W⟩
  ·rename_i a b c r
   obtain⟨fa,h1,h⟩:=zBd h
   obtain⟨fb,h2,rfl⟩:=zMd h
   obtain⟨q1,q2,_⟩:=hE X C _ fa O h1
   obtain⟨r1,r2,r3⟩:=hE X C _ fb O h2
   cases op with
   | And=>
    have W:MW X ad (.BoolOp .And (a::b::c::r) pos) (gC fa fb):=aBu q2 (r3 _ _ _ rfl)
    exact⟨aBs q1 r1,aAq W,fun _ _ _ _=>W⟩
   | Or=>
    have W:MW X ad (.BoolOp .Or (a::b::c::r) pos) (rOr fa fb):=aIk q2 (r3 _ _ _ rfl)
    exact⟨aIf q1 r1,aAq W,fun _ _ _ _=>W⟩
  ·cases h
 ·split at h
  ·have hx:=zBd h
   clear h
   obtain⟨b,h0,h⟩:=hx
   cases dS h0
   obtain⟨fa,h1,h⟩:=zBd h
   have look: ∀ {e:Expr} {g:F},(if bsN C e=true then pD n C e else bO n C e)=some g->MLk X ad e g/\lO e:=fun {e g} h=>by
    split at h
    ·exact⟨(hL X C _ g O h).lk,(bE h).2⟩
    ·exact⟨(hE X C _ g O h).1.look,(aK h).2.1⟩
   have la:=(look h1).1
   split at h
   ·rename_i i hi
    cases h
    obtain⟨x,p,rfl,e1⟩:=aJq hi
    obtain⟨v1,v2,v3,v4⟩:=O.vis x i e1
    exact⟨aJn v1 v2 v3 v4 O.un la (gY trivial),aJo v1 v2 v3 v4 O.un la (gY trivial),fun _ _ _ z=>nomatch z⟩
   ·obtain⟨fb,h2,rfl⟩:=zMd h
    obtain⟨lb,m⟩:=look h2
    exact⟨aEv O.un la lb (gY m),aEw O.un la lb (gY m),fun _ _ _ z=>nomatch z⟩
  ·have hx:=zBd h
   clear h
   obtain⟨⟨b,c⟩,h0,h⟩:=hx
   cases kB h0
   obtain⟨fa,h1,h⟩:=zBd h
   obtain⟨fb,h2,h⟩:=zBd h
   obtain⟨fc,h3,rfl⟩:=zMd h
   exact⟨y6 O.un (hE X C _ fa O h1).1 (hE X C _ fb O h2).1 (hE X C _ fc O h3).1 (oT (aK h3).2.1),y8 O.un (hE X C _ fa O h1).1 (hE X C _ fb O h2).1 (hE X C _ fc O h3).1 (oT (aK h3).2.1),fun _ _ _ z=>nomatch z⟩
  ·cases h
 ·obtain⟨fc,h1,h⟩:=zBd h
  obtain⟨fa,h2,h⟩:=zBd h
  obtain⟨fb,h3,rfl⟩:=zMd h
  obtain⟨c1,c2,_⟩:=hE X C _ fc O h1
  obtain⟨a1,a2,_⟩:=hE X C _ fa O h2
  obtain⟨b1,b2,_⟩:=hE X C _ fb O h3
  have c3:=aNi c1 c2
  exact⟨y9 c3 a1 b1,zU c3 a2 b2,fun _ _ _ z=>nomatch z⟩
 ·split at h
  ·rename_i hl
   obtain⟨fs,h1,rfl⟩:=zMd h
   exact uG (aIl (aAp hE O h1).1 (by rw [jF h1];exact hl)) (fun _=>rfl) (fun _ _ _ z=>nomatch z)
  ·cases h
 ·split at h
  ·rename_i hl
   obtain⟨fs,h1,rfl⟩:=zMd h
   exact uG (aIm (aAp hE O h1).1 (by rw [jF h1];exact hl)) (fun _=>rfl) (fun _ _ _ z=>nomatch z)
  ·cases h
 ·-- o[..]
  rename_i a b pos
  have hx:=zBd h
  clear h
  obtain⟨fa,h1,h⟩:=hx
  split at h
  ·rename_i lo hi hv
   obtain⟨p,rfl⟩:=w8 hv
   obtain⟨fl,h2,h⟩:=zBd h
   obtain⟨fh,h3,rfl⟩:=zMd h
   refine uG (aIp (hL X C _ fa O h1).lk ?_ ?_) (fun _=>rfl) (fun _ _ _ z=>nomatch z)
   ·split at h2
    ·cases h2;trivial
    ·obtain⟨k,h4,rfl⟩:=zMd h2
     exact(hE X C _ k O h4).1
   ·split at h3
    ·cases h3;trivial
    ·obtain⟨k,h4,rfl⟩:=zMd h3
     exact(hE X C _ k O h4).1
  ·split at h
   ·rename_i hv
    cases h
    obtain⟨j,p2,p3,p4,rfl⟩:=aE2 hv
    exact uG (aI9 (hL X C _ fa O h1).lk) (fun _=>rfl) (fun _ _ _ z=>nomatch z)
   obtain⟨fb,h2,rfl⟩:=zMd h
   exact uG (aNe (hL X C _ fa O h1).lk (hE X C _ fb O h2).1 (aAo (aK h2).2.2)) (fun _=>rfl) (fun _ _ _ z=>nomatch z)
 ·-- a comprehension
  rename_i elt gens sc pos
  refine uG ?_ (fun _=>rfl) (fun _ _ _ z=>nomatch z)
  split at h
  ·rename_i tg it ifs as
   split at h
   ·rename_i ha
    subst ha
    obtain⟨xs,k,cs,fi,fc,fe,rfl,_,S,hi,hset,hxs,hg,hts,he⟩:=lP (pos:=pos) hE hI O h
    exact aDy O.calm S hi hset hxs hg hts he
   ·cases h
  ·cases h
 ·-- a call
  rename_i f' as kws pos
  refine uG ?_ (fun _=>rfl) (fun _ _ _ z=>nomatch z)
  split at h
  ·rename_i hkw
   cases fS hkw
   split at h
   ·rename_i x np
    split at h
    ·cases h
    ·split at h
     ·rename_i k1 k2 fn e2
      by_cases hem:as.isEmpty=true
      ·rw [if_pos hem] at h;cases h
      rw [if_neg hem] at h
      obtain⟨fs,h1,h⟩:=zBd h
      split at h
      ·rename_i hk
       cases h
       obtain⟨g1,g2,r,fa,T,hr,_⟩:=O.gl e2
       obtain⟨q1,q2⟩:=aAp hE O h1
       cases as with
       | nil=>exact absurd rfl hem
       | cons a es=>exact aDw T hr g1 g2 q1 hk (aQ (q2 a (.head _))) (sF fun e he=>q2 e (.tail _ he))
      ·cases h
     ·rename_i p e2
      exact aNl hE hL O e2 h
     ·cases h
   ·rename_i o m ap
    split at h
    ·rename_i hem
     cases fS hem
     split at h
     ·rename_i hc
      obtain⟨rfl,h0,hl⟩:=hc
      obtain⟨fo,h1,rfl⟩:=zMd h
      refine aEl (hE X C _ fo O h1).1 ?_ hl
      cases o<;>first | rfl | (cases h0;done)
     ·cases h
    have hx:=zBd h
    clear h
    obtain⟨a,h0,h⟩:=hx
    cases dS h0
    split at h
    ·rename_i hc
     rw [au] at hc
     obtain⟨fo,h1,h⟩:=zBd h
     obtain⟨fa,h2,h⟩:=zBd h
     have base: ∀ m,attributeBase o m X.env (eval o X.env)=eval o X.env:=by
      intro m
      have h0:=hc.1
      cases o<;>first | rfl | (cases h0;done)
     split at h
     ·rename_i hm
      cases h
      subst hm
      exact zR O.un (hL X C _ fo O h1) (hE X C _ fa O h2).1 (aQ (aK h2).1) (base _) hc.2
     ·split at h
      ·rename_i hm
       cases h
       subst hm
       exact zS O.un (hL X C _ fo O h1) (hE X C _ fa O h2).1 (aQ (aK h2).1) (base _) hc.2
      ·cases h
    ·cases h
   ·cases h
  ·cases h
 ·-- the ranks
  rename_i ks vs pos
  split at h
  ·rename_i hc
   cases h
   obtain⟨j1,j2,j3,j4,j5,j6,p1,p2,p3,p4,p5,p6,rfl,rfl⟩:=aAl hc
   exact uG aJb (fun _=>rfl) (fun _ _ _ z=>nomatch z)
  ·cases h
 ·cases h
theorem aNn (hE:yJ ad n):aGl ad (n+1):=by
 intro X C e f O h
 unfold pD at h
 split at h
 ·rename_i x p
  cases e1:loc C x with
  | some i=>
   rw [e1] at h
   cases h
   obtain⟨v1,v2,v3,v4⟩:=O.vis x i e1
   exact vE v1 v2 v3 v4
  | none=>
   rw [e1] at h
   exact(hE X C _ f O h).1.ml
 ·exact(hE X C _ f O h).1.ml
theorem aE3 (hE: ∀ m,m<n->yJ ad m) {X:Cx} {C:SK.Ctx} {e:Expr} {f:F} (O:CtxOk X ad C) (hn: ∀ x p,e≠ .Name x p) (h:pD n C e=some f):ME X ad e f:=by
 cases n with
 | zero=>cases h
 | succ n=>
  have:bO n C e=some f:=by
   rw [<-h]
   cases e<;>first | rfl | exact absurd rfl (hn _ _)
  exact(hE n (Nat.lt_succ_self _) X C e f O this).1
theorem aNo (hE: ∀ m,m<n+1->yJ ad m) (hL:aGl ad n):aJr ad (n+1):=by
 intro X C tg e tt f O htt h
 have hEn:=hE n (Nat.lt_succ_self _)
 unfold aBm at h
 have it: ∀ {x:Str} {as:List Expr} {np q:Pos},u5 (bO n C) C tt x as=some f->MI X ad tg (.Call (.Name x np) as [] q) f/\MIG X ad tg (.Call (.Name x np) as [] q) f:=by
  intro x as np q h
  unfold u5 at h
  split at h
  ·rename_i a eg
   obtain⟨fa,h1,rfl⟩:=zMd h
   obtain⟨g1,g2,g3,g4⟩:=O.gl eg
   subst g3
   have me:=(hEn X C _ fa O h1).1
   exact⟨zF g1 g4 me (aQ (aK h1).1),vT g1 g4 me (aQ (aK h1).1)⟩
  ·rename_i a b eg
   split at h
   ·rename_i ht
    obtain⟨fa,h1,h⟩:=zBd h
    obtain⟨fb,h2,rfl⟩:=zMd h
    obtain⟨g1,g2,g3,g4⟩:=O.gl eg
    subst g3
    obtain⟨es,k,p,rfl⟩:=htt ht
    have ma:=(hEn X C _ fa O h1).1
    have mb:=(hEn X C _ fb O h2).1
    exact⟨aI6 g1 g4 ma mb (aQ (aK h1).1) (aQ (aK h2).1),aEi g1 g4 ma mb (aQ (aK h1).1) (aQ (aK h2).1)⟩
   ·cases h
  ·rename_i a eg
   split at h
   ·rename_i ht
    obtain⟨fa,h1,rfl⟩:=zMd h
    obtain⟨g1,g2,g3,g4⟩:=O.gl eg
    subst g3
    obtain⟨es,k,p,rfl⟩:=htt ht
    have ma:=(hEn X C _ fa O h1).1
    exact⟨aEj g1 g4 ma (aQ (aK h1).1),zT g1 g4 ma (aQ (aK h1).1)⟩
   ·cases h
  ·cases h
 split at h
 ·rename_i f' as kws q
  split at h
  ·rename_i x p
   split at h
   ·exact⟨(it h).1,fun _=>(it h).2⟩
   ·exact⟨(it h).1,fun _=>(it h).2⟩
   ·exact⟨(it h).1,fun _=>(it h).2⟩
   ·have me:=(hEn X C _ f O h).1
    exact⟨rS me.ml,fun _=>jY me⟩
  ·have me:=(hEn X C _ f O h).1
   exact⟨rS me.ml,fun _=>jY me⟩
 ·split at h
  ·rename_i i hi
   cases h
   obtain⟨x,p,rfl,e1⟩:=aJp hi
   obtain⟨v1,v2,v3,v4⟩:=O.vis x i e1
   exact⟨aE0 v1 v2 v3 v4,fun hn=>absurd rfl (hn x p)⟩
  ·refine⟨rS (hL X C _ f O h),fun hn=>jY (aE3 (fun m hm=>hE m (by omega)) O hn h)⟩
theorem fG: ∀ n,yJ ad n/\aGl ad n/\aJr ad n:=by
 have main: ∀ n, ∀ m,m<=n->yJ ad m/\aGl ad m/\aJr ad m:=by
  intro n
  induction n with
  | zero=>
   intro m hm
   have:m=0:=by omega
   subst this
   refine⟨?_, ?_, ?_⟩
   ·intro X C e f O h
    unfold bO at h
    cases h
   ·intro X C e f O h
    unfold pD at h
    cases h
   ·intro X C tg e tt f O _ h
    unfold aBm at h
    cases h
  | succ n ih=>
   intro m hm
   by_cases hmn:m<=n
   ·exact ih m hmn
   ·have:m=n+1:=by omega
    subst this
    obtain⟨a,b,c⟩:=ih n (aj _)
    exact⟨aNm a b c,aNn a,aNo (fun m hm=>(ih m (by omega)).1) b⟩
 exact fun n=>main n n (aj _)
end
noncomputable abbrev aL5:List Value:=[.type "ValueError", .type "Exception", .type "BaseException", .type "object"]
structure StOk (X:Cx) (ad:Ad) (C:SK.Ctx):Prop where
 cx:CtxOk X ad C
 fn: ∀ x,X.fn x=true
 sc:X.env.scope=C.sc
 lc: ∀ x i,loc C x=some i->Loc X.env.scope x
 exm: ∀ c,exmOne X.K (.ref (ad.cls c)) (.ref (ad.cls 0))=some true
 exi: ∀ c,excIn X.K (ad.cls c) aL5 "ValueError.__new__"=true
noncomputable def Zt (ad:Ad) (E₀:XK) (t:Bool):(St->Nat->Hp->Prop)->Prop:=fun E=>t=false-> ∀ σ c H,E σ c H->E₀ (.ref (ad.cls c)) none H
section
variable {X:Cx} {ad:Ad} {C:SK.Ctx} {E₀:XK} {t:Bool} {e it tg:Expr} {f:F} {g h:FS} {x:Str} {i:Nat} {pos pos':Pos} {st:Stmt}
theorem StOk.nm (O:StOk X ad C) (h:loc C x=some i):aIy X x i:=⟨(O.cx.vis x i h).1,O.lc x i h, .inl (O.fn x)⟩
theorem StOk.nms (O:StOk X ad C): ∀ {xs:List Str} {is:List Nat},d7 (fun x=>loc C x) xs=some is->NmsOk X xs is
 | [],_,h=>by cases h;exact .nil
 | x::xs,is,h=>by
  unfold d7 at h
  cases e:loc C x with
  | none=>rw [e] at h;cases h
  | some j=>
   rw [e] at h
   obtain⟨r,h1,h2⟩:=zMd h
   subst h2
   exact .cons (O.nm e) (O.nms h1)
theorem t7 {elt:Expr} {gens:List Comprehension} {sc:Scope} {cpos:Pos} {line:Nat} {env:PySem.Env}: ∃ b,swapsWith (.ListComp elt gens sc cpos) (some (.Name x pos')) line env=pure b:=⟨_,rfl⟩
theorem aCc (O:StOk X ad C) (h:bO 50 C e=some f) (hi:loc C x=some i):PS X (.Assign [.Name x pos'] e pos) (aCz (tE X ad f) (iY i)):=by
 obtain⟨h1,h2,h3⟩:=fG (ad:=ad) 49
 obtain⟨k1,_,_⟩:=fG (ad:=ad) 50
 have nm:=O.nm hi
 have me:=(k1 X C e f O.cx h).1
 by_cases hc: ∃ elt gens sc cpos,e= .ListComp elt gens sc cpos
 ·obtain⟨elt,gens,sc,cpos,rfl⟩:=hc
  obtain⟨b,hb⟩:=t7 (x:=x) (pos':=pos') (elt:=elt) (gens:=gens) (sc:=sc) (cpos:=cpos) (line:=pos.line) (env:=X.env)
  cases b with
  | false=>exact uM O.cx.nd nm.1 nm.2.1 me hb nm.2.2
  | true=>
   have hgen: ∃ tg it ifs,gens=[⟨tg,it,ifs,0⟩]:=by
    unfold bO at h
    simp only at h
    split at h
    ·rename_i tg it ifs as
     split at h
     ·rename_i ha
      subst ha
      exact⟨_,_,_,rfl⟩
     ·cases h
    ·cases h
   obtain⟨tg,it,ifs,rfl⟩:=hgen
   obtain⟨xs,k,cs,fi,fc,fe,rfl,_,S,hi',hset,hxs,hg,hts,he⟩:=lP h1 h3 O.cx h
   exact aEd O.cx.nd nm O.cx.calm S hi' hset hxs hg hts he hb
 ·refine uM O.cx.nd nm.1 nm.2.1 me ?_ nm.2.2
  have nf:=aK h
  cases e<;>first | rfl | exact absurd ⟨_,_,_,_,rfl⟩ hc | (unfold bO at h;cases h;done)
theorem aE4 {e:Expr} (h:aM3 e=true): ∃ p,e= .Dict [] [] p:=by
 cases e<;>try (cases h;done)
 rename_i ks vs p
 have h':(ks.isEmpty&&vs.isEmpty)=true:=h
 rw [au,List.isEmpty_iff,List.isEmpty_iff] at h'
 exact⟨p,by rw [h'.1,h'.2]⟩
theorem aE5 {Z:(St->Nat->Hp->Prop)->Prop} (P:PS X st (aCz (tE X ad f) (iY i))):MS X ad Z st (d6 i f):=by
 refine PS.imp P ?_
 rintro D' σ H ⟨G₀,G,ρ,E,S,hx,hr⟩
 exact dD S hx hr fun v d G1 H1 st r k=>k _ G1 H1 ((S.step st).set r)
theorem aE6 {Z:(St->Nat->Hp->Prop)->Prop} (P:PS X st (aCz (tE X ad f) (iY i))):MS X ad Z st (i7 i f):=by
 refine PS.imp P ?_
 rintro D' σ H ⟨G₀,G,ρ,E,S,hx,hr⟩
 exact aIu S hx hr
noncomputable def aJs (K:PySem.W.Frag) (n:Nat) (t:TGs):TG:=fun v σ H Q=> ∃ a xs,v= .ref a/\SqL K H a xs/\xs.length=n/\t xs σ H Q
theorem aE7 {es:List Expr} {k:Nat} {t:TGs} {n:Nat} (hc:X.calm=true) (h:PGs X es t) (hn:(assignEach es X.env).length=n) (hst:(assignEach es X.env).findIdx? (·.1)=none):PG X (.Tuple es k pos) (aJs X.K n t):=by
 intro pins s σ H v u Q I r hw
 obtain⟨a,xs,e1,hq,hl,hw⟩:=hw
 subst e1
 cases r
 obtain⟨its,rv,ht,hz⟩:=I.list hq
 have hlen:its.toArray.size=n:=by simp [<-hl,rv.length]
 rw [assign_Tuple]
 refine aa (wpAny_standAt ?_)
 unfold unpack
 rw [hn,hst, <-hlen]
 refine aa (wpAny_holding (kun_itemsOf (I.ok.hd hc) ht.isList fun h' hx=> ?_))
 have I1:Inv X pins σ H { s with heap:=h' }:=I.kept (t':=s.toks) fun b o e=>hx b o (bg (ah e)) e
 exact h pins _ σ H xs _ Q I1 (by simpa using rv) hw
theorem aNp {g1 g2:TG} (h1:PG X tg g1) (h2:PG X tg g2):PG X tg (fun v σ H Q=>g1 v σ H Q\/g2 v σ H Q):=by
 intro pins s σ H v u Q I r h
 rcases h with h | h
 ·exact h1 pins s σ H v u Q I r h
 ·exact h2 pins s σ H v u Q I r h
theorem xA {Z:(St->Nat->Hp->Prop)->Prop} {es:List Expr} {k j:Nat} {tp:Pos} {xs:List Str} {is:List Nat} (O:StOk X ad C) (he:ME X ad e f) (hs:swapsWithSole [.Tuple es j tp] e pos.line X.env=pure false) (hw:swappedStores [.Tuple es j tp] e X.env=pure none) (ht:bI (.Tuple es j tp)=some (xs,k)) (hn:NmsOk X xs is):MS X ad Z (.Assign [.Tuple es j tp] e pos) (gS is f):=by
 obtain⟨P,hk⟩:=aEa O.cx.calm O.cx.nd ht hn
 have k0:k≠0:=by
  unfold bI at ht
  obtain⟨ys,e1,e2⟩:=zBd ht
  by_cases hl:2<=ys.length
  ·rw [if_pos hl] at e2
   cases e2
   omega
  ·rw [if_neg hl] at e2
   cases e2
 have hb:(k==0)=false:=by simpa using k0
 have PL:PG X (.Tuple es j tp) (aJs X.K is.length (gIs is)):=by
  unfold bI at ht
  obtain⟨ys,e1,e2⟩:=zBd ht
  by_cases hl:2<=ys.length
  ·rw [if_pos hl] at e2
   cases e2
   obtain⟨q1,q2⟩:=iJ (X:=X) e1
   exact aE7 O.cx.calm (vV O.cx.nd e1 hn) (by rw [q1,hn.len]) q2
  ·rw [if_neg hl] at e2
   cases e2
 refine PS.imp (uL he (aNp P PL) hs hw rfl) ?_
 rintro D' σ H ⟨G₀,G,ρ,E,S,hx,hr⟩
 unfold gS at hr
 refine dD S hx hr fun v d G1 H1 st r q=> ?_
 cases d<;>try exact ay q
 case lst ds=>
  have q':OKo X ad G₀ (if ds.length=is.length then .nx (setN is ds ρ) else .rt .bad) D' E:=q
  by_cases hl:ds.length=is.length
  ·rw [if_pos hl] at q'
   unfold Rep at r
   obtain⟨a,vs,rfl,hq,rq⟩:=r
   exact .inr ⟨a,vs,rfl,st.gh.seq hq,by rw [rq.length,hl],vU (by rw [rq.length,hl]) (q' _ G1 H1 ((S.step st).setN rq))⟩
  ·rw [if_neg hl] at q'
   exact q'.elim
 rename_i ds
 refine .inl ?_
 have q':OKo X ad G₀ (if ds.length=is.length then .nx (setN is ds ρ) else .rt .bad) D' E:=q
 by_cases hl:ds.length=is.length
 ·rw [if_pos hl] at q'
  refine aB0 (ρ1:=setN is ds ρ) hk ?_ (S.step st) r fun σ1 S1=>q' σ1 G1 H1 S1
  rw [hb]
  have e0:pS is false (.tup ds) ρ=if ds.length=is.length then some (setN is ds ρ) else none:=by
   cases is with
   | nil=>rfl
   | cons _ _=>rfl
  rw [e0,if_pos hl]
 ·rw [if_neg hl] at q'
  exact q'.elim
theorem oU {env:PySem.Env} {x y:Str} {px py pt pt2:Pos} {a b:Expr} {kt k2:Nat} {p q:Prop} (h:((env.scope.names.lookup x=some .cell\/env.scope.names.lookup y=some .cell)/\p)/\q):swappedStores [.Tuple [.Name x px, .Name y py] kt pt] (.Tuple [a,b] k2 pt2) env=pure none:=by
 unfold swappedStores
 have kx:env.kindOf x=env.scope.names.lookup x:=rfl
 have ky:env.kindOf y=env.scope.names.lookup y:=rfl
 rcases h.1.1 with e | e
 ·simp [kx,ky,e,List.filterMap,Expr.pos]
  intro _ _ _ h2
  exfalso;revert h2
  (repeat' split)<;>simp
 ·simp [kx,ky,e,List.filterMap,Expr.pos]
  intro _ _ _ h2
  exfalso;revert h2
  (repeat' split)<;>simp
theorem qO {env:PySem.Env} {x y:Str} {px py pt pt2:Pos} {a b:Expr} {kt k2:Nat} (hb:env.scope.kind= .function) (hx:env.scope.names.lookup x=some .local) (hy:env.scope.names.lookup y=some .local) (hne:x≠y) (hl:px.line=py.line)
  (sa:mR a) (sb:mR b) (h1:[a,b].all (foldedForSure 8)=false) (h2:[a,b].all (constantsAlone 8)=false):swappedStores [.Tuple [.Name x px, .Name y py] kt pt] (.Tuple [a,b] k2 pt2) env=pure (some [x,y]):=by
 have hbk:env.blockKind= .function:=by unfold PySem.Env.blockKind;rw [hb];rfl
 have kx:env.kindOf x=some .local:=hx
 have ky:env.kindOf y=some .local:=hy
 have nd:[x,y].eraseDups.length=2:=by
  have:(y==x)=false:=by simpa using fun z=>hne z.symm
  simp [List.eraseDups_cons,this]
 have h1': ¬ (foldedForSure 8 a=true/\foldedForSure 8 b=true):=fun⟨p,q⟩=>by simp [p,q] at h1
 have h2': ¬ (constantsAlone 8 a=true/\constantsAlone 8 b=true):=fun⟨p,q⟩=>by simp [p,q] at h2
 unfold swappedStores
 simp [Expr.pos,kx,ky, <-hl,hbk,nd,h1',h2',List.filterMap]
 intro h
 rcases h with h | h
 ·cases a<;>first | exact sa.elim | cases h
 ·cases b<;>first | exact sb.elim | cases h
theorem aAr {i j:Nat} {fa fb:F} {ρ:Rho}:gS [i,j] (fZ [fa,fb]) ρ=fB ρ (fa ρ) fun x=>fB ρ (fb ρ) fun y=> .nx ((ρ.set i (.sh x)).set j (.sh y)):=by
 unfold gS fZ nQ args args args
 cases fa ρ<;>simp [fB,RA.then]<;>cases fb ρ<;>simp [RA.cons,setN]
theorem aJt {Z:(St->Nat->Hp->Prop)->Prop} {a b:Expr} {fa fb:F} {i j kt k2:Nat} {y:Str} {px py pt pt2:Pos} (O:StOk X ad C) (ha:ME X ad a fa) (hb:ME X ad b fb) (sa:mR a) (sb:mR b) (hi:loc C x=some i) (hj:loc C y=some j) (ok:aDe C x y px py a b=true):
  MS X ad Z (.Assign [.Tuple [.Name x px, .Name y py] kt pt] (.Tuple [a,b] k2 pt2) pos) (gS [i,j] (fZ [fa,fb])):=by
 unfold aDe at ok
 simp only [au,Bool.not_eq_true'] at ok
 obtain⟨⟨⟨⟨⟨⟨⟨o1,o2⟩,o3⟩,o4⟩,o5⟩,o6⟩,_⟩,_⟩:=ok
 have l1:X.env.scope.names.lookup x=some .local:=by rw [O.sc];exact dQ o1
 have l2:X.env.scope.names.lookup y=some .local:=by rw [O.sc];exact dQ o2
 have hne:x≠y:=by simpa using o3
 have nx:=(O.cx.vis x i hi).1
 have ny:=(O.cx.vis y j hj).1
 have hij:i≠j:=fun z=>by subst z;rw [nx] at ny;exact hne (Option.some.inj ny)
 intro pins s σ H D' I ⟨G₀,G,ρ,E,S,hx,hr⟩
 refine aG8 (ta:=jL (tE X ad fa) (jL (tE X ad fb) aBf)) O.cx.calm O.cx.nd nx ny hij l1 l2 (b9 ha (b9 hb eI (aQ sb)) (aQ sa)) (qO I.ok.kind l1 l2 hne (by simpa using o4) sa sb o5 o6) rfl pins s σ H D' I ?_
 rw [aAr] at hr
 show tE X ad fa σ H fun v H1=>tE X ad fb σ H1 fun w H2=> ∃ v' w',[v,w]=[v',w']/\D'.nx ((σ.set i (some v')).set j (some w')) H2
 exact dD S hx hr fun v d G1 H1 st r k=>dD (S.step st) hx k fun w d2 G2 H2 st2 r2 k2=>⟨v,w,rfl,k2 _ G2 H2 ((((S.step st).step st2).set (r.mono st2.sg)).set r2)⟩
theorem qP {env:PySem.Env} {x:Str} {p p' tp tp' pt pt2:Pos} {kx ky a b:Expr} {kt k2:Nat}:swappedStores [.Tuple [.Subscript (.Name x p) kx tp, .Subscript (.Name x p') ky tp'] kt pt] (.Tuple [a,b] k2 pt2) env=pure none:=by
 unfold swappedStores
 simp [List.filterMap]
theorem aE8 {Z:(St->Nat->Hp->Prop)->Prop} {i kt k2:Nat} {p p' tp tp' pt pt2:Pos} {kx ky a b:Expr} {fk fl:F} (hc:X.calm=true) (hN:X.N[i]? =some x) (hv:Vis X.env.scope x) (hd:(x==("__debug__":Str))=false) (hcd:(x==("__classdict__":Str))=false) (he:ME X ad (.Tuple [a,b] k2 pt2) f) (hk:ME X ad kx fk) (hl:ME X ad ky fl)
  (ha1: ∀ v,assign (.Subscript (.Name x p) kx tp) X.env v=(do
   let ov<-holding [v] (eval (.Name x p) X.env)
   let iv<-holding [v,ov] (eval kx X.env)
   standAt tp
   holding [v,ov,iv] (setItem ov iv v)
   release [v,ov,iv] []))
  (ha2: ∀ v,assign (.Subscript (.Name x p') ky tp') X.env v=(do
   let ov<-holding [v] (eval (.Name x p') X.env)
   let iv<-holding [v,ov] (eval ky X.env)
   standAt tp'
   holding [v,ov,iv] (setItem ov iv v)
   release [v,ov,iv] [])):
  MS X ad Z (.Assign [.Tuple [.Subscript (.Name x p) kx tp, .Subscript (.Name x p') ky tp'] kt pt] (.Tuple [a,b] k2 pt2) pos) (uY i fk fl f):=by
 refine PS.imp (uL he (uJ hc (i5 (uK (eY hN hv hd hcd) hk i6 ha1) (i5 (uK (eY hN hv hd hcd) hl i6 ha2) pH))) rfl qP rfl) ?_
 rintro D' σ H ⟨G₀,G,ρ,E,S,hx,hr⟩
 unfold uY at hr
 refine dD S hx hr fun v d G1 H1 st r k=> ?_
 cases d<;>try exact ay k
 rename_i ds
 have kk:OKo X ad G₀ (match aPo ds with
  | some (d1,d2)=>(match ρ[i]? with
   | some (.ow xs)=>fB ρ (fk ρ) fun y=>(match y with
    | .int j=>(match ixD xs.length j with
     | some m=>fB (ρ.set i (.ow (xs.set m d1))) (fl (ρ.set i (.ow (xs.set m d1)))) fun z=>(match z with
      | .int j2=>(match ixD (xs.set m d1).length j2 with
       | some m2=> .nx ((ρ.set i (.ow (xs.set m d1))).set i (.ow ((xs.set m d1).set m2 d2)))
       | none=> .rt .bad)
      | _=> .rt .bad)
     | none=> .rt .bad)
    | _=> .rt .bad)
   | _=> .rt .bad)
  | none=> .rt .bad) D' E:=k
 cases ds with
 | nil=>exact kk.elim
 | cons d1 ds=>
 cases ds with
 | nil=>exact kk.elim
 | cons d2 ds=>
 cases ds with
 | cons _ _=>exact kk.elim
 | nil=>
 unfold Rep at r
 obtain⟨tA,tvs,rfl,hq,rq⟩:=r
 obtain⟨v1,tvs,rfl,r1,rq⟩:=(show ∃ v vs',tvs=v::vs'/\Rep X.K ad G1 d1 v/\aF X.K ad G1 [d2] vs' by unfold aF at rq;exact rq)
 obtain⟨v2,tvs,rfl,r2,rq⟩:=(show ∃ v vs',tvs=v::vs'/\Rep X.K ad G1 d2 v/\aF X.K ad G1 [] vs' by unfold aF at rq;exact rq)
 have e0:tvs=[]:=by unfold aF at rq;exact rq
 subst e0
 refine⟨tA,[v1,v2],rfl,st.gh.seqT hq,rfl,v1,[v2],rfl, ?_⟩
 have kk1:OKo X ad G₀ (match ρ[i]? with
   | some (.ow xs)=>fB ρ (fk ρ) fun y=>(match y with
    | .int j=>(match ixD xs.length j with
     | some m=>fB (ρ.set i (.ow (xs.set m d1))) (fl (ρ.set i (.ow (xs.set m d1)))) fun z=>(match z with
      | .int j2=>(match ixD (xs.set m d1).length j2 with
       | some m2=> .nx ((ρ.set i (.ow (xs.set m d1))).set i (.ow ((xs.set m d1).set m2 d2)))
       | none=> .rt .bad)
      | _=> .rt .bad)
     | none=> .rt .bad)
    | _=> .rt .bad)
   | _=> .rt .bad) D' E:=kk
 cases q:ρ[i]? with
 | none=>rw [q] at kk1;exact kk1.elim
 | some sl=>
  rw [q] at kk1
  cases sl with
  | no=>exact kk1.elim
  | sh d=>exact kk1.elim
  | dc d=>exact kk1.elim
  | sd d=>exact kk1.elim
  | rk _ _=>exact kk1.elim
  | ow xs=>
   obtain⟨A0,ws,h1,h2,h3,h4⟩:=(S.step st).sl.ow q
   refine⟨.ref A0,h1, ?_⟩
   refine dD (S.step st) hx kk1 fun u2 y G2 H2 st2 s2 k2=> ?_
   obtain⟨g2,h2'⟩:=cM st2 h2 h3
   cases y<;>try exact ay k2
   rename_i j
   unfold Rep at s2;subst s2
   have k':OKo X ad G₀ (match ixD xs.length j with
     | some m=>fB (ρ.set i (.ow (xs.set m d1))) (fl (ρ.set i (.ow (xs.set m d1)))) fun z=>(match z with
      | .int j2=>(match ixD (xs.set m d1).length j2 with
       | some m2=> .nx ((ρ.set i (.ow (xs.set m d1))).set i (.ow ((xs.set m d1).set m2 d2)))
       | none=> .rt .bad)
      | _=> .rt .bad)
     | none=> .rt .bad) D' E:=k2
   cases q2:ixD xs.length j with
   | none=>rw [q2] at k';exact k'.elim
   | some m=>
    rw [q2] at k'
    dsimp only at k'
    have r4:=h4.mono st2.sg
    have S2:=((S.step st).step st2).upd q h1 g2 (aF.set (r1.mono st2.sg) m r4)
    have q3:(ρ.set i (.ow (xs.set m d1)))[i]? =some (.ow (xs.set m d1)):=by
     have:i<ρ.length:=(aw.mp q).1
     simp [this]
    refine⟨A0,ws,j,m,rfl,rfl,h2',by rw [h4.length, <-lF];exact q2, ?_⟩
    refine⟨v2,[],rfl, ?_⟩
    obtain⟨A1,ws1,h5,h6,h7,h8⟩:=S2.sl.ow q3
    refine⟨.ref A1,h5, ?_⟩
    refine dD S2 hx k' fun u3 z G3 H3 st3 s3 k3=> ?_
    obtain⟨g3,h7'⟩:=cM st3 h6 h7
    cases z<;>try exact ay k3
    rename_i j2
    unfold Rep at s3;subst s3
    have k4:OKo X ad G₀ (match ixD (xs.set m d1).length j2 with
       | some m2=> .nx ((ρ.set i (.ow (xs.set m d1))).set i (.ow ((xs.set m d1).set m2 d2)))
       | none=> .rt .bad) D' E:=k3
    cases q4:ixD (xs.set m d1).length j2 with
    | none=>rw [q4] at k4;exact k4.elim
    | some m2=>
     rw [q4] at k4
     refine⟨A1,ws1,j2,m2,rfl,rfl,h7',by rw [h8.length, <-lF];exact q4,rfl, ?_⟩
     exact k4 σ G3 _ ((S2.step st3).upd q3 h5 g3 (aF.set ((r2.mono st2.sg).mono st3.sg) m2 (h8.mono st3.sg)))
theorem xB {e k:Expr} {x:Str} (h:aM5 e=some (x,k)): ∃ p tp,e= .Subscript (.Name x p) k tp:=by
 cases e<;>try (cases h;done)
 rename_i o k' tp
 obtain⟨⟨y,p⟩,h1,h2⟩:=zMd (show(cU o).map (fun(x,_)=>(x,k'))=some (x,k) from h)
 cases h2
 rw [bY h1]
 exact⟨p,tp,rfl⟩
theorem aE9 {es:List Expr} {e k l:Expr} {x:Str} (h:aM6 es e=some (x,k,l)): ∃ p tp p' tp' a b k2 pt2,es=[.Subscript (.Name x p) k tp, .Subscript (.Name x p') l tp']/\e= .Tuple [a,b] k2 pt2:=by
 unfold aM6 at h
 obtain⟨⟨u,v⟩,h1,h⟩:=zBd h
 obtain⟨⟨x1,k1⟩,h2,h⟩:=zBd h
 obtain⟨⟨x2,k2⟩,h3,h⟩:=zBd h
 obtain⟨⟨vs,kk,pp⟩,h4,h⟩:=zBd h
 obtain⟨⟨a,b⟩,h5,h6⟩:=zBd h
 have h7:(if x1=x2 then some (x1,k1,k2) else none)=some (x,k,l):=h6
 clear h6 h
 by_cases hxy:x1=x2
 ·rw [if_pos hxy] at h7
  cases h7
  obtain⟨p,tp,rfl⟩:=xB h2
  obtain⟨p',tp',rfl⟩:=xB h3
  rw [kB h1,w6 h4,kB h5,hxy]
  exact⟨p,tp,p',tp',a,b,kk,pp,rfl,rfl⟩
 ·rw [if_neg hxy] at h7
  cases h7
theorem aFa {op:Operator} (h:aPs op=true):op= .Add:=by
 cases op<;>first | rfl | (cases h;done)
theorem xC {op:Operator} (h:aBn op=true):op= .Add\/op= .Sub:=by
 cases op<;>first | exact .inl rfl | exact .inr rfl | (cases h;done)
theorem aL6 {pins:List (Addr×Obj)} {D':Ends} {hd:ExceptHandler} (O:StOk X ad C):StOk (tX X pins D' hd) ad C:=by
 refine⟨⟨O.cx.N,O.cx.nd,O.cx.vis,O.cx.gk,fun x g e=> ?_,O.cx.cap,O.cx.calm,O.cx.un,O.cx.hd,O.cx.exc,O.cx.kin,O.cx.kve,fun j n F e=>let ⟨r,T,hr⟩:=O.cx.fnv j n F e;⟨r,⟨T.kp,T.ok⟩,hr⟩⟩,O.fn,O.sc,O.lc,O.exm,O.exi⟩
 obtain⟨e1,e2⟩:=O.cx.gt x g e
 refine⟨e1, ?_⟩
 cases g with
 | fn k n F=>
  obtain⟨r,f,T,hr,hf⟩:=e2
  exact⟨r,f,⟨T.mg,T.kp,T.ok⟩,hr,hf⟩
 | exc c=>exact e2
 | verr=>exact e2
 | val d=>exact e2
 | tbl kvs=>exact e2
 | py p=>exact e2
 | cls A ms=>exact⟨e2.1,e2.2.1,fun m n M hm=>let z:=e2.2.2 m n M hm;⟨z.no,z.ok⟩⟩
theorem aFb {es:List Expr} {e a b:Expr} {x y:Str} {px py:Pos} (h:aM4 es e=some ⟨x,px,y,py,a,b⟩): ∃ k p,es=[.Name x px, .Name y py]/\e= .Tuple [a,b] k p:=by
 unfold aM4 at h
 obtain⟨⟨u,v⟩,h1,h⟩:=zBd h
 obtain⟨⟨x',px'⟩,h2,h⟩:=zBd h
 obtain⟨⟨y',py'⟩,h3,h⟩:=zBd h
 obtain⟨⟨vs,k,p⟩,h4,h⟩:=zBd h
 obtain⟨⟨a',b'⟩,h5,h6⟩:=zMd h
 cases h6
 rw [kB h1,bY h2,bY h3,w6 h4,kB h5]
 exact⟨k,p,rfl,rfl⟩
theorem aAs {e:Expr} (h:aH7 e=true): ∃ s k p,e= .Constant (.str s) k p:=by
 cases e<;>try (cases h;done)
 rename_i c k p
 cases c<;>try (cases h;done)
 exact⟨_,k,p,rfl⟩
def aNq (ad:Ad) (E₀:XK) (n:Nat):Prop:= ∀ (X:Cx) (C:SK.Ctx) (t:Bool) (s:Stmt) (g:FS),StOk X ad C->(t=false->DefX X E₀/\PassesOwn (model X.prog X.w) X.A X.env X.xe)->aBo n t C s=some g->MS X ad (Zt ad E₀ t) s g
def aAt (ad:Ad) (E₀:XK) (n:Nat):Prop:= ∀ (X:Cx) (C:SK.Ctx) (t:Bool) (s:List Stmt) (g:FS),StOk X ad C->(t=false->DefX X E₀/\PassesOwn (model X.prog X.w) X.A X.env X.xe)->kW n t C s=some g->MSs X ad (Zt ad E₀ t) s g
theorem Zt.imp {Z Z':(St->Nat->Hp->Prop)->Prop} (h:MS X ad Z st g) (k: ∀ E,Z' E->Z E):MS X ad Z' st g:=PS.imp h fun D' σ H ⟨G₀,G,ρ,E,S,hx,hr⟩=>⟨G₀,G,ρ,E,S,⟨hx.1,k E hx.2⟩,hr⟩
theorem Zts.imp {Z Z':(St->Nat->Hp->Prop)->Prop} {sts:List Stmt} (h:MSs X ad Z sts g) (k: ∀ E,Z' E->Z E):MSs X ad Z' sts g:=PSs.imp h fun D' σ H ⟨G₀,G,ρ,E,S,hx,hr⟩=>⟨G₀,G,ρ,E,S,⟨hx.1,k E hx.2⟩,hr⟩
theorem aNr {n:Nat} (hS:aAt ad E₀ n):aNq ad E₀ (n+1):=by
 intro X C t s g O hd h
 obtain⟨kE,kL,kI⟩:=fG (ad:=ad) 50
 unfold aBo at h
 split at h
 ·cases h;exact aD2
 ·cases h;exact zG
 ·cases h;exact p8
 ·-- return
  split at h
  ·cases h;exact aD4
  ·split at h
   ·rename_i x p hv
    cases bY hv
    split at h
    ·rename_i i e1
     obtain⟨v1,v2,v3,v4⟩:=O.cx.vis x i e1
     split at h
     ·cases h;exact aD5 v1 v2 v3 v4
     ·cases h;exact vS (aBq v1 v2 v3 v4)
    ·obtain⟨f,h1,rfl⟩:=zMd h
     exact vS (kE X C _ f O.cx h1).1
   ·obtain⟨f,h1,rfl⟩:=zMd h
    exact eA (vS (kE X C _ f O.cx h1).1)
 ·-- an assignment
  rename_i ts e pos
  have hx:=zBd h
  clear h
  obtain⟨tg,h0,h⟩:=hx
  cases dS h0
  split at h
  ·-- x=e
   obtain⟨i,h1,h⟩:=zBd h
   split at h
   ·rename_i hc
    cases h
    rw [au] at hc
    obtain⟨dp,rfl⟩:=aE4 hc.1
    have nm:=O.nm h1
    exact aEt O.cx.nd nm.1 nm.2.1 rfl nm.2.2
   ·obtain⟨f,h2,rfl⟩:=zMd h
    refine eA ?_
    split
    ·exact aE6 (aCc O h2 h1)
    ·exact aE5 (aCc O h2 h1)
  ·split at h
   ·-- o[k],o[l]=a,b
    rename_i x k l hp
    obtain⟨p,tp,p',tp',a,b,k2,pt2,rfl,rfl⟩:=aE9 hp
    obtain⟨i,h1,h⟩:=zBd h
    obtain⟨v1,v2,v3,v4⟩:=O.cx.vis x i h1
    split at h
    ·obtain⟨f,h2,h⟩:=zBd h
     obtain⟨g,h3,h⟩:=zBd h
     obtain⟨g',h4,rfl⟩:=zMd h
     refine eA (aE8 O.cx.calm v1 v2 v3 v4 (kE X C _ f O.cx h2).1 (kE X C _ g O.cx h3).1 (kE X C _ g' O.cx h4).1 (fun v=> ?_) (fun v=> ?_))
     ·have ns:=(aK h3).2.2
      cases k<;>first | rfl | exact absurd rfl (ns _ _ _ _)
     ·have ns:=(aK h4).2.2
      cases l<;>first | rfl | exact absurd rfl (ns _ _ _ _)
    ·cases h
   ·split at h
    ·-- a,b=x,y
     rename_i x px y py a b hp
     obtain⟨k2,tp2,rfl,rfl⟩:=aFb hp
     split at h
     ·rename_i hok
      obtain⟨i,h1,h⟩:=zBd h
      obtain⟨j,h2,h⟩:=zBd h
      obtain⟨fa,h3,h⟩:=zBd h
      obtain⟨fb,h4,rfl⟩:=zMd h
      exact eA (aJt O (kE X C _ fa O.cx h3).1 (kE X C _ fb O.cx h4).1 (aK h3).1 (aK h4).1 h1 h2 hok)
     ·split at h
      ·rename_i hc
       obtain⟨i,h1,h⟩:=zBd h
       obtain⟨j,h2,h⟩:=zBd h
       obtain⟨f,h3,rfl⟩:=zMd h
       have hm:d7 (fun x=>loc C x) [x,y]=some [i,j]:=by simp [d7,h1,h2]
       exact eA (xA (xs:=[x,y]) (k:=2) O (kE X C _ f O.cx h3).1 rfl (oU (by rw [O.sc];simpa [u7] using hc)) rfl (O.nms hm))
      ·cases h
    ·-- a,b=e
     obtain⟨u,h0,h⟩:=zBd h
     obtain⟨⟨xs,k⟩,h1,h⟩:=zBd h
     obtain⟨is,h2,h⟩:=zBd h
     split at h
     ·obtain⟨f,h3,rfl⟩:=zMd h
      have hf:u6 e=true:=by
       split at h0
       ·assumption
       ·cases h0
      exact eA (xA O (kE X C _ f O.cx h3).1 (by cases e<;>first | rfl | (cases hf;done)) (by cases e<;>first | rfl | (cases hf;done)) h1 (O.nms h2))
     ·cases h
  ·-- x[k]=e
   rename_i o k tp
   have hx:=zBd h
   clear h
   obtain⟨⟨x,p⟩,hv,h⟩:=hx
   cases bY hv
   obtain⟨i,h1,h⟩:=zBd h
   obtain⟨v1,v2,v3,v4⟩:=O.cx.vis x i h1
   split at h
   ·obtain⟨f,h2,h⟩:=zBd h
    obtain⟨g,h3,rfl⟩:=zMd h
    refine eA (aJm O.cx.un v1 v2 v3 v4 (kE X C _ f O.cx h2).1 (kE X C _ g O.cx h3).1 (fun v=> ?_) ?_ ?_)
    ·have ns:=(aK h3).2.2
     cases k<;>first | rfl | exact absurd rfl (ns _ _ _ _)
    ·cases e<;>rfl
    ·cases e<;>rfl
   ·cases h
  ·cases h
 ·-- x += e
  split at h
  ·rename_i o k tp
   have hx:=zBd h
   clear h
   obtain⟨⟨x,p⟩,hv,h⟩:=hx
   cases bY hv
   obtain⟨i,h1,h⟩:=zBd h
   obtain⟨v1,v2,v3,v4⟩:=O.cx.vis x i h1
   split at h
   ·rename_i hc
    obtain⟨f,h2,h⟩:=zBd h
    obtain⟨g,h3,rfl⟩:=zMd h
    cases aFa (Bool.and_eq_true_iff.mp hc).2
    refine eA (aEc v1 v2 v3 v4 (kE X C _ f O.cx h2).1 (kE X C _ g O.cx h3).1 (fun _ _ _=> ?_))
    have ns:=(aK h3).2.2
    cases k<;>first | rfl | exact absurd rfl (ns _ _ _ _)
   ·cases h
  ·have hx:=zBd h
   clear h
   obtain⟨⟨x,p⟩,hv,h⟩:=hx
   cases bY hv
   obtain⟨u,h0,h⟩:=zBd h
   obtain⟨i,h1,h⟩:=zBd h
   obtain⟨f,h2,rfl⟩:=zMd h
   refine eA (aI1 O.cx.nd (O.nm h1) (kE X C _ f O.cx h2).1 ?_)
   split at h0
   ·exact xC ‹_›
   ·cases h0
 ·-- an expression
  split at h
  ·rename_i f' as kws cp
   split at h
   ·rename_i hkw
    cases fS hkw
    split at h
    ·-- x.append(e)
     rename_i o m ap
     have hx:=zBd h
     clear h
     obtain⟨⟨x,p⟩,hv,h⟩:=hx
     cases bY hv
     have hx:=zBd h
     clear h
     obtain⟨e,ho,h⟩:=hx
     cases dS ho
     obtain⟨i,h1,h⟩:=zBd h
     obtain⟨v1,v2,v3,v4⟩:=O.cx.vis x i h1
     split at h
     ·rename_i hc
      rw [au] at hc
      obtain⟨f,h2,h⟩:=zBd h
      have me:=(kE X C _ f O.cx h2).1
      have ns:=aQ (es:=[]) (env:=X.env) (aK h2).1
      split at h
      ·rename_i hm
       cases h
       subst hm
       exact eA (aIv v1 v2 v3 v4 me ns hc.2)
      ·split at h
       ·rename_i hm
        cases h
        subst hm
        exact eA (aIx v1 v2 v3 v4 me ns hc.2)
       ·cases h
     ·cases h
    ·obtain⟨f,h1,rfl⟩:=zMd h
     exact eA (aD6 (kE X C _ f O.cx h1).1 rfl)
    ·cases h
   ·cases h
  ·cases h
 ·obtain⟨f,h1,h⟩:=zBd h
  obtain⟨ga,h2,h⟩:=zBd h
  obtain⟨gb,h3,rfl⟩:=zMd h
  exact eA (aNh (kE X C _ f O.cx h1).2.1 (hS X C t _ ga O hd h2) (hS X C t _ gb O hd h3))
 ·-- for
  rename_i tg it b els pos
  cases t with
  | true=>cases h
  | false=>
   cases els with
   | cons _ _=>cases h
   | nil=>
    simp only [Bool.false_or,List.isEmpty_nil,Bool.not_true,ax,if_false] at h
    obtain⟨⟨xs,k⟩,h1,h⟩:=zBd h
    obtain⟨f,h2,h⟩:=zBd h
    obtain⟨is,h3,h⟩:=zBd h
    split at h
    ·obtain⟨gb,h4,rfl⟩:=zMd h
     have mig:MIG X ad tg it f/\ ∀ a b c,it≠ .Set a b c:=by
      unfold aPt at h2
      split at h2
      ·exact⟨jY (kE X C _ f O.cx h2).1,fun _ _ _ z=>nomatch z⟩
      ·rename_i hn
       exact⟨(kI X C tg _ _ f O.cx (w9 h1).2 h2).2 (fun x p z=>hn x p z),fun a b c z=>by subst z;exact kC h2⟩
     exact eA (aIz (hd rfl).2 O.cx.calm O.cx.nd mig.1 h1 (O.nms h3) (hS X C false _ gb O hd h4) (vP mig.2))
    ·cases h
 ·-- raise
  rename_i x c pos
  cases t with
  | true=>cases h
  | false=>
   cases c with
   | some _=>cases h
   | none=>
    simp only [Bool.false_or,Option.isSome_none,ax,if_false] at h
    have hx:=zBd h
    clear h
    obtain⟨e,rfl,h⟩:=hx
    split at h
    ·rename_i f' as kws cp
     split at h
     ·rename_i hkw
      cases fS hkw
      have hx:=zBd h
      clear h
      obtain⟨⟨x,p⟩,hv,h⟩:=hx
      cases bY hv
      have hx:=zBd h
      clear h
      obtain⟨a,ho,h⟩:=hx
      cases dS ho
      split at h
      ·rename_i hstr
       obtain⟨sx,k1,k2,rfl⟩:=aAs hstr
       split at h
       ·rename_i c e1 e2
        cases h
        obtain⟨g1,g2,g3,g4⟩:=O.cx.gl e2
        exact Zt.imp (zN (hd rfl).1 O.cx.calm g1 g3 g2 (O.exi c)) fun E z=>z rfl
       ·cases h
      ·cases h
     ·cases h
    ·cases h
 ·cases h
theorem aJu {n:Nat} (hS:aNq ad E₀ n) (hSs:aAt ad E₀ n):aAt ad E₀ (n+1):=by
 intro X C t s g O hd h
 have hB: ∀ a:Stmt,MS X ad (Zt ad E₀ t) a ((aBo n t C a).getD aL2):=fun a=>by
  cases e:aBo n t C a with
  | none=>exact aI0
  | some f=>exact hS X C t a f O hd e
 unfold kW at h
 split at h
 ·cases h;exact vR
 ·cases h;exact aD3 (hB _)
 ·obtain⟨r,h2,rfl⟩:=zMd h
  exact zH (hB _) (hSs X C t _ r O hd h2)
theorem oV: ∀ n,aNq ad E₀ n/\aAt ad E₀ n:=by
 intro n
 induction n with
 | zero=>
  refine⟨?_, ?_⟩
  ·intro X C t s g O hd h
   unfold aBo at h
   cases h
  ·intro X C t s g O hd h
   unfold kW at h
   cases h
 | succ n ih=>exact⟨aNr ih.2,aJu ih.1 ih.2⟩
end
noncomputable def GlT (P:Program) (w:World) (K:Frag) (mg:Str->Option Value) (base:Heap) (ad:Ad) (k:Nat) (x:Str):SK.Gl->Prop
 | .fn j n F=> ∃ r f,r<=k/\mg x=some (.ref f)/\keepIn K (.ref f)=true/\(∃ fd ps,FnOk P w K mg base (CXe P w) r f fd ps (aBx K ad n F)/\iC K fd ps [])/\f=ad.fnA j
 | .exc c=>mg x=some (.ref (ad.cls c))/\c<ad.nb
 | .verr=>x="ValueError"/\mg x=none
 | .val d=> ∃ u v,mg x=some u/\bA v u/\ ∀ G,Rep K ad G d v
 | .py p=>x=cI p/\mg x=none
 | .tbl kvs=> ∃ A,mg x=some (.ref A)/\aI3 P w K ad A kvs
 | .cls A ms=>mg x=some (.ref A)/\RkC K A/\ ∀ m n M,ms.lookup m=some (n,M)->(m≠"held"/\m≠"done"/\m≠"undone")/\ ∃ f r fd ps,r<=k/\Meth K A m f/\FnOk P w K mg base (CXe P w) r f fd ps (spM K ad A n M)/\iC K fd ps []
def d8 (P:Program) (w:World) (K:Frag) (mg:Str->Option Value) (base:Heap) (ad:Ad) (k:Nat) (tab:List (Str×SK.Gl)):Prop:= ∀ x g,tab.lookup x=some g->(x==("__debug__":Str))=false/\GlT P w K mg base ad k x g
def gL (P:Program) (w:World) (K:Frag) (mg:Str->Option Value) (base:Heap) (ad:Ad) (k:Nat) (fns:List (Nat×Fn)):Prop:= ∀ j n F,fns[j]? =some (n,F)-> ∃ r,r<=k/\keepIn K (.ref (ad.fnA j))=true/\ ∃ fd ps,FnOk P w K mg base (CXe P w) r (ad.fnA j) fd ps (aBx K ad n F)/\iC K fd ps []
structure ExcK (K:Frag) (ad:Ad):Prop where
 exc: ∀ c,ExcCls K (ad.cls c)
 kin: ∀ c e,c<ad.nb->kitOne K (.ref (ad.cls e)) (.ref (ad.cls c))=some (hit c e)
 kve: ∀ e,kitOne K (.ref (ad.cls e)) (.type "ValueError")=some true
 exm: ∀ c,exmOne K (.ref (ad.cls c)) (.ref (ad.cls 0))=some true
 exi: ∀ c,excIn K (ad.cls c) aL5 "ValueError.__new__"=true
section
variable {P:Program} {w:World} {K:Frag} {mg:Str->Option Value} {base:Heap} {ad:Ad} {k:Nat} {tab:List (Str×SK.Gl)}
theorem GlT.mono {x:Str} {g:SK.Gl} {j:Nat} (h:GlT P w K mg base ad k x g) (hk:k<=j):GlT P w K mg base ad j x g:=by
 cases g with
 | fn i n F=>
  obtain⟨r,f,a,b⟩:=h
  exact⟨r,f,Nat.le_trans a hk,b⟩
 | exc c=>exact h
 | verr=>exact h
 | val d=>exact h
 | tbl kvs=>exact h
 | py p=>exact h
 | cls A ms=>exact⟨h.1,h.2.1,fun m n M hm=>let ⟨no,f,r,fd,ps,h1,h2⟩:=h.2.2 m n M hm;⟨no,f,r,fd,ps,Nat.le_trans h1 hk,h2⟩⟩
theorem d8.mono {j:Nat} (h:d8 P w K mg base ad k tab) (hk:k<=j):d8 P w K mg base ad j tab:=fun x g e=>⟨(h x g e).1,(h x g e).2.mono hk⟩
theorem oW {G:Hp}: ∀ ss:List Str,aF K ad G (ss.map D.str) (ss.map V.str)
 | []=>aF.nil
 | x::ss=>aF.cons (by unfold Rep;rfl) (oW ss)
theorem aAu {a:Addr} {o:Obj} {its:Array Value} {n:Nat} {ss:List Str} (h:K.lookup a=some o) (hc:o.cls= .type "tuple") (hd:o.dict=none) (hs:o.data= .seq its n) (hz:its.size<=sizeLine) (hv:bF (ss.map V.str) its.toList) (G:Hp):Rep K ad G (.tup (ss.map D.str)) (.ref a):=by
 unfold Rep
 exact⟨a,ss.map V.str,rfl, .inr ⟨o,its,n,h,hc,hd,hs,hz,hv⟩,oW ss⟩
theorem xD {a:Addr} {o:Obj} {its:Array Value} {n:Nat} {ds:List D} {vs:List V} {G:Hp} (h:K.lookup a=some o) (hc:o.cls= .type "tuple") (hd:o.dict=none) (hs:o.data= .seq its n) (hz:its.size<=sizeLine) (hv:bF vs its.toList) (hr:aF K ad G ds vs):Rep K ad G (.tup ds) (.ref a):=by
 unfold Rep
 exact⟨a,vs,rfl, .inr ⟨o,its,n,h,hc,hd,hs,hz,hv⟩,hr⟩
theorem d8.nil:d8 P w K mg base ad k []:=fun x g e=>by cases e
theorem d8.cons {x:Str} {g:SK.Gl} (h:d8 P w K mg base ad k tab) (hd:(x==("__debug__":Str))=false) (hg:GlT P w K mg base ad k x g):d8 P w K mg base ad k ((x,g)::tab):=by
 intro y g' e
 rw [List.lookup_cons] at e
 cases q:y==x with
 | true=>
  rw [q] at e
  cases e
  have:y=x:=by simpa using q
  subst this
  exact⟨hd,hg⟩
 | false=>
  rw [q] at e
  exact h y g' e
theorem gL.nil:gL P w K mg base ad k []:=fun j n F e=>by simp at e
theorem gL.snoc {fns:List (Nat×Fn)} {j n:Nat} {F:Fn} {r k':Nat} {f:Addr} {fd:FuncData} {ps:List Str} (h:gL P w K mg base ad k fns) (hk:k<=k') (hl:fns.length=j) (hf:f=ad.fnA j) (hr:r<=k') (kp:keepIn K (.ref f)=true) (ok:FnOk P w K mg base (CXe P w) r f fd ps (aBx K ad n F)) (hb:iC K fd ps []):
  gL P w K mg base ad k' (fns++[(n,F)]):=by
 intro i m G e
 subst hf
 by_cases hi:i<fns.length
 ·rw [bt hi] at e
  obtain⟨r',h1,h2⟩:=h i m G e
  exact⟨r',Nat.le_trans h1 hk,h2⟩
 ·rw [bj (by omega)] at e
  cases hq:i - fns.length with
  | zero=>
   rw [hq] at e
   cases e
   have:i=j:=by omega
   subst this
   exact⟨r,hr,kp,fd,ps,ok,hb⟩
  | succ q=>rw [hq] at e;simp at e
theorem gM {N Ps:List Str} {sc:Scope} (h:eO N Ps sc=true):FnScope N Ps sc/\ ∀ x∈N,(x==("__debug__":Str))=false/\(x==("__classdict__":Str))=false:=by
 unfold eO at h
 simp only [au] at h
 obtain⟨⟨⟨⟨⟨⟨⟨h1,h2⟩,h3⟩,h4⟩,h5⟩,h6⟩,h7⟩,h8⟩:=h
 refine⟨⟨by simpa using h1,by simpa using h2,by simpa using h3,of_decide_eq_true h4,of_decide_eq_true h5,fun x hx=> ?_,fun y hy z=> ?_⟩,fun x hx=> ?_⟩
 ·have:=zAd h6 x hx
  rcases(Bool.or_eq_true _ _).mp this with z | z
  ·exact .inl (dQ z)
  ·exact .inr (dQ z)
 ·have:=zAd h7 y hy
  rw [z] at this
  simp at this
 ·have:=zAd h8 x hx
  simpa using this
theorem sG {X:Cx} {G:Hp} {ds:List D} {vs:List V} {n:Nat} (hG:Same G X.H₀) (r:aF X.K ad G ds vs):SS X ad G G X.H₀ (ds.map Slot.sh++ak n .no) (vs.map some++ak n none):=by
 have hl:=r.length
 have key: ∀ (i:Nat) (sl:Slot),(ds.map Slot.sh++ak n .no)[i]? =some sl->(∃ d v,sl= .sh d/\(vs.map some++ak n none)[i]? =some (some v)/\Rep X.K ad G d v)\/(sl= .no/\ ∃ ov,(vs.map some++ak n none)[i]? =some ov):=fun i sl e=>by
  by_cases hi:i<ds.length
  ·rw [bt (by simpa using hi),List.getElem?_map] at e
   cases e1:ds[i]? with
   | none=>rw [e1] at e;cases e
   | some d=>
    rw [e1] at e
    cases e
    obtain⟨v,e2,q⟩:=r.get e1
    refine .inl ⟨d,v,rfl, ?_,q⟩
    rw [bt (by rw [am];omega),List.getElem?_map,e2]
    rfl
  ·rw [bj (by simpa using hi),List.getElem?_replicate] at e
   split at e
   ·cases e
    refine .inr ⟨rfl,none, ?_⟩
    rename_i hlt
    rw [bj (by rw [am];omega),List.getElem?_replicate,if_pos]
    rw [am] at hlt ⊢
    omega
   ·cases e
 refine⟨Step.refl hG,⟨by simp [hl],fun i sl e=> ?_⟩,fun i xs a e w h=> ?_,fun i j xs ys a e1 e2 w1 w2 h1 h2=> ?_, ?_⟩
 ·rcases key i sl e with ⟨d,v,rfl,e1,q⟩ | ⟨rfl,ov,e1⟩
  ·exact⟨some v,e1,v,rfl,q⟩
  ·exact⟨ov,e1,trivial⟩
 ·rcases key i _ e with ⟨d,v,z,_⟩ | ⟨z,_⟩<;>(subst z;exact(bd w).elim)
 ·rcases key i _ e1 with ⟨d,v,z,_⟩ | ⟨z,_⟩<;>(subst z;exact(bd w1).elim)
 ·have no: ∀ {i:Nat} {as:List Addr}, ¬ jD X.H₀ (ds.map Slot.sh++ak n .no) (vs.map some++ak n none) i as:=fun {i as} f=>by
   obtain⟨C,r,p,dx,d,l1,l2,f1,_⟩:=f
   rcases key i _ f1 with ⟨d,v,z,_⟩ | ⟨z,_⟩<;>cases z
  exact⟨fun i as f=>(no f).elim,fun i as f=>(no f).elim,fun i j as as' a f=>(no f).elim⟩
theorem xE {qual:Str} {f:Addr} {cdv:Value} {A:Around} {outer:List PySem.Env} {s:Shared} {H:Hp} {E:XK} {fns:List (Nat×Fn)} {sc:Scope} {ps bs:List Str} (B:ExcK K ad) (TB:d8 P w K mg base ad k tab) (FB:gL P w K mg base ad k fns) (hs:eO (aP sc) ps sc=true) (hr:Room k (A.deeper (envOfC qual sc s.heap.objs.size f cdv))):
  StOk (pI (CXe P w) P w K mg base (aP sc) qual sc f cdv A outer s H E) ad ⟨tab,fns,sc,aP sc,bs⟩:=by
 obtain⟨S,nm⟩:=gM hs
 let C:SK.Ctx:=⟨tab,fns,sc,aP sc,bs⟩
 have vis: ∀ x i,loc C x=some i->(aP sc)[i]? =some x/\Loc sc x/\x∈aP sc:=fun x i e=>by
  obtain⟨e1,e2⟩:=qF e
  refine⟨gH e1, ?_,qD e1⟩
  rcases e2 with e2 | e2 | e2
  ·exact .inl e2
  ·exact .inr e2
  ·exact absurd rfl (S.nofree _ (lH e2))
 refine⟨⟨rfl,S.nd,fun x i e=> ?_,fun x e=>e,fun x g e=> ?_,fun x i e=> ?_,rfl, ?_,hr.hd,B.exc,B.kin,B.kve,fun j m F' e=> ?_⟩,fun _=>rfl,rfl,fun x i e=>(vis x i e).2.1,B.exm,B.exi⟩
 ·obtain⟨a,b,c⟩:=vis x i e
  exact⟨a,b.elim .inl fun z=> .inr (.inl z),(nm x c).1,(nm x c).2⟩
 ·obtain⟨a,b⟩:=TB x g e
  refine⟨a, ?_⟩
  cases g with
  | fn j m F'=>
   obtain⟨r',f',h1,h2,h3,h4,h5⟩:=b
   exact⟨r',f',⟨h2,h3,h4⟩,hr.mono h1,h5⟩
  | exc c=>exact b
  | verr=>exact b
  | val d=>exact b
  | tbl kvs=>exact b
  | py p=>exact b
  | cls A ms=>exact⟨b.1,b.2.1,fun m n M hm=>let ⟨no,f,r,fd,ps,h1,h2,h3,h4⟩:=b.2.2 m n M hm;⟨no,f,r,fd,ps,h2,h3,hr.mono h1,h4⟩⟩
 ·obtain⟨e1,e2⟩:=fQ e
  rcases e2 with e2 | e2
  ·exact .inl e2
  ·exact absurd rfl (S.nofree _ (lH e2))
 ·exact Nat.lt_of_le_of_lt (Nat.add_le_add_left (by decide:62<=64) _) hr.units
 ·obtain⟨r',h1,h2,h3⟩:=FB j m F' e
  exact⟨r',⟨h2,h3⟩,hr.mono h1⟩
theorem aCd {x qual:Str} {st:Stmt} {f:Addr} {fd:FuncData} {fns:List (Nat×Fn)} {n:Nat} {F:Fn} {ps:List Str} (B:ExcK K ad) (TB:d8 P w K mg base ad k tab) (FB:gL P w K mg base ad k fns) (Fu:Fun K x qual st f fd) (hps:iT (defArgs st)=some ps)
  (hd:u8 tab fns st=some (n,F)):FnOk P w K mg base (CXe P w) (k+1) f fd ps (aBx K ad n F):=by
 obtain⟨oc,od,kV,doc,pm,an,cdv,ct,osl,rfl,lk,hcd⟩:=Fu.ex
 cases st with
 | FunctionDef nm as b dl re tp sc ts bi pos=>
  have hd':((iT as).bind fun Ps=>if eO (aP sc) Ps sc then(kW 100 false ⟨tab,fns,sc,aP sc,yH 50 b⟩ b).map fun g=>(Ps.length,SK.fnOf (aP sc).length g) else none)=some (n,F):=hd
  have hps':iT as=some ps:=hps
  rw [hps'] at hd'
  have hd2:(if eO (aP sc) ps sc then(kW 100 false ⟨tab,fns,sc,aP sc,yH 50 b⟩ b).map fun g=>(ps.length,SK.fnOf (aP sc).length g) else none)=some (n,F):=hd'
  by_cases hs:eO (aP sc) ps sc=true
  ·rw [if_pos hs] at hd2
   obtain⟨g,hg,e⟩:=zMd hd2
   cases e
   obtain⟨S,nm⟩:=gM hs
   refine aMq lk hcd S (fun vs H Q E ⟨G,ds,_,r,hl,_⟩=>by rw [r.length,hl]) fun A outer s H vs Q E hr hz_=> ?_
   obtain⟨G,ds,hG,r,hl,hq⟩:=hz_
   let C:SK.Ctx:=⟨tab,fns,sc,aP sc,yH 50 b⟩
   have O:StOk (pI (CXe P w) P w K mg base (aP sc) qual sc f cdv A outer s H E) ad C:=xE B TB FB hs hr
   have T:DefX (pI (CXe P w) P w K mg base (aP sc) qual sc f cdv A outer s H E) E:=⟨rfl,rfl,rfl,fun e s' h=>h⟩
   refine⟨_,(oV (ad:=ad) (E₀:=E) 100).2 _ C false b g O (fun _=>⟨T,PassesOwn.leaving (Q₁:=fun e s''=>CXe P w outer H s E e s'')⟩) hg, ?_⟩
   refine⟨G,G,ds.map Slot.sh++ak ((aP sc).length - ds.length) .no,fun σ c H'=>E (.ref (ad.cls c)) none H', ?_,⟨fun σ=>aB2 T,fun _ σ c H h=>h⟩, ?_⟩
   ·have:=sG (X:=pI (CXe P w) P w K mg base (aP sc) qual sc f cdv A outer s H E) (ad:=ad) (n:=(aP sc).length - ds.length) hG r
    unfold L2.start
    rw [r.length]
    exact this
   ·have hq':RK K ad G H (match g (ds.map Slot.sh++ak ((aP sc).length - ds.length) .no) with
     | .rt (.ok d)=> .ok d
     | .rt (.ow xs)=> .ow xs
     | .rt _=> .bad
     | .nx _=> .ok .non
     | .ex c _=> .ex c
     | _=> .bad) Q (fun c H'=>E (.ref (ad.cls c)) none H'):=hq
    cases e:g (ds.map Slot.sh++ak ((aP sc).length - ds.length) .no) with
    | nx ρ=>rw [e] at hq';exact fun σ G' H' S'=>hq' .non G' H' S'.st (by unfold Rep;rfl)
    | bk ρ=>rw [e] at hq';exact hq'.elim
    | ct ρ=>rw [e] at hq';exact hq'.elim
    | ex c ρ=>rw [e] at hq';exact fun σ G' H' S'=>hq' G' H' S'.st
    | rt r'=>
     rw [e] at hq'
     cases r' with
     | ok d=>exact hq'
     | ow xs=>exact hq'
     | ex c=>exact hq'.elim
     | bad=>exact hq'.elim
  ·rw [if_neg hs] at hd2
   cases hd2
 | _=>cases hd
noncomputable def sH (K:Frag) (cs:List Addr) (C0:Addr):Bool:=
 decide (cs.length<=100)&&cs.head?==some C0&&cs.all fun C=>(clsIn K C).isSome&&mroIn K C (.type "object")==some true&&mroIn K C (.type "BaseException")==some true&&findIn K (.ref C) "__class__"==some (some (.builtin "object.__class__"))&&
  findIn K (.ref C) "__getattribute__"==some (some (.builtin "BaseException.__getattribute__"))&&findIn K (.ref C) "__getattr__"==some none&&kitOne K (.ref C) (.type "ValueError")==some true&&exmOne K (.ref C) (.ref C0)==some true&&
  excIn K C aL5 "ValueError.__new__"
noncomputable def sI (K:Frag) (cs:List Addr):Bool:=cs.zipIdx.all fun p=>cs.zipIdx.all fun q=>kitOne K (.ref p.1) (.ref q.1)==some (hit q.2 p.2)
noncomputable def aCe (cs:List Addr) (C0:Addr) (fs:List Addr):Ad:=⟨fun c=>cs.getD c C0,fun k=>if k<1000 then fs.getD k 0 else k - 1000,cs.length⟩
theorem aFc {cs fs:List Addr} {C0:Addr} (h:sH K cs C0=true) (h2:sI K cs=true):ExcK K (aCe cs C0 fs):=by
 unfold sH at h
 rw [au,au] at h
 obtain⟨⟨hl,hh⟩,ha⟩:=h
 have hl:cs.length<=100:=of_decide_eq_true hl
 have hh:cs.head?=some C0:=by simpa using hh
 have mem0:C0∈cs:=List.mem_of_mem_head? (by rw [hh];rfl)
 have get: ∀ c,(aCe cs C0 fs).cls c∈cs:=fun c=>by
  show cs.getD c C0∈cs
  rw [bu]
  cases e:cs[c]? with
  | none=>exact mem0
  | some a=>exact List.mem_of_getElem? e
 have z0:cs[0]? =some C0:=by rw [<-List.head?_eq_getElem?];exact hh
 have c0:(aCe cs C0 fs).cls 0=C0:=by
  show cs.getD 0 C0=C0
  rw [bu,z0]
  rfl
 have all: ∀ C∈cs,ExcCls K C/\kitOne K (.ref C) (.type "ValueError")=some true/\exmOne K (.ref C) (.ref C0)=some true/\excIn K C aL5 "ValueError.__new__"=true:=fun C hC=>by
  have:=zAd ha C hC
  simp only [au,beq_iff_eq] at this
  obtain⟨⟨⟨⟨⟨⟨⟨⟨h1,h2⟩,h3⟩,h4⟩,h5⟩,h6⟩,h7⟩,h8⟩,h9⟩:=this
  exact⟨⟨h1,h2,h3,h4,h5,h6⟩,h7,h8,h9⟩
 have pair: ∀ (c e:Nat) (a b:Addr),cs[e]? =some a->cs[c]? =some b->kitOne K (.ref a) (.ref b)=some (hit c e):=fun c e a b ea eb=>by
  unfold sI at h2
  have m1:(a,e)∈cs.zipIdx:=List.mem_zipIdx_iff_getElem?.mpr ea
  have m2:(b,c)∈cs.zipIdx:=List.mem_zipIdx_iff_getElem?.mpr eb
  have:=zAd (zAd h2 _ m1) _ m2
  simpa using this
 refine⟨fun c=>(all _ (get c)).1,fun c e hc=> ?_,fun e=>(all _ (get e)).2.1,fun c=> ?_,fun c=>(all _ (get c)).2.2.2⟩
 ·have hc':c<cs.length:=hc
  obtain⟨b,eb⟩: ∃ b,cs[c]? =some b:=⟨_,ba hc'⟩
  have e1:(aCe cs C0 fs).cls c=b:=by
   show cs.getD c C0=b
   rw [bu,eb]
   rfl
  rw [e1]
  cases ea:cs[e]? with
  | some a=>
   have e2:(aCe cs C0 fs).cls e=a:=by
    show cs.getD e C0=a
    rw [bu,ea]
    rfl
   rw [e2]
   exact pair c e a b ea eb
  | none=>
   have e2:(aCe cs C0 fs).cls e=C0:=by
    show cs.getD e C0=C0
    rw [bu,ea]
    rfl
   have hel:cs.length<=e:=List.getElem?_eq_none_iff.mp ea
   rw [e2,pair c 0 C0 b z0 eb]
   congr 1
   unfold hit
   have n1:(c==e)=false:=by simp;omega
   rw [n1]
   cases c<;>simp
 ·rw [c0]
  exact(all _ (get c)).2.2.1
end
section
variable {P:Program} {w:World} {K:Frag} {mg:Str->Option Value} {base h:Heap} {ad:Ad} {k:Nat} {tab:List (Str×SK.Gl)} {fns:List (Nat×Fn)}
theorem aCf {x qual:Str} {st:Stmt} {f:Addr} {fd:FuncData} {n j:Nat} {m:Fn->Fn} {ps:List Str} (B:ExcK K ad) (TB:d8 P w K mg base ad k tab) (Fu:Fun K x qual st f fd) (hps:iT (defArgs st)=some ps) (hb:iC K fd ps []) (hm:mg x=some (.ref f))
  (hdb:(x==("__debug__":Str))=false) (hj:f=ad.fnA j) (hd: ∀ F,u8 ((x, .fn j n F)::tab) [] st=some (n,m F)): ∀ i,FnOk P w K mg base (CXe P w) (k+i) f fd ps (aBx K ad n (yZ m i))
 | 0=>⟨fun vs H Q E ⟨G,ds,_,_,_,z⟩=>z.elim,fun A outer s H args us vs Q E _ _ _ _ ⟨G,ds,_,_,_,z⟩=>z.elim⟩
 | i+1=>aCd (k:=k+i) B ((TB.mono (Nat.le_add_right k i)).cons (g:= .fn j n (yZ m i)) hdb ⟨k+i,f,aj _,hm,Fu.kp,⟨fd,ps,aCf B TB Fu hps hb hm hdb hj hd i,hb⟩,hj⟩) gL.nil Fu hps (hd (yZ m i))
structure PQ (P:Program) (w:World) (K:Frag) (mg:Str->Option Value) (base h:Heap) (ad:Ad) (k:Nat) (tab:List (Str×SK.Gl)) (fns:List (Nat×Fn)):Prop where
 t:d8 P w K mg base ad k tab
 u:gL P w K mg base ad k fns
 X:K.In h
 G:h.Ns mainGlobals mg
 B:ExcK K ad
def Bnd (x:Str) (st:Stmt) (ps:List Str):Prop:= ∀ (kV doc pm:Value) (an:Option Addr) (cdv ct:Value) (us:List Value),us.length=ps.length->bindArgs (PySem.W.fnOf x x (defArgs st) (defBody st) (defScope st) .none kV doc pm an cdv ct) ⟨us,[]⟩=pure (ps.zip us)
theorem PQ.cons (T:PQ P w K mg base h ad k tab fns) {x:Str} {f:Addr} {fd:FuncData} {ps:List Str} {n r:Nat} {M:Fn} (hr:k<=r) (ok:FnOk P w K mg base (CXe P w) r f fd ps (aBx K ad n M)) (hb:iC K fd ps []) (kp:keepIn K (.ref f)=true) (hm:mg x=some (.ref f)) (hj:f=ad.fnA fns.length) (hdb:(x==("__debug__":Str))=false):
  PQ P w K mg base h ad r ((x, .fn fns.length n M)::tab) (fns++[(n,M)]):=
 ⟨d8.cons (T.t.mono hr) hdb ⟨r,f,aj _,hm,kp,⟨_,_,ok,hb⟩,hj⟩,gL.snoc T.u hr rfl hj (aj _) kp ok hb,T.X,T.G,T.B⟩
theorem PQ.addV (T:PQ P w K mg base h ad k tab fns) (x:Str) (st:Stmt) (f:Addr) (ps:List Str) (n:Nat) (M:Fn) {oc:Value} {od an:Option Addr} {osl:Array (Option Value)} {kV doc pm cdv ct:Value} (l:K.lookup f=some ⟨oc,od, .func (PySem.W.fnOf x x (defArgs st) (defBody st) (defScope st) .none kV doc pm an cdv ct),osl⟩)
  (fns':List (Nat×Fn)) (hf:fns'=fns\/fns'=[]) (d:u8 tab fns' st=some (n,M):=by kernel_rfl) (c:codeIn K cdv x=true:=by kernel_rfl) (kp:keepIn K (.ref f)=true:=by kernel_rfl) (hm:nsIn K mainGlobals x=some (some (.ref f)):=by kernel_rfl) (hj:f=ad.fnA fns.length:=by rfl)
  (hdb:(x==("__debug__":Str))=false:=by decide) (hps:iT (defArgs st)=some ps:=by rfl) (hb:Bnd x st ps:=by intro _ _ _ _ _ _ us hl;rcases us with _ | ⟨u0,_ | ⟨u1,_ | ⟨u2,_ | ⟨u3,_ | ⟨u4,us⟩⟩⟩⟩⟩<;>first | rfl | (simp at hl)):
  PQ P w K mg base h ad (k+1) ((x, .fn fns.length n M)::tab) (fns++[(n,M)]):=by
 have F:=aBg (st:=st) l c kp
 refine T.cons (Nat.le_succ _) (aCd (ps:=ps) T.B T.t ?_ F hps d) (F.binds hb) kp (PySem.W.mg_of T.X T.G hm) hj hdb
 rcases hf with rfl | rfl
 ·exact T.u
 ·exact gL.nil
theorem PQ.add (T:PQ P w K mg base h ad k tab fns) (x:Str) (st:Stmt) (f:Addr) (ps:List Str) (n:Nat) (M:Fn) {oc:Value} {od an:Option Addr} {osl:Array (Option Value)} {kV doc pm cdv ct:Value} (l:K.lookup f=some ⟨oc,od, .func (PySem.W.fnOf x x (defArgs st) (defBody st) (defScope st) .none kV doc pm an cdv ct),osl⟩)
  (d:u8 tab [] st=some (n,M):=by kernel_rfl) (c:codeIn K cdv x=true:=by kernel_rfl) (kp:keepIn K (.ref f)=true:=by kernel_rfl) (hm:nsIn K mainGlobals x=some (some (.ref f)):=by kernel_rfl) (hj:f=ad.fnA fns.length:=by rfl)
  (hdb:(x==("__debug__":Str))=false:=by decide) (hps:iT (defArgs st)=some ps:=by rfl) (hb:Bnd x st ps:=by intro _ _ _ _ _ _ us hl;rcases us with _ | ⟨u0,_ | ⟨u1,_ | ⟨u2,_ | ⟨u3,_ | ⟨u4,us⟩⟩⟩⟩⟩<;>first | rfl | (simp at hl)):
  PQ P w K mg base h ad (k+1) ((x, .fn fns.length n M)::tab) (fns++[(n,M)]):=T.addV x st f ps n M l [] (.inr rfl) d c kp hm hj hdb hps hb
theorem PQ.addR (T:PQ P w K mg base h ad k tab fns) (x:Str) (st:Stmt) (f:Addr) (ps:List Str) (n:Nat) (m:Fn->Fn) (i:Nat) {oc:Value} {od an:Option Addr} {osl:Array (Option Value)} {kV doc pm cdv ct:Value} (l:K.lookup f=some ⟨oc,od, .func (PySem.W.fnOf x x (defArgs st) (defBody st) (defScope st) .none kV doc pm an cdv ct),osl⟩)
  (d: ∀ F,u8 ((x, .fn fns.length n F)::tab) [] st=some (n,m F):=by intro F;kernel_rfl) (c:codeIn K cdv x=true:=by kernel_rfl) (kp:keepIn K (.ref f)=true:=by kernel_rfl) (hm:nsIn K mainGlobals x=some (some (.ref f)):=by kernel_rfl) (hj:f=ad.fnA fns.length:=by rfl)
  (hdb:(x==("__debug__":Str))=false:=by decide) (hps:iT (defArgs st)=some ps:=by rfl) (hb:Bnd x st ps:=by intro _ _ _ _ _ _ us hl;rcases us with _ | ⟨u0,_ | ⟨u1,_ | ⟨u2,_ | ⟨u3,_ | ⟨u4,us⟩⟩⟩⟩⟩<;>first | rfl | (simp at hl)):
  PQ P w K mg base h ad (k+i) ((x, .fn fns.length n (yZ m i))::tab) (fns++[(n,yZ m i)]):=
 have F:=aBg (st:=st) l c kp
 T.cons (Nat.le_add_right _ _) (aCf T.B T.t F hps (F.binds hb) (PySem.W.mg_of T.X T.G hm) hdb hj d i) (F.binds hb) kp (PySem.W.mg_of T.X T.G hm) hj hdb
theorem PQ.py (T:PQ P w K mg base h ad 0 tab []) (p:Py) (hm:nsIn K mainGlobals (cI p)=some none:=by kernel_rfl) (hdb:(cI p==("__debug__":Str))=false:=by decide):PQ P w K mg base h ad 0 ((cI p, .py p)::tab) []:=⟨d8.cons T.t hdb ⟨rfl,PySem.W.mg_none_of T.X T.G hm⟩,T.u,T.X,T.G,T.B⟩
theorem PQ.verr (T:PQ P w K mg base h ad 0 tab []) (hm:nsIn K mainGlobals "ValueError"=some none:=by kernel_rfl):PQ P w K mg base h ad 0 (("ValueError", .verr)::tab) []:=⟨d8.cons T.t (by decide) ⟨rfl,PySem.W.mg_none_of T.X T.G hm⟩,T.u,T.X,T.G,T.B⟩
theorem PQ.exc (T:PQ P w K mg base h ad 0 tab []) (x:Str) (c:Nat) (hm:nsIn K mainGlobals x=some (some (.ref (ad.cls c))):=by kernel_rfl) (hc:c<ad.nb:=by decide) (hdb:(x==("__debug__":Str))=false:=by decide):PQ P w K mg base h ad 0 ((x, .exc c)::tab) []:=⟨d8.cons T.t hdb ⟨PySem.W.mg_of T.X T.G hm,hc⟩,T.u,T.X,T.G,T.B⟩
theorem PQ.int (T:PQ P w K mg base h ad 0 tab []) (x:Str) (i:Int) (t:Tok) (hm:nsIn K mainGlobals x=some (some (.int i t)):=by kernel_rfl) (hdb:(x==("__debug__":Str))=false:=by decide):PQ P w K mg base h ad 0 ((x, .val (.int i))::tab) []:=⟨d8.cons T.t hdb ⟨.int i t, .int i,PySem.W.mg_of T.X T.G hm,⟨_,rfl⟩,fun G=>by unfold Rep;rfl⟩,T.u,T.X,T.G,T.B⟩
theorem PQ.val (T:PQ P w K mg base h ad 0 tab []) (x:Str) {d:D} {u:Value} {v:V} (hv:bA v u) (hr: ∀ G,Rep K ad G d v) (hm:nsIn K mainGlobals x=some (some u):=by kernel_rfl) (hdb:(x==("__debug__":Str))=false:=by decide):PQ P w K mg base h ad 0 ((x, .val d)::tab) []:=⟨d8.cons T.t hdb ⟨u,v,PySem.W.mg_of T.X T.G hm,hv,hr⟩,T.u,T.X,T.G,T.B⟩
theorem PQ.nil (X:K.In h) (G:h.Ns mainGlobals mg) (B:ExcK K ad):PQ P w K mg base h ad 0 [] []:=⟨d8.nil,gL.nil,X,G,B⟩
end
def aNs (o:Obj) (q:Str):Prop:= ∃ vs t,o.data= .fields vs/\vs[1]? =some (.str q t)
structure Tb (P:Addr) (q:Str) (ps:Array Value) (cs:List (Addr×Obj)):Prop where
 ok:TriplesOk ps.toList
 cod: ∀ pos cv,codeAmong pos ps.toList=some cv-> ∃ c o,cv= .ref c/\(c,o)∈cs/\aNs o q
 ne: ∀ p∈cs,p.1≠P
theorem iX: ∀ {l:List Value} {i j:Int} {a b:Nat} {c:Value},TriplesOk l->TriplesOk (l++[.int i a, .int j b,c])
 | [],_,_,_,_,_,_=>trivial
 | .int _ _:: .int _ _::_::r,_,_,_,_,_,h=>iX (l:=r) h
theorem lQ {pos pos':Pos} {c cv:Value}: ∀ {l:List Value},TriplesOk l->codeAmong pos' (l++[rawInt pos.line,rawInt pos.col,c])=some cv->codeAmong pos' l=some cv\/cv=c
 | [],_,h=>by
  simp only [List.nil_append,codeAmong,rawInt] at h
  split at h
  ·exact .inr (Option.some.inj h).symm
  ·cases h
 | .int i a:: .int j b::d::r,ht,h=>by
  simp only [List.cons_append,codeAmong] at h ⊢
  split at h
  ·rename_i hc
   rw [if_pos hc]
   exact .inl h
  ·rename_i hc
   rw [if_neg hc]
   exact lQ (l:=r) ht h
section
variable {X:Cx} {P c:Addr} {q:Str} {ps:Array Value} {cs pins:List (Addr×Obj)} {σ:St} {H:Hp} {s:Shared} {params:Arguments} {body:Expr} {sc:Scope} {pos:Pos} {R':Value->Shared->Prop}
theorem xF (I:Inv X ((P,PySem.W.tabObj ps)::(cs++pins)) σ H s) (T:Tb P q ps cs) (hx:P∈X.ex) (hpn: ∀ p∈X.pn++pins,p.1≠P) (hpar:defaultsOf params X.env=([],[])) (hq:X.env.qual++"<lambda>"=q)
  (hfree: ∀ x,(x,NameKind.free)∈sc.names->X.env.kindOf x=some .cell\/X.env.kindOf x=some .free) (hcode:X.env.code= .ref c) (hC:PySem.W.CodeHd s.heap c P) (hB:s.heap.BuiltinsAt X.mg P)
  (k: ∀ (a:Addr) (ps':Array Value) (cs':List (Addr×Obj)) (cv ctv:Value) (s':Shared),Inv X ((P,PySem.W.tabObj ps')::(cs'++pins)) σ H s'->Tb P q ps' cs'->(∃ more,ps'=ps++more)->(∀ p∈cs',p∈cs\/s.heap.objs.size<=p.1)->s.heap.objs.size<=a->
   s'.heap.get? a=some { cls:= .type "function",data:= .func (PySem.W.kla_fn "<lambda>" q params body sc (i0 X.env.cells sc.names []) ((X.mg "__name__").getD .none) cv ctv) }->s'.heap.CodeRec cv q->(∃ c',cv= .ref c'/\H c'=none/\c'≠X.env.locals/\c'∉X.fs)->
   (∀ b o,b≠P->s.heap.get? b=some o->s'.heap.get? b=some o)->R' (.ref a) s'):
  wpAny (model X.prog X.w) X.A (eval (.Lambda params body sc pos) X.env) R' X.xe s:=by
 have hcl:closureFor sc X.env=pure (i0 X.env.cells sc.names []):=iH fun x hx=>by
  obtain⟨c,h⟩:=I.ok.has x (hfree x hx)
  rw [h];rfl
 have pP:=I.pin (P,PySem.W.tabObj ps) (bp _ (.head _))
 have hg:s.heap.Ns mainGlobals X.mg:=I.mod.glob.keeps I.bk
 have hgP:mainGlobals≠P:=fun z=>by
  obtain⟨o,es,ep,e,hd,_⟩:=hg
  have e2:=pP.1
  rw [z] at e
  rw [e] at e2
  cases e2
  cases hd
 -- without the table's pin
 have I0:Inv X (cs++pins) σ H s:=I.pins_of fun p hp=>I.pin p (bp _ (.tail _ hp))
 have inP: ∀ p∈X.pn++(cs++pins),p.1≠P:=fun p hp=>by
  rcases List.mem_append.mp hp with h | h
  ·exact hpn p (List.mem_append_left _ h)
  ·rcases List.mem_append.mp h with h | h
   ·exact T.ne p h
   ·exact hpn p (bp _ h)
 have hch: ∀ b∈[P],(b∈X.ex\/X.s₀.heap.objs.size<=b)/\b≠X.env.locals/\(∀ x c,X.env.cells.lookup x=some c->c≠b)/\ ∀ p∈X.pn++(cs++pins),p.1≠b:=fun b hb=>by
  rw [List.mem_singleton.mp hb]
  exact⟨.inl hx,(I.ok.exf P hx).1,(I.ok.exf P hx).2,inP⟩
 -- the state behind
 have after: ∀ (h':Heap) (tk:Nat),(∀ b o,b≠P->s.heap.get? b=some o->h'.get? b=some o)->Inv X (cs++pins) σ H { s with heap:=h',toks:=tk }:=fun h' tk ext=>by
  have neP: ∀ b,b∉[P]->b≠P:=fun b hb z=>hb (by rw [z];exact .head _)
  refine I0.step (ch:=[P]) (g':=s.gens) (d':=s.drawn) hch (fun b o _ _ hb e _=>ext b o (neP b hb) e) (fun b o _ _ hb e _=>⟨o.slots,ext b o (neP b hb) e⟩) (fun b o _ _ n=>n) (fun b o hb e=>⟨o,ext b o (neP b hb) e⟩) (fun _ _ e=>e) (fun _ _ _ e=>e) (fun b ps e=>⟨#[],by rw [e];simp⟩) (fun m hn=> ?_) (fun a o e=> ?_) I.bare
  ·obtain⟨o,es,ep,e,r⟩:=hn
   exact⟨o,es,ep,ext _ o (I.ok.exf P hx).1.symm e,r⟩
  ·have nP: ∀ b,H b≠none->b≠P:=fun b hb z=>hb (by rw [z];exact pP.2.1)
   refine(I.hok a o e).stay (fun b u hb q=>ext b u ?_ q) (fun _ q=>q) fun _ _ q=>q
   rcases hb with rfl | hb
   ·exact nP _ (by rw [e];exact fun z=>nomatch z)
   ·exact nP _ (by rw [hb];exact fun z=>nomatch z)
 refine PySem.W.kla_eval hpar ?_
 rw [hq]
 cases hf:codeAmong pos ps.toList with
 | some cv=>
  refine PySem.W.kla_makeFunctionHit (mg:=X.mg) hcl I.ok.glob hg hcode hC pP.1 T.ok hf hB fun ctv h' tk hk hsz=> ?_
  obtain⟨c1,o1,e1,m1,r1⟩:=T.cod pos cv hf
  have p1:=I.pin (c1,o1) (bp _ (.tail _ (List.mem_append_left _ m1)))
  have ext: ∀ b o,s.heap.get? b=some o->(h'.push { cls:= .type "function",data:= .func (PySem.W.kla_fn "<lambda>" q params body sc (i0 X.env.cells sc.names []) ((X.mg "__name__").getD .none) cv ctv) }).get? b=some o:=fun b o e=>af _ (hk b o e)
  refine k _ ps cs cv ctv _ ((after _ tk fun b o _ e=>ext b o e).pins_of fun p hp=> ?_) T ⟨#[],by simp⟩ (fun p hp=> .inl hp) hsz (ag _ rfl) ?_ ⟨c1,e1,p1.2.1,p1.2.2.1,p1.2.2.2.1⟩ fun b o _ e=>ext b o e
  ·have:=I.pin p (bp _ hp)
   exact⟨ext _ _ this.1,this.2⟩
  ·obtain⟨vs,t,d,v⟩:=r1
   exact⟨c1,o1,vs,t,e1,ext _ _ p1.1,d,v⟩
 | none=>
  refine PySem.W.kla_makeFunction (mg:=X.mg) hcl I.ok.glob hg hcode hC pP.1 T.ok hf hgP hB fun c' ctv h' tk hx' hge hlt hrec htb=> ?_
  obtain⟨c2,oc,vs,t,e2,hoc,hd,hv⟩:=hrec
  cases e2
  have ext: ∀ b o,b≠P->s.heap.get? b=some o->(h'.push (PySem.W.kla_obj "<lambda>" q params body sc (i0 X.env.cells sc.names []) ((X.mg "__name__").getD .none) c' ctv)).get? b=some o:=fun b o ne e=>af _ (hx' b o ne e)
  have hPlt:P<s.heap.objs.size:=ah pP.1
  have ncell: ∀ v,oc.data≠ .cell v:=fun v z=>by rw [hd] at z;cases z
  have hcn:H c'=none:=I.hok.fresh hge
  refine k _ (ps++ #[rawInt pos.line,rawInt pos.col, .ref c']) ((c',oc)::cs) (.ref c') ctv _ ((after _ tk ext).pins_of fun p hp=> ?_) ⟨?_, ?_, ?_⟩ ⟨_,rfl⟩ (fun p hp=>(aq.mp hp).elim (fun z=> .inr (by rw [z];exact hge)) .inl) (Nat.le_trans hge (Nat.le_of_lt hlt)) (ag _ rfl) ?_ ⟨c',rfl,hcn,Nat.ne_of_gt (bf I.lt hge),I.nofs hge⟩ ext
  ·rcases aq.mp hp with rfl | hp
   ·exact⟨af _ htb,pP.2.1,pP.2.2.1,pP.2.2.2.1,fun v z=>nomatch z⟩
   ·rcases aq.mp hp with rfl | hp
    ·refine⟨af _ hoc,hcn, ?_,I.nofs hge,ncell⟩
     exact Nat.ne_of_gt (bf I.lt hge)
    ·have:=I.pin p (bp _ (.tail _ hp))
     exact⟨ext _ _ (inP p (bp _ hp)) this.1,this.2⟩
  ·rw [Array.toList_append]
   exact iX T.ok
  ·intro pos' cv h
   rw [Array.toList_append] at h
   rcases lQ T.ok h with h | rfl
   ·obtain⟨c1,o1,e1,m1,r1⟩:=T.cod pos' cv h
    exact⟨c1,o1,e1, .tail _ m1,r1⟩
   ·exact⟨c',oc,rfl, .head _,vs,t,hd,hv⟩
  ·intro p hp
   rcases aq.mp hp with rfl | hp
   ·exact Nat.ne_of_gt (bf hPlt hge)
   ·exact T.ne p hp
  ·exact⟨c',oc,vs,t,rfl,af _ hoc,hd,hv⟩
end
noncomputable abbrev aAv (qual:Str) (sc:Scope) (L f:Addr) (cd:Value) (cl:List (Str×Addr)):PySem.Env:=PySem.W.envX qual sc L f cd cl
noncomputable def cxL (CX:CXT) (P:Program) (w:World) (K:PySem.W.Frag) (mg:Str->Option Value) (base:Heap) (N:List Str) (qual:Str) (sc:Scope) (f:Addr) (cd:Value) (cl:List (Str×Addr)) (A:Around) (outer:List PySem.Env) (s:Shared) (H:Hp) (E:XK):Cx where
 prog:=P
 w:=w
 K:=K
 mg:=mg
 base:=base
 A:=A.deeper (aAv qual sc s.heap.objs.size f cd cl)
 N:=N
 s₀:=s
 H₀:=H
 env:=aAv qual sc s.heap.objs.size f cd cl
 outer:=outer
 stack:=aAv qual sc s.heap.objs.size f cd cl::outer
 ex:=[]
 calm:=true
 fn:=fun _=>false
 pn:=[]
 xe:=fun e s'=>wpAny (model P w) (A.deeper (aAv qual sc s.heap.objs.size f cd cl)) (leaving (aAv qual sc s.heap.objs.size f cd cl) e) (fun _ s''=>CX outer H s E e s'') (fun e' s''=>CX outer H s E e' s'') s'
section
variable {CX:CXT} {P:Program} {w:World} {K:PySem.W.Frag} {mg:Str->Option Value} {base:Heap} {N:List Str} {name qual:Str} {sc:Scope} {f:Addr} {cd pm ct:Value} {cl:List (Str×Addr)} {A:Around} {outer:List PySem.Env} {s:Shared} {H:Hp} {E:XK} {Q:VK} {params:Arguments} {body:Expr} {vs:List V}
end
structure LamSc1 (x:Str) (sc:Scope):Prop where
 kind:sc.kind= .function
 co:sc.isCoroutine=false
 gen:sc.isGenerator=false
 nocell: ∀ y∈sc.names,y.2≠ .cell
 own:sc.names.lookup x=some .local
 noloc: ∀ y,sc.names.lookup y=some .local->y=x
section
variable {CX:CXT} {P:Program} {w:World} {K:PySem.W.Frag} {mg:Str->Option Value} {base:Heap} {N:List Str} {name qual x:Str} {sc:Scope} {f:Addr} {cd pm ct u0:Value} {v0:V} {cl:List (Str×Addr)} {A:Around} {outer:List PySem.Env} {s:Shared} {H:Hp} {E:XK} {Q:VK} {params:Arguments} {body:Expr} {vs:List V}
theorem t9 {h':Heap} {t':Nat} {m:Str->Option Value} (S:LamSc1 x sc) (hd:A.handled=none) (e0:Env0 P w K mg base A outer s H) (hns:h'.Ns s.heap.objs.size m) (hmx:m x=some u0) (r0:bA v0 u0) (hk: ∀ b o,s.heap.get? b=some o->h'.get? b=some o)
  (inj: ∀ x y c,cl.lookup x=some c->cl.lookup y=some c->x=y) (has: ∀ x,sc.names.lookup x=some .free-> ∃ c,cl.lookup x=some c) (cel: ∀ x c,cl.lookup x=some c->(∃ v,s.heap.IsCell c v)/\H c=none)
  (hl:vs.length=N.length) (hxN:x∉N) (hv: ∀ (i:Nat) (x:Str) (v:V),N[i]? =some x->vs[i]? =some v->sc.names.lookup x=some .free-> ∃ u c,bA v u/\cl.lookup x=some c/\s.heap.IsCell c (some u)):
  Inv (cxL CX P w K mg base (x::N) qual sc f cd cl A outer s H E) [] ((v0::vs).map some) H { s with heap:=h',toks:=t' }:=by
 have noA: ∀ b:Addr,b∉(cxL CX P w K mg base (x::N) qual sc f cd cl A outer s H E).ex:=fun b z=>absurd (show b∈([]:List Addr) from z) (by simp)
 have noC: ∀ x,sc.names.lookup x≠some .cell:=fun x z=>S.nocell _ (PySem.mem_of_lookup z) rfl
 refine⟨⟨e0.mod,S.kind,rfl,rfl,aj _,inj,fun y hy=> ?_,fun y c hy _=>(bd hy).elim,fun _=>hd,Around.frames_deeper e0.frames, .inr ⟨rfl,rfl⟩,fun b z=>absurd z (noA b),e0.bs,e0.bsz,fun b _ _=>noA b,fun b z=>absurd z (noA b),e0.funs,e0.frf⟩,
  rfl,e0.bare,Un.kept hk,⟨m,hns,fun i y v h1 h2 h3=> ?_⟩,fun y c h=> ?_,e0.hok.fresh (aj _),fun y c h=>(cel y c h).2,fun p hp=>absurd (show p∈([]:List (Addr×Obj)) from hp) (by simp),e0.hok.kept hk,(am ..).trans (by simp [hl];rfl)⟩
 ·have hy:sc.names.lookup y=some .cell\/sc.names.lookup y=some .free:=hy
  rcases hy with hy | hy
  ·exact absurd hy (noC y)
  ·exact has y hy
 ·have h1:(x::N)[i]? =some y:=h1
  have h3:sc.names.lookup y=some .local\/sc.names.lookup y=some .cell\/sc.names.lookup y=some .free:=h3
  cases i with
  | zero=>
   cases h1
   cases h2
   exact⟨u0,r0, .inl ⟨S.own,hmx⟩⟩
  | succ i=>
   have h1':N[i]? =some y:=by simpa using h1
   have h2':vs[i]? =some v:=by
    rw [List.map_cons,List.getElem?_cons_succ,List.getElem?_map] at h2
    cases q:vs[i]? with
    | none=>rw [q] at h2;cases h2
    | some a=>rw [q] at h2;cases h2;rfl
   rcases h3 with z | z | z
   ·exact absurd (List.mem_of_getElem? h1') (by rw [S.noloc y z];exact hxN)
   ·exact absurd z (noC y)
   ·obtain⟨u,c,r,e1,o,ho,hd⟩:=hv i y v h1' h2' z
    exact⟨u,r, .inr ⟨.inr z,c,e1,o,hk _ _ ho,hd⟩⟩
 ·obtain⟨⟨v,o,ho,hd⟩,_⟩:=cel y c h
  exact⟨v,o,hk _ _ ho,hd⟩
theorem aAw {k:Nat} (S:LamSc1 x sc) (hobj:s.heap.get? f=some { cls:= .type "function",data:= .func (PySem.W.kla_fn name qual params body sc cl pm cd ct) }) (hcd:s.heap.CodeRec cd qual) (hbind:bindArgs (PySem.W.kla_fn name qual params body sc cl pm cd ct) ⟨[u0],[]⟩=pure [(x,u0)]) (r0:bA v0 u0)
  (hr:Room (k+1) A) (e0:Env0 P w K mg base A outer s H)
  (inj: ∀ x y c,cl.lookup x=some c->cl.lookup y=some c->x=y) (has: ∀ x,sc.names.lookup x=some .free-> ∃ c,cl.lookup x=some c) (cel: ∀ x c,cl.lookup x=some c->(∃ v,s.heap.IsCell c v)/\H c=none)
  (hl:vs.length=N.length) (hxN:x∉N) (hv: ∀ (i:Nat) (x:Str) (v:V),N[i]? =some x->vs[i]? =some v->sc.names.lookup x=some .free-> ∃ u c,bA v u/\cl.lookup x=some c/\s.heap.IsCell c (some u))
  (hb: ∃ t,PE (cxL CX P w K mg base (x::N) qual sc f cd cl A outer s H E) body t/\t ((v0::vs).map some) H Q):
  codeAny (model P w) A (.call (.ref f) ⟨[u0],[]⟩) (CR CX outer P w H s Q E) s:=by
 have lim:s.heap.NoLimit:=e0.mod.nolimit.keeps fun b o e=>(e0.bs b o e).1
 refine PySem.W.kla_callFunE hr.depth hobj rfl S.co S.gen rfl hcd ?_
 rw [hbind]
 refine ae (wpAny_newFunctionEnv S.nocell (fun y hy=>by rw [List.mem_singleton.mp hy];exact S.own) (fun h' hns hsb=>⟨lim.fresh _ hsb, ?_⟩) S.kind)
 have hk: ∀ b o,s.heap.get? b=some o->h'.get? b=some o:=fun b o e=>hsb.extBut b o (bg (ah e)) (af _ e)
 show codeAny _ _ (.expr body (aAv qual sc s.heap.objs.size f cd cl)) _ _
 obtain⟨t,ht,hq⟩:=hb
 have I:=t9 (CX:=CX) (E:=E) (t':=s.toks+1) (qual:=qual) (f:=f) (cd:=cd) (u0:=u0) (v0:=v0) S hr.hd e0 hns (by simp) r0 hk inj has cel hl hxN hv
 refine PySem.W.kla_codeExpr (wpAny_mono (ht [] _ ((v0::vs).map some) H Q I hq) (fun v s' hs=> ?_) fun e s' hs=>hs)
 obtain⟨y,H',J,rv,q⟩:=hs
 exact⟨y,H',J.os,J.bare,J.base,J.hok,rv,q⟩
end
open PySem.AutoSeq1 PySem.MeetsSeq PySem.MeetsSeq2 PySem.MeetsSeq3 PySem.SeqRoads2
theorem xG (l b:Addr) (items items2:Array Value) (n n2:Nat) (ns ms:List Int) (h1:items.size=ns.length) (h2:items2.size=ms.length) (hsz:ns.length=ms.length)
  (e1: ∀ j (h:j<items.size), ∃ t,items[j]= .int (ns.getD j 0) t) (e2: ∀ j (h:j<items2.size), ∃ t,items2[j]= .int (ms.getD j 0) t) (k:Nat):
  ∀ i:Nat,items.size - i=k->Meets (Builtin.«list.__eq__.loop» ⟨[.ref l, .ref b,rawInt i,rawInt 0],[]⟩)
   (fun A R s=>s.heap.get? l=some { cls:= .type "list",data:= .seq items n }/\s.heap.get? b=some { cls:= .type "list",data:= .seq items2 n2 }/\
    R (.ok (.ret (.bool (fE (ns.drop i) (ms.drop i))))) s):=by
 induction k with
 | zero=>
  intro i hk prog w A R s h
  obtain⟨hp,g,d,tk,os⟩:=s;obtain⟨hl,hb,h⟩:=h
  wp_walk using wpAny_loadPart' hl,wpAny_loadPart' hb
  have hi1:items[((i:Nat):Int).toNat]? =none:=by simp;omega
  have hi2:items2[((i:Nat):Int).toNat]? =none:=by simp;omega
  have hd:ns.drop i=[]:=by simp;omega
  have hd2:ms.drop i=[]:=by simp;omega
  rw [hd,hd2] at h
  rw [hi1,hi2]
  wp_walk using wpAny_loadPart' hl,wpAny_loadPart' hb
  show R (.ok (.ret (.bool (decide (items.size<items2.size))))) _
  have: ¬ items.size<items2.size:=by omega
  rw [decide_eq_false this]
  exact h
 | succ k ih=>
  intro i hk prog w A R s h
  obtain⟨hp,g,d,tk,os⟩:=s;obtain⟨hl,hb,h⟩:=h
  wp_walk using wpAny_loadPart' hl,wpAny_loadPart' hb
  have hlt:i<items.size:=by omega
  have hlt2:i<items2.size:=by omega
  have hi1:items[((i:Nat):Int).toNat]? =some items[i]:=by simp [hlt]
  have hi2:items2[((i:Nat):Int).toNat]? =some items2[i]:=by simp [hlt2]
  have hc:((i:Int)+1)=((i+1:Nat):Int):=by push_cast;rfl
  have hd:ns.drop i=ns.getD i 0::ns.drop (i+1):=by rw [List.drop_eq_getElem_cons (by omega)];simp [List.getD,show i<ns.length by omega]
  have hd2:ms.drop i=ms.getD i 0::ms.drop (i+1):=by rw [List.drop_eq_getElem_cons (by omega)];simp [List.getD,show i<ms.length by omega]
  rw [hd,hd2] at h
  unfold fE at h
  obtain⟨t1,q1⟩:=e1 i hlt
  obtain⟨t2,q2⟩:=e2 i hlt2
  rw [hi1,hi2,q1,q2]
  refine aa (EqAt.int_int (ns.getD i 0) t1 (ms.getD i 0) t2 prog w _ _ ?_)
  by_cases z:ns.getD i 0=ms.getD i 0
  ·rw [if_pos z] at h
   rw [z]
   simp only [beq_self_eq_true]
   wp_walk
   rw [hc]
   exact⟨plainId_quiet plain_eq_loop _,codeAny_builtin entry_eq_loop (by
    rw [Around.under_plainId plain_eq_loop _]
    exact ih (i+1) (by omega) prog w A R _ ⟨hl,hb,h⟩)⟩
  ·rw [if_neg z] at h
   have zb:(ns.getD i 0==ms.getD i 0)=false:=by simpa using z
   rw [zb]
   wp_walk using wpAny_loadPart' hl,wpAny_loadPart' hb
   rw [hi1,hi2,q1,q2]
   refine aa (wpAny_lt_int ?_)
   wp_walk
   exact h
theorem xH (l b:Addr) (items items2:Array Value) (n n2:Nat) (ns ms:List Int) (h1:items.size=ns.length) (h2:items2.size=ms.length) (hsz:ns.length=ms.length)
  (e1: ∀ j (h:j<items.size), ∃ t,items[j]= .int (ns.getD j 0) t) (e2: ∀ j (h:j<items2.size), ∃ t,items2[j]= .int (ms.getD j 0) t):
  Meets (Builtin.«list.__lt__» ⟨[.ref l, .ref b],[]⟩)
   (fun A R s=>s.heap.get? l=some { cls:= .type "list",data:= .seq items n }/\s.heap.get? b=some { cls:= .type "list",data:= .seq items2 n2 }/\R (.ok (.ret (.bool (fE ns ms)))) s):=by
 intro prog w A R s h
 obtain⟨hp,g,d,tk,os⟩:=s;obtain⟨hl,hb,h⟩:=h
 have f3:=AutoSeq1.sub_list_list
 wp_walk using wpAny_loadPart' hl,wpAny_loadPart' hb
 exact⟨plainId_quiet plain_eq_loop _,codeAny_builtin entry_eq_loop (by
  rw [Around.under_plainId plain_eq_loop _]
  exact xG l b items items2 n n2 ns ms h1 h2 hsz e1 e2 _ 0 rfl prog w A R _ ⟨hl,hb,by simpa using h⟩)⟩
theorem uA {prog:Program} {w:World} {A:Around} {E:Value->Shared->Prop} {s:Shared} {Q:Bool->Shared->Prop} {l b:Addr} {items items2:Array Value} {n n2:Nat} {ns ms:List Int} (hu:A.units<cLine) (hl:s.heap.get? l=some { cls:= .type "list",data:= .seq items n }) (hb:s.heap.get? b=some { cls:= .type "list",data:= .seq items2 n2 })
  (h1:items.size=ns.length) (h2:items2.size=ms.length) (hsz:ns.length=ms.length) (e1: ∀ j (h:j<items.size), ∃ t,items[j]= .int (ns.getD j 0) t) (e2: ∀ j (h:j<items2.size), ∃ t,items2[j]= .int (ms.getD j 0) t)
  (h:Q (fE ns ms) s):wpAny (model prog w) A (keyLt' oneType' (.ref l) (.ref b)) Q E s:=by
 rw [keyLt'_oneType,oneLt'_eq]
 simp only [if_true]
 refine aa (wpAny_cRoomFor hu ?_)
 have hT:s.TypeIs (.ref l) "list":=⟨_,hl,rfl⟩
 refine aa (wpAny_callSpecialIfBound?_slot hT F.slot_list_lt (call_meets F.slot_list_lt hT F.entry_list_lt (F.args_list_lt_2 _ _) (xH l b items items2 n n2 ns ms h1 h2 hsz e1 e2) ⟨hl,hb, ?_⟩))
 exact wpAny_truthy_bool h
section
variable {X:Cx} {ad:Ad} {pins:List (Addr×Obj)} {s:Shared} {σ:St} {H G:Hp} {A:Around} {P':PySem.Fin->Shared->Prop} {E:Value->Shared->Prop} {D:Addr} {vs:List Value} {nss:List (List Int)} {f:Value}
theorem aFd {o:Obj} (I:Inv X pins σ H s) (ho: ∀ v,o.data≠ .cell v) (hf:o.isFreed=false:=by rfl):Inv X (pins++[(s.heap.objs.size,o)]) σ H { s with heap:=s.heap.push o }/\iR X pins H s.heap.objs.size:=by
 have I1:Inv X pins σ H { s with heap:=s.heap.push o }:=I.kept (t':=s.toks) fun b ob q=>af _ q
 have fp:iR X pins H s.heap.objs.size:=I.fpOk (aj _) (I.hok.fresh (aj _))
 have e:(s.heap.push o).get? s.heap.objs.size=some o:=ag _ hf
 have J:=I1.pinned (fp:=[s.heap.objs.size]) (fun b hb=>by rw [List.mem_singleton.mp hb];exact fp) (fun b hb=>by rw [List.mem_singleton.mp hb];exact⟨o,e,ho⟩)
 refine⟨?_,fp⟩
 have e2:d9 [s.heap.objs.size] (s.heap.push o)=[(s.heap.objs.size,o)]:=by
  unfold d9
  rw [List.filterMap_cons]
  simp only [e,Option.map_some,List.filterMap_nil]
 rw [e2] at J
 exact J
theorem qQ {H0:Hp} {a:Addr} {o o':Obj} {g:Obj->Obj} {own:List (Addr×Obj)} {t':Nat} (I:Inv X (pins++(a,o)::own) σ H s) (f0:iR X pins H0 a) (hne: ∀ p∈own,p.1≠a) (hg:(s.heap.update a g).get? a=some o') (ho': ∀ v,o'.data≠ .cell v):
  Inv X (pins++(a,o')::own) σ H { s with heap:=s.heap.update a g,toks:=t' }:=by
 have I0:Inv X (pins++own) σ H s:=I.pins_of fun p hp=>I.pin p (bp _ (by
  rcases List.mem_append.mp hp with h | h
  ·exact List.mem_append_left _ h
  ·exact bp _ (.tail _ h)))
 have hn: ∀ p∈X.pn++(pins++own),p.1≠a:=fun p hp=>by
  rcases List.mem_append.mp hp with h | h
  ·exact f0.2.2.2.2.2 p (List.mem_append_left _ h)
  ·rcases List.mem_append.mp h with h | h
   ·exact f0.2.2.2.2.2 p (bp _ h)
   ·exact hne p h
 have hz:H a=none:=(I.pin (a,o) (bp _ (bp _ (.head _)))).2.1
 have I1:Inv X (pins++own) σ H { s with heap:=s.heap.update a g,toks:=t' }:=I0.turned (fun b ob hb e=>(Heap.get?_update_other _ _ (Ne.symm hb)).trans e) hz f0.2.1 f0.2.2.2.1 f0.2.2.2.2.1 hn
 refine I1.pins_of fun p hp=> ?_
 rcases List.mem_append.mp hp with h | h
 ·exact I1.pin p (bp _ (List.mem_append_left _ h))
 ·rcases aq.mp h with rfl | h
  ·exact⟨hg,hz,f0.2.1,f0.2.2.1,ho'⟩
  ·exact I1.pin p (bp _ (bp _ h))
def gZ (G':Hp) (kA:Array Value) (nss:List (List Int)) (i:Nat):Prop:=kA.size=i/\ ∀ j,j<i-> ∃ a,kA[j]? =some (.ref a)/\G' a=some (.lst ((nss.getD j []).map V.int))
theorem gZ.mono {G1 G2:Hp} {kA:Array Value} {i:Nat} (h:gZ G1 kA nss i) (s:Same G1 G2):gZ G2 kA nss i:=⟨h.1,fun j hj=>let ⟨a,e1,e2⟩:=h.2 j hj;⟨a,e1,s _ _ e2⟩⟩
theorem gZ.push {G1:Hp} {kA:Array Value} {i:Nat} {a:Addr} (h:gZ G1 kA nss i) (ha:G1 a=some (.lst ((nss.getD i []).map V.int))):gZ G1 (kA.push (.ref a)) nss (i+1):=by
 refine⟨by rw [Array.size_push,h.1],fun j hj=> ?_⟩
 by_cases z:j=i
 ·subst z
  refine⟨a, ?_,ha⟩
  rw [<-h.1]
  simp
 ·obtain⟨b,e1,e2⟩:=h.2 j (by omega)
  refine⟨b, ?_,e2⟩
  rw [Array.getElem?_push,if_neg (by rw [h.1];exact z)]
  exact e1
noncomputable abbrev aJv (D kS:Addr) (e1:Nat) (kA:Array Value) (e:Nat):List (Addr×Obj):=[(D,seqObj "list" #[] e1),(kS,seqObj "list" kA e)]
theorem aAx {kS:Addr} {e1:Nat} (I:Inv X (pins++aJv D kS e1 #[] 0) σ H s) (hG:Same G H) (fK:iR X (pins++[(D,seqObj "list" #[] e1)]) H kS) (h64:vs.length<64)
  (turn: ∀ (i:Nat) (v:Value),vs[i]? =some v-> ∀ (own:List (Addr×Obj)) (G1 H1:Hp) (s1:Shared),Inv X (pins++own) σ H1 s1->Step G H G1 H1->wpAny (model X.prog X.w) A (call f [v]) (fun k s2=> ∃ a G2 H2,k= .ref a/\Inv X (pins++own) σ H2 s2/\Step G1 H1 G2 H2/\G2 a=some (.lst ((nss.getD i []).map V.int))) (fun _ _=>False) s1)
  (h: ∀ (s':Shared) (G' H':Hp) (kA:Array Value) (e:Nat),Inv X (pins++aJv D kS e1 kA e) σ H' s'->Step G H G' H'->gZ G' kA nss vs.length->wpAny (model X.prog X.w) A (ksk_end D false vs.toArray e1 (.ref kS) kA) P' E s'):
  wpAny (model X.prog X.w) A (ksk_rest D f false vs.toArray e1 (.ref kS)) P' E s:=by
 unfold ksk_rest
 refine aa (wpAny_rule ?_)
 first
  | rw [List.forIn_toArray]
  | (rw [<-Array.forIn_toList];simp only [List.toList_toArray])
  | rw [<-Array.forIn_toList]
 refine aa (ksk_fold (fun i s'=> ∃ G' H' kA e,Inv X (pins++aJv D kS e1 kA e) σ H' s'/\Step G H G' H'/\gZ G' kA nss i) vs 0 s ⟨G,H, #[],0,I,Step.refl hG,rfl,fun j hj=>by omega⟩ ?step ?done)
 case step=>
  rintro j x s' hx ⟨G',H',kA,e,I',st,ks⟩
  simp only [Nat.zero_add] at ks ⊢
  have hj:j<vs.length:=(aw.mp hx).1
  refine aa (wpAny_attempt (wpAny_mono (turn j x hx _ G' H' s' I' st) (fun v s'' he=> ?_) fun _ _ hF=>hF.elim))
  obtain⟨a,G2,H2,rfl,I2,st2,ha⟩:=he
  try dsimp only
  have nk:=(I2.pin (kS,seqObj "list" kA e) (bp _ (bp _ (.tail _ (.head _))))).1
  obtain⟨c2,hc2⟩: ∃ c2,(s''.heap.update kS (Obj.mapSeq (·.push (.ref a)))).get? kS=some (seqObj "list" (kA.push (.ref a)) c2):=⟨_,get?_update_seq nk (·.push (.ref a))⟩
  have I2':Inv X ((pins++[(D,seqObj "list" #[] e1)])++(kS,seqObj "list" kA e)::[]) σ H2 s'':=by rw [List.append_assoc];exact I2
  have I3:=qQ (t':=s''.toks) I2' fK (fun p hp=>by cases hp) hc2 (fun v z=>by cases z)
  have sz:kA.size<=64:=by rw [ks.1];omega
  refine aa (listUpdate_at nk rfl ?_ (by rw [sizeLine_eq];omega) (Nat.le_trans (Nat.le_of_eq (Array.size_push ..)) (by rw [sizeLine_eq];omega)))
  refine ae ⟨rfl,G2,H2,kA.push (.ref a),c2,by rw [List.append_assoc] at I3;exact I3,st.trans st2,(ks.mono st2.sg).push ha⟩
 case done=>
  rintro s' ⟨G',H',kA,e,I',st,ks⟩
  rw [Nat.zero_add] at ks
  have nk:=(I'.pin (kS,seqObj "list" kA e) (bp _ (bp _ (.tail _ (.head _))))).1
  try dsimp only
  exact aa (listItems_at nk rfl (h s' G' H' kA e I' st ks))
theorem sJ {H0:Hp} {kS:Addr} {e1 e:Nat} {kA out:Array Value} {st:SortSt} (I:Inv X (pins++aJv D kS e1 kA e) σ H s) (fD:iR X pins H0 D) (fK:iR X (pins++[(D,seqObj "list" #[] e1)]) H0 kS) (hk:kA.size<=64) (har:(arrOf st).map (·.2)=out) (ho:out.size<=64) (hf:failedOf st=none)
  (h: ∀ (s':Shared) (c:Nat),Inv X pins σ H s'->H D=none->s'.heap.get? D=some (seqObj "list" out c)->P' (.done (.ret .none)) s'):
  wpAny (model X.prog X.w) A (ksk_tail D false e1 (.ref kS) st) P' E s:=by
 have nk:=(I.pin (kS,seqObj "list" kA e) (bp _ (bp _ (.tail _ (.head _))))).1
 have nD:=I.pin (D,seqObj "list" #[] e1) (bp _ (bp _ (.head _)))
 obtain⟨c1,hc1⟩: ∃ c1,(s.heap.update kS (Obj.mapSeq fun _=>(#[]:Array Value))).get? kS=some (seqObj "list" #[] c1):=⟨_,get?_update_seq nk fun _=> #[]⟩
 have I':Inv X ((pins++[(D,seqObj "list" #[] e1)])++(kS,seqObj "list" kA e)::[]) σ H s:=by rw [List.append_assoc];exact I
 unfold ksk_tail
 try dsimp only
 refine aa (listUpdate_at nk rfl ?_ (by rw [sizeLine_eq];omega) (bq _))
 refine aa (wpAny_letGo ?_)
 have I1:=qQ (t':=s.toks) I' fK (fun p hp=>by cases hp) hc1 (fun v z=>by cases z)
 have I2:Inv X (pins++(D,seqObj "list" #[] e1)::[]) σ H { s with heap:=s.heap.update kS (Obj.mapSeq fun _=>(#[]:Array Value)),toks:=s.toks }:=I1.pins_of fun p hp=>I1.pin p (bp _ (List.mem_append_left _ hp))
 have nD1:=(I2.pin (D,seqObj "list" #[] e1) (bp _ (bp _ (.head _)))).1
 refine aa (seqEpoch_at nD1 rfl ?_)
 simp only [ax,if_false]
 rw [har,hf]
 refine aa (listUpdate_at nD1 rfl ?_ (bq _) (Nat.le_trans ho (by rw [sizeLine_eq];omega)))
 simp only [bne_self_eq_false,ax,if_false]
 obtain⟨c2,hc2⟩: ∃ c2,((s.heap.update kS (Obj.mapSeq fun _=>(#[]:Array Value))).update D (Obj.mapSeq fun _=>out)).get? D=some (seqObj "list" out c2):=⟨_,get?_update_seq nD1 fun _=>out⟩
 have I3:=qQ (t':=s.toks) I2 fD (fun p hp=>by cases hp) hc2 (fun v z=>by cases z)
 exact ae (h _ c2 I3.unpinned nD.2.1 hc2)
theorem aFe {kS:Addr} {e1 e:Nat} {kA:Array Value} {H0 G':Hp} {kn:Nat} (hu:A.units<cLine) (I:Inv X (pins++aJv D kS e1 kA e) σ H s) (hG:Same G' H) (fD:iR X pins H0 D) (fK:iR X (pins++[(D,seqObj "list" #[] e1)]) H0 kS) (h64:vs.length<64) (ks:gZ G' kA nss vs.length) (hkn: ∀ j,j<vs.length->(nss.getD j []).length=kn)
  (h: ∀ (s':Shared) (c:Nat) (p:Array Nat),Inv X pins σ H s'->H D=none->s'.heap.get? D=some (seqObj "list" (List.toArray (p.toList.map fun i=>vs.getD i Value.none)) c)->Gd vs.length p->Srt (O:=aB7) (fun i=>nss.getD i []) p vs.length->P' (.done (.ret .none)) s'):
  wpAny (model X.prog X.w) A (ksk_end D false vs.toArray e1 (.ref kS) kA) P' E s:=by
 have hzs:(kA.zip vs.toArray).size=vs.length:=by rw [Array.size_zip,ks.1,av,Nat.min_self]
 have itm: ∀ i,i<vs.length->kas_item (kA.zip vs.toArray) i=(kA.getD i Value.none,vs.getD i Value.none):=fun i hi=>by
  unfold kas_item
  rw [Array.getD_eq_getD_getElem?]
  have h1:i<kA.size:=by rw [ks.1];exact hi
  have h2:i<vs.toArray.size:=by rw [av];exact hi
  have:(kA.zip vs.toArray)[i]? =some (kA[i],vs[i]):=by
   rw [Array.getElem?_eq_getElem (by rw [hzs];exact hi)]
   simp
  rw [this]
  simp [h1,hi]
 have outE: ∀ p:Array Nat,Gd vs.length p->(p.map (kas_item (kA.zip vs.toArray))).map (·.2)=List.toArray (p.toList.map fun i=>vs.getD i Value.none):=fun p g=>by
  apply Array.toList_inj.mp
  rw [Array.map_map,Array.toList_map]
  refine List.map_congr_left fun i hi=> ?_
  have hlt:i<vs.length:=by
   have:=(Array.perm_iff_toList_perm.mp g).mem_iff.mp hi
   simpa using this
  show(kas_item (kA.zip vs.toArray) i).2=_
  rw [itm i hlt]
 have hsz: ∀ p:Array Nat,Gd vs.length p->(List.toArray (p.toList.map fun i=>vs.getD i Value.none)).size<=64:=fun p g=>by
  rw [av,am,Array.length_toList,g.size];omega
 have rng:Gd vs.length (List.toArray (List.range vs.length)):=Array.Perm.refl _
 have est: ∀ κ,SortSt.mk' κ (kA.zip vs.toArray) #[] 7 none=kas_st κ (kA.zip vs.toArray) (List.toArray (List.range vs.length)):=fun κ=>by
  have e:=kas_range (kA.zip vs.toArray)
  rw [hzs] at e
  show SortSt.mk' κ (kA.zip vs.toArray) #[] 7 none=SortSt.mk' κ ((List.toArray (List.range vs.length)).map (kas_item (kA.zip vs.toArray))) #[] 7 none
  rw [e]
 unfold ksk_end
 try dsimp only
 simp only [ax,if_false]
 by_cases h2:vs.toArray.size<2
 ·rw [if_pos h2,if_pos h2]
  refine aa (ae ?_)
  rw [StateT.run_pure]
  refine aa (ae ?_)
  try dsimp only
  rw [est]
  refine sJ I fD fK (by rw [ks.1];omega) (outE _ rng) (hsz _ rng) rfl fun s' c J hD hd=>h s' c _ J hD hd rng ?_
  intro i j hij hj
  rw [av] at h2
  have:i=j:=by omega
  subst this
  exact KeyOrd.kle_refl _
 ·rw [if_neg h2,if_neg h2]
  rw [av] at h2
  have obj: ∀ i,i<vs.length-> ∃ a its m,kA[i]? =some (.ref a)/\kA.getD i Value.none= .ref a/\s.heap.get? a=some { cls:= .type "list",data:= .seq its m }/\its.size=(nss.getD i []).length/\ ∀ j (hj:j<its.size), ∃ t,its[j]= .int ((nss.getD i []).getD j 0) t:=fun i hi=>by
   obtain⟨a,q1,q2⟩:=ks.2 i hi
   obtain⟨_,its,m,rv,hl,ho⟩:=I.lstM (hG _ _ q2)
   refine⟨a,its.toArray,m,q1,by rw [Array.getD_eq_getD_getElem?,q1];rfl,ho,by rw [av, <-hl,am],fun j hj=> ?_⟩
   have hj':j<its.length:=by simpa using hj
   have e1:its[j]? =some its[j]:=by simp [hj']
   obtain⟨t,ht⟩:=rP rv e1
   exact⟨t,by simpa using ht⟩
  have kA':kA=kA.toList.toArray:=by simp
  have kind: ∀ {Q:SortKind->Shared->Prop},Q oneType' s->wpAny (model X.prog X.w) A (keyKind' kA) Q E s:=fun {Q} hq=>by
   rw [kA']
   refine kas_kind (T:= .type "list") (by rw [Array.length_toList,ks.1];omega) (fun v hv=> ?_) (by decide) (by decide) hq
   obtain⟨i,hi,e⟩:=List.mem_iff_getElem.mp hv
   obtain⟨a,its,m,q1,_,q3,_⟩:=obj i (by rw [Array.length_toList,ks.1] at hi;exact hi)
   have:v= .ref a:=by
    have h3:kA[i]? =some v:=by
     rw [<-e]
     rw [Array.length_toList] at hi
     simp [hi]
    rw [q1] at h3
    exact(Option.some.inj h3).symm
   subst this
   exact fun A' Q' E' s' k hq'=>wpAny_typeOf (T:="list") ⟨_,k _ _ q3,rfl⟩ hq'
  refine aa (kind ?_)
  have cm:Cm (O:=aB7) (fun i=>nss.getD i []) vs.length (kas_cmp X.prog X.w A oneType' (kA.zip vs.toArray)) s:=by
   intro i j C hi hj hC
   unfold kas_cmp
   rw [itm i hi,itm j hj]
   obtain⟨a,its,m,_,g1,o1,z1,v1⟩:=obj i hi
   obtain⟨b,its2,m2,_,g2,o2,z2,v2⟩:=obj j hj
   rw [g1,g2]
   exact uA hu o1 o2 z1 z2 (by rw [hkn i hi,hkn j hj]) v1 v2 hC
  have run:=kas_runs (E:=E) (Q:=fun _ st' s'=>s'=s/\ ∃ p:Array Nat,arrOf st'=p.map (kas_item (kA.zip vs.toArray))/\failedOf st'=none/\Gd vs.length p/\Srt (O:=aB7) (fun i=>nss.getD i []) p vs.length) (G:=fun p s'=>s'=s/\Gd vs.length p/\Srt (O:=aB7) (fun i=>nss.getD i []) p vs.length)
   (by omega) h64 (fun p' st' s' a1 a2 a3 a4=>⟨a4.1,p',a2,a3,a4.2⟩) (qK cm (by omega) fun p g st=>⟨rfl,g,st⟩)
  rw [<-est] at run
  refine aa (wpAny_mono run ?_ fun _ _ e=>e)
  rintro⟨⟨⟩,st'⟩ s' ⟨rfl,p,har,hf,g,srt⟩
  try dsimp only
  exact sJ I fD fK (by rw [ks.1];omega) (by rw [har];exact outE p g) (hsz p g) hf fun s' c J hD hd=>h s' c p J hD hd g srt
theorem aAy {n kn:Nat} (hu:A.units<cLine) (I:Inv X pins σ H s) (hG:Same G H) (fD:iR X pins H D) (ho:s.heap.get? D=some (seqObj "list" vs.toArray n)) (h64:vs.length<64) (hkn: ∀ j,j<vs.length->(nss.getD j []).length=kn)
  (turn: ∀ (i:Nat) (v:Value),vs[i]? =some v-> ∀ (own:List (Addr×Obj)) (G1 H1:Hp) (s1:Shared),Inv X (pins++own) σ H1 s1->Step G H G1 H1->wpAny (model X.prog X.w) A (call f [v]) (fun k s2=> ∃ a G2 H2,k= .ref a/\Inv X (pins++own) σ H2 s2/\Step G1 H1 G2 H2/\G2 a=some (.lst ((nss.getD i []).map V.int))) (fun _ _=>False) s1)
  (h: ∀ (s':Shared) (G' H':Hp) (c:Nat) (p:Array Nat),Inv X pins σ H' s'->Step G H G' H'->H' D=none->s'.heap.get? D=some (seqObj "list" (List.toArray (p.toList.map fun i=>vs.getD i Value.none)) c)->Gd vs.length p->Srt (O:=aB7) (fun i=>nss.getD i []) p vs.length->P' (.done (.ret .none)) s'):
  wpAny (model X.prog X.w) A (ksk_tree D f false) P' E s:=by
 obtain⟨e1,ho1⟩: ∃ e1,(s.heap.update D (Obj.mapSeq fun _=>(#[]:Array Value))).get? D=some (seqObj "list" #[] e1):=⟨_,get?_update_seq ho fun _=> #[]⟩
 obtain⟨f0,f1,f2,f3,f4,f5⟩:=fD
 have I1:Inv X pins σ H { s with heap:=s.heap.update D (Obj.mapSeq fun _=>(#[]:Array Value)) }:=I.turned (t':=s.toks) (fun b ob hb e=>(Heap.get?_update_other _ _ (Ne.symm hb)).trans e) f0 f1 f3 f4 f5
 have I2:Inv X (pins++[(D,seqObj "list" #[] e1)]) σ H { s with heap:=s.heap.update D (Obj.mapSeq fun _=>(#[]:Array Value)) }:=I1.pins_of fun p hp=>by
  rcases List.mem_append.mp hp with z | z
  ·exact I1.pin p (bp _ z)
  ·rw [List.mem_singleton.mp z]
   exact⟨ho1,f0,f1,f2,fun v z=>by cases z⟩
 unfold ksk_tree
 refine aa (listItems_at ho rfl ?_)
 refine aa (listUpdate_at ho rfl ?_ (by rw [av,sizeLine_eq];omega) (bq _))
 refine aa (seqEpoch_at ho1 rfl ?_)
 refine aa (wpAny_newTuple ?_ (by show vs.length<=_;rw [sizeLine_eq];omega))
 have I3:Inv X (pins++[(D,seqObj "list" #[] e1)]) σ H { s with heap:=(s.heap.update D (Obj.mapSeq fun _=>(#[]:Array Value))).push (seqObj "tuple" vs.toArray 0) }:=I2.kept (t':=s.toks) fun b ob q=>af _ q
 refine aa (wpAny_newList ?_ (bq _))
 refine wpAny_holding ?_
 obtain⟨I4,fK⟩:=aFd (o:=seqObj "list" #[] 0) I3 (fun v z=>by cases z)
 rw [List.append_assoc] at I4
 refine aAx (s:={ s with heap:=((s.heap.update D (Obj.mapSeq fun _=>(#[]:Array Value))).push (seqObj "tuple" vs.toArray 0)).push (seqObj "list" #[] 0) }) I4 hG fK h64 turn fun s' G' H' kA e I' st ks=> ?_
 exact aFe (H0:=H) hu I' st.gh ⟨f0,f1,f2,f3,f4,f5⟩ fK h64 ks hkn fun s'' c p J hD hd g srt=>h s'' G' H' c p J st hD hd g srt
theorem lR {ws:List V} {us:List Value} (r:bF ws us): ∀ (is:List Nat),(∀ i∈is,i<ws.length)->bF (is.map fun i=>ws.getD i .non) (is.map fun i=>us.getD i Value.none)
 | [],_=> .nil
 | i::is,h=>by
  have hi:=h i (.head _)
  have e:ws[i]? =some ws[i]:=by simp [hi]
  obtain⟨u,h1,h2⟩:=r.get e
  rw [List.map_cons,List.map_cons]
  refine .cons ?_ (lR r is fun j hj=>h j (.tail _ hj))
  rw [bu,bu,e,h1]
  exact h2
theorem uB {l q:Addr} {ws:List V} {kn:Nat} {A₀:Around} {Q:Value->Shared->Prop} (hu:A₀.in1.in1.units<cLine) (I:Inv X pins σ H s) (hG:Same G H) (hl:SqL X.K H l ws) (h64:ws.length<64) (hkn: ∀ j,j<ws.length->(nss.getD j []).length=kn)
  (turn: ∀ (i:Nat) (w:V) (v:Value),ws[i]? =some w->bA w v-> ∀ (own:List (Addr×Obj)) (G1 H1:Hp) (s1:Shared),Inv X (pins++own) σ H1 s1->Step G H G1 H1->wpAny (model X.prog X.w) A₀.in1.in1 (call (.ref q) [v]) (fun k s2=> ∃ a G2 H2,k= .ref a/\Inv X (pins++own) σ H2 s2/\Step G1 H1 G2 H2/\G2 a=some (.lst ((nss.getD i []).map V.int))) (fun _ _=>False) s1)
  (h: ∀ (s':Shared) (D:Addr) (G' H':Hp) (p:Array Nat),Inv X pins σ (upd H' D (.lst (p.toList.map fun i=>ws.getD i .non))) s'->Step G H G' H'->H D=none->H' D=none->Gd ws.length p->Srt (O:=aB7) (fun i=>nss.getD i []) p ws.length->Q (.ref D) s'):
  wpAny (model X.prog X.w) A₀ (call (.builtin "sorted") [.ref l] [(Str.ofString "key", .ref q)]) Q E s:=by
 obtain⟨vs,rv,pt,hz⟩:=I.list hl
 have hlen:vs.length=ws.length:=rv.length.symm
 refine call_function_entry_kw kind_sorted plain_sorted entry_sorted (ksk_s1 _ _) ?_
 unfold Builtin.«sorted»
 refine aa (m:=checkCount "sorted" 1 1 _) (ae ?_)
 refine aa (collect_list (vs:=vs) pt.isList ?_ (by rw [sizeLine_eq];omega))
 refine aa (wpAny_newList ?_ (by rw [sizeLine_eq];omega))
 have hsz:((s.heap.push (seqObj "list" #[] 0)).update s.heap.objs.size (Obj.mapSeq (· ++vs.toArray))).objs.size=s.heap.objs.size+1:=by
  rw [Heap.size_update,size_push']
 have hoL:(((s.heap.push (seqObj "list" #[] 0)).update s.heap.objs.size (Obj.mapSeq (· ++vs.toArray))).push (seqObj "list" vs.toArray 0)).get? (s.heap.objs.size+1)=some (seqObj "list" vs.toArray 0):=by
  rw [<-hsz];exact ag _ rfl
 have keep: ∀ b o,s.heap.get? b=some o->(((s.heap.push (seqObj "list" #[] 0)).update s.heap.objs.size (Obj.mapSeq (· ++vs.toArray))).push (seqObj "list" vs.toArray 0)).get? b=some o:=fun b o q=>by
  have hlt:b<s.heap.objs.size:=ah q
  rw [Heap.get?_push_ne _ _ _ (by rw [hsz];exact bg (Nat.lt_succ_of_lt hlt)),Heap.get?_update_ne _ _ _ _ (bg hlt),Heap.get?_push_ne _ _ _ (bg hlt)]
  exact q
 show wpAny _ _ _ _ _ { s with heap:=((s.heap.push (seqObj "list" #[] 0)).update s.heap.objs.size (Obj.mapSeq (· ++vs.toArray))).push (seqObj "list" vs.toArray 0) }
 rw [hsz]
 have I1:Inv X pins σ H { s with heap:=((s.heap.push (seqObj "list" #[] 0)).update s.heap.objs.size (Obj.mapSeq (· ++vs.toArray))).push (seqObj "list" vs.toArray 0) }:=I.kept (t':=s.toks) keep
 have fD:iR X pins H (s.heap.objs.size+1):=I.fpOk (Nat.le_succ _) (I.hok.fresh (Nat.le_succ _))
 refine aa (wpAny_holding (wpAny_call_entry_kw slot_list_sort ⟨_,hoL,rfl⟩ entry_list_sort ?body (ksk_l1 _ _)))
 case body=>
  show wpAny (model X.prog X.w) A₀.in1.in1 (Builtin.«list.sort» ⟨[.ref (s.heap.objs.size+1)],[(Str.ofString "key", .ref q)]⟩) _ _ _
  rw [ksk_t1]
  refine aAy (s:={ s with heap:=((s.heap.push (seqObj "list" #[] 0)).update s.heap.objs.size (Obj.mapSeq (· ++vs.toArray))).push (seqObj "list" vs.toArray 0) }) (G:=G) hu I1 hG fD hoL (by omega) (fun j hj=>hkn j (by omega)) (fun i v hv=> ?_) fun s' G' H' c p J st hD hd g srt=>⟨_,rfl, ?_⟩
  ·have hi:i<vs.length:=(aw.mp hv).1
   have ew:ws[i]? =some ws[i]:=by simp [show i<ws.length by omega]
   obtain⟨u,h1,h2⟩:=rv.get ew
   rw [hv] at h1
   cases h1
   exact turn i _ v ew h2
  ·rw [hlen] at g srt
   have hmem: ∀ i∈p.toList,i<ws.length:=fun i hi=>by
    have:=(Array.perm_iff_toList_perm.mp g).mem_iff.mp hi
    simpa using this
   refine ae ⟨_,rfl,h s' (s.heap.objs.size+1) G' H' p ?_ st fD.1 hD g srt⟩
   obtain⟨f0,f1,f2,f3,f4,f5⟩:=fD
   refine J.track hD (Heap.get?_none_of_le (Nat.le_trans I.sz (Nat.le_succ _))) f1 f4 f5 ?_
   refine⟨?_,p.toList.map fun i=>vs.getD i Value.none,c,lR rv _ hmem,hd⟩
   rw [am,Array.length_toList,g.size,sizeLine_eq]
   omega
end
abbrev KD:=List Int×D
noncomputable def aAz (a:KD):List KD->List KD
 | []=>[a]
 | b::r=>if fE b.1 a.1 then b::aAz a r else a::b::r
noncomputable def kF:List KD->List KD
 | []=>[]
 | a::r=>aAz a (kF r)
theorem kG (a:KD): ∀ l,(aAz a l).Perm (a::l)
 | []=>List.Perm.refl _
 | b::r=>by
  unfold aAz
  split
  ·exact((kG a r).cons b).trans (List.Perm.swap a b r)
  ·exact List.Perm.refl _
theorem iO: ∀ l,(kF l).Perm l
 | []=>List.Perm.refl _
 | a::r=>(kG a (kF r)).trans ((iO r).cons a)
theorem lT (a:KD): ∀ {l:List KD},l.Pairwise (fun x y=>fE y.1 x.1=false)->(aAz a l).Pairwise (fun x y=>fE y.1 x.1=false)
 | [],_=>List.pairwise_singleton _ _
 | b::r,h=>by
  unfold aAz
  have h1:=List.pairwise_cons.mp h
  split
  ·rename_i hab
   refine List.pairwise_cons.mpr ⟨fun c hc=> ?_,lT a h1.2⟩
   rcases aq.mp ((kG a r).mem_iff.mp hc) with rfl | hc
   ·cases z:fE c.1 b.1
    ·rfl
    ·have:=iM _ _ _ hab z;rw [gK] at this;cases this
   ·exact h1.1 c hc
  ·rename_i hab
   have hab:fE b.1 a.1=false:=by simpa using hab
   refine List.pairwise_cons.mpr ⟨fun c hc=> ?_,h⟩
   rcases aq.mp hc with rfl | hc
   ·exact hab
   ·exact aEr hab (h1.1 c hc)
theorem kH: ∀ l,(kF l).Pairwise (fun x y=>fE y.1 x.1=false)
 | []=>List.Pairwise.nil
 | a::r=>lT a (kH r)
def aNt (l:List KD):Prop:= ∀ x∈l, ∀ y∈l,x.1=y.1->x=y
theorem aFf {l:List KD} (h:(l.map Prod.fst).Nodup):aNt l:=by
 induction l with
 | nil=>exact fun x hx=>by cases hx
 | cons a r ih=>
  rw [List.map_cons,List.nodup_cons] at h
  intro x hx y hy e
  rcases aq.mp hx with rfl | kx<;>rcases aq.mp hy with rfl | ky
  ·rfl
  ·exact absurd (ao.mpr ⟨y,ky,e.symm⟩) h.1
  ·exact absurd (ao.mpr ⟨x,kx,e⟩) h.1
  ·exact ih h.2 x kx y ky e
theorem uC {l m:List KD} (ho:aNt l) (p:m.Perm l) (h:m.Pairwise (fun x y=>fE y.1 x.1=false)):m=kF l:=
 List.Perm.eq_of_pairwise (fun a b ha hb x y=>ho a (p.mem_iff.mp ha) b ((iO l).mem_iff.mp hb) (iN _ _ y x)) h (kH l) (p.trans (iO l).symm)
theorem aJw {n:Nat} {p:Array Nat} {ps:List KD} (ho:aNt ps) (hn:ps.length=n) (g:Gd n p) (st:Srt (O:=aB7) (fun i=>(ps.getD i ([], .non)).1) p n):(p.toList.map fun i=>ps.getD i ([], .non))=kF ps:=by
 have pe:p.toList.Perm (List.range n):=by
  have:=Array.Perm.toList g
  simpa using this
 refine uC ho ((pe.map _).trans (List.Perm.of_eq ?_)) ?_
 ·apply List.ext_getElem
  ·simp [hn]
  ·intro i h1 h2
   simp [h2]
 ·rw [List.pairwise_map,List.pairwise_iff_getElem]
  intro i j hi hj hij
  have gs:=g.size
  rw [Array.length_toList,gs] at hi hj
  have:=st i j (Nat.le_of_lt hij) hj
  have e: ∀ k (hk:k<p.size),p.getD k 0=p.toList[k]'(by simpa using hk):=fun k hk=>by simp [Array.getD,hk]
  have r:fE (ps.getD (p.getD j 0) ([], .non)).1 (ps.getD (p.getD i 0) ([], .non)).1=false:=this
  rw [e i (by omega),e j (by omega)] at r
  exact r
noncomputable def aCg:R->Option (List Int)
 | .ow l=>l.mapM fun d=>match d with | .int i=>some i | _=>none
 | _=>none
noncomputable def oX (g:D->R):List D->Option (List KD)
 | []=>some []
 | d::r=>match aCg (g d),oX g r with
  | some k,some t=>some ((k,d)::t)
  | _,_=>none
noncomputable def okK (ps:List KD):Bool:=decide (ps.length<64)&&decide ((ps.map Prod.fst).Nodup)&&(match ps with | []=>true | a::r=>r.all fun b=>b.1.length==a.1.length)
noncomputable def kJ (g:D->R) (ds:List D):R:=match oX g ds with
 | some ps=>if okK ps then .ow ((kF ps).map Prod.snd) else .bad
 | none=> .bad
theorem oY {g:D->R}: ∀ {ds:List D} {ps:List KD},oX g ds=some ps->ps.length=ds.length/\ps.map Prod.snd=ds/\ ∀ i,i<ds.length->aCg (g (ds.getD i .non))=some (ps.getD i ([], .non)).1
 | [],ps,h=>by cases h;exact⟨rfl,rfl,fun i hi=>absurd hi (Nat.not_lt_zero _)⟩
 | d::r,ps,h=>by
  unfold oX at h
  cases h1:aCg (g d) with
  | none=>rw [h1] at h;cases h
  | some k=>
   cases h2:oX g r with
   | none=>rw [h1,h2] at h;cases h
   | some t=>
    rw [h1,h2] at h
    cases h
    obtain⟨a,b,c⟩:=oY h2
    refine⟨by simp [a],by simp [b],fun i hi=> ?_⟩
    cases i with
    | zero=>simpa using h1
    | succ i=>simpa using c i (by simpa using hi)
noncomputable def qX (X:Cx) (A:Around) (Ex:Value->Shared->Prop):Cx:={ X with A:=A,calm:=false,xe:=Ex }
section
variable {X:Cx} {ad:Ad} {pins:List (Addr×Obj)} {s:Shared} {σ:St} {H:Hp} {A:Around} {Ex:Value->Shared->Prop}
end
section
variable {X:Cx} {ad:Ad} {i kf:Nat} {en x q1:Str} {ea fa:Addr} {F:Fn} {fd:FuncData} {p p2 pos:Pos}
end
section
variable {X:Cx} {ad:Ad} {pins pins':List (Addr×Obj)} {s:Shared} {σ:St} {H H':Hp} {B h':Heap} {ea:Addr} {cls a0:Value} {D':Ends} {hd:ExceptHandler}
end
section
variable {P:Program} {w:World} {K:PySem.W.Frag} {mg:Str->Option Value} {base:Heap} {ad:Ad} {k kf:Nat} {f fa a:Addr} {name qual:Str} {params:Arguments} {scope:Scope} {dV kV doc pm cdv ct oc:Value} {an od:Option Addr}
  {osl:Array (Option Value)} {N ps:List Str} {dn en x cx q1:Str} {cp xp ep ap hp' rq np dp rp tp:Pos} {F:Fn} {fd:FuncData} {A:Around} {outer:List PySem.Env} {s:Shared} {G H:Hp} {Q:VK} {E:XK} {args:Args} {r:R}
end
noncomputable def aJx:Option SK.Gl->Bool
 | some (.py .isin)=>true
 | _=>false
noncomputable def qL (C:SK.Ctx):Expr->Option F
 | .Name x _=>(loc C x).map aD
 | _=>none
noncomputable def qE:Nat->SK.Ctx->Expr->Option F
 | 0,_,_=>none
 | n+1,C,e=>match e with
  | .Name x _=>(loc C x).map aB
  | .Constant c _ _=>(kD c).map rK
  | .BinOp a op b _=>(qE n C a).bind fun f=>(qE n C b).map fun g=>aX op f g
  | .List es _=>if es.length<=1000 then(d7 (qE n C) es).map fN else none
  | .Subscript a b _=>(qL C a).bind fun f=>(qE n C b).map fun g=>rIx f g
  | .Call f as kws cp=>if kws.isEmpty then(match f with
   | .Name x _=>if aJx (glo C x) then(two as).bind fun(a,t)=>(cU t).bind fun(tn,_)=>(qE n C a).bind fun fa=>(glo C tn).bind fun g=>(isP g).map fun P=>rIs P fa else none
   | .Attribute o m ap=>(one as).bind fun a=>if(ap.endLine==cp.line)=true then(qL C o).bind fun f=>(qE n C a).bind fun g=>if m="count" then some (nR rG f g) else if m="index" then some (nR nU f g) else none else none
   | _=>none) else none
  | _=>none
noncomputable def qT:Nat->SK.Ctx->Expr->Option F
 | 0,_,_=>none
 | n+1,C,e=>match e with
  | .BoolOp .Or [a,b] _=>(qT n C a).bind fun f=>(qT n C b).map fun g=>rOr f g
  | .UnaryOp .Not a _=>(qT n C a).map mW
  | .Compare a [op] [b] _=>(qE n C a).bind fun f=>(qE n C b).map fun g=>aZ op f g
  | .Call f as kws cp=>qE n C (.Call f as kws cp)
  | _=>none
mutual
noncomputable def qS:Nat->SK.Ctx->Stmt->Option FS
 | 0,_,_=>none
 | n+1,C,st=>match st with
  | .Assign [.Name x _] e _=>(loc C x).bind fun i=>(qE n C e).map fun f=>d6 i f
  | .If c a b _=>(qT n C c).bind fun f=>(qSs n C a).bind fun g=>(qSs n C b).map fun h=>sIf f g h
  | .Return (some e) _=>(qE n C e).map bW
  | _=>none
noncomputable def qSs:Nat->SK.Ctx->List Stmt->Option FS
 | 0,_,_=>none
 | n+1,C,l=>match l with
  | []=>some aY
  | st::r=>(qS n C st).bind fun g=>(qSs n C r).map fun h=>aR g h
end
section
variable {X X0:Cx} {ad:Ad} {C:SK.Ctx} {A:Around} {Ex:Value->Shared->Prop}
end
noncomputable def quiet (A:Around):Around:={ A with handled:=none }
section
variable {P:Program} {w:World} {K:Frag} {mg:Str->Option Value} {base:Heap} {ad:Ad} {k:Nat} {tab:List (Str×SK.Gl)}
end
structure TbD (P:Addr) (q:Str) (ps0 ps:Array Value) (cs pl:List (Addr×Obj)):Prop where
 tb:Tb P q ps cs
 gr: ∃ more,ps=ps0++more
 nP: ∀ r∈pl,r.1≠P
 dj: ∀ p∈cs, ∀ r∈pl,p.1≠r.1
noncomputable abbrev pnL (P:Addr) (ps:Array Value) (cs pins:List (Addr×Obj)):List (Addr×Obj):=(P,PySem.W.tabObj ps)::(cs++pins)
def SPL (X:Cx) (P:Addr) (q:Str) (ps0:Array Value) (pins:List (Addr×Obj)) (D:Ends) (f:Flow) (s':Shared):Prop:=
 ∃ ps cs,TbD P q ps0 ps cs (X.pn++pins)/\SP X (pnL P ps cs pins) D f s'
def LPS (X:Cx) (P:Addr) (q:Str) (ps0:Array Value) (st:Stmt) (t:TS):Prop:=
 ∀ (pins:List (Addr×Obj)) (ps:Array Value) (cs:List (Addr×Obj)) (s:Shared) (σ:St) (H:Hp) (D:Ends),TbD P q ps0 ps cs (X.pn++pins)->Inv X (pnL P ps cs pins) σ H s->t D σ H->
  wpAny (model X.prog X.w) X.A (exec st X.env) (SPL X P q ps0 pins D) X.xe s
def xI (X:Cx) (P:Addr) (q:Str) (ps0:Array Value) (st:List Stmt) (t:TS):Prop:=
 ∀ (pins:List (Addr×Obj)) (ps:Array Value) (cs:List (Addr×Obj)) (s:Shared) (σ:St) (H:Hp) (D:Ends),TbD P q ps0 ps cs (X.pn++pins)->Inv X (pnL P ps cs pins) σ H s->t D σ H->
  wpAny (model X.prog X.w) X.A (execs st X.env) (SPL X P q ps0 pins D) X.xe s
section
variable {X:Cx} {P:Addr} {q:Str} {ps0:Array Value} {st:Stmt} {gO:List Stmt} {t u t':TS} {pos:Pos} {ad:Ad} {Z:(St->Nat->Hp->Prop)->Prop} {f:F} {g h:FS}
theorem LPS.imp (a:LPS X P q ps0 st t) (k: ∀ D σ H,t' D σ H->t D σ H):LPS X P q ps0 st t':=fun pins ps cs s σ H D T I w=>a pins ps cs s σ H D T I (k D σ H w)
theorem xI.imp (a:xI X P q ps0 gO t) (k: ∀ D σ H,t' D σ H->t D σ H):xI X P q ps0 gO t':=fun pins ps cs s σ H D T I w=>a pins ps cs s σ H D T I (k D σ H w)
theorem aJy (a:PS X st t):LPS X P q ps0 st t:=fun pins ps cs s σ H D T I w=>L2.thn (a _ s σ H D I w) fun f s' hs=>⟨ps,cs,T,hs⟩
theorem aFg (a:PSs X gO t):xI X P q ps0 gO t:=fun pins ps cs s σ H D T I w=>L2.thn (a _ s σ H D I w) fun f s' hs=>⟨ps,cs,T,hs⟩
theorem xJ (h1:LPS X P q ps0 st t) (h2:xI X P q ps0 gO u):xI X P q ps0 (st::gO) (aPa t u):=by
 intro pins ps cs s σ H D T I h
 refine wpAny_execs_cons (L2.thn (h1 pins ps cs s σ H { D with nx:=u D } T I h) fun f s1 hq=> ?_)
 obtain⟨ps1,cs1,T1,hq⟩:=hq
 cases f with
 | next=>
  obtain⟨σ',H',I',hq⟩:=hq
  exact h2 pins ps1 cs1 s1 σ' H' D T1 I' hq
 | ret v=>exact⟨ps1,cs1,T1,hq⟩
 | brk=>exact⟨ps1,cs1,T1,hq⟩
 | cont=>exact⟨ps1,cs1,T1,hq⟩
theorem aFh {iter tg:Expr} {body:List Stmt} {wi:L2.TI} {gg:L2.TG} {tb:TS} (hp:PassesOwn (model X.prog X.w) X.A X.env X.xe) (hc:X.calm=true) (hi:PI X tg iter wi) (hg:PG X tg gg) (hb:xI X P q ps0 body tb)
  (hs: ∀ x,foldedSetIterable iter X.env x=pure x):LPS X P q ps0 (.For tg iter body [] pos) (aPc wi gg tb):=by
 intro pins ps cs s σ H D T0 I h
 refine wpAny_For (L2.thn (hi _ s σ H _ I h) fun v s1 h1=>L2.thn h1 fun itv s2 h2=> ?_) hs
 obtain⟨it,fp,tn,J,H2,e,I2,T,st2,f2,W,⟨m0,w0⟩,turn⟩:=h2
 subst e
 -- what stays true of the iterator's objects, whatever stands in the table
 have stat: ∀ {H':Hp} {ps':Array Value} {cs':List (Addr×Obj)},(∀ b∈fp,H' b=none)->(∀ b∈fp, ∀ p∈cs',p.1≠b)-> ∀ b∈fp,iR X (pnL P ps' cs' pins) H' b:=fun {H' ps' cs'} hn hd b hb=>by
  obtain⟨_,a1,a2,a3,a4,a5⟩:=f2 b hb
  refine⟨hn b hb,a1,a2,a3,a4,fun p hp=> ?_⟩
  rcases List.mem_append.mp hp with z | z
  ·exact a5 p (List.mem_append_left _ z)
  ·rcases aq.mp z with rfl | z
   ·exact a5 (P,PySem.W.tabObj ps) (bp _ (.head _))
   ·rcases List.mem_append.mp z with z | z
    ·exact hd b hb p z
    ·exact a5 p (bp _ (.tail _ (bp _ z)))
 have d0: ∀ b∈fp, ∀ p∈cs,p.1≠b:=fun b hb p hp=>(f2 b hb).2.2.2.2.2 p (bp _ (.tail _ (List.mem_append_left _ hp)))
 have nPb: ∀ b∈fp,P≠b:=fun b hb=>(f2 b hb).2.2.2.2.2 (P,PySem.W.tabObj ps) (bp _ (.head _))
 refine codeAny_forLoop_any (fun n s'=> ∃ i σ' H' ps' cs',TbD P q ps0 ps' cs' (X.pn++pins)/\(∀ b∈fp, ∀ p∈cs',p.1≠b)/\Inv X (pnL P ps' cs' pins) σ' H' s'/\tn i s'.heap/\(∀ b∈fp,H' b=none)/\W i n σ' H') ?_ m0 ⟨0,σ,H2,ps,cs,T0,d0,I2,st2,fun b hb=>(f2 b hb).1,w0⟩
 rintro n s3 ⟨i,σ3,H3,ps3,cs3,T3,d3,I3,st3,fr3,w3⟩
 rcases turn i n σ3 H3 w3 with ⟨stop,qn⟩ | ⟨go,N,hN,step⟩
 ·refine wpAny_passesOwn hp (L2.thn (T.done X rfl rfl rfl hc i _ s3 σ3 H3 X.xe I3 (stat fr3 d3) st3 stop) fun r s4 hz_=> ?_)
  obtain⟨hr,I4⟩:=hz_
  subst hr
  exact wpAny_execs_nil ⟨ps3,cs3,T3,σ3,H3,I4,qn⟩
 ·refine wpAny_passesOwn hp (L2.thn (T.item X rfl rfl rfl hc i _ s3 σ3 H3 X.xe I3 (stat fr3 d3) st3 go) fun r s4 hz_=> ?_)
  obtain⟨u,hr,h4⟩:=hz_
  subst hr
  refine wpAny_passesOwn hp (L2.thn h4 fun _ s5 hz_=> ?_)
  obtain⟨x,H5,I5,r5,y5,st5,fr5⟩:=hz_
  have I5':=I5.pinned (stat fr5 d3) (T.obj _ _ st5)
  refine wpAny_passesOwn hp (L2.thn (hg _ s5 σ3 H5 x u _ I5' r5 (step x H5 y5)) fun _ s6 hz_=> ?_)
  obtain⟨σ6,H6,I6,q6⟩:=hz_
  have ep: ∀ (ps':Array Value) (cs':List (Addr×Obj)),pnL P ps' cs' pins++d9 fp s5.heap=pnL P ps' cs' (pins++d9 fp s5.heap):=fun ps' cs'=>by
   show _::(cs'++pins++_)=_::(cs'++(pins++_))
   rw [List.append_assoc]
  rw [ep] at I6
  have T6:TbD P q ps0 ps3 cs3 (X.pn++(pins++d9 fp s5.heap)):=by
   refine⟨T3.tb,T3.gr,fun r hr=> ?_,fun p hp r hr=> ?_⟩
   ·rw [<-List.append_assoc] at hr
    rcases List.mem_append.mp hr with z | z
    ·exact T3.nP r z
    ·exact(nPb _ (jJ z).1).symm
   ·rw [<-List.append_assoc] at hr
    rcases List.mem_append.mp hr with z | z
    ·exact T3.dj p hp r z
    ·exact d3 _ (jJ z).1 p hp
  refine wpAny_passesOwn hp (L2.thn (hb _ ps3 cs3 s6 σ6 H6 _ T6 I6 q6) fun f s7 q7=> ?_)
  obtain⟨ps7,cs7,T7,q7⟩:=q7
  have T7':TbD P q ps0 ps7 cs7 (X.pn++pins):=by
   refine⟨T7.tb,T7.gr,fun r hr=>T7.nP r ?_,fun p hp r hr=>T7.dj p hp r ?_⟩<;>(rw [<-List.append_assoc];exact List.mem_append_left _ hr)
  have un: ∀ {σ7:St} {H7:Hp},Inv X (pnL P ps7 cs7 (pins++d9 fp s5.heap)) σ7 H7 s7->Inv X (pnL P ps7 cs7 pins) σ7 H7 s7:=fun {σ7 H7} I7=>by
   rw [<-ep] at I7
   exact I7.unpinned
  have again: ∀ {σ7:St} {H7:Hp},Inv X (pnL P ps7 cs7 (pins++d9 fp s5.heap)) σ7 H7 s7->N σ7 H7-> ∃ m,m<n/\ ∃ i σ' H' ps' cs',TbD P q ps0 ps' cs' (X.pn++pins)/\(∀ b∈fp, ∀ p∈cs',p.1≠b)/\Inv X (pnL P ps' cs' pins) σ' H' s7/\tn i s7.heap/\(∀ b∈fp,H' b=none)/\W i m σ' H':=fun {σ7 H7} I7 n7=>by
   obtain⟨m',hm,w7⟩:=hN σ7 H7 n7
   have inn: ∀ b∈fp, ∀ o,s5.heap.get? b=some o->(b,o)∈X.pn++(pins++d9 fp s5.heap):=fun b hb o e=>bp _ (bp _ (dP hb e))
   have pin: ∀ b∈fp, ∀ o,s5.heap.get? b=some o->s7.heap.get? b=some o/\H7 b=none:=fun b hb o e=>by
    have:=I7.pin (b,o) (bp _ (.tail _ (bp _ (bp _ (dP hb e)))))
    exact⟨this.1,this.2.1⟩
   refine⟨m',hm,i+1,σ7,H7,ps7,cs7,T7',fun b hb p hp=> ?_,un I7,T.keep _ _ _ st5 fun b hb o e=>(pin b hb o e).1,fun b hb=> ?_,w7⟩
   ·obtain⟨o,e,d⟩:=T.obj _ _ st5 b hb
    exact T7.dj p hp (b,o) (inn b hb o e)
   ·obtain⟨o,e,d⟩:=T.obj _ _ st5 b hb
    exact(pin b hb o e).2
  cases f with
  | next=>obtain⟨σ7,H7,I7,n7⟩:=q7;exact again I7 n7
  | cont=>obtain⟨σ7,H7,I7,n7⟩:=q7;exact again I7 n7
  | brk=>obtain⟨σ7,H7,I7,q7⟩:=q7;exact⟨ps7,cs7,T7',σ7,H7,un I7,q7⟩
  | ret v=>obtain⟨x7,σ7,H7,I7,r7,q7⟩:=q7;exact⟨ps7,cs7,T7',x7,σ7,H7,un I7,r7,q7⟩
end
def EPL (X:Cx) (P:Addr) (q:Str) (ps0:Array Value) (pins:List (Addr×Obj)) (σ:St) (Q:VK) (u:Value) (s':Shared):Prop:=
 ∃ ps cs,TbD P q ps0 ps cs (X.pn++pins)/\EP X (pnL P ps cs pins) σ Q u s'
noncomputable def aA0:Option SK.Slot->Option SK.Slot
 | some (.sh d)=>some (.sh d)
 | some (.rk C r)=>some (.rk C r)
 | _=>none
noncomputable def aCh (cs:List Nat) (ρ:Rho):Option (List SK.Slot):=d7 (fun i=>aA0 ρ[i]?) cs
theorem SL.cons0 {K:PySem.W.Frag} {ad:Ad} {G H:Hp} {ρ:Rho} {σ:St} {s:SK.Slot} {ov:Option V} (h:SL K ad G H ρ σ) (h0:SLi K ad G H s ov):SL K ad G H (s::ρ) (ov::σ):=
 ⟨by simp [h.len],fun i sl e=>by
  cases i with
  | zero=>cases e;exact⟨ov,rfl,h0⟩
  | succ i=>exact h.at_ i sl e⟩
theorem sK {K:PySem.W.Frag} {ad:Ad} {G H:Hp} {ρ:Rho} {σ:St} (hS:SL K ad G H ρ σ): ∀ {cs:List Nat} {sl:List SK.Slot},aCh cs ρ=some sl->
  ∃ vs:List V,vs.length=cs.length/\SL K ad G H sl (vs.map some)/\ ∀ (i j:Nat) (v:V),cs[i]? =some j->vs[i]? =some v->σ[j]? =some (some v)
 | [],sl,h=>by
  cases h
  exact⟨[],rfl,⟨rfl,fun i s e=>by cases e⟩,fun i j v h=>by cases h⟩
 | c::cs,sl,h=>by
  unfold aCh d7 at h
  cases e:ρ[c]? with
  | none=>rw [e] at h;cases h
  | some s0=>
   rw [e] at h
   have key: ∀ (v:V),aA0 (some s0)=some s0->σ[c]? =some (some v)->SLi K ad G H s0 (some v)->(d7 (fun i=>aA0 ρ[i]?) cs).map (s0:: ·)=some sl-> ∃ vs:List V,vs.length=(c::cs).length/\SL K ad G H sl (vs.map some)/\ ∀ (i j:Nat) (v:V),(c::cs)[i]? =some j->vs[i]? =some v->σ[j]? =some (some v):=fun v _ e1 sv h=>by
    obtain⟨r,h1,h2⟩:=zMd h
    subst h2
    obtain⟨vs,l,rp,hv⟩:=sK hS (cs:=cs) (sl:=r) h1
    refine⟨v::vs,by simp [l],rp.cons0 sv,fun i j w hi hw=> ?_⟩
    cases i with
    | zero=>cases hi;cases hw;exact e1
    | succ i=>exact hv i j w hi hw
   cases s0 with
   | sh d=>
    obtain⟨v,e1,rv⟩:=hS.sh e
    exact key v rfl e1 ⟨v,rfl,rv⟩ h
   | rk C r=>
    obtain⟨p,dx,d,l1,l2,e1,rv⟩:=hS.rk e
    exact key (.ref p) rfl e1 ⟨p,dx,d,l1,l2,rfl,rv⟩ h
   | no=>cases h
   | ow xs=>cases h
   | dc xs=>cases h
   | sd xs=>cases h
section
variable {X:Cx} {P c ft:Addr} {q tn dn:Str} {ps0 ps:Array Value} {cs pins:List (Addr×Obj)} {σ:St} {G H:Hp} {ρ:Rho} {s:Shared} {params:Arguments} {body:Expr} {sc:Scope} {lp p cp:Pos} {ad:Ad} {k:Nat} {F:R->R} {f:SK.F} {cap:List Nat} {fd:FuncData} {Q:VK}
end
def LPE (X:Cx) (P:Addr) (q:Str) (ps0:Array Value) (e:Expr) (t:TE):Prop:=
 ∀ (pins:List (Addr×Obj)) (ps:Array Value) (cs:List (Addr×Obj)) (s:Shared) (σ:St) (H:Hp) (Q:VK),TbD P q ps0 ps cs (X.pn++pins)->Inv X (pnL P ps cs pins) σ H s->t σ H Q->
  wpAny (model X.prog X.w) X.A (eval e X.env) (EPL X P q ps0 pins σ Q) X.xe s
abbrev LME (X:Cx) (P:Addr) (q:Str) (ps0:Array Value) (ad:Ad) (e:Expr) (f:SK.F):Prop:=LPE X P q ps0 e (tE X ad f)
abbrev LMS (X:Cx) (P:Addr) (q:Str) (ps0:Array Value) (ad:Ad) (Z:(St->Nat->Hp->Prop)->Prop) (st:Stmt) (g:FS):Prop:=LPS X P q ps0 st (tS X ad Z g)
abbrev aFi (X:Cx) (P:Addr) (q:Str) (ps0:Array Value) (ad:Ad) (Z:(St->Nat->Hp->Prop)->Prop) (st:List Stmt) (g:FS):Prop:=xI X P q ps0 st (tS X ad Z g)
section
variable {X:Cx} {P:Addr} {q:Str} {ps0 ps:Array Value} {cs pins:List (Addr×Obj)} {ad:Ad} {Z:(St->Nat->Hp->Prop)->Prop} {a e:Expr} {f:SK.F} {g h:FS} {st:Stmt} {sts:List Stmt} {pos pos':Pos} {σ:St} {G H:Hp} {ρ:Rho} {s:Shared} {Q:VK} {E:Nat->Hp->Prop}
theorem LPE.thn {k:D->R} (ha:LME X P q ps0 ad a f) (T:TbD P q ps0 ps cs (X.pn++pins)) (I:Inv X (pnL P ps cs pins) σ H s) (hG:Same G H) (hS:SL X.K ad G H ρ σ) (hx:XP X ad σ E) (hr:RK X.K ad G H ((f ρ).bind k) Q E):
  wpAny (model X.prog X.w) X.A (eval a X.env) (fun u s1=> ∃ ps1 cs1 v d G1 H1,TbD P q ps0 ps1 cs1 (X.pn++pins)/\Inv X (pnL P ps1 cs1 pins) σ H1 s1/\bA v u/\Step G H G1 H1/\Rep X.K ad G1 d v/\RK X.K ad G1 H1 (k d) Q E) X.xe s:=by
 cases e:f ρ with
 | ok d=>
  rw [e] at hr
  refine L2.thn (ha pins ps cs s σ H (fun v H1=> ∃ G1,Step G H G1 H1/\Rep X.K ad G1 d v) T I ⟨G,ρ,E,hG,hS,hx,by rw [e];exact fun v G1 H1 st q=>⟨G1,st,q⟩⟩) fun u s1 ⟨ps1,cs1,T1,v,H1,I1,r1,G1,st,q⟩=> ?_
  exact⟨ps1,cs1,v,d,G1,H1,T1,I1,r1,st,q,RK.step hr st⟩
 | ow xs=>
  rw [e] at hr
  refine L2.thn (ha pins ps cs s σ H (fun v H1=> ∃ G1,Step G H G1 H1/\Rep X.K ad G1 (.lst xs) v) T I ⟨G,ρ,E,hG,hS,hx,by rw [e];exact fun p vs G1 H1 st n m e' q=>cL st n m e' q⟩) fun u s1 ⟨ps1,cs1,T1,v,H1,I1,r1,G1,st,q⟩=> ?_
  exact⟨ps1,cs1,v, .lst xs,G1,H1,T1,I1,r1,st,q,RK.step hr st⟩
 | ex c=>
  rw [e] at hr
  refine L2.thn (ha pins ps cs s σ H (fun v H1=>False) T I ⟨G,ρ,E,hG,hS,hx,by rw [e];exact hr⟩) fun u s1 ⟨ps1,cs1,T1,v,H1,I1,r1,q⟩=>q.elim
 | bad=>
  rw [e] at hr
  exact ay hr
end
theorem sL {k:Nat} {A:Around} (r:Room (k+1) A):Room k A.in1.in1:=
 ⟨r.hd,by have:=r.dp;show A.depth+3 * k+5<_;omega,by have:=r.un;show A.units+1+1+16 * k+200<_;omega⟩
theorem oZ: ∀ {l:List D} {ns:List Int},(l.mapM fun d=>match d with | .int i=>some i | _=>none)=some ns->l=ns.map D.int
 | [],ns,h=>by
  rw [List.mapM_nil] at h
  cases h
  rfl
 | d::r,ns,h=>by
  rw [List.mapM_cons] at h
  cases d<;>try (cases h;done)
  rename_i i
  obtain⟨t,h1,h2⟩:=zBd (show(Option.bind (r.mapM fun d=>match d with | .int i=>some i | _=>none) fun t=>some (i::t))=some ns from h)
  cases h2
  rw [oZ h1]
  rfl
theorem aFj {r:R} {ns:List Int} (h:aCg r=some ns):r= .ow (ns.map D.int):=by
 cases r with
 | ow l=>rw [oZ (show _=_ from h)]
 | ok d=>cases h
 | ex c=>cases h
 | bad=>cases h
theorem lU {K:PySem.W.Frag} {ad:Ad} {G:Hp}: ∀ {ns:List Int} {vs:List V},aF K ad G (ns.map D.int) vs->vs=ns.map V.int
 | [],[],_=>rfl
 | [],_::_,r=>by unfold aF at r;simp at r
 | n::ns,[],r=>by
  rw [List.map_cons] at r
  unfold aF at r
  simp at r
 | n::ns,v::vs,r=>by
  rw [List.map_cons] at r
  unfold aF at r
  obtain⟨v',vs',e,r1,r2⟩:=r
  cases e
  unfold Rep at r1
  subst r1
  rw [List.map_cons,lU r2]
section
variable {X:Cx} {a c':Addr} {q x:Str} {pins own:List (Addr×Obj)} {σ:St} {G1 H1:Hp} {s1:Shared} {params:Arguments} {body:Expr} {sc:Scope} {ad:Ad} {k:Nat} {f:SK.F} {cap:List Nat} {pm ct:Value} {co:Obj} {sl:List SK.Slot} {vs:List V} {d:D} {w:V} {v:Value} {ns:List Int}
theorem aA1 (S:LamSc1 x sc) (hxN:x∉aS sc) (hp1:(a,({ cls:= .type "function",data:= .func (PySem.W.kla_fn "<lambda>" q params body sc (i0 X.env.cells sc.names []) pm (.ref c') ct) }:Obj))∈pins) (hp2:(c',co)∈pins) (hco: ∃ vs t,co.data= .fields vs/\vs[1]? =some (.str q t))
  (hfree: ∀ x,(x,NameKind.free)∈sc.names->X.env.kindOf x=some .cell\/X.env.kindOf x=some .free)
  (hbind: ∀ u cl pm cd ct,bindArgs (PySem.W.kla_fn "<lambda>" q params body sc cl pm cd ct) ⟨[u],[]⟩=pure [(x,u)])
  (hcl:cap.length=(aS sc).length) (hcap: ∀ (i:Nat) (x:Str),(aS sc)[i]? =some x-> ∃ j,cap[i]? =some j/\X.N[j]? =some x/\(X.env.kindOf x=some .cell\/X.env.kindOf x=some .free))
  (hbody: ∀ a cd cl A outer s H E,Room k (A.deeper (aAv q sc s.heap.objs.size a cd cl))->ME (cxL (CXe X.prog X.w) X.prog X.w X.K X.mg X.base (x::aS sc) q sc a cd cl A outer s H E) ad body f)
  (hr:Room (k+2) X.A) (I:Inv X (pins++own) σ H1 s1) (hG:Same G1 H1) (hvl:vs.length=cap.length) (rvs:SL X.K ad G1 H1 sl (vs.map some)) (hvv: ∀ (i j:Nat) (v:V),cap[i]? =some j->vs[i]? =some v->σ[j]? =some (some v))
  (rd:Rep X.K ad G1 d w) (r0:bA w v) (hk:aCg (f (.sh d::sl))=some ns):
  wpAny (model X.prog X.w) X.A.in1.in1 (call (.ref a) [v]) (fun k s2=> ∃ b G2 H2,k= .ref b/\Inv X (pins++own) σ H2 s2/\Step G1 H1 G2 H2/\G2 b=some (.lst (ns.map V.int))) (fun _ _=>False) s1:=by
 have pa:=I.pin _ (bp X.pn (List.mem_append_left own hp1))
 have pc:=I.pin _ (bp X.pn (List.mem_append_left own hp2))
 have hcl2: ∀ x d,(i0 X.env.cells sc.names []).lookup x=some d->(x,NameKind.free)∈sc.names/\X.env.cells.lookup x=some d:=fun x d e=>by
  rcases jA e with ⟨k,h1,h2,h3⟩ | h
  ·subst h2
   refine⟨h1, ?_⟩
   obtain⟨c',hc'⟩:=I.ok.has x (hfree x h1)
   rw [hc'] at h3
   rw [h3]
   exact hc'
  ·cases h
 have hhas: ∀ x,sc.names.lookup x=some .free-> ∃ d,(i0 X.env.cells sc.names []).lookup x=some d:=fun x e=>Option.isSome_iff_exists.mp (jB (cells:=X.env.cells) (acc:=[]) (PySem.mem_of_lookup e))
 have Tx:DefX (cxL (CXe X.prog X.w) X.prog X.w X.K X.mg X.base (x::aS sc) q sc a (.ref c') (i0 X.env.cells sc.names []) X.A.in1.in1 X.stack s1 H1 (fun _ _ _=>False)) (fun _ _ _=>False):=⟨rfl,rfl,rfl,fun e s' h=>h⟩
 have hR:Room (k+1) X.A.in1.in1:=sL hr
 refine wpAny_call (codeAny_mono (aAw (CX:=CXe X.prog X.w) (E:=fun _ _ _=>False) (Q:=fun y H2=> ∃ b G2,y= .ref b/\Step G1 H1 G2 H2/\G2 b=some (.lst (ns.map V.int))) (vs:=vs) S pa.1 (by obtain⟨fs,t,h1,h2⟩:=hco;exact⟨c',co,fs,t,rfl,pc.1,h1,h2⟩) (hbind _ _ _ _ _) r0 hR I.env0.in1.in1 (fun x y d h1 h2=>I.ok.inj x y d (hcl2 x d h1).2 (hcl2 y d h2).2) hhas (fun x d h=>⟨I.cell x d (hcl2 x d h).2,I.freeC x d (hcl2 x d h).2⟩) (by rw [hvl,hcl]) hxN (fun i x v h1 h2 h3=> ?_) ⟨_,hbody a _ _ X.A.in1.in1 X.stack s1 H1 _ (hR.deeper _),G1, .sh d::sl,_,hG,rvs.cons0 ⟨w,rfl,rd⟩,aB2 Tx, ?_⟩) fun r s2 hq=> ?_)
 ·obtain⟨j,e1,e2,e3⟩:=hcap i x h1
  have e4:=hvv i j v e1 h2
  obtain⟨m,hn,hl⟩:=I.loc
  obtain⟨u,ru,lu⟩:=hl j x v e2 e4 (by rcases e3 with z | z<;>first | exact .inr (.inl z) | exact .inr (.inr z))
  rcases lu with ⟨z,_⟩ | ⟨_,d,hd,o,ho,hcel⟩
  ·rcases e3 with y | y<;>(rw [z] at y;cases y)
  ·obtain⟨d',hd'⟩:=hhas x h3
   have:=(hcl2 x d' hd').2
   rw [hd] at this
   cases this
   exact⟨u,d,ru,hd',o,ho,hcel⟩
 ·rw [aFj hk]
  exact fun p vs G2 H2 st n m e q=>⟨p,upd G2 p (.lst vs),rfl,st.share n m e,by rw [aN,lU q]⟩
 ·cases r with
  | error e=>obtain⟨_,_,_,_,_,_,_,_,_,_,_,_,_,_,z⟩:=hq;exact z.elim
  | ok fl=>
   cases fl with
   | ret u=>
    obtain⟨y,H2,I2,ry,b,G2,rfl,st,rp⟩:=I.after hq
    exact⟨b,G2,H2,ry,I2,st,rp⟩
   | next=>exact ay hq
   | brk=>exact ay hq
   | cont=>exact ay hq
end
noncomputable def kM (cap:List Nat) (f g:SK.F):SK.F:=fun ρ=>(g ρ).bind fun d=>match aCh cap ρ,d with
 | some sl, .lst ds=>kJ (fun y=>f (.sh y::sl)) ds
 | _,_=> .bad
section
variable {X:Cx} {P c:Addr} {q x:Str} {ps0 ps:Array Value} {cs pins:List (Addr×Obj)} {σ:St} {G H:Hp} {ρ:Rho} {s:Shared} {params:Arguments} {a body:Expr} {sc:Scope} {lp p kp pos:Pos} {ad:Ad} {k:Nat} {f g:SK.F} {cap:List Nat} {Q:VK} {E:Nat->Hp->Prop}
theorem aA2 (hg:L2.Gl X "sorted") (hm:X.mg "sorted"=none) (hr:Room (k+2) X.A) (ha:ML X ad a g) (he:starEach [a] X.env=(false,eval a X.env)::starEach [] X.env)
  (hx:P∈X.ex) (hpar:defaultsOf params X.env=([],[])) (hq:X.env.qual++"<lambda>"=q) (hfree: ∀ x,(x,NameKind.free)∈sc.names->X.env.kindOf x=some .cell\/X.env.kindOf x=some .free)
  (hcode:X.env.code= .ref c) (hC:PySem.W.CodeHd X.base c P) (hB:X.base.BuiltinsAt X.mg P)
  (S:LamSc1 x sc) (hxN:x∉aS sc) (hbind: ∀ u cl pm cd ct,bindArgs (PySem.W.kla_fn "<lambda>" q params body sc cl pm cd ct) ⟨[u],[]⟩=pure [(x,u)])
  (hcl:cap.length=(aS sc).length) (hcap: ∀ (i:Nat) (x:Str),(aS sc)[i]? =some x-> ∃ j,cap[i]? =some j/\X.N[j]? =some x/\(X.env.kindOf x=some .cell\/X.env.kindOf x=some .free))
  (hbody: ∀ a cd cl A outer s H E,Room k (A.deeper (aAv q sc s.heap.objs.size a cd cl))->ME (cxL (CXe X.prog X.w) X.prog X.w X.K X.mg X.base (x::aS sc) q sc a cd cl A outer s H E) ad body f)
  (T:TbD P q ps0 ps cs (X.pn++pins)) (I:Inv X (pnL P ps cs pins) σ H s) (hG:Same G H) (hS:SL X.K ad G H ρ σ) (hxp:XP X ad σ E) (hrk:RK X.K ad G H (kM cap f g ρ) Q E):
  wpAny (model X.prog X.w) X.A (eval (.Call (.Name "sorted" p) [a] [⟨some "key", .Lambda params body sc lp,kp⟩] pos) X.env) (EPL X P q ps0 pins σ Q) X.xe s:=by
 refine wpAny_Call_Name_kw (eG (u:= .builtin "sorted") I hg hm (by decide+kernel) ?_ (by decide) (by decide))
 refine callWith_kw (L2.thn (b9 ha eI he pos _ s σ H (fun vs H1=> ∃ v d G1,vs=[v]/\Step G H G1 H1/\Seq X ad G1 H1 d v/\RK X.K ad G1 H1 (match aCh cap ρ,d with | some sl, .lst ds=>kJ (fun y=>f (.sh y::sl)) ds | _,_=> .bad) Q E) I ?_) fun us s1 ⟨vs,H1,I1,r1,v,d,G1,e1,st,sq,kk⟩=> ?_) (by rw [he];rfl) (by rw [he];rfl) rfl rfl
 ·exact p0 hG hS hxp hrk fun v d G1 H1 st q k=>⟨v,d,G1,rfl,st,q,k⟩
 subst e1
 obtain⟨u,rfl,ru⟩:=kR r1
 cases hcd:aCh cap ρ with
 | none=>rw [hcd] at kk;exact kk.elim
 | some sl=>
  rw [hcd] at kk
  cases d<;>try exact kk.elim
  rename_i ds
  have kk:RK X.K ad G1 H1 (kJ (fun y=>f (.sh y::sl)) ds) Q E:=kk
  unfold kJ at kk
  cases hks:oX (fun y=>f (.sh y::sl)) ds with
  | none=>rw [hks] at kk;exact kk.elim
  | some kps=>
   rw [hks] at kk
   have kk:RK X.K ad G1 H1 (if okK kps then .ow ((kF kps).map Prod.snd) else .bad) Q E:=kk
   by_cases hok:okK kps=true
   ·rw [if_pos hok] at kk
    obtain⟨b,vs,rfl,hsq,rq⟩:=sq.items st.gh rfl
    have hsq':SqL X.K H1 b vs:=by
     rcases hsq with z | z
     ·cases z.1
     ·exact z.2
    cases (show u=Value.ref b from ru)
    have hC1:PySem.W.CodeHd s1.heap c P:=by
     obtain⟨o,vs,file,tf,flags,tg,inF,text,tt,e1,r⟩:=hC
     exact⟨o,vs,file,tf,flags,tg,inF,text,tt,(I1.bs _ _ e1).1,r⟩
    have hB1:s1.heap.BuiltinsAt X.mg P:=by
     obtain⟨bm,o,b1,b2,b3,b4,b5,r⟩:=hB
     exact⟨bm,o,b1,b2,b3,b4,(I1.bs _ _ b5).1,r⟩
    refine kws_cons (xF I1 T.tb hx (fun p hp=>T.nP p hp) hpar hq hfree hcode hC1 hB1 fun fa ps' cs' cv ctv s' I' T' more new hsz hobj hrec hco ext=>kws_nil ?_)
    have TD:TbD P q ps0 ps' cs' (X.pn++pins):=by
     refine⟨T', ?_,T.nP,fun p hp r hr=> ?_⟩
     ·obtain⟨m1,e1⟩:=T.gr
      obtain⟨m2,e2⟩:=more
      exact⟨m1++m2,by rw [e2,e1,Array.append_assoc]⟩
     ·rcases new p hp with z | z
      ·exact T.dj p z r hr
      ·have hin:r∈X.pn++pnL P ps cs pins:=by
        rcases List.mem_append.mp hr with y | y
        ·exact List.mem_append_left _ y
        ·exact bp _ (.tail _ (bp _ y))
       exact Nat.ne_of_gt (bf (ah (I1.pin r hin).1) z)
    obtain⟨c',rfl,cn1,cn2,cn3⟩:=hco
    obtain⟨c'',co,fs,tq,ec,hco,hf1,hf2⟩:=hrec
    cases ec
    obtain⟨vs0,hvl,rvs,hvv⟩:=sK (hS.step st) hcd
    obtain⟨hkl,hks2,hkey⟩:=oY hks
    obtain⟨hok1,hok3⟩:=Bool.and_eq_true_iff.mp hok
    obtain⟨hok1,hok2⟩:=Bool.and_eq_true_iff.mp hok1
    have h64:=of_decide_eq_true hok1
    have hone:=aFf (of_decide_eq_true hok2)
    have hvlen:vs.length=ds.length:=rq.length
    have I2:Inv X (pnL P ps' cs' pins++[(fa,({ cls:= .type "function",data:= .func (PySem.W.kla_fn "<lambda>" q params body sc (i0 X.env.cells sc.names []) ((X.mg "__name__").getD .none) (.ref c') ctv) }:Obj)),(c',co)]) σ H1 s':=I'.pins_of fun r hr=>by
     rcases List.mem_append.mp hr with z | z
     ·exact I'.pin r (bp _ z)
     ·rcases aq.mp z with rfl | z
      ·exact⟨hobj,I1.hok.fresh hsz,Nat.ne_of_gt (bf I1.lt hsz),I1.nofs hsz,fun v z=>by cases z⟩
      ·rw [List.mem_singleton.mp z]
       exact⟨hco,cn1,cn2,cn3,fun v z=>by rw [hf1] at z;cases z⟩
    have hkn: ∃ kn, ∀ j,j<vs.length->((kps.map Prod.fst).getD j []).length=kn:=by
     cases kps with
     | nil=>exact⟨0,fun j hj=>by rw [List.length_nil] at hkl;omega⟩
     | cons y r=>
      refine⟨y.1.length,fun j hj=> ?_⟩
      cases j with
      | zero=>rfl
      | succ j=>
       have hj':j<r.length:=by rw [bo] at hkl;omega
       have:=zAd hok3 r[j] (List.getElem_mem hj')
       simpa [hj'] using this
    obtain⟨kn,hkn⟩:=hkn
    have fstAt: ∀ i,(kps.map Prod.fst).getD i []=(kps.getD i ([], .non)).1:=fun i=>by
     rw [bu,bu,List.getElem?_map]
     cases kps[i]? <;>rfl
    have sndAt: ∀ i,ds.getD i .non=(kps.getD i ([], .non)).2:=fun i=>by
     rw [<-hks2,bu,bu,List.getElem?_map]
     cases kps[i]? <;>rfl
    refine uB (nss:=kps.map Prod.fst) (G:=G1) (kn:=kn) (sL hr).units0 I2 st.gh hsq' (by omega) hkn (fun i w v hi rw_ own G2 H2 s2 J st2=> ?_) fun s2 D G2 H2 pm J st2 n1 n2 gd srt=> ?_
    ·have hi':i<ds.length:=by rw [<-hvlen];exact(aw.mp hi).1
     have ed:ds[i]? =some (ds.getD i .non):=by simp [hi']
     obtain⟨w',e1,rw'⟩:=rq.get ed
     rw [hi] at e1
     cases e1
     rw [fstAt]
     exact aA1 (f:=f) (cap:=cap) (sl:=sl) (vs:=vs0) (d:=ds.getD i .non) (w:=w) S hxN (bp _ (.head _)) (bp _ (.tail _ (.head _))) ⟨fs,tq,hf1,hf2⟩ hfree hbind hcl hcap hbody hr J st2.gh hvl (rvs.step st2) hvv (rw'.mono st2.sg) rw_ (hkey i hi')
    ·have lt: ∀ i∈pm.toList,i<ds.length:=fun i hi=>by
      have:=(Array.Perm.mem_iff gd).mp (Array.mem_def.mpr hi)
      have:i<vs.length:=by simpa using this
      omega
     have srt':Srt (O:=aB7) (fun i=>(kps.getD i ([], .non)).1) pm vs.length:=by
      have:(fun i=>(kps.map Prod.fst).getD i [])=fun i=>(kps.getD i ([], .non)).1:=funext fstAt
      rw [this] at srt
      exact srt
     refine⟨ps',cs',TD, .ref D,_,J.pins_of fun r hr=>J.pin r (bp _ (List.mem_append_left _ hr)),rfl,kk D _ G2 _ (st2.trans (Step.own st2.gh n2)) n1 (st2.gh.free n2) aN ?_⟩
     have hd':=oR (X:=X) (rq.mono st2.sg) (l:=pm.toList) lt
     rw [<-aJw hone (by omega) gd srt',List.map_map]
     have:(Prod.snd ∘ fun i=>kps.getD i (([], .non):KD))=fun i=>ds.getD i .non:=funext fun i=>(sndAt i).symm
     rw [this]
     exact hd'
   ·rw [if_neg hok] at kk;exact kk.elim
end
section
variable {X:Cx} {P:Addr} {q:Str} {ps0 ps:Array Value} {cs pins:List (Addr×Obj)} {ad:Ad} {Z:(St->Nat->Hp->Prop)->Prop} {a e it tg:Expr} {f:SK.F} {g h:FS} {st:Stmt} {sts body:List Stmt} {pos pos':Pos}
theorem aJz (a:MS X ad Z st g):LMS X P q ps0 ad Z st g:=aJy a
theorem aA3:aFi X P q ps0 ad Z [] aY:=aFg vR
theorem xK (h1:LMS X P q ps0 ad Z st g) (h2:aFi X P q ps0 ad Z sts h):aFi X P q ps0 ad Z (st::sts) (aR g h):=by
 refine xI.imp (xJ h1 h2) ?_
 rintro D' σ H ⟨G₀,G,ρ,E,S,hx,hr⟩
 refine⟨G₀,G,ρ,E,S,hx, ?_⟩
 unfold aR at hr
 cases e:g ρ with
 | nx ρ'=>rw [e] at hr;exact fun σ' G' H' S'=>⟨G₀,G',ρ',E,S',hx,hr⟩
 | bk ρ'=>rw [e] at hr;exact hr
 | ct ρ'=>rw [e] at hr;exact hr
 | ex c ρ'=>rw [e] at hr;exact hr
 | rt r=>
  rw [e] at hr
  cases r<;>exact hr
theorem xL {k:Nat} {is:List Nat} {xs:List Str} (hp:PassesOwn (model X.prog X.w) X.A X.env X.xe) (hc:X.calm=true) (hN:X.N.Nodup) (hi:MIG X ad tg it f) (ht:bI tg=some (xs,k)) (hn:NmsOk X xs is) (hb:aFi X P q ps0 ad Z body g)
  (hs: ∀ x,foldedSetIterable it X.env x=pure x):LMS X P q ps0 ad Z (.For tg it body [] pos) (kU is (k==0) f g):=by
 obtain⟨P',hk⟩:=aEa hc hN ht hn
 refine LPS.imp (aFh hp hc hi P' hb hs) ?_
 rintro D' σ H ⟨G₀,G,ρ,E,S,hx,hr⟩
 refine⟨G,ρ,E σ,S.st.gh,S.sl,hx.1 σ, ?_⟩
 unfold kU fB at hr
 cases e:f ρ with
 | ok d=>
  rw [e] at hr
  have hr':OKo X ad G₀ (match items d with | some ds=>fF (pS is (k==0)) g ds ρ | none=> .rt .bad) D' E:=hr
  cases e2:items d with
  | none=>rw [e2] at hr';exact hr'.elim
  | some ds=>
   rw [e2] at hr'
   exact⟨ds,e2,fun J G' H' st it=>jE hk (S.step st) hx it hr'⟩
 | ow xs=>
  rw [e] at hr
  exact fun J G' H' st it=>jE hk (S.step st) hx it hr
 | ex c=>rw [e] at hr;exact fun G1 H1 st=>hr σ G1 H1 (S.step st)
 | bad=>rw [e] at hr;exact hr
end
def TPL (X:Cx) (P:Addr) (q:Str) (ps0:Array Value) (pins:List (Addr×Obj)) (σ:St) (Q:Bool->Hp->Prop) (b:Bool) (s':Shared):Prop:=
 ∃ ps cs,TbD P q ps0 ps cs (X.pn++pins)/\TP X (pnL P ps cs pins) σ Q b s'
def LPT (X:Cx) (P:Addr) (q:Str) (ps0:Array Value) (e:Expr) (t:TT):Prop:=
 ∀ (pins:List (Addr×Obj)) (ps:Array Value) (cs:List (Addr×Obj)) (s:Shared) (σ:St) (H:Hp) (Q:Bool->Hp->Prop),TbD P q ps0 ps cs (X.pn++pins)->Inv X (pnL P ps cs pins) σ H s->t σ H Q->
  wpAny (model X.prog X.w) X.A (isTrue e X.env (eval e X.env)) (TPL X P q ps0 pins σ Q) X.xe s
abbrev LMT (X:Cx) (P:Addr) (q:Str) (ps0:Array Value) (ad:Ad) (e:Expr) (f:SK.F):Prop:=LPT X P q ps0 e (tT X ad f)
section
variable {X:Cx} {P:Addr} {q:Str} {ps0:Array Value} {ad:Ad} {Z:(St->Nat->Hp->Prop)->Prop} {a b e:Expr} {f g:SK.F} {gs hs:FS} {sa sb:List Stmt} {pos:Pos} {t u:TS} {tc tA tB:TT}
theorem aJ0 (h:PT X e tc):LPT X P q ps0 e tc:=fun pins ps cs s σ H Q T I w=>L2.thn (h _ s σ H Q I w) fun b s' hs=>⟨ps,cs,T,hs⟩
theorem aFk {c:Expr} {sa sb:List Stmt} (hc:LPT X P q ps0 c tc) (ha:xI X P q ps0 sa t) (hb:xI X P q ps0 sb u):LPS X P q ps0 (.If c sa sb pos) (aMe tc t u):=by
 intro pins ps cs s σ H D T I h
 refine wpAny_If (L2.thn (hc pins ps cs s σ H _ T I h) fun d s1 hz_=> ?_)
 obtain⟨ps1,cs1,T1,H1,I1,q1⟩:=hz_
 cases d with
 | true=>exact ha pins ps1 cs1 s1 σ H1 D T1 I1 q1
 | false=>exact hb pins ps1 cs1 s1 σ H1 D T1 I1 q1
theorem aJ1 {D':Ends} {σ:St} {H:Hp} (h:tS X ad Z (sIf f gs hs) D' σ H):aMe (tT X ad f) (tS X ad Z gs) (tS X ad Z hs) D' σ H:=by
 obtain⟨G₀,G,ρ,E,S,hx,hr⟩:=h
 unfold sIf at hr
 cases e:f ρ with
 | ok d=>
  rw [e] at hr
  cases d<;>try exact hr.elim
  rename_i k
  refine⟨G,ρ,E σ,S.st.gh,S.sl,hx.1 σ, .inl ⟨k,e⟩, ?_⟩
  rw [e]
  intro v G1 H1 st r
  unfold Rep at r;subst r
  refine⟨k,rfl, ?_⟩
  cases k with
  | true=>exact yT ⟨G₀,G1,ρ,E,S.step st,hx,hr⟩
  | false=>exact aBh ⟨G₀,G1,ρ,E,S.step st,hx,hr⟩
 | ow xs=>rw [e] at hr;exact hr.elim
 | ex k=>
  rw [e] at hr
  refine⟨G,ρ,E σ,S.st.gh,S.sl,hx.1 σ, .inr ⟨k,e⟩, ?_⟩
  rw [e]
  exact fun G1 H1 st=>hr σ G1 H1 (S.step st)
 | bad=>rw [e] at hr;exact hr.elim
theorem aFl {c:Expr} (hc:LMT X P q ps0 ad c f) (ha:aFi X P q ps0 ad Z sa gs) (hb:aFi X P q ps0 ad Z sb hs):LMS X P q ps0 ad Z (.If c sa sb pos) (sIf f gs hs):=
 LPS.imp (aFk hc ha hb) fun _ _ _ h=>aJ1 h
end
section
variable {X:Cx} {P:Addr} {q:Str} {ps0:Array Value} {ad:Ad} {a b:Expr} {f g:SK.F} {pos:Pos}
theorem aA4 {op:CmpOp} (hu:X.A.units+62<cLine) (ha:ME X ad a f) (hb:LME X P q ps0 ad b g) (hm:behindInMarks op b=false):LMT X P q ps0 ad (.Compare a [op] [b] pos) (aZ op f g):=by
 intro pins ps cs s σ H Q T I ⟨G,ρ,E,hG,hS,hx,ht,hr⟩
 refine wpAny_isTrue_Compare1 (L2.thn (ha.thn I hG hS hx hr) fun v s1 ⟨x,d,G1,H1,I1,r1,st1,q1,k1⟩=>L2.thn (hb.thn T I1 st1.gh (hS.step st1) hx k1) fun u s2 ⟨ps1,cs1,y,d2,G2,H2,T1,I2,r2,st2,q2,k2⟩=>
  L2.thn (iF op hu _ s2 σ H2 G2 d d2 x y v u _ E I2 st2.gh (q1.mono st2.sg) q2 r1 r2 k2) fun c s3 ⟨z,H3,I3,r3,k,e,q3⟩=> ?_) hm
 subst e
 cases r3
 exact wpAny_truthy_bool ⟨ps1,cs1,T1,H3,I3,q3⟩
end
section
variable {P:Program} {w:World} {K:Frag} {mg:Str->Option Value} {base:Heap} {ad:Ad} {k:Nat} {tab:List (Str×SK.Gl)} {fns:List (Nat×Fn)} {sc:Scope} {q:Str} {a:Addr} {cd:Value} {cl:List (Str×Addr)} {A:Around} {outer:List PySem.Env} {s:Shared} {H:Hp} {E:XK}
end
structure LawX (X:Cx) (ad:Ad) (C:SK.Ctx) (tn:Str) (F:R->R) (P c:Addr) (q:Str) (k:Nat):Prop where
 O:StOk X ad C
 B:ExcK X.K ad
 TB:d8 X.prog X.w X.K X.mg X.base ad k C.tab
 FB:gL X.prog X.w X.K X.mg X.base ad k C.fns
 room:Room (k+2) X.A
 ex:P∈X.ex
 ql:X.env.qual++"<lambda>"=q
 code:X.env.code= .ref c
 hC:PySem.W.CodeHd X.base c P
 hB:X.base.BuiltinsAt X.mg P
 pass:PassesOwn (model X.prog X.w) X.A X.env X.xe
noncomputable def aPz:Expr->Option (Arguments×Expr×Scope)
 | .Lambda ps body sc _=>some (ps,body,sc)
 | _=>none
theorem aFm {e:Expr} {ps:Arguments} {body:Expr} {sc:Scope} (h:aPz e=some (ps,body,sc)): ∃ p,e= .Lambda ps body sc p:=by
 cases e<;>first | (cases h;exact⟨_,rfl⟩) | (cases h;done)
theorem xM {α β:Type} {f:α->Option β}: ∀ {l:List α} {r:List β},d7 f l=some r-> ∀ (i:Nat) (a:α),l[i]? =some a-> ∃ b,r[i]? =some b/\f a=some b
 | [],_,_,i,a,h=>by cases h
 | x::l,r,h,i,a,ha=>by
  unfold d7 at h
  cases e:f x with
  | none=>rw [e] at h;cases h
  | some y=>
   rw [e] at h
   obtain⟨r',h1,h2⟩:=zMd h
   subst h2
   cases i with
   | zero=>cases ha;exact⟨y,rfl,e⟩
   | succ i=>exact xM h1 i a ha
noncomputable def sM (x:Str) (sc:Scope):Bool:=sc.kind== .function&& !sc.isCoroutine&& !sc.isGenerator&&sc.names.all (fun p=>p.2 != .cell&&(p.2 != .local||p.1==x))&&(sc.names.lookup x==some .local)&&decide (x::aS sc).Nodup&&(x::aS sc).all (fun x=> !(x==("__debug__":Str))&& !(x==("__classdict__":Str)))
theorem lV {x:Str} {sc:Scope} (h:sM x sc=true):LamSc1 x sc/\(x::aS sc).Nodup/\ ∀ y∈x::aS sc,(y==("__debug__":Str))=false/\(y==("__classdict__":Str))=false:=by
 unfold sM at h
 simp only [au] at h
 obtain⟨⟨⟨⟨⟨⟨h1,h2⟩,h3⟩,h4⟩,h7⟩,h5⟩,h6⟩:=h
 have all: ∀ p∈sc.names,p.2≠ .cell/\(p.2≠ .local\/p.1=x):=fun p hp=>by
  have:=zAd h4 p hp
  simpa using this
 refine⟨⟨by simpa using h1,by simpa using h2,by simpa using h3,fun x hx=>(all x hx).1,by simpa using h7,fun y z=> ?_⟩,of_decide_eq_true h5,fun x hx=> ?_⟩
 ·rcases(all _ (PySem.mem_of_lookup z)).2 with w | w
  ·exact absurd rfl w
  ·exact w
 ·have:=zAd h6 x hx
  simpa using this
section
variable {P:Program} {w:World} {K:Frag} {mg:Str->Option Value} {base:Heap} {ad:Ad} {k:Nat} {tab:List (Str×SK.Gl)} {fns:List (Nat×Fn)} {sc:Scope} {q x:Str} {a:Addr} {cd:Value} {cl:List (Str×Addr)} {A:Around} {outer:List PySem.Env} {s:Shared} {H:Hp} {E:XK}
theorem aNu (B:ExcK K ad) (TB:d8 P w K mg base ad k tab) (FB:gL P w K mg base ad k fns) (hs:sM x sc=true) (hr:Room k (A.deeper (aAv q sc s.heap.objs.size a cd cl))):
  CtxOk (cxL (CXe P w) P w K mg base (x::aS sc) q sc a cd cl A outer s H E) ad ⟨tab,fns,sc,x::aS sc,[]⟩:=by
 obtain⟨S,nd,nm⟩:=lV hs
 refine⟨rfl,nd,fun x i e=> ?_,fun x e=>e,fun x g e=> ?_,fun x i e=>(fQ e).2,rfl, ?_,hr.hd,B.exc,B.kin,B.kve,fun j m F' e=> ?_⟩
 ·obtain⟨e1,e2⟩:=qF e
  have m:=qD e1
  exact⟨gH e1,e2,(nm x m).1,(nm x m).2⟩
 ·obtain⟨a,b⟩:=TB x g e
  refine⟨a, ?_⟩
  cases g with
  | fn j m F'=>
   obtain⟨r',f',h1,h2,h3,h4,h5⟩:=b
   exact⟨r',f',⟨h2,h3,h4⟩,hr.mono h1,h5⟩
  | exc c=>exact b
  | verr=>exact b
  | val d=>exact b
  | tbl kvs=>exact b
  | py p=>exact b
  | cls A ms=>exact⟨b.1,b.2.1,fun m n M hm=>let ⟨no,f,r,fd,ps,h1,h2,h3,h4⟩:=b.2.2 m n M hm;⟨no,f,r,fd,ps,h2,h3,hr.mono h1,h4⟩⟩
 ·exact Nat.lt_of_le_of_lt (Nat.add_le_add_left (by decide:62<=64) _) hr.units
 ·obtain⟨r',h1,h2,h3⟩:=FB j m F' e
  exact⟨r',⟨h2,h3⟩,hr.mono h1⟩
end
noncomputable def aNv (a:Arguments):Option Str:=match a with
 | ⟨[],[⟨x,none,_⟩],none,[],[],none,[]⟩=>some x
 | _=>none
theorem aFn {a:Arguments} {x:Str} (h:aNv a=some x): ∃ p,a=⟨[],[⟨x,none,p⟩],none,[],[],none,[]⟩:=by
 unfold aNv at h
 split at h
 ·cases h;exact⟨_,rfl⟩
 ·cases h
noncomputable def qR (C:SK.Ctx):Expr->Option SK.F
 | .Call (.Name x _) [a] [⟨some kw,l,_⟩] _=>if kw=("key":Str) then(match glo C x with
   | some (.py .sorted)=>(pD 50 C a).bind fun g=>(aPz l).bind fun(ps,body,sc)=>(aNv ps).bind fun y=>if sM y sc then(d7 (fun x=>eK C x) (aS sc)).bind fun cap=>(bO 50 ⟨C.tab,C.fns,sc,y::aS sc,[]⟩ body).map fun f=>kM cap f g else none
   | _=>none) else none
 | _=>none
section
variable {X:Cx} {ad:Ad} {C:SK.Ctx} {tn q:Str} {F:R->R} {P c:Addr} {k:Nat} {ps0:Array Value} {e:Expr} {f:SK.F}
theorem xN (L:LawX X ad C tn F P c q k) (h:qR C e=some f):LME X P q ps0 ad e f/\ ∃ a b c d,e= .Call a b c d:=by
 unfold qR at h
 split at h
 ·rename_i x p a kw l kp cp
  split at h
  ·rename_i hkw
   subst hkw
   split at h
   ·rename_i hgl
    obtain⟨r1,r2,r3,r4⟩:=L.O.cx.gl hgl
    subst r3
    have hx:=zBd h
    clear h
    obtain⟨g,hg,h⟩:=hx
    have hx:=zBd h
    clear h
    obtain⟨⟨ps,body,sc⟩,h0,h⟩:=hx
    obtain⟨lp,rfl⟩:=aFm h0
    simp only at h
    have hx:=zBd h
    clear h
    obtain⟨y,hy,h⟩:=hx
    obtain⟨pp,rfl⟩:=aFn hy
    split at h
    ·rename_i hp2
     have hx:=zBd h
     clear h
     obtain⟨cap,hcap,h⟩:=hx
     obtain⟨fb,hfb,rfl⟩:=zMd h
     refine⟨?_,_,_,_,_,rfl⟩
     intro pins ps cs s σ H Q T I ⟨G,ρ,E,hG,hS,hx,hr⟩
     obtain⟨S,nd,nm⟩:=lV hp2
     refine aA2 (k:=k) (f:=fb) (g:=g) (cap:=cap) (x:=y) (ad:=ad) r1 r4 L.room ((fG (ad:=ad) 50).2.1 _ _ a g L.O.cx hg) (aQ (bE hg).1) L.ex rfl L.ql (fun x hx=> ?_) L.code L.hC L.hB S (List.nodup_cons.mp nd).1 (fun u cl pm cd ct=>by simp [bindArgs,kla_fn,seqItems?];rfl) (jF hcap) (fun i x hi=> ?_) (fun a cd cl A outer s H E hr=> ?_) T I hG hS hx hr
     ·obtain⟨j,e1⟩:=mG hcap x (mH hx)
      exact L.O.cx.cap x j e1
     ·obtain⟨j,e1,e2⟩:=xM hcap i x hi
      refine⟨j,e1, ?_,L.O.cx.cap x j e2⟩
      rw [L.O.cx.N]
      exact gH (fQ e2).1
     ·exact((fG (ad:=ad) 50).1 _ _ body fb (aNu L.B L.TB L.FB hp2 hr) hfb).1
    ·cases h
   ·cases h
  ·cases h
 ·cases h
end
noncomputable def aP0 (C:SK.Ctx) (e:Expr):Option SK.F:=match e with
 | .Compare a [op] [b] _=>(qR C b).bind fun g=>(bO 50 C a).map fun f=>aZ op f g
 | _=>none
noncomputable def aNw (C:SK.Ctx) (e:Expr):Option SK.F:=match aP0 C e with
 | some f=>some f
 | none=>bO 50 C e
mutual
noncomputable def lS:Nat->Str->(R->R)->SK.Ctx->Stmt->Option FS
 | 0,_,_,_,_=>none
 | n+1,tn,F,C,st=>match st with
   | .If c a b _=>(aNw C c).bind fun f=>(lSs n tn F C a).bind fun g=>(lSs n tn F C b).map fun h=>sIf f g h
   | .For tg it b [] _=>if(cU it).isNone then(bI tg).bind fun(xs,k)=>(aBm 50 C (k != 0) it).bind fun f=>(d7 (fun x=>loc C x) xs).bind fun is=>(lSs n tn F C b).map fun g=>kU is (k==0) f g else(bI tg).bind fun(xs,k)=>(bO 50 C it).bind fun f=>(d7 (fun x=>loc C x) xs).bind fun is=>(lSs n tn F C b).map fun g=>kU is (k==0) f g
   | st=>aBo 50 true C st
noncomputable def lSs:Nat->Str->(R->R)->SK.Ctx->List Stmt->Option FS
 | 0,_,_,_,_=>none
 | n+1,tn,F,C,l=>match l with
  | []=>some aY
  | st::r=>(lS n tn F C st).bind fun g=>(lSs n tn F C r).map fun h=>aR g h
end
section
variable {X:Cx} {ad:Ad} {C:SK.Ctx} {tn q:Str} {F:R->R} {P c:Addr} {k:Nat} {ps0:Array Value}
theorem aFo {e:Expr} {f:SK.F} (L:LawX X ad C tn F P c q k) (h:aNw C e=some f):LMT X P q ps0 ad e f:=by
 unfold aNw at h
 split at h
 ·rename_i g hg
  cases h
  unfold aP0 at hg
  split at hg
  ·obtain⟨g',h1,h⟩:=zBd hg
   obtain⟨f',h2,rfl⟩:=zMd h
   obtain⟨me,a',b',c',d',rfl⟩:=xN (ps0:=ps0) L h1
   exact aA4 L.O.cx.un ((fG (ad:=ad) 50).1 X C _ _ L.O.cx h2).1 me (by unfold behindInMarks;split<;>first | rfl | simp_all)
  ·cases hg
 ·exact aJ0 ((fG (ad:=ad) 50).1 X C _ _ L.O.cx h).2.1
theorem aJ2 {E₀:XK} (L:LawX X ad C tn F P c q k): ∀ n:Nat,(∀ st g,lS n tn F C st=some g->LMS X P q ps0 ad (Zt ad E₀ true) st g)/\ ∀ l g,lSs n tn F C l=some g->aFi X P q ps0 ad (Zt ad E₀ true) l g
 | 0=>⟨(fun _ _ h=>by cases h),(fun _ _ h=>by cases h)⟩
 | n+1=>by
  obtain⟨hS,hSs⟩:=aJ2 (E₀:=E₀) L n
  obtain⟨kE,kL,kI⟩:=fG (ad:=ad) 50
  refine⟨fun st g h=> ?_,fun l g h=> ?_⟩
  ·unfold lS at h
   ·split at h
    ·obtain⟨f,h1,h⟩:=zBd h
     obtain⟨ga,h2,h⟩:=zBd h
     obtain⟨gb,h3,rfl⟩:=zMd h
     exact aFl (aFo L h1) (hSs _ ga h2) (hSs _ gb h3)
    ·rename_i tg it b pos
     split at h
     ·rename_i hv
      have hx:=zBd h
      clear h
      obtain⟨⟨xs,m⟩,h1,h⟩:=hx
      obtain⟨f,h2,h⟩:=zBd h
      obtain⟨is,h3,h⟩:=zBd h
      obtain⟨gb,h4,rfl⟩:=zMd h
      have hn: ∀ x p,it≠ .Name x p:=aAm (Option.isNone_iff_eq_none.mp hv)
      have ns: ∀ a b c,it≠ .Set a b c:=fun a b c z=>by subst z;exact kC h2
      exact xL L.pass L.O.cx.calm L.O.cx.nd ((kI X C tg _ _ f L.O.cx (w9 h1).2 h2).2 hn) h1 (L.O.nms h3) (hSs _ gb h4) (vP ns)
     ·rename_i hv
      have hx:=zBd h
      clear h
      obtain⟨⟨xs,m⟩,h1,h⟩:=hx
      obtain⟨f,h2,h⟩:=zBd h
      obtain⟨is,h3,h⟩:=zBd h
      obtain⟨gb,h4,rfl⟩:=zMd h
      have ns: ∀ a b c,it≠ .Set a b c:=fun a b c z=>by subst z;exact hv rfl
      exact xL L.pass L.O.cx.calm L.O.cx.nd (jY (kE X C _ f L.O.cx h2).1) h1 (L.O.nms h3) (hSs _ gb h4) (vP ns)
    ·exact aJz ((oV (ad:=ad) (E₀:=E₀) 50).1 X C true _ g L.O (fun z=>nomatch z) h)
  ·unfold lSs at h
   split at h
   ·cases h
    exact aA3
   ·obtain⟨ga,h1,h⟩:=zBd h
    obtain⟨gb,h2,rfl⟩:=zMd h
    exact xK (hS _ ga h1) (hSs _ gb h2)
end
noncomputable def cxP (P0:Addr) (X:Cx):Cx:={ X with ex:=[P0] }
theorem aNx {fs ex:List Addr} {H H':Hp} {h h':Heap} (u:Un fs [] H H' h h'):Un fs ex H H' h h':=
 ⟨fun b o e n f _=>u.keep b o e n f (by simp),fun b o e n f _=>u.slot b o e n f (by simp),fun b o e n _=>u.free b o e n (by simp),fun b o e _=>u.there b o e (by simp),u.tups,u.frzs,u.tbls⟩
section
variable {X:Cx} {P0:Addr} {σ:St} {H:Hp} {s:Shared}
theorem aNy (I:Inv X [] σ H s) (hex:X.ex=[]) (hP:P0<X.s₀.heap.objs.size) (hb:X.base.get? P0=none) (hfs:P0∉X.fs) (hcell: ∀ x c,X.env.cells.lookup x=some c->X.s₀.heap.objs.size<=c):Inv (cxP P0 X) [] σ H s:=by
 refine⟨⟨I.ok.mod,I.ok.kind,I.ok.glob,I.ok.blt,I.ok.above,I.ok.inj,I.ok.has,I.ok.cab,I.ok.hd,I.ok.frames,I.ok.stk,fun b hb'=> ?_,I.ok.bs,I.ok.bsz,fun b o e hb'=> ?_,fun b hb'=> ?_,I.ok.funs,I.ok.frf⟩,I.os,I.bare, ?_,I.loc,I.cell,I.free,I.freeC,I.pin,I.hok,I.len⟩
 ·have e:b=P0:=List.mem_singleton.mp hb'
  subst e
  exact⟨bg (bf hP I.ok.above),fun x c h z=>absurd (bf hP (hcell x c h)) (by rw [z];exact Nat.lt_irrefl _)⟩
 ·have e':b=P0:=List.mem_singleton.mp hb'
  subst e'
  have e2:X.base.get? b=some o:=e
  rw [hb] at e2
  cases e2
 ·have e:b=P0:=List.mem_singleton.mp hb'
  subst e
  exact hfs
 ·have u:=I.base
  rw [hex] at u
  exact aNx u
theorem aJ3 {q:Str}:Tb P0 q #[] []:=⟨trivial,(fun pos cv h=>by cases h),(fun p hp=>by cases hp)⟩
theorem aA5 {ad:Ad} {C:SK.Ctx} {tn q:Str} {F:R->R} {c:Addr} {k n:Nat} {b:List Stmt} {g:FS} {ds:List D} {vs:List V} {m:Nat} (L:LawX (cxP P0 X) ad C tn F P0 c q k) (hg:lSs n tn F C b=some g) (I:Inv (cxP P0 X) [] (vs.map some++ak m none) H s) (hH:X.H₀=H) (hpn:X.pn=[])
  (ht:s.heap.get? P0=some (PySem.W.tabObj #[])) (hn:H P0=none) (hfs:P0∉X.fs) {G:Hp} (hG:Same G H) (r:aF X.K ad G ds vs) (hm:g (ds.map SK.Slot.sh++ak m .no)= .rt (.ok (.bl true))):
  wpAny (model X.prog X.w) X.A (execs b X.env) (fun f s'=>f= .ret (.bool true)/\ ∃ σ' H' ps,Inv (cxP P0 X) [] σ' H' s'/\s'.heap.get? P0=some (PySem.W.tabObj ps)) X.xe s:=by
 have I1:Inv (cxP P0 X) (pnL P0 #[] [] []) (vs.map some++ak m none) H s:=I.pins_of fun p hp=>by
  have e:p=(P0,PySem.W.tabObj #[]):=List.mem_singleton.mp hp
  subst e
  exact⟨ht,hn,(I.ok.exf P0 (.head _)).1,hfs,fun v z=>nomatch z⟩
 have TD:TbD P0 q #[] #[] [] ((cxP P0 X).pn++[]):=by
  refine⟨aJ3,⟨#[],by simp⟩,fun r hr=> ?_,fun p hp=>by cases hp⟩
  have e:r∈X.pn++[]:=hr
  rw [hpn] at e
  cases e
 refine L2.thn ((aJ2 (ps0:= #[]) (E₀:=fun _ _ _=>False) L n).2 b g hg [] #[] [] s _ H ⟨fun _ _=>False,fun v _=>v= .bl true,fun _ _=>False,fun _ _=>False⟩ TD I1 ⟨G,G,ds.map SK.Slot.sh++ak m .no,fun _ _ _=>False, ?_,⟨fun σ pins H s e s' _ hc=> ?_,fun z=>nomatch z⟩, ?_⟩) fun f s' hs=> ?_
 ·have hG':Same G (cxP P0 X).H₀:=by
   show Same G X.H₀
   rw [hH]
   exact hG
  have:=sG (X:=cxP P0 X) (ad:=ad) (n:=m) hG' r
  have e:(cxP P0 X).H₀=H:=hH
  rwa [e] at this
 ·obtain⟨_,_,_,_,_,_,_,_,_,_,_,_,_,_,_,_,z⟩:=hc
  exact z.elim
 ·rw [hm]
  intro v G' H' st q
  unfold Rep at q
  exact q
 ·obtain⟨ps,cs,T,hs⟩:=hs
  cases f with
  | next=>obtain⟨_,_,_,z⟩:=hs;exact z.elim
  | brk=>obtain⟨_,_,_,z⟩:=hs;exact z.elim
  | cont=>obtain⟨_,_,_,z⟩:=hs;exact z.elim
  | ret u=>
   obtain⟨v,σ',H',J,rv,qv⟩:=hs
   have qv':v= .bl true:=qv
   subst qv'
   obtain rfl:u=Value.bool true:=rv
   refine⟨rfl,σ',H',ps,J.pins_of (fun p hp=>by cases hp),(J.pin (P0,PySem.W.tabObj ps) ?_).1⟩
   exact bp _ (.head _)
end
noncomputable def aJ4 (H:Hp) (P0:Addr):Hp:=fun b=>if b=P0 then some (.lst []) else H b
theorem o0 {H:Hp} {P0 b:Addr} (h:aJ4 H P0 b=none):H b=none/\b≠P0:=by
 unfold aJ4 at h
 by_cases e:b=P0
 ·rw [if_pos e] at h;cases h
 ·rw [if_neg e] at h;exact⟨h,e⟩
theorem aFp {H:Hp} {P0 b:Addr} (h:H b=none) (n:b≠P0):aJ4 H P0 b=none:=by
 unfold aJ4
 rw [if_neg n]
 exact h
section
variable {P:Program} {w:World} {K:Frag} {mg mb:Str->Option Value} {ad:Ad} {fa a P0 c:Addr} {s₁:Shared} {name qual x:Str} {params:Arguments} {body:List Stmt} {scope:Scope} {dV kV doc pm ct oc:Value} {an od:Option Addr} {osl:Array (Option Value)} {N:List Str}
  {H:Hp} {tn q:Str} {F:R->R} {k n m:Nat} {C:SK.Ctx} {g:FS} {d:D}
theorem sN (KX:K.In s₁.heap) (hns:s₁.heap.Ns mainGlobals mg) (hb:s₁.heap.Ns builtinsNs mb) (hbb: ∀ x:Str,x≠"__name__"->mb x=bootBuiltins x) (hlim:s₁.heap.NoLimit) (hg:s₁.gens= #[])
  (lk:K.lookup fa=some ⟨oc,od, .func (PySem.W.fnOf name qual params body scope dV kV doc pm an (.ref c) ct),osl⟩) (hcd:PySem.W.codeIn K (.ref c) qual=true) (S:FnScope N [x] scope)
  (hbind: ∀ (s:Shared) (u:Value),BindsTo s (PySem.W.fnOf name qual params body scope dV kV doc pm an (.ref c) ct) ⟨[u],[]⟩ [(x,u)]) (hr:Room (k+3) callerA)
  (hC:PySem.W.CodeHd s₁.heap c P0) (hB:s₁.heap.BuiltinsAt mg P0) (hT:s₁.heap.get? P0=some (PySem.W.tabObj #[])) (hKP:K.lookup P0=none)
  (hO:aMt H) (hok:HOk P w H s₁.heap) (nd: ∀ b o es ep,s₁.heap.get? b=some o->o.data= .dict es ep->H b=none) (nK: ∀ b o,K.lookup b=some o->H b=none) (hn:H P0=none) (hcn:H c=none) (hbn: ∀ bm o,s₁.heap.get? bm=some o->o.data= .plain->H bm=none)
  (LX: ∀ base:Heap,K.In base->base.Ns mainGlobals mg->PySem.W.CodeHd base c P0->base.BuiltinsAt mg P0->LawX (cxP P0 (pI (CXe P w) P w K mg base N qual scope fa (.ref c) callerA [] s₁ H fun _ _ _=>False)) ad C tn F P0 c q k)
  (hread:lSs n tn F C body=some g) {G:Hp} (hG:Same G H) (rp:aF K ad G [d] [.ref a]) (hN:N.length=m+1) (hm:g ([d].map SK.Slot.sh++ak m .no)= .rt (.ok (.bl true))):
  codeAny (model P w) callerA (.call (.ref fa) ⟨[.ref a],[]⟩) (fun r s'=>r= .ok (.ret (.bool true))/\OldK s₁.heap s'.heap/\s'.os=s₁.os/\AllBare s'.gens) s₁:=by
 let base:=aGt s₁.heap (aJ4 H P0)
 have base_of: ∀ {b:Addr} {o:Obj},s₁.heap.get? b=some o->H b=none->b≠P0->base.get? b=some o:=fun e n z=>yK e (aFp n z)
 have notP: ∀ {b:Addr} {o:Obj},s₁.heap.get? b=some o->o≠PySem.W.tabObj #[]->b≠P0:=fun {b o} e z y=>by
  rw [y,hT] at e
  exact z (Option.some.inj e).symm
 have nsK: ∀ {b:Addr} {mm:Str->Option Value},s₁.heap.Ns b mm->base.Ns b mm:=fun {b mm} ⟨o,es,ep,e,dd,r⟩=>⟨o,es,ep,base_of e (nd _ _ _ _ e dd) (notP e fun z=>by rw [z] at dd;cases dd),dd,r⟩
 have hKb:K.In base:=fun b o e=>base_of (KX b o e) (nK b o e) fun z=>by rw [z,hKP] at e;cases e
 have hM:Mod K mg base:=⟨hKb,nsK hns,⟨mb,nsK hb,hbb⟩,let ⟨mc,h1,h2⟩:=hlim;⟨mc,nsK h1,h2⟩⟩
 have e0:Env0 P w K mg base callerA [] s₁ H:=⟨rfl,hM,fun b o e=>⟨(pE e).1,(o0 (pE e).2).1⟩,Nat.le_of_eq (uI _ _),trivial,fun b hb=>absurd (show b∈([]:List Addr) from hb) (by simp),hok, .of_eq hg⟩
 have hCb:PySem.W.CodeHd base c P0:=by
  obtain⟨o,vs,file,tf,flags,tg,inF,text,tt,e1,r⟩:=hC
  exact⟨o,vs,file,tf,flags,tg,inF,text,tt,base_of e1 hcn (by obtain⟨_,_,_,_,_,_,_,_,z⟩:=r;exact z),r⟩
 have hBb:base.BuiltinsAt mg P0:=by
  obtain⟨bm,o,b1,b2,b3,b4,b5,b6,b7,b8⟩:=hB
  exact⟨bm,o,b1,b2,b3,b4,base_of b5 (hbn bm o b5 b8) b4,b6,b7,b8⟩
 have L:=LX base hKb (nsK hns) hCb hBb
 let X:=pI (CXe P w) P w K mg base N qual scope fa (.ref c) callerA [] s₁ H fun _ _ _=>False
 have hkind: ∀ y∈[(x,Value.ref a)],scope.names.lookup y.1=some .local\/(scope.names.lookup y.1=some .cell/\((cellsFrom (s₁.heap.objs.size+1) scope.names []).lookup y.1).isSome=true):=fun y hy=>by
  rw [List.mem_singleton.mp hy]
  rcases S.par x (.head _) with z | z
  ·exact .inl z
  ·exact .inr ⟨z,PySem.W.cellsFrom_some _ _ _ (.inl z)⟩
 refine codeAny_call_function hr.depth (KX _ _ lk) rfl S.co S.gen rfl (PySem.W.codeRec_of KX hcd) (hbind _ _ _ _ _ _ ?_)
 refine wpAny_newFunctionEnv_cells S.kind hkind fun env he s1 y=> ?_
 subst he
 refine⟨hlim.keeps y.toInCall.keep,codeAny_func ?_⟩
 have I0:Inv X [] (start N [.ref a]) H s1:=nE (vs:=[.ref a]) (us:=[.ref a]) (ps:=[x]) S hr.hd e0 rfl (.cons rfl .nil) y
 have hPlt:P0<s₁.heap.objs.size:=ah hT
 have hbP:base.get? P0=none:=by
  cases e:base.get? P0 with
  | none=>rfl
  | some o=>exact absurd rfl (o0 (pE e).2).2
 have fs0: ∀ b,b∉X.fs:=fun b z=>absurd (show b∈([]:List Addr) from z) (by simp)
 have I1:Inv (cxP P0 X) [] (start N [.ref a]) H s1:=aNy I0 rfl hPlt hbP (fs0 P0) fun z d h=>Nat.le_of_lt (y.above z d (PySem.mem_of_lookup h))
 have est:start N [V.ref a]=[V.ref a].map some++ak m none:=by
  unfold L2.start
  have e:N.length - [V.ref a].length=m:=by rw [hN];simp
  rw [e]
 rw [est] at I1
 have hT1:s1.heap.get? P0=some (PySem.W.tabObj #[]):=y.toInCall.keep _ _ hT
 refine wpAny_mono (aA5 (X:=X) L hread I1 rfl rfl hT1 hn (fs0 P0) hG rp hm) (fun fl s' hs=> ?_) fun e s' hs=> ?_
 ·obtain⟨rfl,σ',H',ps,J,hPs⟩:=hs
  refine⟨rfl,⟨fun b o e=> ?_,fun b o e=> ?_⟩,J.os,J.bare⟩
  ·by_cases hbP:b=P0
   ·subst hbP
    rw [hT] at e
    cases e
    obtain⟨co,vs,_,_,_,_,_,_,_,e1,e2,e3,e4,_⟩:=hC
    exact .inr (.inl ⟨⟨c,co,vs,e1,e2,e3,e4⟩,rfl, #[],ps,rfl,by rw [hPs];simp [PySem.W.tabObj]⟩)
   ·refine .inl ?_
    have nx:b∉(cxP P0 X).ex:=fun z=>hbP (List.mem_singleton.mp z)
    cases hh:H b with
    | none=>exact J.base.keep b o e hh (fs0 b) nx
    | some u=>
     rcases hO b with z | ⟨ob,xs,z⟩
     ·rw [hh] at z;cases z
     ·have z2:=J.base.frzs b ob _ z
      obtain⟨e1,_⟩:=hok b _ z
      obtain⟨e2,_⟩:=J.hok b _ z2
      rw [e] at e1;cases e1
      exact e2
  ·by_cases hbP:b=P0
   ·subst hbP
    exact⟨_,hPs⟩
   ·exact J.base.there b o e fun z=>hbP (List.mem_singleton.mp z)
 ·have no: ∀ (e:Value) (s'':Shared),CXe P w [] H s₁ (fun _ _ _=>False) e s''->False:=fun e s'' z=>by
   obtain⟨_,_,_,_,_,_,_,_,_,_,_,_,_,_,z⟩:=z
   exact z
  have hs':wpAny (model P w) (callerA.deeper (envOfC qual scope s₁.heap.objs.size fa (.ref c))) (leaving (envOfC qual scope s₁.heap.objs.size fa (.ref c)) e) (fun _ s''=>CXe P w [] H s₁ (fun _ _ _=>False) e s'') (fun e' s''=>CXe P w [] H s₁ (fun _ _ _=>False) e' s'') s':=hs
  exact wpAny_mono hs' (fun _ s'' z=>(no _ _ z).elim) fun e' s'' z=>(no _ _ z).elim
end
theorem StOk.P {X:Cx} {ad:Ad} {C:SK.Ctx} {P0:Addr} (O:StOk X ad C):StOk (cxP P0 X) ad C:=by
 refine⟨⟨O.cx.N,O.cx.nd,O.cx.vis,O.cx.gk,fun x g e=>⟨(O.cx.gt x g e).1, ?_⟩,O.cx.cap,O.cx.calm,O.cx.un,O.cx.hd,O.cx.exc,O.cx.kin,O.cx.kve,fun j n F e=> ?_⟩,O.fn,O.sc,O.lc,O.exm,O.exi⟩
 ·have h:=(O.cx.gt x g e).2
  cases g with
  | fn k n f=>obtain⟨r,f',⟨h1,h2,h3⟩,h4⟩:=h;exact⟨r,f',⟨h1,h2,h3⟩,h4⟩
  | cls A ms=>obtain⟨h1,h2,h3⟩:=h;exact⟨h1,h2,fun m n M hm=>let ⟨no,f,r,fd,ps,z1,z2,z3,z4⟩:=h3 m n M hm;⟨no,f,r,fd,ps,z1,z2,z3,z4⟩⟩
  | exc c=>exact h
  | verr=>exact h
  | val d=>exact h
  | tbl kvs=>exact h
  | py p=>exact h
 ·obtain⟨r,⟨h1,h2⟩,h3⟩:=O.cx.fnv j n F e
  exact⟨r,⟨h1,h2⟩,h3⟩
section
variable {P:Program} {w:World} {K:Frag} {mg:Str->Option Value} {base:Heap} {ad:Ad} {k:Nat} {tab:List (Str×SK.Gl)} {fns:List (Nat×Fn)} {sc:Scope} {qual x tn:Str} {fa P0 c:Addr} {s₁:Shared} {H:Hp} {F:R->R} {bs:List Str}
theorem aFq (B:ExcK K ad) (TB:d8 P w K mg base ad k tab) (FB:gL P w K mg base ad k fns) (hs:eO (aP sc) [x] sc=true) (hr:Room (k+3) callerA)
  (hC:PySem.W.CodeHd base c P0) (hB:base.BuiltinsAt mg P0):
  LawX (cxP P0 (pI (CXe P w) P w K mg base (aP sc) qual sc fa (.ref c) callerA [] s₁ H fun _ _ _=>False)) ad ⟨tab,fns,sc,aP sc,bs⟩ tn F P0 c ((envOfC qual sc s₁.heap.objs.size fa (.ref c)).qual++"<lambda>") k:=by
 have hr2:Room (k+2) (callerA.deeper (envOfC qual sc s₁.heap.objs.size fa (.ref c))):=hr.deeper _
 have O:StOk (cxP P0 (pI (CXe P w) P w K mg base (aP sc) qual sc fa (.ref c) callerA [] s₁ H fun _ _ _=>False)) ad ⟨tab,fns,sc,aP sc,bs⟩:=(xE B TB FB hs (hr2.mono (by omega))).P
 exact⟨O,B,TB,FB,hr2, .head _,rfl,rfl,hC,hB,PassesOwn.leaving (Q₁:=fun e s''=>CXe P w [] H s₁ (fun _ _ _=>False) e s'')⟩
end
noncomputable def without (K:Frag) (P0:Addr):Frag:=K.filter fun p=>p.1 != P0
section
variable {P:Program} {w:World} {K:Frag} {mg mb:Str->Option Value} {ad:Ad} {fa a P0 c:Addr} {s₁:Shared} {name qual x:Str} {params:Arguments} {body:List Stmt} {scope:Scope} {dV kV doc pm ct oc:Value} {an od:Option Addr} {osl:Array (Option Value)} {N:List Str}
  {tn q:Str} {F:R->R} {k n m:Nat} {C:SK.Ctx} {g:FS} {d:D} {vs:List Value} {ns:List Int}
theorem xO (KX:K.In s₁.heap) (hns:s₁.heap.Ns mainGlobals mg) (hb:s₁.heap.Ns builtinsNs mb) (hbb: ∀ x:Str,x≠"__name__"->mb x=bootBuiltins x) (hlim:s₁.heap.NoLimit) (hg:s₁.gens= #[])
  (ha:s₁.heap.get? a=some { cls:= .type "list",data:= .seq vs.toArray }) (hi:IntsAre vs ns) (hl:ns.length<=sizeLine)
  (lk:K.lookup fa=some ⟨oc,od, .func (PySem.W.fnOf name qual params body scope dV kV doc pm an (.ref c) ct),osl⟩) (hcd:PySem.W.codeIn K (.ref c) qual=true) (S:FnScope N [x] scope)
  (hbind: ∀ (s:Shared) (u:Value),BindsTo s (PySem.W.fnOf name qual params body scope dV kV doc pm an (.ref c) ct) ⟨[u],[]⟩ [(x,u)]) (hr:Room (k+3) callerA)
  (hC:PySem.W.CodeHd s₁.heap c P0) (hB:s₁.heap.BuiltinsAt mg P0) (hT:s₁.heap.get? P0=some (PySem.W.tabObj #[])) (hKP:K.lookup P0=none)
  (LX: ∀ (base:Heap) (H:Hp),K.In base->base.Ns mainGlobals mg->PySem.W.CodeHd base c P0->base.BuiltinsAt mg P0->LawX (cxP P0 (pI (CXe P w) P w K mg base N qual scope fa (.ref c) callerA [] s₁ H fun _ _ _=>False)) ad C tn F P0 c q k)
  (hread:lSs n tn F C body=some g) (hrep: ∀ H:Hp,aMt H->SqL K H a (ns.map V.int)-> ∃ G,Same G H/\aF K ad G [d] [.ref a]) (hN:N.length=m+1) (hm:g ([d].map SK.Slot.sh++ak m .no)= .rt (.ok (.bl true))):
  codeAny (model P w) callerA (.call (.ref fa) ⟨[.ref a],[]⟩) (fun r s'=>r= .ok (.ret (.bool true))/\OldK s₁.heap s'.heap/\s'.os=s₁.os/\AllBare s'.gens) s₁:=by
 have rv:=nM hi
 have lenV:=hi.length
 cases hk:K.lookup a with
 | some o=>
  have e:=KX a o hk
  rw [ha] at e
  cases e
  obtain⟨G,hG,rp⟩:=hrep (fun _=>none) (fun _=> .inl rfl) (.inr ⟨_,vs.toArray,_,hk,rfl,rfl,rfl,by rw [av,lenV];exact hl,by simpa using rv⟩)
  exact sN (H:=fun _=>none) KX hns hb hbb hlim hg lk hcd S hbind hr hC hB hT hKP (fun _=> .inl rfl) (fun b u z=>by have z':(none:Option HO)=some u:=z;cases z') (fun _ _ _ _ _ _=>rfl) (fun _ _ _=>rfl) rfl rfl (fun _ _ _ _=>rfl) (fun base=>LX base _) hread hG rp hN hm
 | none=>
  have ne: ∀ {b:Addr} {o:Obj},s₁.heap.get? b=some o->o.data≠ .seq vs.toArray->b≠a:=fun {b o} e z y=>by
   rw [y,ha] at e
   cases e
   exact z rfl
  let H:Hp:=fun b=>if b=a then some (.frz { cls:= .type "list",data:= .seq vs.toArray } (.lst (ns.map V.int))) else none
  have hno: ∀ {b:Addr},b≠a->H b=none:=fun z=>if_neg z
  have hO:aMt H:=fun b=>by
   by_cases hb:b=a
   ·exact .inr ⟨_,_,if_pos hb⟩
   ·exact .inl (if_neg hb)
  have hok:HOk P w H s₁.heap:=fun b u z=>by
   by_cases hb:b=a
   ·have z':=(if_pos hb).symm.trans z
    cases z'
    subst hb
    exact⟨ha,by rw [am];exact hl,vs,_,rv,ha⟩
   ·have z':=(if_neg hb).symm.trans z
    cases z'
  obtain⟨G,hG,rp⟩:=hrep H hO (.inl (.inr ⟨{ cls:= .type "list",data:= .seq vs.toArray },if_pos rfl⟩))
  refine sN (H:=H) KX hns hb hbb hlim hg lk hcd S hbind hr hC hB hT hKP hO hok (fun b o es ep e z=>hno (ne e (by rw [z];exact fun y=>nomatch y))) (fun b o e=>hno fun y=>by rw [y,hk] at e;cases e) (hno (ne hT fun y=>nomatch y)) ?_ (fun bm o e z=>hno (ne e (by rw [z];exact fun y=>nomatch y))) (fun base=>LX base _) hread hG rp hN hm
  obtain⟨o,ws,_,_,_,_,_,_,_,e1,_,e3,_⟩:=hC
  exact hno (ne e1 (by rw [e3];exact fun y=>nomatch y))
end
theorem aJ5 {p:Program} {loose:List Str} {mean:ExcName->Option Value} {mg mb:Str->Option Value} {h:Heap} {P0:Addr} (T:Top p loose mean mg mb h) (hT:h.get? P0=some (PySem.W.tabObj #[])):h.BuiltinsAt mg P0:=by
 obtain⟨bm,ob,b1,b2,b3,b4,b5,b6⟩:=T.bmain
 refine⟨bm,ob,b1,b2,fun z=> ?_,fun z=> ?_,b3,b4,b5,b6⟩
 ·obtain⟨o,es,ep,e,hd,_⟩:=T.g
  rw [<-z,b3] at e
  cases e
  rw [b6] at hd
  cases hd
 ·rw [z,hT] at b3
  cases b3
  cases b6
structure LawT (P:Program) (w:World) (K:Frag) (mg:Str->Option Value) (fa:Addr) (name:Str) (ad:Ad) (C:SK.Ctx) (tn:Str) (F:R->R) (g:FS) (k n m:Nat) (c P0:Addr) (params:Arguments) (body:List Stmt) (scope:Scope):Prop where
 lk: ∃ oc od dV kV doc pm an ct osl,K.lookup fa=some ⟨oc,od, .func (PySem.W.fnOf name name params body scope dV kV doc pm an (.ref c) ct),osl⟩/\ ∀ (s:Shared) (u:Value),BindsTo s (PySem.W.fnOf name name params body scope dV kV doc pm an (.ref c) ct) ⟨[u],[]⟩ [("_law_script",u)]
 cd:PySem.W.codeIn K (.ref c) name=true
 sc:eO (aP scope) ["_law_script"] scope=true
 room:Room (k+3) callerA
 tab:tabIn K name=some (c,P0)
 out:K.lookup P0=none
 lx: ∀ (s₁:Shared) (base:Heap) (H:Hp),K.In base->base.Ns mainGlobals mg->PySem.W.CodeHd base c P0->base.BuiltinsAt mg P0->LawX (cxP P0 (pI (CXe P w) P w K mg base (aP scope) name scope fa (.ref c) callerA [] s₁ H fun _ _ _=>False)) ad C tn F P0 c ((envOfC name scope s₁.heap.objs.size fa (.ref c)).qual++"<lambda>") k
 read:lSs n tn F C body=some g
 len:(aP scope).length=m+1
 tru: ∀ ns:List Int,g ([D.lst (ns.map D.int)].map SK.Slot.sh++ak m .no)= .rt (.ok (.bl true))
theorem walkT {l:PySem.W.OpenLaw} {q:Program} {loose:List Str} {XP:(Str->Option Value)->Heap->Prop} {YP:World->Heap->Prop} {d:DefRec} {K:Params->PySem.W.Frag} (hn:l.most=some 63) (hdf:d.params.defaults=[])
  (hY: ∀ (w:World) (h:Heap),YP w h->(K w.params).In h) (hrec: ∃ e,(recsOf q).find? (fun e=>e.name==d.name)=some e)
  (F: ∀ (w:World) (mg:Str->Option Value) (fa:Addr) (h:Heap),(K w.params).In h->h.Ns mainGlobals mg->mg d.name=some (.ref fa)-> ∃ ad C tn F g k n m c P0 params body scope,LawT l.prog w (K w.params) mg fa d.name ad C tn F g k n m c P0 params body scope):
  PySem.W.WalkO q loose XP YP l.row.toRowW d [] (fun f vs=>PySem.call f vs):=by
 refine Att.attach_call hn hdf fun w s₀ s₁ mg mb fa o pm cd doc a vs ns G Y ho hd hcd hmg hobj hints hlen hg=> ?_
 have KX:=hY w _ Y
 obtain⟨ad,C,tn,F',g,k,n,m,c,P0,params,body,scope,L⟩:=F w mg fa _ KX G.T.g hmg
 obtain⟨e,he⟩:=hrec
 obtain⟨hC,hT⟩:=tab_of G.T KX he L.tab
 obtain⟨oc,od,dV,kV,doc',pm',an,ct,osl,lk,hb⟩:=L.lk
 refine xO (d:= .lst (ns.map D.int)) KX G.T.g G.T.b G.T.builtins G.T.nolimit hg hobj hints (Nat.le_trans hlen (by decide)) lk L.cd (gM L.sc).1 hb L.room hC (aJ5 G.T hT) hT L.out (fun base H=>L.lx s₁ base H) L.read (fun H _ hS=>⟨H,Same.refl _,aF.cons (by unfold Rep;exact⟨a,_,rfl,hS,aF.map_int⟩) aF.nil⟩) L.len (L.tru ns)
theorem aG {a b:FS} {ρ ρ':Rho} (h:a ρ= .nx ρ'):aR a b ρ=b ρ':=by simp [aR,h]
theorem qU {a b:FS} {ρ:Rho} {r:R} (h:a ρ= .rt r):aR a b ρ= .rt r:=by simp [aR,h]
theorem dM {i:Nat} {e:F} {ρ:Rho} {d:D} (h:e ρ= .ok d):d6 i e ρ= .nx (ρ.set i (.sh d)):=by simp [d6,h,fB]
theorem aFr {i:Nat} {e:F} {ρ:Rho} {d:List D} (h:e ρ= .ow d):d6 i e ρ= .nx (ρ.set i (.sh (.lst d))):=by simp [d6,h,fB]
theorem fH {i:Nat} {e:F} {ρ:Rho} {d:List D} (h:e ρ= .ow d):i7 i e ρ= .nx (ρ.set i (.ow d)):=by simp [i7,h]
theorem kN {is:List Nat} {e:F} {ρ:Rho} {ds:List D} (h:e ρ= .ok (.tup ds)) (l:ds.length=is.length):gS is e ρ= .nx (setN is ds ρ):=by simp [gS,h,fB,l]
theorem eC {e:F} {ρ:Rho} {d:D} (h:e ρ= .ok d):eJ e ρ= .nx ρ:=by simp [eJ,h,fB]
theorem bQ {e:F} {ρ:Rho} {d:D} (h:e ρ= .ok d):bW e ρ= .rt (.ok d):=by simp [bW,h]
theorem qV {c:F} {a b:FS} {ρ:Rho} (h:c ρ= .ok (.bl true)):sIf c a b ρ=a ρ:=by simp [sIf,h]
theorem g0 {c:F} {a b:FS} {ρ:Rho} (h:c ρ= .ok (.bl false)):sIf c a b ρ=b ρ:=by simp [sIf,h]
theorem cE {n:Nat} {b:FS} {ds:List D} {d:D} (h:b (ds.map Slot.sh++ak (n - ds.length) .no)= .rt (.ok d)):fnOf n b ds= .ok d:=by simp [fnOf,h]
theorem aFs {n:Nat} {b:FS} {ds:List D} {ρ:Rho} (h:b (ds.map Slot.sh++ak (n - ds.length) .no)= .nx ρ):fnOf n b ds= .ok .non:=by simp [fnOf,h]
theorem o7 {xs:List Int}:dI (xs.map D.int)=some xs:=by
 induction xs with
 | nil=>rfl
 | cons x r ih=>simp [dI,ih]
theorem a9 {op:Operator} {a b:F} {ρ:Rho} {x y:D} (h:a ρ= .ok x) (k:b ρ= .ok y):aX op a b ρ=lA op x y:=by simp [aX,h,k,R.bind]
theorem fI {op:CmpOp} {a b:F} {ρ:Rho} {x y:D} (h:a ρ= .ok x) (k:b ρ= .ok y):aZ op a b ρ=gB op x y:=by simp [aZ,h,k,R.bind]
theorem mS {op:CmpOp} {a b:F} {ρ:Rho} {x y:List D} (h:a ρ= .ow x) (k:b ρ= .ow y):aZ op a b ρ=gB op (.lst x) (.lst y):=by simp [aZ,h,k,R.bind]
theorem lW {a b:F} {ρ:Rho} {x y:D} (h:a ρ= .ok x) (k:b ρ= .ok y):rIx a b ρ=dIx x y:=by simp [rIx,h,k,R.bind]
theorem g9 {a b:F} {ρ:Rho} {x:List D} {y:D} (h:a ρ= .ow x) (k:b ρ= .ok y):rIx a b ρ=dIx (.lst x) y:=by simp [rIx,h,k,R.bind]
theorem aCi {a b:F} {ρ:Rho} (h:a ρ= .ok (.bl true)):gC a b ρ=b ρ:=by simp [gC,h,R.bind]
theorem aCj {a b:F} {ρ:Rho} (h:a ρ= .ok (.bl false)):gC a b ρ= .ok (.bl false):=by simp [gC,h,R.bind]
theorem aNz {a b:F} {ρ:Rho} (h:a ρ= .ok (.bl false)):rOr a b ρ=b ρ:=by simp [rOr,h,R.bind]
theorem cJ {f:Fn} {a:F} {ρ:Rho} {x:D} (h:a ρ= .ok x):aA f [a] ρ=f [x]:=by simp [aA,nQ,args,h,RA.cons,RA.then]
theorem fJ {f:Fn} {a:F} {ρ:Rho} {x:List D} (h:a ρ= .ow x):aA f [a] ρ=f [.lst x]:=by simp [aA,nQ,args,h,RA.cons,RA.then]
theorem eM {f:Fn} {a b:F} {ρ:Rho} {x y:D} (h:a ρ= .ok x) (k:b ρ= .ok y):aA f [a,b] ρ=f [x,y]:=by simp [aA,nQ,args,h,k,RA.cons,RA.then]
theorem eE {f:Fn} {a b c:F} {ρ:Rho} {x y z:D} (h:a ρ= .ok x) (k:b ρ= .ok y) (l:c ρ= .ok z):aA f [a,b,c] ρ=f [x,y,z]:=by simp [aA,nQ,args,h,k,l,RA.cons,RA.then]
theorem xP {a b:F} {ρ:Rho} {x y:D} (h:a ρ= .ok x) (k:b ρ= .ok y):fZ [a,b] ρ= .ok (.tup [x,y]):=by simp [fZ,nQ,args,h,k,RA.cons,RA.then]
theorem lX {f:D->Option (Option D)} {P:D->Prop}: ∀ {ds:List D},(∀ d∈ds, ∃ x,f d=some (some x)/\P x)-> ∃ xs,bG f ds=some xs/\xs.length=ds.length/\ ∀ x∈xs,P x
 | [],_=>⟨[],rfl,rfl,nofun⟩
 | d::r,h=>by
  obtain⟨x,e,p⟩:=h d (.head _)
  obtain⟨xs,e',l,q⟩:=lX (ds:=r) fun x m=>h x (.tail _ m)
  refine⟨x::xs,by simp [bG,e,e'],by simp [l], ?_⟩
  intro y m;cases m with
  | head=>exact p
  | tail _ m=>exact q y m
theorem dU {n:Nat} {cs:List Nat} {it e:F} {ρ:Rho} {ds:List D} {P:D->Prop} (hi:it ρ= .ok (.lst ds)\/it ρ= .ok (.tup ds)\/it ρ= .ow ds) (h: ∀ d∈ds, ∃ ts x,tgt n d=some ts/\e (ts++jO cs ρ)= .ok x/\P x):
  ∃ xs,aL n cs it none e ρ= .ow xs/\xs.length=ds.length/\ ∀ x∈xs,P x:=by
 obtain⟨xs,k,l,q⟩:=lX (f:=cZ n (jO cs ρ) none e) (P:=P) (ds:=ds) fun d m=>by
  obtain⟨ts,x,a,b,c⟩:=h d m
  exact⟨x,by simp [cZ,a,b],c⟩
 refine⟨xs, ?_,l,q⟩
 rcases hi with hi | hi | hi<;>simp [aL,hi,R.bind,items,gR,k]
theorem dF {a:F} {ρ:Rho} {n:Nat} (h:a ρ= .ok (.int n)) (l:n<=100000):aU a ρ= .ok (.lst (iB n)):=by
 have:(-100000:Int)<=(n:Int)/\(n:Int)<=100000:=by omega
 simp [aU,h,R.bind,yF,this]
theorem fT {n:Nat} {d:D} (h:d∈iB n): ∃ k:Nat,k<n/\d= .int k:=by
 simp only [iB,ao,List.mem_range] at h
 obtain⟨k,a,b⟩:=h;exact⟨k,a,b.symm⟩
theorem cH {n:Nat}:(iB n).length=n:=by simp [iB]
theorem dN {xs:List D} {n:Nat} {x:D} (h:xs[n]? =some x):dIx (.lst xs) (.int n)= .ok x:=by
 obtain⟨l,e⟩:=aw.1 h
 simp [dIx,items,ixD,l,e]
theorem aFt {xs:List D} {n:Nat} {x:D} (h:xs[n]? =some x):dIx (.tup xs) (.int n)= .ok x:=by
 obtain⟨l,e⟩:=aw.1 h
 simp [dIx,items,ixD,l,e]
theorem aCk {i j:Int} (h:sml j=true):lA .Mult (.int i) (.int j)= .ok (.int (i * j)):=by simp [lA,eZ,h]
theorem mT {i j:Int} (h:0<j):lA .Mod (.int i) (.int j)= .ok (.int (i % j)):=by simp [lA,eZ,h]
theorem xQ {i j:Int} (h:0<j) (l:j<1073741824):lA .FloorDiv (.int i) (.int j)= .ok (.int (i / j)):=by simp [lA,eZ,h,l]
theorem aJ6 {i:Int} (a: -18446744073709551616<i) (b:i<18446744073709551616):sml i=true:=by simp [sml,a,b]
theorem xR {is:List Nat} {o:Bool} {it:F} {b:FS} {ρ:Rho} {ds:List D} (hi:it ρ= .ok (.lst ds)\/it ρ= .ok (.tup ds)\/it ρ= .ow ds):kU is o it b ρ=fF (pS is o) b ds ρ:=by
 rcases hi with hi | hi | hi<;>simp [kU,hi,fB,items]
theorem iP {xs:List D}:bC xs=true↔ ∀ x∈xs,plain x=true:=by
 induction xs with
 | nil=>simp [bC]
 | cons x r ih=>simp [bC,ih]
theorem xS {x y:D} (a:plain x=true) (b:plain y=true) (c:dep y<=60):pO x y=true:=by
 have:min (dep x) (dep y)<=60:=Nat.le_trans (Nat.min_le_right ..) c
 simp [pO,a,b,this]
theorem qW {x y:D} (h:pO x y=true):gB .Eq x y= .ok (.bl (deq x y)):=by simp [gB,h]
theorem xT {x y:D} (h:pO x y=true):gB .NotEq x y= .ok (.bl (!deq x y)):=by simp [gB,h]
mutual
theorem mU: ∀ d:D,plain d=true->deq d d=true
 | .non,_=>rfl
 | .bl b,_=>by simp [deq]
 | .int i,_=>by simp [deq]
 | .str x,_=>by simp [deq]
 | .tup xs,h=>by simp only [deq];exact kO xs h
 | .lst xs,h=>by simp only [deq];exact kO xs h
 | .exc _,h=>by simp [plain] at h
 | .fn _,h=>by simp [plain] at h
 | .rnk,h=>by simp [plain] at h
theorem kO: ∀ xs:List D,bC xs=true->tF xs xs=true
 | [],_=>rfl
 | x::r,h=>by
  simp only [bC,au] at h
  simp [tF,mU x h.1,kO r h.2]
end
theorem xU {xs:List D} (h: ∀ x∈xs,dep x=0):pN xs=0:=by
 induction xs with
 | nil=>rfl
 | cons x r ih=>simp [pN,h x (.head _),ih fun y m=>h y (.tail _ m)]
end SK
namespace SK.k63
open SK
noncomputable def fU:Fn:=fnOf 1 (bW (gC (rIs (aH9) (aB 0)) (mW (rIs (aDf) (aB 0)))))
noncomputable def aV:Fn:=fnOf 2 (bW (gC (aA fU [aB 0]) (rD .LtE .Lt (rK (.int 0)) (aB 0) (aB 1))))
noncomputable def bZ:Fn:=fnOf 2 (bW (aA aGf [aL 0 [1] (aD 0) none (aA aV [aB 0,aB 1])]))
noncomputable def eN:Fn:=fnOf 1 (bW (aA aV [aB 0,aX .Add (rK (.int 4)) (rK (.int 1))]))
noncomputable def fV:Fn:=fnOf 3 (bW (gC (rIs (gT) (aB 0)) (gC (aZ .Eq (aA pB [aD 0]) (aB 1)) (aA bZ [aB 0,aB 2]))))
noncomputable def aW:Fn:=fnOf 1 (bW (aX .LShift (rK (.int 1)) (aB 0)))
noncomputable def dG:Fn:=fnOf 2 (bW (aA bN [aL 0 [1] (aU (aB 0)) none (aX .BitAnd (aX .RShift (aB 1) (aB 0)) (rK (.int 1)))]))
noncomputable def dW:Fn:=fnOf 1 (bW (aA tG [aL 2 [] (nS (aB 0)) none (aX .LShift (aB 1) (aB 0))]))
noncomputable def cF:Fn:=fnOf 1 (bW (aL 0 [0] (aU (aA aW [aB 0])) none (aA dG [aB 1,aB 0])))
noncomputable def cO:Fn:=fnOf 1 (bW (aA tG [aA dG [rK (.int 4),aB 0]]))
noncomputable def eV:Fn:=fnOf 1 (aR (sIf (rOr (mW (rIs (gT) (aB 0))) (rOr (aZ .NotEq (aA pB [aD 0]) (rK (.int 2))) (mW (aA eN [rIx (aD 0) (rK (.int 0))]))))
 (bW (rK (.bl false)))
 (aY))
 (bW (aA fV [rIx (aD 0) (rK (.int 1)),aA aW [rIx (aD 0) (rK (.int 0))],rK (.int 2)])))
noncomputable def aH:Fn:=fnOf 1 (sIf (mW (aA eV [aB 0]))
 (iS 1)
 (aY))
noncomputable def cP:Fn:=fnOf 2 (aR (eJ (aA aH [aB 0]))
 (aR (eJ (aA aH [aB 1]))
 (sIf (aZ .NotEq (rIx (aD 0) (rK (.int 0))) (rIx (aD 1) (rK (.int 0))))
 (iS 4)
 (aY))))
noncomputable def bR:Fn:=fnOf 2 (sIf (mW (aA aV [aB 1,aB 0]))
 (iS 2)
 (aY))
noncomputable def fA:Fn:=fnOf 1 (aR (eJ (aA aH [aB 0]))
 (bW (aL 2 [] (nS (rIx (aD 0) (rK (.int 1)))) (some (aZ .Eq (aB 1) (rK (.int 1)))) (aB 0))))
noncomputable def o8:Fn:=fnOf 2 (aR (eJ (aA cP [aB 0,aB 1]))
 (bW (fZ [rIx (aD 0) (rK (.int 0)),aA bN [aL 2 [] (nT (rIx (aD 0) (rK (.int 1))) (rIx (aD 1) (rK (.int 1)))) none (aX .BitAnd (aB 0) (aB 1))]])))
noncomputable def hJ:Fn:=fnOf 1 (bW (rOr (aZ .Is (aB 0) (rK .non)) (aA aV [aB 0,rK (.int 2)])))
noncomputable def hU:Fn:=fnOf 2 (aR (sIf (rOr (mW (aA eN [aB 0])) (rOr (mW (rIs (gT) (aB 1))) (aZ .NotEq (aA pB [aD 1]) (aB 0))))
 (bW (rK (.bl false)))
 (aY))
 (bW (aA aGf [aL 0 [] (aD 1) none (aA hJ [aB 0])])))
noncomputable def eF:Fn:=fnOf 2 (sIf (mW (aA hU [aB 0,aB 1]))
 (iS 5)
 (aY))
noncomputable def bS:Fn:=fnOf 6 (aR (sIf (mW (rIs (gT) (aB 0)))
 (iS 5)
 (aY))
 (aR (eJ (aA eF [aA pB [aD 0],aB 0]))
 (aR (i7 1 (fN [rK (.int 0)]))
 (aR (kU [2,3] false (nS (aB 0))
 (aR (aM1 [1] (d6 4 (rIf (aZ .Eq (aB 3) (rK (.int 1))) (fN []) (aB 1))))
  (aR (d6 5 (rIf (aZ .Eq (aB 3) (rK (.int 0))) (fN []) (aL 0 [2] (aD 1) none (aX .Add (aB 0) (aX .LShift (rK (.int 1)) (aB 1))))))
  (i7 1 (aX .Add (aB 4) (aB 5))))))
 (bW (uW 1))))))
noncomputable def eW:Fn:=fnOf 5 (aR (d6 1 (fN [fZ []]))
 (aR (kU [2] true (aU (aB 0))
 (aR (i7 3 (fN []))
  (aR (kU [4] true (aB 1)
  (aL1 3 (aL 0 [4] (rK (.tup [.int 0, .int 1, .non])) none (aX .Add (aB 1) (fZ [aB 0])))))
  (aM1 [3] (d6 1 (aB 3))))))
 (bW (aB 1))))
noncomputable def hV:Fn:=fnOf 1 (bW (aL 2 [0] (nS (aB 0)) (some (aZ .IsNot (aB 1) (rK .non))) (aX .Add (aX .Add (aC8 (aD 2) none (some (aB 0))) (fZ [rK .non])) (aC8 (aD 2) (some (aX .Add (aB 0) (rK (.int 1)))) none))))
noncomputable def cQ:Fn:=fnOf 3 (aR (eJ (aA aH [aB 0]))
 (aR (aDa 1)
 (aR (kU [2] true (aA eW [rIx (aD 0) (rK (.int 0))])
 (sIf (aA aGf [aL 0 [0] (aA bS [aB 2]) none (aZ .Eq (rIx (rIx (aD 1) (rK (.int 1))) (aB 0)) (rK (.int 1)))])
  (uF 1 (aB 2) (rK (.bl true)))
  (aY)))
 (bW (aL 0 [1] (jQ 1) (some (mW (aA aLx [aL 0 [1] (aA hV [aB 0]) none (aH4 .In (aB 0) 1)]))) (aB 0))))))
noncomputable def bT:Fn:=fnOf 5 (aR (d6 1 (aA cQ [aB 0]))
 (aR (i7 2 (aX .Mult (fN [rK (.int 0)]) (aA pB [rIx (aD 0) (rK (.int 1))])))
 (aR (kU [3] true (aB 1)
 (kU [4] true (aA bS [aB 3])
  (yW 2 (aB 4) (rK (.int 1)))))
 (bW (aL 0 [2] (aD 1) (some (aA aLx [aL 0 [1] (aA bS [aB 0]) none (aZ .Eq (rIx (aD 1) (aB 0)) (rK (.int 1)))])) (aB 0))))))
noncomputable def jG (self:Fn):Fn:=fnOf 4 (aR (sIf (aZ .Eq (aA pB [aD 0]) (rK (.int 1)))
 (bW (uW 0))
 (aY))
 (aR (d6 1 (aX .FloorDiv (aA pB [aD 0]) (rK (.int 2))))
 (aR (d6 2 (aA self [aC8 (aD 0) none (some (aB 1))]))
 (aR (d6 3 (aA self [aC8 (aD 0) (some (aB 1)) none]))
 (bW (aX .Add (aL 2 [] (nT (aB 2) (aB 3)) none (aX .Add (aB 0) (aB 1))) (aL 2 [] (nT (aB 2) (aB 3)) none (aX .Sub (aB 0) (aB 1)))))))))
noncomputable def aA6:Fn:=yZ jG 12
noncomputable def sO:Fn:=fnOf 1 (aR (eJ (aA aH [aB 0]))
 (bW (aA bN [aA aA6 [aL 0 [] (rIx (aD 0) (rK (.int 1))) none (aX .Sub (rK (.int 1)) (aX .Mult (rK (.int 2)) (aB 0)))]])))
noncomputable def cW:Fn:=fnOf 4 (aR (d6 3 (aL 0 [1] (aU (aA aW [aB 0])) none (aA cO [aX .BitAnd (aB 1) (aB 0)])))
 (bW (fZ [aB 0,aA bN [aL 0 [2] (aD 3) none (aX .Mod (aX .Add (aB 0) (aB 1)) (rK (.int 2)))]])))
noncomputable def hW:Fn:=fnOf 6 (aR (d6 1 (aA sO [aB 0]))
 (aR (d6 2 (aL 0 [] (aD 1) none (aA aMv [aD 0])))
 (aR (d6 3 (aA aC9 [aD 2]))
 (aR (d6 4 (nR nU (aD 2) (aB 3)))
 (aR (d6 5 (rIf (aZ .Lt (rIx (aD 1) (aB 4)) (rK (.int 0))) (rK (.int 1)) (rK (.int 0))))
 (bW (fZ [aA cW [rIx (aD 0) (rK (.int 0)),aB 4,aB 5],aX .FloorDiv (aX .Sub (aA pB [aD 1]) (aB 3)) (rK (.int 2))])))))))
noncomputable def hX:Fn:=fnOf 1 (bW (rIx (aA hW [aB 0]) (rK (.int 1))))
noncomputable def jH:Fn:=fnOf 1 (bW (aZ .Eq (aA hX [aB 0]) (rK (.int 0))))
noncomputable def cY:Fn:=fnOf 5 (aR (d6 1 (aA fA [aB 0]))
 (aR (i7 2 (fN []))
 (aR (kU [3] true (aU (aA pB [rIx (aD 0) (rK (.int 1))]))
 (aR (d6 4 (aL 0 [3] (aD 1) (some (aZ .Eq (aX .BitAnd (aB 0) (aB 1)) (aB 0))) (aB 0)))
  (aBj 2 (rIf (aLy (aB 4)) (rK (.int 1)) (rK (.int 0))))))
 (bW (fZ [rIx (aD 0) (rK (.int 0)),aA bN [aD 2]])))))
noncomputable def bP:Fn:=fnOf 2 (aR (d6 1 (rIx (aD 0) (rK (.int 1))))
 (bW (aA aGf [aL 2 [] (nT (aB 1) (aMy (aD 1))) none (aZ .NotEq (aB 0) (aB 1))])))
noncomputable def fL:Fn:=fnOf 4 (aR (eJ (aA aH [aB 0]))
 (aR (d6 1 (rIx (aD 0) (rK (.int 1))))
 (aR (d6 2 (aZ .Eq (aA cY [aB 0]) (aB 0)))
 (aR (d6 3 (fZ [aZ .Eq (rIx (aD 1) (rK (.int 0))) (rK (.int 0)),aZ .Eq (rIx (aD 1) (aLw (rK (.int 1)))) (rK (.int 1)),aA bP [aB 0],aB 2,aA jH [aB 0]]))
 (bW (aL 2 [] (nT (rK (.tup [.str "keeps 0", .str "keeps 1", .str "turned", .str "rising", .str "sum"])) (aB 3)) (some (aB 1)) (aB 0)))))))
noncomputable def fW:Fn:=fnOf 2 (bW (gC (aA fV [aB 1,aB 0,aB 0]) (aZ .Eq (aA pR [aD 1]) (aA kT [aU (aB 0)]))))
noncomputable def hZ:Fn:=fnOf 2 (aR (sIf (rOr (mW (aA eN [aB 0])) (rOr (mW (rIs (gT) (aB 1))) (aZ .NotEq (aA pB [aD 1]) (rK (.int 3)))))
 (bW (rK (.bl false)))
 (aY))
 (bW (gC (aA fW [aB 0,rIx (aD 1) (rK (.int 0))]) (gC (aA fV [rIx (aD 1) (rK (.int 1)),aB 0,rK (.int 2)]) (aA aV [rIx (aD 1) (rK (.int 2)),rK (.int 2)])))))
noncomputable def bU:Fn:=fnOf 2 (sIf (mW (aA hZ [aB 0,aB 1]))
 (iS 3)
 (aY))
noncomputable def xV:Fn:=fnOf 2 (bW (aA bN [aL 2 [0] (nT (rIx (aD 1) (rK (.int 0))) (rIx (aD 1) (rK (.int 1)))) none (aX .BitXor (rIx (aD 2) (aB 0)) (aB 1))]))
noncomputable def gN:Fn:=fnOf 4 (aR (eJ (aA aH [aB 0]))
 (aR (d6 2 (rIx (aD 0) (rK (.int 0))))
 (aR (eJ (aA bU [aB 2,aB 1]))
 (aR (d6 3 (aL 0 [1] (aA cF [aB 2]) none (aA dW [aA xV [aB 0,aB 1]])))
 (bW (fZ [aB 2,aA bN [aL 0 [1,0] (aD 3) none (aX .BitXor (rIx (rIx (aD 2) (rK (.int 1))) (aB 0)) (rIx (aD 1) (rK (.int 2))))]]))))))
noncomputable def fX:Fn:=fnOf 3 (aR (eJ (aA aH [aB 0]))
 (aR (eJ (aA bR [rIx (aD 0) (rK (.int 0)),aB 1]))
 (aR (d6 2 (rIx (aD 0) (rK (.int 1))))
 (bW (aA tG [aL 2 [1,2] (nS (aB 2)) none (aX .BitXor (aB 1) (rIx (aD 3) (aX .BitXor (aB 0) (aX .LShift (rK (.int 1)) (aB 2)))))])))))
noncomputable def iA:Fn:=fnOf 1 (aR (eJ (aA aH [aB 0]))
 (bW (aL 0 [0] (aU (rIx (aD 0) (rK (.int 0)))) (some (aZ .Gt (aA fX [aB 1,aB 0]) (rK (.int 0)))) (aB 0))))
noncomputable def cV:Fn:=fnOf 5 (aR (eJ (aA aH [aB 0]))
 (aR (d6 3 (rIx (aD 0) (rK (.int 0))))
 (aR (eJ (aA bR [aB 3,aB 1]))
 (aR (eJ (aA bR [aB 3,aB 2]))
 (aR (i7 4 (aA kT [aU (aB 3)]))
 (aR (uF 4 (aB 1) (aB 2))
 (aR (uF 4 (aB 2) (aB 1))
 (bW (aA gN [aB 0,fZ [aA bN [aD 4],aX .Mult (fZ [rK (.int 0)]) (aB 3),rK (.int 0)]])))))))))
noncomputable def dR:Fn:=fnOf 2 (aR (sIf (aZ .Lt (aB 1) (aA pB [aD 0]))
 (bW (rIx (aD 0) (aB 1)))
 (aY))
 (aR (sIf (aZ .Eq (aB 0) (fN []))
 (bW (rK (.int 0)))
 (aY))
 (bW (aX .Add (aX .Mult (rIx (aD 0) (aX .Mod (aB 1) (aA pB [aD 0]))) (rK (.int 31))) (aB 1)))))
noncomputable def aE:Fn:=fnOf 4 (aR (d6 3 (aX .Mod (aX .Mult (aX .Add (aA dR [aB 0,aB 1]) (aX .Mult (rK (.int 6151)) (aX .Add (aB 1) (rK (.int 1))))) (rK (.int 40692))) (rK (.int 2147483399))))
 (bW (aX .Mod (aX .Mod (aX .Add (aX .Mult (aB 3) (aB 3)) (aX .FloorDiv (aB 3) (rK (.int 31)))) (rK (.int 2147483629))) (aB 2))))
noncomputable def aO:Fn:=fnOf 2 (bW (aA bN [aL 0 [1] (aU (aB 0)) none (aX .Mod (aX .FloorDiv (aB 1) (rIx (fN [rK (.int 1),rK (.int 2),rK (.int 4),rK (.int 8)]) (aB 0))) (rK (.int 2)))]))
noncomputable def dY:Fn:=fnOf 2 (bW (aX .Mod (aA tG [aL 2 [] (nT (aA aO [rK (.int 4),aB 0]) (aA aO [rK (.int 4),aB 1])) none (aX .Mult (aB 0) (aB 1))]) (rK (.int 2))))
noncomputable def bV:Fn:=fnOf 9 (aR (d6 3 (rIx (fN [rK (.int 1),rK (.int 2),rK (.int 4),rK (.int 8),rK (.int 16)]) (aB 2)))
 (aR (d6 4 (aA aE [aB 0,aB 1,rK (.int 6)]))
 (aR (i7 5 (aL 0 [1,0] (aU (aB 3)) none (aA aE [aB 2,aX .Add (aX .Add (aB 1) (rK (.int 1))) (aB 0),rK (.int 2)])))
 (aR (sIf (gC (aZ .Eq (aB 4) (rK (.int 0))) (aZ .Gt (aB 2) (rK (.int 0))))
 (aR (d6 6 (aA aE [aB 0,aX .Add (aB 1) (rK (.int 20)),aB 3]))
  (i7 5 (aL 0 [6] (aU (aB 3)) none (aA dY [aB 1,aB 0]))))
 (sIf (aZ .Eq (aB 4) (rK (.int 1)))
  (i7 5 (aL 0 [1,2,0] (aU (aB 3)) none (aA aHy [aZ .GtE (aA tG [aA aO [aB 2,aB 0]]) (aX .Add (rK (.int 1)) (aA aE [aB 3,aX .Add (aB 1) (rK (.int 21)),rK (.int 3)]))])))
  (sIf (gC (aZ .Eq (aB 4) (rK (.int 2))) (aZ .Gt (aB 2) (rK (.int 0))))
   (aR (d6 7 (aA aE [aB 0,aX .Add (aB 1) (rK (.int 22)),aB 2]))
    (i7 5 (aL 0 [7,5] (aU (aB 3)) none (rIx (aD 2) (aX .Sub (aB 0) (aX .Mult (aX .Mod (aX .FloorDiv (aB 0) (rIx (fN [rK (.int 1),rK (.int 2),rK (.int 4),rK (.int 8)]) (aB 1))) (rK (.int 2))) (rIx (fN [rK (.int 1),rK (.int 2),rK (.int 4),rK (.int 8)]) (aB 1))))))))
   (aY))))
 (aR (sIf (gC (aZ .Lt (aB 4) (rK (.int 3))) (aZ .Eq (aA aE [aB 0,aX .Add (aB 1) (rK (.int 23)),rK (.int 3)]) (rK (.int 0))))
 (aR (d6 8 (aA aE [aB 0,aX .Add (aB 1) (rK (.int 24)),aB 3]))
  (uF 5 (aB 8) (aX .Sub (rK (.int 1)) (rIx (aD 5) (aB 8)))))
 (aY))
 (bW (fZ [aB 2,aA bN [aD 5]])))))))
noncomputable def dZ:Fn:=fnOf 2 (bW (rIx (fN [rK (.int 0),rK (.int 1),rK (.int 2),rK (.int 2),rK (.int 2),rK (.int 3),rK (.int 3)]) (aA aE [aB 0,aB 1,rK (.int 7)])))
noncomputable def aJ7:FS:=aR (d6 1 (aA dZ [aB 0,rK (.int 0)]))
 (aR (gS [2,3] (fZ [aA bV [aB 0,rK (.int 10),aB 1],aA bV [aB 0,rK (.int 50),aB 1]]))
 (aR (gS [4,15] (fZ [aA cQ [aB 2],rK .rnk]))
 (aR (d6 5 (aA bN [aL 0 [0] (aU (aB 1)) none (aA aE [aB 1,aX .Add (rK (.int 100)) (aB 0),rK (.int 2)])]))
 (aR (d6 6 (aA gN [aB 2,fZ [aA bN [aU (aB 1)],aB 5,rK (.int 0)]]))
 (aR (i7 9 (aL 0 [5] (aD 4) none (aA bN [aL 2 [] (nT (aB 0) (aB 1)) none (rIf (rOr (aZ .Is (aB 0) (rK .non)) (aZ .Eq (aB 1) (rK (.int 0)))) (aB 0) (aX .Sub (rK (.int 1)) (aB 0)))])))
 (aR (sIf (aZ .NotEq (aA cQ [aB 6]) (kM [15] (aL 0 [1] (aD 0) none (rIx (aD 1) (aB 0))) (aD 9)))
 (aR (bW (rK (.bl false)))
  (aY))
 (aY))
 (aR (sIf (aZ .Gt (aB 1) (rK (.int 1)))
 (aR (gS [8,10] (fZ [aA aE [aB 0,rK (.int 110),aB 1],aA aE [aB 0,rK (.int 111),aB 1]]))
  (aR (i7 9 (fN []))
  (aR (kU [7] true (aB 4)
  (aR (i7 11 (aA kT [aD 7]))
   (aR (uY 11 (aB 8) (aB 10) (fZ [rIx (aD 7) (aB 10),rIx (aD 7) (aB 8)]))
   (aR (aBj 9 (aA bN [aD 11]))
   (aY)))))
  (aR (sIf (aZ .NotEq (aA cQ [aA cV [aB 2,aB 8,aB 10]]) (kM [15] (aL 0 [1] (aD 0) none (rIx (aD 1) (aB 0))) (aD 9)))
  (aR (bW (rK (.bl false)))
   (aY))
  (aY))
  (aY)))))
 (aY))
 (aR (kU [12] true (aU (aB 1))
 (aR (sIf (gC (aZ .NotIn (aB 12) (aA iA [aB 2])) (aZ .NotEq (aL 0 [12] (aD 4) (some (aZ .IsNot (rIx (aD 0) (aB 1)) (rK .non))) (aB 0)) (fN [])))
  (aR (bW (rK (.bl false)))
   (aY))
  (aY))
  (aY)))
 (aR (d6 13 (aL 0 [] (aD 4) (some (aZ .In (rK (.int 0)) (aB 0))) (aB 0)))
 (aR (sIf (gC (aZ .In (rK (.str "rising")) (aA fL [aB 2])) (rOr (aZ .NotEq (aB 13) (fN [])) (aZ .NotEq (aA bT [aB 2]) (aB 4))))
 (aR (bW (rK (.bl false)))
  (aY))
 (aY))
 (aR (d6 14 (aA o8 [aB 2,aB 3]))
 (aR (kU [7] true (aA cQ [aB 14])
 (aR (sIf (aZ .NotEq (aL 0 [3,2] (aA bS [aB 7]) (some (rOr (aZ .NotIn (aB 0) (aA fA [aB 2])) (aZ .NotIn (aB 0) (aA fA [aB 1])))) (aB 0)) (fN []))
  (aR (bW (rK (.bl false)))
   (aY))
  (aY))
  (aY)))
 (aR (bW (aZ .Eq (aL 0 [4] (aA bT [aB 2]) (some (aZ .NotIn (aB 0) (aB 1))) (aB 0)) (fN [])))
 (aY))))))))))))))
open PySem
noncomputable abbrev Sc (ns:List Int):D:= .lst (ns.map D.int)
theorem aA7 (ns:List Int):plain (Sc ns)=true:=by
 show bC (ns.map D.int)=true
 rw [iP];intro x m;obtain⟨i,_,rfl⟩:=ao.1 m;rfl
noncomputable def uD (ns:List Int) (k:Nat):Int:=if k<ns.length then ns.getD k 0 else if ns=[] then 0 else ns.getD (k % ns.length) 0 * 31+k
theorem aFu (ns:List Int) (k:Nat):dR [Sc ns, .int k]= .ok (.int (uD ns k)):=by
 have h0:pB [Sc ns]= .ok (.int ns.length):=by simp [pB,items]
 by_cases h:k<ns.length
 ·have e:(ns.map D.int)[k]? =some (D.int (uD ns k)):=by simp [uD,h]
  refine cE (qU ((qV ?_).trans (bQ ((lW rfl rfl).trans (dN e)))))
  refine(fI rfl ((cJ rfl).trans h0)).trans ?_
  simp [gB,h]
 ·refine cE ((aG ((g0 ((fI rfl ((cJ rfl).trans h0)).trans ?_)).trans rfl)).trans ?_)
  ·simp [gB];omega
  have he:aZ .Eq (aB 0) (fN []) [.sh (Sc ns), .sh (.int k)]= .ok (.bl (decide (ns=[]))):=by
   show gB .Eq (Sc ns) (.lst [])=_
   rw [qW (xS (aA7 ns) rfl (by decide))]
   cases ns<;>simp [deq,tF]
  by_cases h1:ns=[]
  ·subst h1
   exact qU ((qV (he.trans rfl)).trans rfl)
  ·refine(aG ((g0 (he.trans (by simp [h1]))).trans rfl)).trans (bQ ?_)
   have l:0<ns.length:=List.length_pos_iff.2 h1
   have e:(ns.map D.int)[k % ns.length]? =some (D.int (ns.getD (k % ns.length) 0)):=by simp [Nat.mod_lt _ l]
   have e2:lA .Mod (.int k) (.int ns.length)= .ok (.int ((k % ns.length:Nat):Int)):=by
    have:(0:Int)<ns.length:=by omega
    simp [lA,eZ,this];omega
   refine(a9 ((a9 ((lW rfl ((a9 rfl ((cJ rfl).trans h0)).trans e2)).trans (dN e)) rfl).trans (aCk rfl)) rfl).trans ?_
   simp [lA,eZ,uD,h,h1]
noncomputable def f9 (ns:List Int) (k:Nat):Int:=(uD ns k+6151 * (k+1)) * 40692 % 2147483399
noncomputable def xW (ns:List Int) (k:Nat) (m:Int):Int:=(f9 ns k * f9 ns k+f9 ns k / 31) % 2147483629 % m
theorem aFv (ns:List Int) (k:Nat) {m:Int} (hm:0<m):aE [Sc ns, .int k, .int m]= .ok (.int (xW ns k m)):=by
 have h1:aX .Mod (aX .Mult (aX .Add (aA dR [aB 0,aB 1]) (aX .Mult (rK (.int 6151)) (aX .Add (aB 1) (rK (.int 1))))) (rK (.int 40692))) (rK (.int 2147483399)) [.sh (Sc ns), .sh (.int k), .sh (.int m), .no]= .ok (.int (f9 ns k)):=by
  refine(a9 ((a9 ((a9 ((eM rfl rfl).trans (aFu ns k)) (y:= .int (6151 * (k+1))) ?_).trans rfl) rfl).trans (?_:_=R.ok (.int ((uD ns k+6151 * (k+1)) * 40692)))) rfl).trans ?_
  ·refine(a9 rfl rfl).trans ?_;simp [lA,eZ,sml]
  ·simp [lA,eZ,sml]
  ·simp [lA,eZ,f9]
 refine cE ((aG (dM h1)).trans (bQ ?_))
 unfold xW
 have hs:sml (f9 ns k)=true:=by
  have:0<=f9 ns k/\f9 ns k<2147483399:=by unfold f9;omega
  simp [sml];omega
 generalize f9 ns k=x at *
 have h2:aX .FloorDiv (aB 3) (rK (.int 31)) [.sh (Sc ns), .sh (.int k), .sh (.int m), .sh (.int (x))]= .ok (.int (x / 31)):=by
  refine(a9 rfl rfl).trans ?_;simp [lA,eZ]
 have h3:aX .Mult (aB 3) (aB 3) [.sh (Sc ns), .sh (.int k), .sh (.int m), .sh (.int x)]= .ok (.int (x * x)):=by
  refine(a9 rfl rfl).trans ?_;simp [lA,eZ,hs]
 refine(a9 ((a9 ((a9 h3 h2).trans rfl) rfl).trans (?_:_=R.ok (.int ((x * x+x / 31) % 2147483629)))) rfl).trans ?_
 ·simp [lA,eZ]
 ·exact mT hm
theorem qY (ns:List Int) (k:Nat) {m:Int} (hm:0<m):0<=xW ns k m/\xW ns k m<m:=⟨Int.emod_nonneg _ (by omega),Int.emod_lt_of_pos _ hm⟩
def bit (d:D):Prop:=d= .int 0\/d= .int 1
theorem xX (i:Int):bit (.int (i % 2)):=by
 unfold bit
 rcases(show i % 2=0\/i % 2=1 by omega) with h | h<;>simp [h]
theorem ix4 {a:F} {ρ:Rho} {j:Nat} (h:a ρ= .ok (.int j)) (l:j<4):rIx (fN [rK (.int 1),rK (.int 2),rK (.int 4),rK (.int 8)]) a ρ= .ok (.int ((2 ^ j:Nat):Int)):=by
 refine(g9 rfl h).trans (dN ?_)
 rcases(show j=0\/j=1\/j=2\/j=3 by omega) with rfl | rfl | rfl | rfl<;>rfl
theorem ix5 {a:F} {ρ:Rho} {j:Nat} (h:a ρ= .ok (.int j)) (l:j<=4):rIx (fN [rK (.int 1),rK (.int 2),rK (.int 4),rK (.int 8),rK (.int 16)]) a ρ= .ok (.int ((2 ^ j:Nat):Int)):=by
 refine(g9 rfl h).trans (dN ?_)
 rcases(show j=0\/j=1\/j=2\/j=3\/j=4 by omega) with rfl | rfl | rfl | rfl | rfl<;>rfl
theorem xY {m:Nat} (h:m<=4):1<=2 ^ m/\2 ^ m<=16:=by
 rcases(show m=0\/m=1\/m=2\/m=3\/m=4 by omega) with rfl | rfl | rfl | rfl | rfl<;>decide
theorem iQ {m:Nat} (hm:m<=4) (k:Int): ∃ xs,aO [.int m, .int k]= .ok (.tup xs)/\xs.length=m/\ ∀ x∈xs,bit x:=by
 obtain⟨xs,e,l,b⟩:=dU (n:=0) (cs:=[1]) (it:=aU (aB 0)) (e:=aX .Mod (aX .FloorDiv (aB 1) (rIx (fN [rK (.int 1),rK (.int 2),rK (.int 4),rK (.int 8)]) (aB 0))) (rK (.int 2))) (ρ:=[.sh (.int m), .sh (.int k)]) (ds:=iB m) (P:=bit)
  (.inl (dF rfl (by omega))) fun d h=>by
   obtain⟨j,hj,rfl⟩:=fT h
   have hp:=xY (m:=j) (by omega)
   refine⟨[.sh (.int j)],_,rfl,(a9 ((a9 rfl (ix4 (a:=aB 0) (j:=j) rfl (by omega))).trans (xQ ?_ ?_)) rfl).trans (mT (by decide)),xX _⟩<;>omega
 exact⟨xs,cE (bQ ((fJ e).trans rfl)),l.trans cH,b⟩
theorem xZ: ∀ {xs:List D},(∀ x∈xs, ∃ i,x=D.int i)-> ∃ is:List Int,xs=is.map D.int
 | [],_=>⟨[],rfl⟩
 | x::r,h=>by
  obtain⟨i,rfl⟩:=h x (.head _)
  obtain⟨is,rfl⟩:=xZ (xs:=r) fun y m=>h y (.tail _ m)
  exact⟨i::is,rfl⟩
theorem aFw {d:D} (h:bit d): ∃ i,d= .int i:=by rcases h with rfl | rfl<;>exact⟨_,rfl⟩
theorem aA8 (is:List Int):tG [.lst (is.map D.int)]= .ok (.int is.sum):=by simp [tG,items,o7]
theorem aFx (is:List Int):tG [.tup (is.map D.int)]= .ok (.int is.sum):=by simp [tG,items,o7]
theorem aJ8 (a b:Int): ∃ r,dY [.int a, .int b]= .ok r/\bit r:=by
 obtain⟨xs,e1,l1,b1⟩:=iQ (m:=4) (by decide) a
 obtain⟨ys,e2,l2,b2⟩:=iQ (m:=4) (by decide) b
 have hz:nT (aA aO [rK (.int 4),aB 0]) (aA aO [rK (.int 4),aB 1]) [.sh (.int a), .sh (.int b)]= .ok (.lst ((xs.zip ys).map fun p=>D.tup [p.1,p.2])):=by
  have h1:aA aO [rK (.int 4),aB 0] [.sh (.int a), .sh (.int b)]= .ok (.tup xs):=(eM rfl rfl).trans e1
  have h2:aA aO [rK (.int 4),aB 1] [.sh (.int a), .sh (.int b)]= .ok (.tup ys):=(eM rfl rfl).trans e2
  simp [nT,h1,h2,R.bind]
 obtain⟨zs,e,l,q⟩:=dU (n:=2) (cs:=[]) (e:=aX .Mult (aB 0) (aB 1)) (P:=fun x=> ∃ i,x=D.int i) (.inl hz) fun d h=>by
  obtain⟨⟨x,y⟩,hm,rfl⟩:=ao.1 h
  obtain⟨mx,my⟩:=List.of_mem_zip hm
  have hx:=b1 x mx;have hy:=b2 y my
  refine⟨[.sh x, .sh y], ?_⟩
  rcases hx with rfl | rfl<;>rcases hy with rfl | rfl<;>exact⟨_,rfl,rfl,_,rfl⟩
 obtain⟨is,rfl⟩:=xZ q
 exact⟨_,cE (bQ ((a9 ((fJ e).trans (aA8 is)) rfl).trans (mT (by decide)))),xX _⟩
theorem cR (ns:List Int) (k:Nat) {m:Nat} (hm:0<m): ∃ p:Nat,aE [Sc ns, .int k, .int m]= .ok (.int p)/\p<m:=by
 have h:(0:Int)<m:=by omega
 have r:=qY ns k h
 refine⟨(xW ns k m).toNat,(aFv ns k h).trans ?_,by omega⟩
 rw [Int.toNat_of_nonneg r.1]
theorem aCl {p:Nat} (h:p<2):bit (.int p):=by
 rcases(show p=0\/p=1 by omega) with rfl | rfl
 ·exact .inl rfl
 ·exact .inr rfl
theorem aCm {ws:List D} (h: ∀ w∈ws,bit w) {p:Nat} (hp:p<ws.length): ∃ w,dIx (.lst ws) (.int p)= .ok w/\bit w:=
 ⟨ws[p],dN (ba hp),h _ (List.getElem_mem hp)⟩
theorem x0 (ns:List Int) (at':Nat) {m:Nat} (hm:m<=4): ∃ ws,bV [Sc ns, .int at', .int m]= .ok (.tup [.int m, .tup ws])/\ws.length=2 ^ m/\ ∀ w∈ws,bit w:=by
 have hp:=xY hm
 obtain⟨way,hw,lw⟩:=cR ns at' (m:=6) (by decide)
 -- the drawn worths
 obtain⟨ws0,e0,l0,b0⟩:=dU (n:=0) (cs:=[1,0]) (it:=aU (aB 3)) (e:=aA aE [aB 2,aX .Add (aX .Add (aB 1) (rK (.int 1))) (aB 0),rK (.int 2)]) (P:=bit) (ds:=iB (2 ^ m))
  (ρ:=[.sh (Sc ns), .sh (.int at'), .sh (.int m), .sh (.int (2 ^ m:Nat)), .sh (.int way), .no, .no, .no, .no]) (.inl (dF rfl (by omega))) fun d h=>by
   obtain⟨j,hj,rfl⟩:=fT h
   obtain⟨p,hp,lp⟩:=cR ns (at'+1+j) (m:=2) (by decide)
   exact⟨[.sh (.int j)],_,rfl,(eE (x:=Sc ns) (y:= .int ((at'+1+j:Nat):Int)) (z:= .int 2) rfl rfl rfl).trans hp,aCl lp⟩
 rw [cH] at l0
 -- the ways
 have h4: ∃ ws a b,(sIf (gC (aZ .Eq (aB 4) (rK (.int 0))) (aZ .Gt (aB 2) (rK (.int 0))))
   (aR (d6 6 (aA aE [aB 0,aX .Add (aB 1) (rK (.int 20)),aB 3]))
    (i7 5 (aL 0 [6] (aU (aB 3)) none (aA dY [aB 1,aB 0]))))
   (sIf (aZ .Eq (aB 4) (rK (.int 1)))
    (i7 5 (aL 0 [1,2,0] (aU (aB 3)) none (aA aHy [aZ .GtE (aA tG [aA aO [aB 2,aB 0]]) (aX .Add (rK (.int 1)) (aA aE [aB 3,aX .Add (aB 1) (rK (.int 21)),rK (.int 3)]))])))
    (sIf (gC (aZ .Eq (aB 4) (rK (.int 2))) (aZ .Gt (aB 2) (rK (.int 0))))
     (aR (d6 7 (aA aE [aB 0,aX .Add (aB 1) (rK (.int 22)),aB 2]))
      (i7 5 (aL 0 [7,5] (aU (aB 3)) none (rIx (aD 2) (aX .Sub (aB 0) (aX .Mult (aX .Mod (aX .FloorDiv (aB 0) (rIx (fN [rK (.int 1),rK (.int 2),rK (.int 4),rK (.int 8)]) (aB 1))) (rK (.int 2))) (rIx (fN [rK (.int 1),rK (.int 2),rK (.int 4),rK (.int 8)]) (aB 1))))))))
     (aY)))) [.sh (Sc ns), .sh (.int at'), .sh (.int m), .sh (.int (2 ^ m:Nat)), .sh (.int way), .ow ws0, .no, .no, .no]
   = .nx [.sh (Sc ns), .sh (.int at'), .sh (.int m), .sh (.int (2 ^ m:Nat)), .sh (.int way), .ow ws,a,b, .no]/\ws.length=2 ^ m/\ ∀ w∈ws,bit w:=by
  have hgt: ∀ ρ:Rho,ρ[2]? =some (.sh (.int m))->aZ .Gt (aB 2) (rK (.int 0)) ρ= .ok (.bl (decide (0<m))):=fun ρ h=>by
   refine(fI (x:= .int m) (by simp [aB,h]) rfl).trans ?_
   simp [gB]
  have hway: ∀ (c:Nat) (ρ:Rho),ρ[4]? =some (.sh (.int way))->aZ .Eq (aB 4) (rK (.int c)) ρ= .ok (.bl (decide (way=c))):=fun c ρ h=>by
   refine(fI (x:= .int way) (by simp [aB,h]) rfl).trans ?_
   rw [qW rfl]
   show R.ok (.bl ((way:Int)==(c:Int)))=_
   congr 2;rw [Bool.eq_iff_iff];simp;omega
  have hand: ∀ c:Nat,gC (aZ .Eq (aB 4) (rK (.int c))) (aZ .Gt (aB 2) (rK (.int 0))) [.sh (Sc ns), .sh (.int at'), .sh (.int m), .sh (.int (2 ^ m:Nat)), .sh (.int way), .ow ws0, .no, .no, .no]= .ok (.bl (decide (way=c/\0<m))):=fun c=>by
   by_cases h:way=c
   ·refine(aCi ((hway c _ rfl).trans (by simp [h]))).trans ((hgt _ rfl).trans (by simp [h]))
   ·refine(aCj ((hway c _ rfl).trans (by simp [h]))).trans (by simp [h])
  by_cases w0:way=0/\0<m
  ·obtain⟨mask,hk,lk⟩:=cR ns (at'+20) (m:=2 ^ m) (by omega)
   obtain⟨ws,e,l,b⟩:=dU (n:=0) (cs:=[6]) (it:=aU (aB 3)) (e:=aA dY [aB 1,aB 0]) (P:=bit) (ds:=iB (2 ^ m))
    (ρ:=[.sh (Sc ns), .sh (.int at'), .sh (.int m), .sh (.int (2 ^ m:Nat)), .sh (.int way), .ow ws0, .sh (.int mask), .no, .no]) (.inl (dF rfl (by omega))) fun d h=>by
     obtain⟨j,hj,rfl⟩:=fT h
     obtain⟨r,hr,br⟩:=aJ8 mask j
     exact⟨[.sh (.int j)],_,rfl,(eM rfl rfl).trans hr,br⟩
   refine⟨ws, .sh (.int mask), .no,(qV ((hand 0).trans (by simp [w0]))).trans ((aG (dM ((eE rfl rfl rfl).trans hk))).trans (fH e)),l.trans cH,b⟩
  by_cases w1:way=1
  ·obtain⟨q,hq,lq⟩:=cR ns (at'+21) (m:=3) (by omega)
   obtain⟨ws,e,l,b⟩:=dU (n:=0) (cs:=[1,2,0]) (it:=aU (aB 3)) (e:=aA aHy [aZ .GtE (aA tG [aA aO [aB 2,aB 0]]) (aX .Add (rK (.int 1)) (aA aE [aB 3,aX .Add (aB 1) (rK (.int 21)),rK (.int 3)]))]) (P:=bit) (ds:=iB (2 ^ m))
    (ρ:=[.sh (Sc ns), .sh (.int at'), .sh (.int m), .sh (.int (2 ^ m:Nat)), .sh (.int way), .ow ws0, .no, .no, .no]) (.inl (dF rfl (by omega))) fun d h=>by
     obtain⟨j,hj,rfl⟩:=fT h
     obtain⟨xs,hs,ls,bs⟩:=iQ hm j
     obtain⟨is,rfl⟩:=xZ fun x m=>aFw (bs x m)
     refine⟨[.sh (.int j)],_,rfl,(cJ ((fI ((cJ ((eM rfl rfl).trans hs)).trans (aFx is)) ((a9 rfl ((eE rfl rfl rfl).trans hq)).trans rfl)).trans rfl)).trans rfl, ?_⟩
     unfold b2i;split
     ·exact .inr rfl
     ·exact .inl rfl
   refine⟨ws, .no, .no,(g0 ((hand 0).trans (by simp [w0]))).trans ((qV ((hway 1 _ rfl).trans (by simp [w1]))).trans (fH e)),l.trans cH,b⟩
  by_cases w2:way=2/\0<m
  ·obtain⟨nm,hk,lk⟩:=cR ns (at'+22) (m:=m) (by omega)
   obtain⟨ws,e,l,b⟩:=dU (n:=0) (cs:=[7,5]) (it:=aU (aB 3)) (e:=rIx (aD 2) (aX .Sub (aB 0) (aX .Mult (aX .Mod (aX .FloorDiv (aB 0) (rIx (fN [rK (.int 1),rK (.int 2),rK (.int 4),rK (.int 8)]) (aB 1))) (rK (.int 2))) (rIx (fN [rK (.int 1),rK (.int 2),rK (.int 4),rK (.int 8)]) (aB 1))))) (P:=bit) (ds:=iB (2 ^ m))
    (ρ:=[.sh (Sc ns), .sh (.int at'), .sh (.int m), .sh (.int (2 ^ m:Nat)), .sh (.int way), .ow ws0, .no, .sh (.int nm), .no]) (.inl (dF rfl (by omega))) fun d h=>by
     obtain⟨j,hj,rfl⟩:=fT h
     have hpn:=xY (m:=nm) (by omega)
     have hle:j / 2 ^ nm % 2 * 2 ^ nm<=j:=Nat.le_trans (Nat.mul_le_mul_right _ (Nat.mod_le _ _)) (Nat.div_mul_le_self ..)
     obtain⟨w,hw,bw⟩:=aCm b0 (p:=j - j / 2 ^ nm % 2 * 2 ^ nm) (by omega)
     refine⟨[.sh (.int j)],w,rfl,(lW (x:= .lst ws0) (y:= .int (j - j / 2 ^ nm % 2 * 2 ^ nm:Nat)) rfl ?_).trans hw,bw⟩
     refine(a9 rfl ((a9 ((a9 ((a9 rfl (ix4 (a:=aB 1) (j:=nm) rfl (by omega))).trans (xQ (by omega) (by omega))) rfl).trans (mT (by decide))) (ix4 (a:=aB 1) (j:=nm) rfl (by omega))).trans (aCk (aJ6 (by omega) (by omega))))).trans ?_
     show R.ok (D.int ((j:Int) - (j:Int) / ((2 ^ nm:Nat):Int) % 2 * ((2 ^ nm:Nat):Int)))=_
     rw [Int.ofNat_sub hle,Int.natCast_mul,Int.natCast_emod,Int.natCast_ediv];rfl
   refine⟨ws, .no, .sh (.int nm),(g0 ((hand 0).trans (by simp [w0]))).trans ((g0 ((hway 1 _ rfl).trans (by simp [w1]))).trans ((qV ((hand 2).trans (by simp [w2]))).trans ((aG (dM ((eE rfl rfl rfl).trans hk))).trans (fH e)))),l.trans cH,b⟩
  ·exact⟨ws0, .no, .no,(g0 ((hand 0).trans (by simp [w0]))).trans ((g0 ((hway 1 _ rfl).trans (by simp [w1]))).trans ((g0 ((hand 2).trans (by simp [w2]))).trans rfl)),l0,b0⟩
 obtain⟨ws1,a,b,e1,l1,b1⟩:=h4
 -- one worth turned
 have h5: ∃ ws c,(sIf (gC (aZ .Lt (aB 4) (rK (.int 3))) (aZ .Eq (aA aE [aB 0,aX .Add (aB 1) (rK (.int 23)),rK (.int 3)]) (rK (.int 0))))
   (aR (d6 8 (aA aE [aB 0,aX .Add (aB 1) (rK (.int 24)),aB 3]))
    (uF 5 (aB 8) (aX .Sub (rK (.int 1)) (rIx (aD 5) (aB 8)))))
   (aY)) [.sh (Sc ns), .sh (.int at'), .sh (.int m), .sh (.int (2 ^ m:Nat)), .sh (.int way), .ow ws1,a,b, .no]
   = .nx [.sh (Sc ns), .sh (.int at'), .sh (.int m), .sh (.int (2 ^ m:Nat)), .sh (.int way), .ow ws,a,b,c]/\ws.length=2 ^ m/\ ∀ w∈ws,bit w:=by
  obtain⟨q,hq,lq⟩:=cR ns (at'+23) (m:=3) (by omega)
  have hc: ∃ t,gC (aZ .Lt (aB 4) (rK (.int 3))) (aZ .Eq (aA aE [aB 0,aX .Add (aB 1) (rK (.int 23)),rK (.int 3)]) (rK (.int 0))) [.sh (Sc ns), .sh (.int at'), .sh (.int m), .sh (.int (2 ^ m:Nat)), .sh (.int way), .ow ws1,a,b, .no]= .ok (.bl t):=by
   have h1:aZ .Lt (aB 4) (rK (.int 3)) [.sh (Sc ns), .sh (.int at'), .sh (.int m), .sh (.int (2 ^ m:Nat)), .sh (.int way), .ow ws1,a,b, .no]= .ok (.bl (decide ((way:Int)<3))):=rfl
   by_cases hh:(way:Int)<3
   ·exact⟨_,(aCi (h1.trans (by simp [hh]))).trans ((fI ((eE rfl rfl rfl).trans hq) rfl).trans (qW rfl))⟩
   ·exact⟨_,aCj (h1.trans (by simp [hh]))⟩
  obtain⟨t,ht⟩:=hc
  cases t with
  | false=>exact⟨ws1, .no,(g0 ht).trans rfl,l1,b1⟩
  | true=>
   obtain⟨pl,hl,ll⟩:=cR ns (at'+24) (m:=2 ^ m) (by omega)
   obtain⟨w,hw,bw⟩:=aCm b1 (p:=pl) (by omega)
   have hb: ∃ v,lA .Sub (.int 1) w= .ok v/\bit v:=by
    rcases bw with rfl | rfl
    ·exact⟨_,rfl, .inr rfl⟩
    ·exact⟨_,rfl, .inl rfl⟩
   obtain⟨v,hv,bv⟩:=hb
   refine⟨ws1.set pl v, .sh (.int pl),(qV ht).trans ((aG (dM ((eE rfl rfl rfl).trans hl))).trans ?_),by simp [l1],fun x mx=> ?_⟩
   ·have hx:(aX .Sub (rK (.int 1)) (rIx (aD 5) (aB 8))) [.sh (Sc ns), .sh (.int at'), .sh (.int m), .sh (.int (2 ^ m:Nat)), .sh (.int way), .ow ws1,a,b, .sh (.int pl)]= .ok v:=(a9 rfl ((lW rfl rfl).trans hw)).trans hv
    have hi:ixD ws1.length (pl:Int)=some pl:=by simp [ixD];omega
    show uF 5 (aB 8) (aX .Sub (rK (.int 1)) (rIx (aD 5) (aB 8))) [.sh (Sc ns), .sh (.int at'), .sh (.int m), .sh (.int (2 ^ m:Nat)), .sh (.int way), .ow ws1,a,b, .sh (.int pl)]=_
    unfold uF;rw [hx];simp [fB,aB,hi]
   ·rcases List.mem_or_eq_of_mem_set mx with h | rfl
    ·exact b1 x h
    ·exact bv
 obtain⟨ws2,c,e2,l2,b2⟩:=h5
 refine⟨ws2,cE ((aG (dM (ix5 (a:=aB 2) (j:=m) rfl hm))).trans ((aG (dM ((eE rfl rfl rfl).trans hw))).trans ((aG (fH e0)).trans ((aG e1).trans ((aG e2).trans (bQ (xP rfl ((cJ rfl).trans rfl)))))))),l2,b2⟩
structure TM where
 d:List Nat
 k:Nat
 w:List Nat
noncomputable def TT:Nat->List TM
 | 0=>[⟨[],1,[]⟩]
 | 1=>[⟨[0],1,[3]⟩,⟨[1],2,[3]⟩,⟨[2],3,[]⟩]
 | 2=>[⟨[0,0],1,[3,5]⟩,⟨[0,1],4,[12,5]⟩,⟨[0,2],5,[15]⟩,⟨[1,0],2,[3,10]⟩,⟨[1,1],8,[12,10]⟩,⟨[1,2],10,[15]⟩,⟨[2,0],3,[15]⟩,⟨[2,1],12,[15]⟩,⟨[2,2],15,[]⟩]
 | _=>[⟨[0,0,0],1,[3,5,17]⟩,⟨[0,0,1],16,[48,80,17]⟩,⟨[0,0,2],17,[51,85]⟩,⟨[0,1,0],4,[12,5,68]⟩,⟨[0,1,1],64,[192,80,68]⟩,⟨[0,1,2],68,[204,85]⟩,⟨[0,2,0],5,[15,85]⟩,⟨[0,2,1],80,[240,85]⟩,⟨[0,2,2],85,[255]⟩,⟨[1,0,0],2,[3,10,34]⟩,⟨[1,0,1],32,[48,160,34]⟩,⟨[1,0,2],34,[51,170]⟩,⟨[1,1,0],8,[12,10,136]⟩,⟨[1,1,1],128,[192,160,136]⟩,⟨[1,1,2],136,[204,170]⟩,⟨[1,2,0],10,[15,170]⟩,⟨[1,2,1],160,[240,170]⟩,⟨[1,2,2],170,[255]⟩,⟨[2,0,0],3,[15,51]⟩,⟨[2,0,1],48,[240,51]⟩,⟨[2,0,2],51,[255]⟩,⟨[2,1,0],12,[15,204]⟩,⟨[2,1,1],192,[240,204]⟩,⟨[2,1,2],204,[255]⟩,⟨[2,2,0],15,[255]⟩,⟨[2,2,1],240,[255]⟩,⟨[2,2,2],255,[]⟩]
noncomputable def PT (m n:Nat):List TM:=(TT m).filter fun x=>Nat.beq (x.k &&& n) x.k&&x.w.all fun w=> !Nat.beq (w &&& n) w
noncomputable def TS (m:Nat):List (List Nat):=(TT m).map (·.d)
noncomputable def pQ (m n:Nat):List (List Nat):=(PT m n).map (·.d)
noncomputable def dg (i:Nat):D:=if i=0 then .int 0 else if i=1 then .int 1 else .non
noncomputable def tD (t:List Nat):D:= .tup (t.map dg)
noncomputable def bD (b:Bool):D:= .int (b2i b)
noncomputable def tB (a:List Bool):D:= .tup (a.map bD)
noncomputable def sw (m:Nat) (a:List Bool):D:= .tup [.int (m:Nat),tB a]
noncomputable def fM (l:List Nat):List D:=l.map fun(k:Nat)=>D.int (k:Int)
noncomputable def kP:List Bool->Nat
 | []=>0
 | b::r=>cond b 1 0+2 * kP r
noncomputable def aC:Nat->List (List Bool)
 | 0=>[[]]
 | m+1=>(aC m).flatMap fun t=>[false::t,true::t]
theorem aT: ∀ {m:Nat} {t:List Bool},t.length=m->t∈aC m
 | 0,t,h=>by simp at h;simp [h,aC]
 | m+1,[],h=>by simp at h
 | m+1,x::u,h=>by
  simp only [aC,List.mem_flatMap]
  refine⟨u,aT (by simpa using h), ?_⟩
  cases x<;>simp
noncomputable def PL (m:Nat) (a:List Bool):List D:=(pQ m (kP a)).map tD
noncomputable def onN (a:List Bool):List Nat:=(List.range a.length).filter fun k=>a.getD k false
noncomputable def HA (t:List Nat):List Nat:=(List.range (2 ^ t.length)).filter fun n=>(List.range t.length).all fun k=>t.getD k 2==2||t.getD k 2==cond (n.testBit k) 1 0
noncomputable def tn (u:List Bool) (t:List Nat):List Nat:=List.zipWith (fun b d=>if d=2 then 2 else cond b (1 - d) d) u t
noncomputable def xc (i j:Nat) (t:List Nat):List Nat:=(t.set i (t.getD j 2)).set j (t.getD i 2)
noncomputable def xo (m i j:Nat):List Nat:=((List.range m).set i j).set j i
noncomputable def ps (m:Nat) (o:List Nat) (u:List Bool):List Nat:=(List.range (2 ^ m)).map fun n=>kP (List.zipWith (fun k b=>(n.testBit k)^^b) o u)
noncomputable def mv (m:Nat) (a:List Bool) (o:List Nat) (u:List Bool):List Bool:=(ps m o u).map fun i=>a.getD i false
noncomputable def mD (o:List Nat) (u:List Bool):D:= .tup [.tup (fM o),tB u, .int 0]
noncomputable def zs (m:Nat):List Bool:=ak m false
noncomputable def toI (t:List Nat):List Int:=t.map fun(k:Nat)=>(k:Int)
noncomputable def KF (t:List Nat):KD:=(toI t,tD t)
noncomputable def aJ9 (a:List Nat):List (List Nat)->List (List Nat)
 | []=>[a]
 | b::r=>if fE (toI b) (toI a) then b::aJ9 a r else a::b::r
noncomputable def srt:List (List Nat)->List (List Nat)
 | []=>[]
 | a::r=>aJ9 a (srt r)
theorem aCn (a:List Nat): ∀ l:List (List Nat),aAz (KF a) (l.map KF)=(aJ9 a l).map KF
 | []=>rfl
 | b::r=>by
  have ih:=aCn a r
  show(if fE (toI b) (toI a) then KF b::aAz (KF a) (r.map KF) else KF a::KF b::r.map KF)=(if fE (toI b) (toI a) then b::aJ9 a r else a::b::r).map KF
  rw [ih]
  split<;>rfl
theorem aKa: ∀ l:List (List Nat),kF (l.map KF)=(srt l).map KF
 | []=>rfl
 | a::r=>by
  show aAz (KF a) (kF (r.map KF))=(aJ9 a (srt r)).map KF
  rw [aKa r,aCn]
noncomputable def B1:FS:=(aR (kU [12] true (aU (aB 1))
 (aR (sIf (gC (aZ .NotIn (aB 12) (aA iA [aB 2])) (aZ .NotEq (aL 0 [12] (aD 4) (some (aZ .IsNot (rIx (aD 0) (aB 1)) (rK .non))) (aB 0)) (fN [])))
  (aR (bW (rK (.bl false)))
   (aY))
  (aY))
  (aY)))
 (aR (d6 13 (aL 0 [] (aD 4) (some (aZ .In (rK (.int 0)) (aB 0))) (aB 0)))
 (sIf (gC (aZ .In (rK (.str "rising")) (aA fL [aB 2])) (rOr (aZ .NotEq (aB 13) (fN [])) (aZ .NotEq (aA bT [aB 2]) (aB 4))))
 (aR (bW (rK (.bl false)))
  (aY))
 (aY))))
noncomputable def B2:F:=(aZ .Eq (aL 0 [4] (aA bT [aB 2]) (some (aZ .NotIn (aB 0) (aB 1))) (aB 0)) (fN []))
noncomputable def st (z:Nat->Slot) (m:Nat) (a:List Bool) (s t:Slot):Rho:=[z 0, .sh (.int (m:Nat)), .sh (sw m a),z 3, .sh (.lst (PL m a)),z 5,z 6,z 7,z 8,z 9,z 10,z 11,s,t,z 14,z 15]
noncomputable def qA (m:Nat) (a:List Bool):List R:=[aH [sw m a],cQ [sw m a],fA [sw m a]]
noncomputable def dA (m:Nat) (a:List Bool):List R:=[.ok .non, .ow (PL m a), .ow (fM (onN a))]
noncomputable def qB (z:Nat->Slot) (m:Nat) (a:List Bool):Out×R:=(B1 (st z m a (z 12) (z 13)),B2 (st z m a (z 12) (z 13)))
noncomputable def dB (z:Nat->Slot) (m:Nat) (a:List Bool):Out×R:=(.nx (st z m a (if m=0 then z 12 else .sh (.int ((m - 1:Nat):Int))) (.sh (.lst (((pQ m (kP a)).filter fun t=>t.any fun d=>Nat.beq d 0).map tD)))), .ok (.bl true))
noncomputable def oC (l:List (List Nat)):Bool:=okK (l.map KF)
noncomputable def qC (m:Nat) (a:List Bool):List (List (List Nat)×Bool):=(aC m).map fun u=>(pQ m (kP (mv m a (List.range m) u)),oC ((pQ m (kP a)).map (tn u)))
noncomputable def dC (m:Nat) (a:List Bool):List (List (List Nat)×Bool):=(aC m).map fun u=>(srt ((pQ m (kP a)).map (tn u)),true)
noncomputable def qX (m:Nat) (a:List Bool):List (List (List (List Nat)×Bool)):=(List.range m).map fun i=>(List.range m).map fun j=>(pQ m (kP (mv m a (xo m i j) (zs m))),oC ((pQ m (kP a)).map (xc i j)))
noncomputable def dX (m:Nat) (a:List Bool):List (List (List (List Nat)×Bool)):=(List.range m).map fun i=>(List.range m).map fun j=>(srt ((pQ m (kP a)).map (xc i j)),true)
noncomputable def qH (m:Nat) (a:List Bool):Bool:=(pQ m (kP a)).all fun t=>(HA t).all fun k=>a.getD k false
noncomputable def dH (_:Nat) (_:List Bool):Bool:=true
theorem tA0:(aC 1).map (qA 0)=(aC 1).map (dA 0):=by kernel_rfl
theorem tA1:(aC 2).map (qA 1)=(aC 2).map (dA 1):=by kernel_rfl
theorem tA2:(aC 4).map (qA 2)=(aC 4).map (dA 2):=by kernel_rfl
theorem aN0:(aC 4).map (fun s=>qA 3 ([false,false,false,false]++s))=(aC 4).map (fun s=>dA 3 ([false,false,false,false]++s)):=by kernel_rfl
theorem aN1:(aC 4).map (fun s=>qA 3 ([true,false,false,false]++s))=(aC 4).map (fun s=>dA 3 ([true,false,false,false]++s)):=by kernel_rfl
theorem aN2:(aC 4).map (fun s=>qA 3 ([false,true,false,false]++s))=(aC 4).map (fun s=>dA 3 ([false,true,false,false]++s)):=by kernel_rfl
theorem aN3:(aC 4).map (fun s=>qA 3 ([true,true,false,false]++s))=(aC 4).map (fun s=>dA 3 ([true,true,false,false]++s)):=by kernel_rfl
theorem aN4:(aC 4).map (fun s=>qA 3 ([false,false,true,false]++s))=(aC 4).map (fun s=>dA 3 ([false,false,true,false]++s)):=by kernel_rfl
theorem aN5:(aC 4).map (fun s=>qA 3 ([true,false,true,false]++s))=(aC 4).map (fun s=>dA 3 ([true,false,true,false]++s)):=by kernel_rfl
theorem aN6:(aC 4).map (fun s=>qA 3 ([false,true,true,false]++s))=(aC 4).map (fun s=>dA 3 ([false,true,true,false]++s)):=by kernel_rfl
theorem aN7:(aC 4).map (fun s=>qA 3 ([true,true,true,false]++s))=(aC 4).map (fun s=>dA 3 ([true,true,true,false]++s)):=by kernel_rfl
theorem aN8:(aC 4).map (fun s=>qA 3 ([false,false,false,true]++s))=(aC 4).map (fun s=>dA 3 ([false,false,false,true]++s)):=by kernel_rfl
theorem aN9:(aC 4).map (fun s=>qA 3 ([true,false,false,true]++s))=(aC 4).map (fun s=>dA 3 ([true,false,false,true]++s)):=by kernel_rfl
theorem aKb:(aC 4).map (fun s=>qA 3 ([false,true,false,true]++s))=(aC 4).map (fun s=>dA 3 ([false,true,false,true]++s)):=by kernel_rfl
theorem aKc:(aC 4).map (fun s=>qA 3 ([true,true,false,true]++s))=(aC 4).map (fun s=>dA 3 ([true,true,false,true]++s)):=by kernel_rfl
theorem aKd:(aC 4).map (fun s=>qA 3 ([false,false,true,true]++s))=(aC 4).map (fun s=>dA 3 ([false,false,true,true]++s)):=by kernel_rfl
theorem aKe:(aC 4).map (fun s=>qA 3 ([true,false,true,true]++s))=(aC 4).map (fun s=>dA 3 ([true,false,true,true]++s)):=by kernel_rfl
theorem aKf:(aC 4).map (fun s=>qA 3 ([false,true,true,true]++s))=(aC 4).map (fun s=>dA 3 ([false,true,true,true]++s)):=by kernel_rfl
theorem aKg:(aC 4).map (fun s=>qA 3 ([true,true,true,true]++s))=(aC 4).map (fun s=>dA 3 ([true,true,true,true]++s)):=by kernel_rfl
theorem aOa {m:Nat} (hm:m<=3) {a:List Bool} (la:a.length=2 ^ m):qA m a=dA m a:=by
 rcases(show m=0\/m=1\/m=2\/m=3 by omega) with rfl | rfl | rfl | rfl
 ·exact List.map_inj_left.1 (tA0) a (aT la)
 ·exact List.map_inj_left.1 (tA1) a (aT la)
 ·exact List.map_inj_left.1 (tA2) a (aT la)
 ·match a,la with
  | [b0,b1,b2,b3,b4,b5,b6,b7],_=>
   have h:[b4,b5,b6,b7]∈aC 4:=aT rfl
   cases b0<;>cases b1<;>cases b2<;>cases b3
   ·exact List.map_inj_left.1 (aN0) _ h
   ·exact List.map_inj_left.1 (aN8) _ h
   ·exact List.map_inj_left.1 (aN4) _ h
   ·exact List.map_inj_left.1 (aKd) _ h
   ·exact List.map_inj_left.1 (aN2) _ h
   ·exact List.map_inj_left.1 (aKb) _ h
   ·exact List.map_inj_left.1 (aN6) _ h
   ·exact List.map_inj_left.1 (aKf) _ h
   ·exact List.map_inj_left.1 (aN1) _ h
   ·exact List.map_inj_left.1 (aN9) _ h
   ·exact List.map_inj_left.1 (aN5) _ h
   ·exact List.map_inj_left.1 (aKe) _ h
   ·exact List.map_inj_left.1 (aN3) _ h
   ·exact List.map_inj_left.1 (aKc) _ h
   ·exact List.map_inj_left.1 (aN7) _ h
   ·exact List.map_inj_left.1 (aKg) _ h
theorem tB0 (z:Nat->Slot):(aC 1).map (qB z 0)=(aC 1).map (dB z 0):=by kernel_rfl
theorem tB1 (z:Nat->Slot):(aC 2).map (qB z 1)=(aC 2).map (dB z 1):=by kernel_rfl
theorem tB2 (z:Nat->Slot):(aC 4).map (qB z 2)=(aC 4).map (dB z 2):=by kernel_rfl
theorem aOb (z:Nat->Slot):(aC 4).map (fun s=>qB z 3 ([false,false,false,false]++s))=(aC 4).map (fun s=>dB z 3 ([false,false,false,false]++s)):=by kernel_rfl
theorem aOc (z:Nat->Slot):(aC 4).map (fun s=>qB z 3 ([true,false,false,false]++s))=(aC 4).map (fun s=>dB z 3 ([true,false,false,false]++s)):=by kernel_rfl
theorem aOd (z:Nat->Slot):(aC 4).map (fun s=>qB z 3 ([false,true,false,false]++s))=(aC 4).map (fun s=>dB z 3 ([false,true,false,false]++s)):=by kernel_rfl
theorem aOe (z:Nat->Slot):(aC 4).map (fun s=>qB z 3 ([true,true,false,false]++s))=(aC 4).map (fun s=>dB z 3 ([true,true,false,false]++s)):=by kernel_rfl
theorem aOf (z:Nat->Slot):(aC 4).map (fun s=>qB z 3 ([false,false,true,false]++s))=(aC 4).map (fun s=>dB z 3 ([false,false,true,false]++s)):=by kernel_rfl
theorem aOg (z:Nat->Slot):(aC 4).map (fun s=>qB z 3 ([true,false,true,false]++s))=(aC 4).map (fun s=>dB z 3 ([true,false,true,false]++s)):=by kernel_rfl
theorem aOh (z:Nat->Slot):(aC 4).map (fun s=>qB z 3 ([false,true,true,false]++s))=(aC 4).map (fun s=>dB z 3 ([false,true,true,false]++s)):=by kernel_rfl
theorem aOi (z:Nat->Slot):(aC 4).map (fun s=>qB z 3 ([true,true,true,false]++s))=(aC 4).map (fun s=>dB z 3 ([true,true,true,false]++s)):=by kernel_rfl
theorem aOj (z:Nat->Slot):(aC 4).map (fun s=>qB z 3 ([false,false,false,true]++s))=(aC 4).map (fun s=>dB z 3 ([false,false,false,true]++s)):=by kernel_rfl
theorem aOk (z:Nat->Slot):(aC 4).map (fun s=>qB z 3 ([true,false,false,true]++s))=(aC 4).map (fun s=>dB z 3 ([true,false,false,true]++s)):=by kernel_rfl
theorem aKh (z:Nat->Slot):(aC 4).map (fun s=>qB z 3 ([false,true,false,true]++s))=(aC 4).map (fun s=>dB z 3 ([false,true,false,true]++s)):=by kernel_rfl
theorem aKi (z:Nat->Slot):(aC 4).map (fun s=>qB z 3 ([true,true,false,true]++s))=(aC 4).map (fun s=>dB z 3 ([true,true,false,true]++s)):=by kernel_rfl
theorem aKj (z:Nat->Slot):(aC 4).map (fun s=>qB z 3 ([false,false,true,true]++s))=(aC 4).map (fun s=>dB z 3 ([false,false,true,true]++s)):=by kernel_rfl
theorem aKk (z:Nat->Slot):(aC 4).map (fun s=>qB z 3 ([true,false,true,true]++s))=(aC 4).map (fun s=>dB z 3 ([true,false,true,true]++s)):=by kernel_rfl
theorem aKl (z:Nat->Slot):(aC 4).map (fun s=>qB z 3 ([false,true,true,true]++s))=(aC 4).map (fun s=>dB z 3 ([false,true,true,true]++s)):=by kernel_rfl
theorem aKm (z:Nat->Slot):(aC 4).map (fun s=>qB z 3 ([true,true,true,true]++s))=(aC 4).map (fun s=>dB z 3 ([true,true,true,true]++s)):=by kernel_rfl
theorem aKn (z:Nat->Slot) {m:Nat} (hm:m<=3) {a:List Bool} (la:a.length=2 ^ m):qB z m a=dB z m a:=by
 rcases(show m=0\/m=1\/m=2\/m=3 by omega) with rfl | rfl | rfl | rfl
 ·exact List.map_inj_left.1 (tB0 z) a (aT la)
 ·exact List.map_inj_left.1 (tB1 z) a (aT la)
 ·exact List.map_inj_left.1 (tB2 z) a (aT la)
 ·match a,la with
  | [b0,b1,b2,b3,b4,b5,b6,b7],_=>
   have h:[b4,b5,b6,b7]∈aC 4:=aT rfl
   cases b0<;>cases b1<;>cases b2<;>cases b3
   ·exact List.map_inj_left.1 (aOb z) _ h
   ·exact List.map_inj_left.1 (aOj z) _ h
   ·exact List.map_inj_left.1 (aOf z) _ h
   ·exact List.map_inj_left.1 (aKj z) _ h
   ·exact List.map_inj_left.1 (aOd z) _ h
   ·exact List.map_inj_left.1 (aKh z) _ h
   ·exact List.map_inj_left.1 (aOh z) _ h
   ·exact List.map_inj_left.1 (aKl z) _ h
   ·exact List.map_inj_left.1 (aOc z) _ h
   ·exact List.map_inj_left.1 (aOk z) _ h
   ·exact List.map_inj_left.1 (aOg z) _ h
   ·exact List.map_inj_left.1 (aKk z) _ h
   ·exact List.map_inj_left.1 (aOe z) _ h
   ·exact List.map_inj_left.1 (aKi z) _ h
   ·exact List.map_inj_left.1 (aOi z) _ h
   ·exact List.map_inj_left.1 (aKm z) _ h
theorem tC0:(aC 1).map (qC 0)=(aC 1).map (dC 0):=by kernel_rfl
theorem tC1:(aC 2).map (qC 1)=(aC 2).map (dC 1):=by kernel_rfl
theorem tC2:(aC 4).map (qC 2)=(aC 4).map (dC 2):=by kernel_rfl
theorem aOl:(aC 4).map (fun s=>qC 3 ([false,false,false,false]++s))=(aC 4).map (fun s=>dC 3 ([false,false,false,false]++s)):=by kernel_rfl
theorem aOm:(aC 4).map (fun s=>qC 3 ([true,false,false,false]++s))=(aC 4).map (fun s=>dC 3 ([true,false,false,false]++s)):=by kernel_rfl
theorem aOn:(aC 4).map (fun s=>qC 3 ([false,true,false,false]++s))=(aC 4).map (fun s=>dC 3 ([false,true,false,false]++s)):=by kernel_rfl
theorem aOo:(aC 4).map (fun s=>qC 3 ([true,true,false,false]++s))=(aC 4).map (fun s=>dC 3 ([true,true,false,false]++s)):=by kernel_rfl
theorem aOp:(aC 4).map (fun s=>qC 3 ([false,false,true,false]++s))=(aC 4).map (fun s=>dC 3 ([false,false,true,false]++s)):=by kernel_rfl
theorem aOq:(aC 4).map (fun s=>qC 3 ([true,false,true,false]++s))=(aC 4).map (fun s=>dC 3 ([true,false,true,false]++s)):=by kernel_rfl
theorem aOr:(aC 4).map (fun s=>qC 3 ([false,true,true,false]++s))=(aC 4).map (fun s=>dC 3 ([false,true,true,false]++s)):=by kernel_rfl
theorem aOs:(aC 4).map (fun s=>qC 3 ([true,true,true,false]++s))=(aC 4).map (fun s=>dC 3 ([true,true,true,false]++s)):=by kernel_rfl
theorem aOt:(aC 4).map (fun s=>qC 3 ([false,false,false,true]++s))=(aC 4).map (fun s=>dC 3 ([false,false,false,true]++s)):=by kernel_rfl
theorem aOu:(aC 4).map (fun s=>qC 3 ([true,false,false,true]++s))=(aC 4).map (fun s=>dC 3 ([true,false,false,true]++s)):=by kernel_rfl
theorem aKo:(aC 4).map (fun s=>qC 3 ([false,true,false,true]++s))=(aC 4).map (fun s=>dC 3 ([false,true,false,true]++s)):=by kernel_rfl
theorem aKp:(aC 4).map (fun s=>qC 3 ([true,true,false,true]++s))=(aC 4).map (fun s=>dC 3 ([true,true,false,true]++s)):=by kernel_rfl
theorem aKq:(aC 4).map (fun s=>qC 3 ([false,false,true,true]++s))=(aC 4).map (fun s=>dC 3 ([false,false,true,true]++s)):=by kernel_rfl
theorem aKr:(aC 4).map (fun s=>qC 3 ([true,false,true,true]++s))=(aC 4).map (fun s=>dC 3 ([true,false,true,true]++s)):=by kernel_rfl
theorem aKs:(aC 4).map (fun s=>qC 3 ([false,true,true,true]++s))=(aC 4).map (fun s=>dC 3 ([false,true,true,true]++s)):=by kernel_rfl
theorem aKt:(aC 4).map (fun s=>qC 3 ([true,true,true,true]++s))=(aC 4).map (fun s=>dC 3 ([true,true,true,true]++s)):=by kernel_rfl
theorem aOv {m:Nat} (hm:m<=3) {a:List Bool} (la:a.length=2 ^ m):qC m a=dC m a:=by
 rcases(show m=0\/m=1\/m=2\/m=3 by omega) with rfl | rfl | rfl | rfl
 ·exact List.map_inj_left.1 (tC0) a (aT la)
 ·exact List.map_inj_left.1 (tC1) a (aT la)
 ·exact List.map_inj_left.1 (tC2) a (aT la)
 ·match a,la with
  | [b0,b1,b2,b3,b4,b5,b6,b7],_=>
   have h:[b4,b5,b6,b7]∈aC 4:=aT rfl
   cases b0<;>cases b1<;>cases b2<;>cases b3
   ·exact List.map_inj_left.1 (aOl) _ h
   ·exact List.map_inj_left.1 (aOt) _ h
   ·exact List.map_inj_left.1 (aOp) _ h
   ·exact List.map_inj_left.1 (aKq) _ h
   ·exact List.map_inj_left.1 (aOn) _ h
   ·exact List.map_inj_left.1 (aKo) _ h
   ·exact List.map_inj_left.1 (aOr) _ h
   ·exact List.map_inj_left.1 (aKs) _ h
   ·exact List.map_inj_left.1 (aOm) _ h
   ·exact List.map_inj_left.1 (aOu) _ h
   ·exact List.map_inj_left.1 (aOq) _ h
   ·exact List.map_inj_left.1 (aKr) _ h
   ·exact List.map_inj_left.1 (aOo) _ h
   ·exact List.map_inj_left.1 (aKp) _ h
   ·exact List.map_inj_left.1 (aOs) _ h
   ·exact List.map_inj_left.1 (aKt) _ h
theorem aQw:(aC 1).map (qX 0)=(aC 1).map (dX 0):=by kernel_rfl
theorem aQx:(aC 2).map (qX 1)=(aC 2).map (dX 1):=by kernel_rfl
theorem aQy:(aC 4).map (qX 2)=(aC 4).map (dX 2):=by kernel_rfl
theorem aKu:(aC 4).map (fun s=>qX 3 ([false,false,false,false]++s))=(aC 4).map (fun s=>dX 3 ([false,false,false,false]++s)):=by kernel_rfl
theorem aKv:(aC 4).map (fun s=>qX 3 ([true,false,false,false]++s))=(aC 4).map (fun s=>dX 3 ([true,false,false,false]++s)):=by kernel_rfl
theorem aKw:(aC 4).map (fun s=>qX 3 ([false,true,false,false]++s))=(aC 4).map (fun s=>dX 3 ([false,true,false,false]++s)):=by kernel_rfl
theorem aKx:(aC 4).map (fun s=>qX 3 ([true,true,false,false]++s))=(aC 4).map (fun s=>dX 3 ([true,true,false,false]++s)):=by kernel_rfl
theorem aKy:(aC 4).map (fun s=>qX 3 ([false,false,true,false]++s))=(aC 4).map (fun s=>dX 3 ([false,false,true,false]++s)):=by kernel_rfl
theorem aKz:(aC 4).map (fun s=>qX 3 ([true,false,true,false]++s))=(aC 4).map (fun s=>dX 3 ([true,false,true,false]++s)):=by kernel_rfl
theorem aK0:(aC 4).map (fun s=>qX 3 ([false,true,true,false]++s))=(aC 4).map (fun s=>dX 3 ([false,true,true,false]++s)):=by kernel_rfl
theorem aK1:(aC 4).map (fun s=>qX 3 ([true,true,true,false]++s))=(aC 4).map (fun s=>dX 3 ([true,true,true,false]++s)):=by kernel_rfl
theorem aK2:(aC 4).map (fun s=>qX 3 ([false,false,false,true]++s))=(aC 4).map (fun s=>dX 3 ([false,false,false,true]++s)):=by kernel_rfl
theorem aK3:(aC 4).map (fun s=>qX 3 ([true,false,false,true]++s))=(aC 4).map (fun s=>dX 3 ([true,false,false,true]++s)):=by kernel_rfl
theorem aFy:(aC 4).map (fun s=>qX 3 ([false,true,false,true]++s))=(aC 4).map (fun s=>dX 3 ([false,true,false,true]++s)):=by kernel_rfl
theorem aFz:(aC 4).map (fun s=>qX 3 ([true,true,false,true]++s))=(aC 4).map (fun s=>dX 3 ([true,true,false,true]++s)):=by kernel_rfl
theorem aF0:(aC 4).map (fun s=>qX 3 ([false,false,true,true]++s))=(aC 4).map (fun s=>dX 3 ([false,false,true,true]++s)):=by kernel_rfl
theorem aF1:(aC 4).map (fun s=>qX 3 ([true,false,true,true]++s))=(aC 4).map (fun s=>dX 3 ([true,false,true,true]++s)):=by kernel_rfl
theorem aF2:(aC 4).map (fun s=>qX 3 ([false,true,true,true]++s))=(aC 4).map (fun s=>dX 3 ([false,true,true,true]++s)):=by kernel_rfl
theorem aF3:(aC 4).map (fun s=>qX 3 ([true,true,true,true]++s))=(aC 4).map (fun s=>dX 3 ([true,true,true,true]++s)):=by kernel_rfl
theorem aK4 {m:Nat} (hm:m<=3) {a:List Bool} (la:a.length=2 ^ m):qX m a=dX m a:=by
 rcases(show m=0\/m=1\/m=2\/m=3 by omega) with rfl | rfl | rfl | rfl
 ·exact List.map_inj_left.1 (aQw) a (aT la)
 ·exact List.map_inj_left.1 (aQx) a (aT la)
 ·exact List.map_inj_left.1 (aQy) a (aT la)
 ·match a,la with
  | [b0,b1,b2,b3,b4,b5,b6,b7],_=>
   have h:[b4,b5,b6,b7]∈aC 4:=aT rfl
   cases b0<;>cases b1<;>cases b2<;>cases b3
   ·exact List.map_inj_left.1 (aKu) _ h
   ·exact List.map_inj_left.1 (aK2) _ h
   ·exact List.map_inj_left.1 (aKy) _ h
   ·exact List.map_inj_left.1 (aF0) _ h
   ·exact List.map_inj_left.1 (aKw) _ h
   ·exact List.map_inj_left.1 (aFy) _ h
   ·exact List.map_inj_left.1 (aK0) _ h
   ·exact List.map_inj_left.1 (aF2) _ h
   ·exact List.map_inj_left.1 (aKv) _ h
   ·exact List.map_inj_left.1 (aK3) _ h
   ·exact List.map_inj_left.1 (aKz) _ h
   ·exact List.map_inj_left.1 (aF1) _ h
   ·exact List.map_inj_left.1 (aKx) _ h
   ·exact List.map_inj_left.1 (aFz) _ h
   ·exact List.map_inj_left.1 (aK1) _ h
   ·exact List.map_inj_left.1 (aF3) _ h
theorem aQz:(aC 1).map (qH 0)=(aC 1).map (dH 0):=by kernel_rfl
theorem aQ0:(aC 2).map (qH 1)=(aC 2).map (dH 1):=by kernel_rfl
theorem aQ1:(aC 4).map (qH 2)=(aC 4).map (dH 2):=by kernel_rfl
theorem aK5:(aC 4).map (fun s=>qH 3 ([false,false,false,false]++s))=(aC 4).map (fun s=>dH 3 ([false,false,false,false]++s)):=by kernel_rfl
theorem aK6:(aC 4).map (fun s=>qH 3 ([true,false,false,false]++s))=(aC 4).map (fun s=>dH 3 ([true,false,false,false]++s)):=by kernel_rfl
theorem aK7:(aC 4).map (fun s=>qH 3 ([false,true,false,false]++s))=(aC 4).map (fun s=>dH 3 ([false,true,false,false]++s)):=by kernel_rfl
theorem aK8:(aC 4).map (fun s=>qH 3 ([true,true,false,false]++s))=(aC 4).map (fun s=>dH 3 ([true,true,false,false]++s)):=by kernel_rfl
theorem aK9:(aC 4).map (fun s=>qH 3 ([false,false,true,false]++s))=(aC 4).map (fun s=>dH 3 ([false,false,true,false]++s)):=by kernel_rfl
theorem aLa:(aC 4).map (fun s=>qH 3 ([true,false,true,false]++s))=(aC 4).map (fun s=>dH 3 ([true,false,true,false]++s)):=by kernel_rfl
theorem aLb:(aC 4).map (fun s=>qH 3 ([false,true,true,false]++s))=(aC 4).map (fun s=>dH 3 ([false,true,true,false]++s)):=by kernel_rfl
theorem aLc:(aC 4).map (fun s=>qH 3 ([true,true,true,false]++s))=(aC 4).map (fun s=>dH 3 ([true,true,true,false]++s)):=by kernel_rfl
theorem aLd:(aC 4).map (fun s=>qH 3 ([false,false,false,true]++s))=(aC 4).map (fun s=>dH 3 ([false,false,false,true]++s)):=by kernel_rfl
theorem aLe:(aC 4).map (fun s=>qH 3 ([true,false,false,true]++s))=(aC 4).map (fun s=>dH 3 ([true,false,false,true]++s)):=by kernel_rfl
theorem aF4:(aC 4).map (fun s=>qH 3 ([false,true,false,true]++s))=(aC 4).map (fun s=>dH 3 ([false,true,false,true]++s)):=by kernel_rfl
theorem aF5:(aC 4).map (fun s=>qH 3 ([true,true,false,true]++s))=(aC 4).map (fun s=>dH 3 ([true,true,false,true]++s)):=by kernel_rfl
theorem aF6:(aC 4).map (fun s=>qH 3 ([false,false,true,true]++s))=(aC 4).map (fun s=>dH 3 ([false,false,true,true]++s)):=by kernel_rfl
theorem aF7:(aC 4).map (fun s=>qH 3 ([true,false,true,true]++s))=(aC 4).map (fun s=>dH 3 ([true,false,true,true]++s)):=by kernel_rfl
theorem aF8:(aC 4).map (fun s=>qH 3 ([false,true,true,true]++s))=(aC 4).map (fun s=>dH 3 ([false,true,true,true]++s)):=by kernel_rfl
theorem aF9:(aC 4).map (fun s=>qH 3 ([true,true,true,true]++s))=(aC 4).map (fun s=>dH 3 ([true,true,true,true]++s)):=by kernel_rfl
theorem aLf {m:Nat} (hm:m<=3) {a:List Bool} (la:a.length=2 ^ m):qH m a=dH m a:=by
 rcases(show m=0\/m=1\/m=2\/m=3 by omega) with rfl | rfl | rfl | rfl
 ·exact List.map_inj_left.1 (aQz) a (aT la)
 ·exact List.map_inj_left.1 (aQ0) a (aT la)
 ·exact List.map_inj_left.1 (aQ1) a (aT la)
 ·match a,la with
  | [b0,b1,b2,b3,b4,b5,b6,b7],_=>
   have h:[b4,b5,b6,b7]∈aC 4:=aT rfl
   cases b0<;>cases b1<;>cases b2<;>cases b3
   ·exact List.map_inj_left.1 (aK5) _ h
   ·exact List.map_inj_left.1 (aLd) _ h
   ·exact List.map_inj_left.1 (aK9) _ h
   ·exact List.map_inj_left.1 (aF6) _ h
   ·exact List.map_inj_left.1 (aK7) _ h
   ·exact List.map_inj_left.1 (aF4) _ h
   ·exact List.map_inj_left.1 (aLb) _ h
   ·exact List.map_inj_left.1 (aF8) _ h
   ·exact List.map_inj_left.1 (aK6) _ h
   ·exact List.map_inj_left.1 (aLe) _ h
   ·exact List.map_inj_left.1 (aLa) _ h
   ·exact List.map_inj_left.1 (aF7) _ h
   ·exact List.map_inj_left.1 (aK8) _ h
   ·exact List.map_inj_left.1 (aF5) _ h
   ·exact List.map_inj_left.1 (aLc) _ h
   ·exact List.map_inj_left.1 (aF9) _ h
theorem sP {α:Type} {L:List α} {h q:α->D} {cs:List Nat} {it e:F} {ρ:Rho} (hi:it ρ= .ok (.lst (L.map h))\/it ρ= .ok (.tup (L.map h))\/it ρ= .ow (L.map h)) (he: ∀ x∈L,e (.sh (h x)::jO cs ρ)= .ok (q x)):aL 0 cs it none e ρ= .ow (L.map q):=by
 have go: ∀ L:List α,(∀ x∈L,e (.sh (h x)::jO cs ρ)= .ok (q x))->bG (cZ 0 (jO cs ρ) none e) (L.map h)=some (L.map q):=by
  intro L
  induction L with
  | nil=>intro _;rfl
  | cons x r ih=>
   intro H
   have h1:cZ 0 (jO cs ρ) none e (h x)=some (some (q x)):=by
    have:=H x (.head _)
    simp [cZ,tgt,this]
   simp [bG,h1,ih fun y m=>H y (.tail _ m)]
 rcases hi with hi | hi | hi<;>simp [aL,hi,R.bind,gR,items,go L he]
theorem x6 {α:Type} {L:List α} {h:α->D} {cs:List Nat} {it c e:F} {ρ:Rho} (hi:it ρ= .ow (L.map h)) (hc: ∀ x∈L,c (.sh (h x)::jO cs ρ)= .ok (.bl false)):aL 0 cs it (some c) e ρ= .ow []:=by
 have go: ∀ L:List α,(∀ x∈L,c (.sh (h x)::jO cs ρ)= .ok (.bl false))->bG (cZ 0 (jO cs ρ) (some c) e) (L.map h)=some []:=by
  intro L
  induction L with
  | nil=>intro _;rfl
  | cons x r ih=>
   intro H
   have h1:cZ 0 (jO cs ρ) (some c) e (h x)=some none:=by
    have:=H x (.head _)
    simp [cZ,tgt,this]
   simp [bG,h1,ih fun y m=>H y (.tail _ m)]
 simp [aL,hi,R.bind,gR,items,go L hc]
theorem aGa {i:Nat} {e:F} {ρ:Rho} {xs:List D} {d:D} (h:ρ[i]? =some (.ow xs)) (he:e ρ= .ok d) (hl:xs.length<LIM):aBj i e ρ= .nx (ρ.set i (.ow (xs++[d]))):=by
 simp [aBj,h,he,fB,hl]
theorem sQ {t:D->Rho->Option Rho} {b:FS} {d:D} {ds:List D} {ρ ρ1 ρ2:Rho} (h:t d ρ=some ρ1) (k:b ρ1= .nx ρ2):fF t b (d::ds) ρ=fF t b ds ρ2:=by simp only [fF,h,k]
theorem qZ {a b c:FS} {ρ:Rho}:aR a (aR b c) ρ=aR (aR a b) c ρ:=by
 unfold aR
 cases a ρ<;>rfl
theorem aLg {a b c:F} {ρ:Rho} {x y z:D} (h:a ρ= .ok x) (k:b ρ= .ok y) (l:c ρ= .ok z):fZ [a,b,c] ρ= .ok (.tup [x,y,z]):=by simp [fZ,nQ,args,h,k,l,RA.cons,RA.then]
theorem aLh {a b:F} {ρ:Rho} {x:List D} {y:D} (h:a ρ= .ow x) (k:b ρ= .ok y):fZ [a,b] ρ= .ok (.tup [.lst x,y]):=by simp [fZ,nQ,args,h,k,RA.cons,RA.then]
theorem q0: ∀ {ws:List D},(∀ w∈ws,bit w)-> ∃ bs:List Bool,ws=bs.map bD
 | [],_=>⟨[],rfl⟩
 | w::r,h=>by
  obtain⟨bs,rfl⟩:=q0 (ws:=r) fun x m=>h x (.tail _ m)
  rcases h w (.head _) with rfl | rfl
  ·exact⟨false::bs,rfl⟩
  ·exact⟨true::bs,rfl⟩
theorem sR (ns:List Int) (at':Nat) {m:Nat} (hm:m<=4): ∃ a:List Bool,a.length=2 ^ m/\bV [Sc ns, .int at', .int m]= .ok (sw m a):=by
 obtain⟨ws,e,l,b⟩:=x0 ns at' hm
 obtain⟨bs,rfl⟩:=q0 b
 exact⟨bs,by simpa using l,e⟩
theorem aLi (ns:List Int): ∃ m:Nat,m<=3/\dZ [Sc ns, .int ((0:Nat):Int)]= .ok (.int m):=by
 obtain⟨p,e,l⟩:=cR ns 0 (m:=7) (by decide)
 have hx:aA aE [aB 0,aB 1,rK (.int 7)] [.sh (Sc ns), .sh (.int ((0:Nat):Int))]= .ok (.int p):=(eE (y:= .int ((0:Nat):Int)) (z:= .int ((7:Nat):Int)) rfl rfl rfl).trans e
 have:p=0\/p=1\/p=2\/p=3\/p=4\/p=5\/p=6:=by omega
 rcases this with rfl | rfl | rfl | rfl | rfl | rfl | rfl
 ·exact⟨0,by omega,cE (bQ ((g9 rfl hx).trans (dN rfl)))⟩
 ·exact⟨1,by omega,cE (bQ ((g9 rfl hx).trans (dN rfl)))⟩
 ·exact⟨2,by omega,cE (bQ ((g9 rfl hx).trans (dN rfl)))⟩
 ·exact⟨2,by omega,cE (bQ ((g9 rfl hx).trans (dN rfl)))⟩
 ·exact⟨2,by omega,cE (bQ ((g9 rfl hx).trans (dN rfl)))⟩
 ·exact⟨3,by omega,cE (bQ ((g9 rfl hx).trans (dN rfl)))⟩
 ·exact⟨3,by omega,cE (bQ ((g9 rfl hx).trans (dN rfl)))⟩
theorem aOw (i:Int):gB .NotEq (.int i) (.int i)= .ok (.bl false):=by
 rw [xT (x:= .int i) (y:= .int i) rfl,mU _ rfl];rfl
noncomputable def fK:F:=aL 0 [1] (aD 0) none (rIx (aD 1) (aB 0))
noncomputable def eT:F:=aA bN [aL 2 [] (nT (aB 0) (aB 1)) none (rIf (rOr (aZ .Is (aB 0) (rK .non)) (aZ .Eq (aB 1) (rK (.int 0)))) (aB 0) (aX .Sub (rK (.int 1)) (aB 0)))]
theorem aOx:(List.range 4).map (fun m=>(TS m).map fun t=>(bS [tD t],aCg (fK [.sh (tD t), .sh .rnk])))=(List.range 4).map fun m=>(TS m).map fun t=>(R.ow (fM (HA t)),some (toI t)):=by kernel_rfl
theorem aOy:(List.range 4).map (fun m=>(TS m).map fun t=>(aC m).map fun u=>eT [.sh (tD t), .sh (tB u)])=(List.range 4).map fun m=>(TS m).map fun t=>(aC m).map fun u=>R.ok (tD (tn u t)):=by kernel_rfl
noncomputable def sx (z:Nat->Slot) (t:List Nat) (i j:Nat) (l:List D):Rho:=[z 0,z 1,z 2,z 3,z 4,z 5,z 6, .sh (tD t), .sh (.int (i:Nat)),z 9, .sh (.int (j:Nat)), .ow l,z 12,z 13,z 14,z 15]
noncomputable def pX:FS:=uY 11 (aB 8) (aB 10) (fZ [rIx (aD 7) (aB 10),rIx (aD 7) (aB 8)])
theorem aOz (z:Nat->Slot):(List.range 4).map (fun m=>(TS m).map fun t=>(List.range m).map fun i=>(List.range m).map fun j=>pX (sx z t i j (t.map dg)))=(List.range 4).map fun m=>(TS m).map fun t=>(List.range m).map fun i=>(List.range m).map fun j=>Out.nx (sx z t i j ((xc i j t).map dg)):=by kernel_rfl
section
variable {m n:Nat} {t:List Nat} {a b:List Bool}
theorem x8 (h:t∈pQ m n):t∈TS m:=by
 obtain⟨x,hx,rfl⟩:=ao.mp h
 exact ao.mpr ⟨x,(List.mem_filter.mp hx).1,rfl⟩
theorem x9 (hm:m<=3) (ht:t∈TS m):bS [tD t]= .ow (fM (HA t))/\aCg (fK [.sh (tD t), .sh .rnk])=some (toI t):=by
 have h:=List.map_inj_left.1 (List.map_inj_left.1 aOx m (zPd (by omega))) t ht
 exact⟨congrArg Prod.fst h,congrArg Prod.snd h⟩
theorem aGb (hm:m<=3) (ht:t∈TS m) {u:List Bool} (lu:u.length=m):eT [.sh (tD t), .sh (tB u)]= .ok (tD (tn u t)):=
 List.map_inj_left.1 (List.map_inj_left.1 (List.map_inj_left.1 aOy m (zPd (by omega))) t ht) u (aT lu)
theorem aLj (z:Nat->Slot) (hm:m<=3) (ht:t∈TS m) {i j:Nat} (hi:i<m) (hj:j<m):pX (sx z t i j (t.map dg))= .nx (sx z t i j ((xc i j t).map dg)):=
 List.map_inj_left.1 (List.map_inj_left.1 (List.map_inj_left.1 (List.map_inj_left.1 (aOz z) m (zPd (by omega))) t ht) i (zPd hi)) j (zPd hj)
theorem aCo:((List.range 4).all fun m=>(TS m).all fun t=>((aC m).all fun u=>(TS m).contains (tn u t))&&(List.range m).all fun i=>(List.range m).all fun j=>(TS m).contains (xc i j t))=true:=by kernel_rfl
theorem aO0 (hm:m<=3) (ht:t∈TS m) {u:List Bool} (lu:u.length=m):tn u t∈TS m:=by
 have h:=zAd (zAd aCo m (zPd (by omega))) t ht
 rw [au] at h
 exact List.contains_iff_mem.mp (zAd h.1 u (aT lu))
theorem aO1 (hm:m<=3) (ht:t∈TS m) {i j:Nat} (hi:i<m) (hj:j<m):xc i j t∈TS m:=by
 have h:=zAd (zAd aCo m (zPd (by omega))) t ht
 rw [au] at h
 exact List.contains_iff_mem.mp (zAd (zAd h.2 i (zPd hi)) j (zPd hj))
theorem aLk (i:Nat):plain (dg i)=true/\dep (dg i)=0:=by
 unfold dg
 split
 ·exact⟨rfl,rfl⟩
 ·split<;>exact⟨rfl,rfl⟩
theorem aO2 (t:List Nat):plain (tD t)=true:=by
 show bC _=true
 rw [iP];intro x mx;obtain⟨i,_,rfl⟩:=ao.1 mx;exact(aLk i).1
theorem aLl (t:List Nat):dep (tD t)=1:=by
 show pN _+1=1
 rw [xU fun x mx=>by obtain⟨y,_,rfl⟩:=ao.1 mx;exact(aLk y).2]
theorem aGc (L:List (List Nat)):plain (.lst (L.map tD))=true:=by
 show bC _=true
 rw [iP];intro x mx;obtain⟨i,_,rfl⟩:=ao.1 mx;exact aO2 i
theorem aLm (L:List (List Nat)):dep (.lst (L.map tD))<=60:=by
 have h: ∀ X:List (List Nat),pN (X.map tD)<=1:=by
  intro X
  induction X with
  | nil=>decide
  | cons x r ih=>show max (dep (tD x)) (pN (r.map tD))<=1;rw [aLl];omega
 have:=h L
 show pN _+1<=60
 omega
theorem aLn (L:List (List Nat)):gB .NotEq (.lst (L.map tD)) (.lst (L.map tD))= .ok (.bl false):=by
 rw [xT (xS (aGc L) (aGc L) (aLm L)),mU _ (aGc L)];rfl
theorem yA (hm:m<=3): ∀ {L:List (List Nat)},(∀ t∈L,t∈TS m)->oX (fun y=>fK (.sh y::[.sh .rnk])) (L.map tD)=some (L.map KF)
 | [],_=>rfl
 | t::L,h=>by
  have ih:=yA hm (L:=L) fun s hs=>h s (.tail _ hs)
  have hk:=(x9 hm (h t (.head _))).2
  show(match aCg (fK [.sh (tD t), .sh .rnk]),oX (fun y=>fK (.sh y::[.sh .rnk])) (L.map tD) with | some k,some r=>some ((k,tD t)::r) | _,_=>none)=_
  rw [hk,ih];rfl
theorem qK (hm:m<=3) {L:List (List Nat)} (h: ∀ t∈L,t∈TS m) (ok:oC L=true):kJ (fun y=>fK (.sh y::[.sh .rnk])) (L.map tD)= .ow ((srt L).map tD):=by
 unfold kJ
 rw [yA hm h]
 show(if oC L then R.ow ((kF (L.map KF)).map Prod.snd) else .bad)=_
 rw [if_pos ok,aKa,List.map_map];rfl
theorem gA (hm:m<=3) (la:a.length=2 ^ m):aH [sw m a]= .ok .non/\cQ [sw m a]= .ow (PL m a)/\fA [sw m a]= .ow (fM (onN a)):=by
 have h:=aOa hm la
 unfold qA dA at h
 simp only [List.cons.injEq,and_true] at h
 exact h
theorem aA9 (hm:m<=3) (la:a.length=2 ^ m) (lb:b.length=2 ^ m):cP [sw m a,sw m b]= .ok .non:=
 aFs ((aG (eC ((cJ rfl).trans (gA hm la).1))).trans ((aG (eC ((cJ rfl).trans (gA hm lb).1))).trans ((g0 ((fI (x:= .int (m:Nat)) (y:= .int (m:Nat)) rfl rfl).trans (aOw _))).trans rfl)))
theorem aBa:aL 2 [] (nT (rIx (aD 0) (rK (.int 1))) (rIx (aD 1) (rK (.int 1)))) none (aX .BitAnd (aB 0) (aB 1)) [.sh (sw m a), .sh (sw m b)]= .ow ((List.zipWith (· && ·) a b).map bD):=by
 have go: ∀ (a b:List Bool),bG (cZ 2 [] none (aX .BitAnd (aB 0) (aB 1))) (((a.map bD).zip (b.map bD)).map fun p=>D.tup [p.1,p.2])=some ((List.zipWith (· && ·) a b).map bD):=by
  intro a
  induction a with
  | nil=>intro b;rfl
  | cons x a ih=>
   intro b
   cases b with
   | nil=>rfl
   | cons y b=>
    have h1:cZ 2 [] none (aX .BitAnd (aB 0) (aB 1)) (D.tup [bD x,bD y])=some (some (bD (x&&y))):=by cases x<;>cases y<;>rfl
    simp only [List.map_cons,List.zip_cons_cons,List.zipWith_cons_cons,bG,h1,ih b];rfl
 have hz:nT (rIx (aD 0) (rK (.int 1))) (rIx (aD 1) (rK (.int 1))) [.sh (sw m a), .sh (sw m b)]= .ok (.lst (((a.map bD).zip (b.map bD)).map fun p=>D.tup [p.1,p.2])):=by
  have h1:rIx (aD 0) (rK (.int 1)) [.sh (sw m a), .sh (sw m b)]= .ok (.tup (a.map bD)):=rfl
  have h2:rIx (aD 1) (rK (.int 1)) [.sh (sw m a), .sh (sw m b)]= .ok (.tup (b.map bD)):=rfl
  simp [nT,h1,h2,R.bind]
 simp [aL,hz,R.bind,gR,items,jO,go a b]
theorem aGd (hm:m<=3) (la:a.length=2 ^ m) (lb:b.length=2 ^ m):o8 [sw m a,sw m b]= .ok (sw m (List.zipWith (· && ·) a b)):=
 cE ((aG (eC ((eM rfl rfl).trans (aA9 hm la lb)))).trans (bQ ((xP (x:= .int (m:Nat)) rfl ((fJ aBa).trans rfl)).trans rfl)))
noncomputable def src:F:=aL 0 [1] (aA cF [aB 2]) none (aA dW [aA xV [aB 0,aB 1]])
noncomputable def bel (m:Nat) (l:List Nat):Bool:=l.all fun i=>decide (i<2 ^ m)
theorem aLo (x:Slot):(List.range 4).map (fun m=>(aC m).map fun u=>(bU [.int (m:Nat),mD (List.range m) u],src [x, .sh (mD (List.range m) u), .sh (.int (m:Nat)), .no],bel m (ps m (List.range m) u)))=(List.range 4).map fun m=>(aC m).map fun u=>(R.ok .non,R.ow (fM (ps m (List.range m) u)),true):=by kernel_rfl
theorem aLp (x:Slot):(List.range 4).map (fun m=>(List.range m).map fun i=>(List.range m).map fun j=>(bU [.int (m:Nat),mD (xo m i j) (zs m)],src [x, .sh (mD (xo m i j) (zs m)), .sh (.int (m:Nat)), .no],bel m (ps m (xo m i j) (zs m)),bR [.int (m:Nat), .int (i:Nat)]))=(List.range 4).map fun m=>(List.range m).map fun i=>(List.range m).map fun j=>(R.ok .non,R.ow (fM (ps m (xo m i j) (zs m))),true,R.ok .non):=by kernel_rfl
theorem o9 {o:List Nat} {u:List Bool} (hm:m<=3) (la:a.length=2 ^ m) (hc:bU [.int (m:Nat),mD o u]= .ok .non) (hs: ∀ x,src [x, .sh (mD o u), .sh (.int (m:Nat)), .no]= .ow (fM (ps m o u))) (hb:bel m (ps m o u)=true):gN [sw m a,mD o u]= .ok (sw m (mv m a o u)):=by
 have e4:aL 0 [1,0] (aD 3) none (aX .BitXor (rIx (rIx (aD 2) (rK (.int 1))) (aB 0)) (rIx (aD 1) (rK (.int 2)))) [.sh (sw m a), .sh (mD o u), .sh (.int (m:Nat)), .sh (.lst (fM (ps m o u)))]= .ow ((ps m o u).map fun i=>bD (a.getD i false)):=
  sP (h:=fun(n:Nat)=>D.int (n:Int)) (.inl rfl) fun n mn=>by
   have hn:n<a.length:=by rw [la];exact of_decide_eq_true (zAd hb n mn)
   have hi:(a.map bD)[n]? =some (bD (a.getD n false)):=by simp [hn]
   refine(a9 ((lW (x:= .tup (a.map bD)) rfl rfl).trans (aFt hi)) ((lW (x:=mD o u) (y:= .int 2) rfl rfl).trans rfl)).trans ?_
   generalize a.getD n false=u
   cases u<;>rfl
 refine cE ((aG (eC ((cJ rfl).trans (gA hm la).1))).trans ((aG (dM (d:= .int (m:Nat)) rfl)).trans ((aG (eC ((eM rfl rfl).trans hc))).trans ((aG (aFr (hs _))).trans (bQ ((xP (x:= .int (m:Nat)) rfl ((fJ e4).trans rfl)).trans ?_))))))
 show R.ok (.tup [.int (m:Nat), .tup ((ps m o u).map fun i=>bD (a.getD i false))])= .ok (.tup [.int (m:Nat), .tup (((ps m o u).map fun i=>a.getD i false).map bD)])
 rw [List.map_map];rfl
theorem aQ2 (hm:m<=3) (la:a.length=2 ^ m) {u:List Bool} (lu:u.length=m):gN [sw m a,mD (List.range m) u]= .ok (sw m (mv m a (List.range m) u)):=by
 have h:=fun x=>List.map_inj_left.1 (List.map_inj_left.1 (aLo x) m (zPd (by omega))) u (aT lu)
 simp only [Prod.mk.injEq] at h
 exact o9 hm la (h .no).1 (fun x=>(h x).2.1) (h .no).2.2
theorem aCp {o:List Nat} {u:List Bool}:(mv m a o u).length=2 ^ m:=by simp [mv,ps]
theorem yB {i j:Nat} {k e:F} {ρ:Rho} {xs:List D} {d:D} (h:ρ[i]? =some (.ow xs)) (hk:k ρ= .ok (.int (j:Nat))) (he:e ρ= .ok d) (hj:j<xs.length):uF i k e ρ= .nx (ρ.set i (.ow (xs.set j d))):=by
 have hi:ixD xs.length (j:Int)=some j:=by simp [ixD];omega
 simp [uF,h,hk,he,fB,hi]
theorem aQ3 (hm:m<=3):lA .Mult (.tup [.int 0]) (.int (m:Nat))= .ok (tB (zs m)):=by
 rcases(show m=0\/m=1\/m=2\/m=3 by omega) with rfl | rfl | rfl | rfl<;>rfl
theorem aQ4 (hm:m<=3) (la:a.length=2 ^ m) {i j:Nat} (hi:i<m) (hj:j<m):cV [sw m a, .int (i:Nat), .int (j:Nat)]= .ok (sw m (mv m a (xo m i j) (zs m))):=by
 have h:=fun i j (hi:i<m) (hj:j<m) x=>List.map_inj_left.1 (List.map_inj_left.1 (List.map_inj_left.1 (aLp x) m (zPd (by omega))) i (zPd hi)) j (zPd hj)
 simp only [Prod.mk.injEq] at h
 have hl:(iB m).length=m:=cH
 refine cE ((aG (eC ((cJ rfl).trans (gA hm la).1))).trans ((aG (dM (d:= .int (m:Nat)) rfl)).trans
  ((aG (eC ((eM rfl rfl).trans (h i i hi hi .no).2.2.2))).trans ((aG (eC ((eM rfl rfl).trans (h j j hj hj .no).2.2.2))).trans
  ((aG (fH (d:=iB m) ((cJ (dF (n:=m) rfl (by omega))).trans rfl))).trans
  ((aG (yB (xs:=iB m) (j:=i) (d:= .int (j:Nat)) rfl rfl rfl (by rw [hl];exact hi))).trans
  ((aG (yB (xs:=(iB m).set i (.int (j:Nat))) (j:=j) (d:= .int (i:Nat)) rfl rfl rfl (by rw [List.length_set,hl];exact hj))).trans (bQ ?_))))))))
 refine(eM (x:=sw m a) (y:=mD (xo m i j) (zs m)) rfl ?_).trans (o9 hm la (h i j hi hj .no).1 (fun x=>(h i j hi hj x).2.1) (h i j hi hj .no).2.2.1)
 refine(aLg (x:= .tup (fM (xo m i j))) (y:=tB (zs m)) (z:= .int 0) ?_ ?_ rfl).trans rfl
 ·refine(cJ (x:= .lst (fM (xo m i j))) ?_).trans rfl
  have e:((iB m).set i (.int (j:Nat))).set j (.int (i:Nat))=fM (xo m i j):=by
   unfold fM xo iB
   rw [List.map_set,List.map_set]
  rw [<-e];rfl
 ·exact(a9 (x:= .tup [.int 0]) (y:= .int (m:Nat)) rfl rfl).trans (aQ3 hm)
theorem yC (l:List Nat) {k:Nat} (h:k∈l):gB .NotIn (.int (k:Nat)) (.lst (fM l))= .ok (.bl false):=by
 have h1:mV (.int k) (fM l)=true:=by
  unfold mV;rw [List.all_eq_true];intro y my
  obtain⟨i,_,rfl⟩:=ao.1 my;rfl
 have h2:((fM l).any fun y=>deq y (.int k))=true:=List.any_eq_true.mpr ⟨_,ao.2 ⟨k,h,rfl⟩,by simp [deq]⟩
 simp [gB,items,h1,h2]
theorem sS {op:CmpOp} {a b:F} {ρ:Rho} {x:D} {y:List D} (h:a ρ= .ok x) (k:b ρ= .ow y):aZ op a b ρ=gB op x (.lst y):=by simp [aZ,h,k,R.bind]
noncomputable def bH:FS:=(aR (sIf (aZ .NotEq (aL 0 [3,2] (aA bS [aB 7]) (some (rOr (aZ .NotIn (aB 0) (aA fA [aB 2])) (aZ .NotIn (aB 0) (aA fA [aB 1])))) (aB 0)) (fN []))
  (aR (bW (rK (.bl false)))
   (aY))
  (aY))
  (aY))
theorem yD {k:Nat} (h:a.getD k false=true):k∈onN a:=by
 have hk:k<a.length:=by
  rcases Nat.lt_or_ge k a.length with h' | h'
  ·exact h'
  ·rw [bu,List.getElem?_eq_none h'] at h;cases h
 exact List.mem_filter.mpr ⟨zPd hk,h⟩
theorem aLq (hm:m<=3) (la:a.length=2 ^ m) (lb:b.length=2 ^ m) (s0 s1 s4 s5 s6 s8 s9 s10 s11 s12 s13 s14 s15:Slot): ∀ (L:List (List Nat)) (s7:Slot),(∀ t∈L,t∈TS m/\ ∀ k∈HA t,k∈onN a/\k∈onN b)->
  ∃ s7',fF (pS [7] true) bH (L.map tD) [s0,s1, .sh (sw m a), .sh (sw m b),s4,s5,s6,s7,s8,s9,s10,s11,s12,s13,s14,s15]= .nx [s0,s1, .sh (sw m a), .sh (sw m b),s4,s5,s6,s7',s8,s9,s10,s11,s12,s13,s14,s15]
 | [],s7,_=>⟨s7,rfl⟩
 | t::L,s7,h=>by
  obtain⟨s7',e⟩:=aLq hm la lb s0 s1 s4 s5 s6 s8 s9 s10 s11 s12 s13 s14 s15 L (.sh (tD t)) fun x hx=>h x (.tail _ hx)
  obtain⟨ht,hk⟩:=h t (.head _)
  refine⟨s7',(sQ (ρ1:=[s0,s1, .sh (sw m a), .sh (sw m b),s4,s5,s6, .sh (tD t),s8,s9,s10,s11,s12,s13,s14,s15]) rfl ?_).trans e⟩
  have ec:aL 0 [3,2] (aA bS [aB 7]) (some (rOr (aZ .NotIn (aB 0) (aA fA [aB 2])) (aZ .NotIn (aB 0) (aA fA [aB 1])))) (aB 0) [s0,s1, .sh (sw m a), .sh (sw m b),s4,s5,s6, .sh (tD t),s8,s9,s10,s11,s12,s13,s14,s15]= .ow []:=
   x6 (L:=HA t) (h:=fun(k:Nat)=>D.int (k:Int)) ((cJ rfl).trans (x9 hm ht).1) fun k mk=>(aNz ((sS (x:= .int (k:Nat)) rfl ((cJ rfl).trans (gA hm la).2.2)).trans (yC _ (hk k mk).1))).trans ((sS (x:= .int (k:Nat)) rfl ((cJ rfl).trans (gA hm lb).2.2)).trans (yC _ (hk k mk).2))
  exact(aG ((g0 ((mS (y:=[]) ec rfl).trans rfl)).trans rfl)).trans rfl
theorem aGe (hm:m<=3) (la:a.length=2 ^ m) (lb:b.length=2 ^ m): ∀ t∈pQ m (kP (List.zipWith (· && ·) a b)),t∈TS m/\ ∀ k∈HA t,k∈onN a/\k∈onN b:=fun t ht=>by
 refine⟨x8 ht,fun k hk=> ?_⟩
 have h:=aLf (a:=List.zipWith (· && ·) a b) hm (by simp [la,lb])
 have h1:=zAd (zAd (show qH m (List.zipWith (· && ·) a b)=true from h) t ht) k hk
 have h2:(List.zipWith (· && ·) a b).getD k false=(a.getD k false&&b.getD k false):=by
  simp only [bu,List.getElem?_zipWith]
  cases e1:a[k]? <;>cases e2:b[k]? <;>simp
 rw [h2,au] at h1
 exact⟨yD h1.1,yD h1.2⟩
noncomputable def bX:FS:=(aR (i7 11 (aA kT [aD 7])) (aR pX (aR (aBj 9 (aA bN [aD 11])) aY)))
theorem aLr (hm:m<=3) {i j:Nat} (hi:i<m) (hj:j<m) (s0 s1 s2 s3 s4 s5 s6 s12 s13 s14 s15:Slot): ∀ (L acc:List (List Nat)) (s7 s11:Slot),(∀ t∈L,t∈TS m)->acc.length+L.length<1000->
  ∃ s7' s11',fF (pS [7] true) bX (L.map tD) [s0,s1,s2,s3,s4,s5,s6,s7, .sh (.int (i:Nat)), .ow (acc.map tD), .sh (.int (j:Nat)),s11,s12,s13,s14,s15]= .nx [s0,s1,s2,s3,s4,s5,s6,s7', .sh (.int (i:Nat)), .ow ((acc++L.map (xc i j)).map tD), .sh (.int (j:Nat)),s11',s12,s13,s14,s15]
 | [],acc,s7,s11,_,_=>⟨s7,s11,by rw [List.map_nil (f:=xc i j),List.append_nil];rfl⟩
 | t::L,acc,s7,s11,h,hl=>by
  rw [bo] at hl
  have ht:=h t (.head _)
  obtain⟨s7',s11',e⟩:=aLr hm hi hj s0 s1 s2 s3 s4 s5 s6 s12 s13 s14 s15 L (acc++[xc i j t]) (.sh (tD t)) (.ow ((xc i j t).map dg)) (fun x hx=>h x (.tail _ hx)) (by rw [bn];simp only [bo,List.length_nil];omega)
  rw [List.append_assoc,List.singleton_append, <-List.map_cons (f:=xc i j)] at e
  refine⟨s7',s11',(sQ (ρ1:=[s0,s1,s2,s3,s4,s5,s6, .sh (tD t), .sh (.int (i:Nat)), .ow (acc.map tD), .sh (.int (j:Nat)),s11,s12,s13,s14,s15]) rfl ?_).trans e⟩
  have hL:LIM=100000:=rfl
  have hp:=aLj (fun k=>[s0,s1,s2,s3,s4,s5,s6, .no, .no, .ow (acc.map tD), .no, .no,s12,s13,s14,s15].getD k .no) hm ht hi hj
  refine(aG (fH (d:=t.map dg) rfl)).trans ((aG hp).trans ((aG (aGa (xs:=acc.map tD) (d:=tD (xc i j t)) rfl rfl (by rw [am,hL];omega))).trans ?_))
  rw [List.map_append];rfl
theorem aLs:((List.range 4).all fun m=>decide ((TT m).length<=27))=true:=by kernel_rfl
theorem aLt (hm:m<=3):(pQ m n).length<=27:=by
 have h:=of_decide_eq_true (zAd aLs m (zPd (by omega)))
 have h2:=List.length_filter_le (fun x:TM=>Nat.beq (x.k &&& n) x.k&&x.w.all fun w=> !Nat.beq (w &&& n) w) (TT m)
 unfold pQ PT
 rw [am]
 omega
theorem pA {L:List (List Nat)} {ρ:Rho} (hm:m<=3) (h: ∀ t∈L,t∈TS m) (ok:oC L=true) (h9:aD 9 ρ= .ok (.lst (L.map tD))) (h15:ρ[15]? =some (.sh .rnk)):kM [15] fK (aD 9) ρ= .ow ((srt L).map tD):=by
 unfold kM
 rw [h9]
 have hc:aCh [15] ρ=some [.sh .rnk]:=by simp [aCh,d7,h15,aA0]
 show(match aCh [15] ρ,D.lst (L.map tD) with | some sl, .lst ds=>kJ (fun y=>fK (.sh y::sl)) ds | _,_=> .bad)=_
 rw [hc]
 exact qK hm h ok
theorem aBb (ns:List Int) (hm:m<=3) (s2 s3 s4 s5 s6 s7 s8 s9 s10 s11 s12 s13 s14 s15:Slot): ∃ u:List Bool,u.length=m/\aA bN [aL 0 [0] (aU (aB 1)) none (aA aE [aB 1,aX .Add (rK (.int 100)) (aB 0),rK (.int 2)])] [.sh (Sc ns), .sh (.int (m:Nat)),s2,s3,s4,s5,s6,s7,s8,s9,s10,s11,s12,s13,s14,s15]= .ok (tB u):=by
 obtain⟨xs,e,l,q⟩:=dU (n:=0) (cs:=[0]) (it:=aU (aB 1)) (e:=aA aE [aB 1,aX .Add (rK (.int 100)) (aB 0),rK (.int 2)]) (ρ:=[.sh (Sc ns), .sh (.int (m:Nat)),s2,s3,s4,s5,s6,s7,s8,s9,s10,s11,s12,s13,s14,s15]) (ds:=iB m) (P:=bit)
  (.inl (dF rfl (by omega))) fun d h=>by
   obtain⟨k,hk,rfl⟩:=fT h
   obtain⟨p,ep,lp⟩:=cR ns (100+k) (m:=2) (by decide)
   exact⟨[.sh (.int k)],_,rfl,(eE (x:=Sc ns) (y:= .int ((100+k:Nat):Int)) (z:= .int 2) rfl rfl rfl).trans ep,aCl lp⟩
 obtain⟨u,rfl⟩:=q0 q
 rw [cH,am] at l
 exact⟨u,l,(fJ e).trans rfl⟩
noncomputable def Bx:FS:=(sIf (aZ .Gt (aB 1) (rK (.int 1)))
 (aR (gS [8,10] (fZ [aA aE [aB 0,rK (.int 110),aB 1],aA aE [aB 0,rK (.int 111),aB 1]]))
  (aR (i7 9 (fN []))
  (aR (kU [7] true (aB 4) bX)
  (aR (sIf (aZ .NotEq (aA cQ [aA cV [aB 2,aB 8,aB 10]]) (kM [15] fK (aD 9)))
  (aR (bW (rK (.bl false)))
   (aY))
  (aY))
  (aY)))))
 (aY))
theorem aO3 (ns:List Int) (hm:m<=3) (la:a.length=2 ^ m) (s3 s5 s6 s9 s12 s13 s14:Slot): ∃ s7 s8 s9' s10 s11,Bx [.sh (Sc ns), .sh (.int (m:Nat)), .sh (sw m a),s3, .sh (.lst (PL m a)),s5,s6, .no, .no,s9, .no, .no,s12,s13,s14, .sh .rnk]= .nx [.sh (Sc ns), .sh (.int (m:Nat)), .sh (sw m a),s3, .sh (.lst (PL m a)),s5,s6,s7,s8,s9',s10,s11,s12,s13,s14, .sh .rnk]:=by
 have hc:aZ .Gt (aB 1) (rK (.int 1)) [.sh (Sc ns), .sh (.int (m:Nat)), .sh (sw m a),s3, .sh (.lst (PL m a)),s5,s6, .no, .no,s9, .no, .no,s12,s13,s14, .sh .rnk]= .ok (.bl (decide ((1:Int)<m))):=(fI rfl rfl).trans rfl
 by_cases h1:1<m
 ·obtain⟨i,ei,li⟩:=cR ns 110 (m:=m) (by omega)
  obtain⟨j,ej,lj⟩:=cR ns 111 (m:=m) (by omega)
  have pl:=aLt (n:=kP a) hm
  obtain⟨s7,s11,el⟩:=aLr hm li lj (.sh (Sc ns)) (.sh (.int (m:Nat))) (.sh (sw m a)) s3 (.sh (.lst (PL m a))) s5 s6 s12 s13 s14 (.sh .rnk) (pQ m (kP a)) [] .no .no (fun t ht=>x8 ht) (by simp only [List.length_nil];omega)
  rw [List.nil_append] at el
  have hx:=List.map_inj_left.1 (List.map_inj_left.1 (show(List.range m).map _=(List.range m).map _ from aK4 hm la) i (zPd li)) j (zPd lj)
  simp only [Prod.mk.injEq] at hx
  refine⟨s7, .sh (.int (i:Nat)), .ow (((pQ m (kP a)).map (xc i j)).map tD), .sh (.int (j:Nat)),s11,(qV (hc.trans (by rw [decide_eq_true (by omega)]))).trans ?_⟩
  refine(aG (kN (xP ((eE (y:= .int ((110:Nat):Int)) rfl rfl rfl).trans ei) ((eE (y:= .int ((111:Nat):Int)) rfl rfl rfl).trans ej)) rfl)).trans ((aG (fH (d:=[]) rfl)).trans ((aG ((xR (.inl rfl)).trans el)).trans ((aG ((g0 ?_).trans rfl)).trans rfl)))
  refine(mS ((cJ ((eE rfl rfl rfl).trans (aQ4 hm la li lj))).trans (gA hm aCp).2.1) (pA hm (L:=(pQ m (kP a)).map (xc i j)) (fun t ht=> ?_) hx.2 rfl rfl)).trans ?_
  ·obtain⟨s,hs,rfl⟩:=ao.mp ht
   exact aO1 hm (x8 hs) li lj
  ·unfold PL
   rw [hx.1]
   exact aLn _
 ·exact⟨.no, .no,s9, .no, .no,(g0 (hc.trans (by rw [decide_eq_false (by omega)]))).trans rfl⟩
theorem aO4 (ns:List Int):aJ7 ([D.lst (ns.map D.int)].map SK.Slot.sh++ak 15 .no)= .rt (.ok (.bl true)):=by
 obtain⟨m,hm,em⟩:=aLi ns
 obtain⟨a,la,ea⟩:=sR ns 10 (m:=m) (by omega)
 obtain⟨b,lb,eb⟩:=sR ns 50 (m:=m) (by omega)
 obtain⟨u,lu,eu⟩:=aBb ns hm (.sh (sw m a)) (.sh (sw m b)) (.sh (.lst (PL m a))) .no .no .no .no .no .no .no .no .no .no (.sh .rnk)
 have hC:=List.map_inj_left.1 (show(aC m).map _=(aC m).map _ from aOv hm la) u (aT lu)
 simp only [Prod.mk.injEq] at hC
 have emv:fZ [aA bN [aU (aB 1)],aB 5,rK (.int 0)] [.sh (Sc ns), .sh (.int (m:Nat)), .sh (sw m a), .sh (sw m b), .sh (.lst (PL m a)), .sh (tB u), .no, .no, .no, .no, .no, .no, .no, .no, .no, .sh .rnk]= .ok (mD (List.range m) u):=
  (aLg (x:= .tup (fM (List.range m))) (y:=tB u) (z:= .int 0) ((cJ (dF rfl (by omega))).trans rfl) rfl rfl).trans rfl
 have edue:aL 0 [5] (aD 4) none eT [.sh (Sc ns), .sh (.int (m:Nat)), .sh (sw m a), .sh (sw m b), .sh (.lst (PL m a)), .sh (tB u), .sh (sw m (mv m a (List.range m) u)), .no, .no, .no, .no, .no, .no, .no, .no, .sh .rnk]= .ow (((pQ m (kP a)).map (tn u)).map tD):=by
  refine(sP (L:=pQ m (kP a)) (h:=tD) (q:=fun t=>tD (tn u t)) (.inl rfl) fun t ht=>aGb hm (x8 ht) lu).trans ?_
  rw [List.map_map];rfl
 obtain⟨s7,s8,s9,s10,s11,eX⟩:=aO3 ns hm la (.sh (sw m b)) (.sh (tB u)) (.sh (sw m (mv m a (List.range m) u))) (.ow (((pQ m (kP a)).map (tn u)).map tD)) .no .no .no
 have eB:=aKn (fun k=>[.sh (Sc ns), .no, .no, .sh (sw m b), .no, .sh (tB u), .sh (sw m (mv m a (List.range m) u)),s7,s8,s9,s10,s11, .no, .no, .no, .sh .rnk].getD k .no) hm la
 have eB1:=congrArg Prod.fst eB
 obtain⟨s7',eH⟩:=aLq hm la lb (.sh (Sc ns)) (.sh (.int (m:Nat))) (.sh (.lst (PL m a))) (.sh (tB u)) (.sh (sw m (mv m a (List.range m) u))) s8 s9 s10 s11 (if m=0 then .no else .sh (.int ((m - 1:Nat):Int))) (.sh (.lst (((pQ m (kP a)).filter fun t=>t.any fun d=>Nat.beq d 0).map tD))) (.sh (sw m (List.zipWith (· && ·) a b))) (.sh .rnk) (pQ m (kP (List.zipWith (· && ·) a b))) s7 (aGe hm la lb)
 have eB2:=congrArg Prod.snd (aKn (fun k=>[.sh (Sc ns), .no, .no, .sh (sw m b), .no, .sh (tB u), .sh (sw m (mv m a (List.range m) u)),s7',s8,s9,s10,s11,(if m=0 then .no else .sh (.int ((m - 1:Nat):Int))), .sh (.lst (((pQ m (kP a)).filter fun t=>t.any fun d=>Nat.beq d 0).map tD)), .sh (sw m (List.zipWith (· && ·) a b)), .sh .rnk].getD k .no) hm la)
 refine(aG (dM ((eM (y:= .int ((0:Nat):Int)) rfl rfl).trans em))).trans ?_
 refine(aG (kN (xP ((eE (y:= .int ((10:Nat):Int)) (z:= .int (m:Nat)) rfl rfl rfl).trans ea) ((eE (y:= .int ((50:Nat):Int)) (z:= .int (m:Nat)) rfl rfl rfl).trans eb)) rfl)).trans ?_
 refine(aG (kN (aLh ((cJ rfl).trans (gA hm la).2.1) rfl) rfl)).trans ?_
 refine(aG (dM eu)).trans ?_
 refine(aG (dM ((eM rfl emv).trans (aQ2 hm la lu)))).trans ?_
 refine(aG (fH edue)).trans ?_
 refine(aG ((g0 ?_).trans rfl)).trans ?_
 ·refine(mS ((cJ rfl).trans (gA hm aCp).2.1) (pA hm (L:=(pQ m (kP a)).map (tn u)) (fun t ht=> ?_) hC.2 rfl rfl)).trans ?_
  ·obtain⟨s,hs,rfl⟩:=ao.mp ht
   exact aO0 hm (x8 hs) lu
  ·unfold PL
   rw [hC.1]
   exact aLn _
 refine(aG eX).trans ?_
 refine qZ.trans (qZ.trans ((aG (qZ.symm.trans eB1)).trans ?_))
 refine(aG (dM ((eM rfl rfl).trans (aGd hm la lb)))).trans ?_
 refine(aG ((xR (.inr (.inr ((cJ rfl).trans (gA hm (by simp [la,lb])).2.1)))).trans eH)).trans ?_
 exact qU (bQ eB2)
end
open PySem.Spec PyProof.Rows L2 PySem.W
noncomputable abbrev KK (w:World):PySem.W.Frag:=kK w.params
noncomputable abbrev ge (x:Str) (g:SK.Gl):Str×SK.Gl:=(x,g)
noncomputable def tbL:List (Str×SK.Gl):=[ge "_law_names" (.fn 46 2 dZ),ge "_law_switch" (.fn 45 3 bV),ge "_law_odd" (.fn 44 2 dY),ge "_law_setting" (.fn 43 2 aO),ge "_law_pick" (.fn 42 3 aE),ge "_law_cell" (.fn 41 2 dR),ge "exchanged" (.fn 40 3 cV),ge "needed" (.fn 39 1 iA),ge "how_much" (.fn 38 2 fX),ge "moved" (.fn 37 2 gN),ge "led" (.fn 36 2 xV),ge "check_move" (.fn 35 2 bU),ge "is_move" (.fn 34 2 hZ),ge "is_order" (.fn 33 2 fW),ge "classes" (.fn 32 1 fL),ge "turns_with_names" (.fn 31 1 bP),ge "rising_above" (.fn 30 1 cY),ge "is_sum" (.fn 29 1 jH),ge "how_far" (.fn 28 1 hX),ge "nearest" (.fn 27 1 hW),ge "sum_of_names" (.fn 26 3 cW),ge "sums" (.fn 25 1 sO),ge "summed" (.fn 24 1 (yZ jG 12)),ge "essentials" (.fn 23 1 bT),ge "primes" (.fn 22 1 cQ),ge "widened" (.fn 21 1 hV),ge "all_terms" (.fn 20 1 eW),ge "held_at" (.fn 19 1 bS),ge "check_term" (.fn 18 2 eF),ge "is_term" (.fn 17 2 hU),ge "is_part" (.fn 16 1 hJ),ge "both" (.fn 15 2 o8),ge "ones" (.fn 14 1 fA),ge "check_name" (.fn 13 2 bR),ge "check_alike" (.fn 12 2 cP),ge "check_switch" (.fn 11 1 aH),ge "is_switch" (.fn 10 1 eV),ge "how_many_ones" (.fn 9 1 cO),ge "all_settings" (.fn 8 1 cF),ge "number_of" (.fn 7 1 dW),ge "setting_at" (.fn 6 2 dG),ge "how_many_settings" (.fn 5 1 aW),ge "is_row" (.fn 4 3 fV),ge "is_many" (.fn 3 1 eN),ge "are_whole_below" (.fn 2 2 bZ),ge "is_whole_below" (.fn 1 2 aV),ge "is_whole" (.fn 0 1 fU),ge (cI .abs) (.py .abs),ge (cI .max) (.py .max),ge (cI .sorted) (.py .sorted),ge (cI .any) (.py .any),ge (cI .all) (.py .all),ge (cI .sum) (.py .sum),ge (cI .list) (.py .list),ge (cI .tuple) (.py .tuple),ge (cI .bool) (.py .bool),ge (cI .int) (.py .int),ge (cI .isin) (.py .isin),ge (cI .zip) (.py .zip),ge (cI .enum) (.py .enum),ge (cI .range) (.py .range),ge (cI .len) (.py .len),ge "ValueError" .verr,ge "NoTerm" (.exc 5),ge "Unlike" (.exc 4),ge "NoMove" (.exc 3),ge "NoName" (.exc 2),ge "NoSwitch" (.exc 1),ge "SwitchError" (.exc 0),ge "WORDS" (.val (.tup [.str "keeps 0", .str "keeps 1", .str "turned", .str "rising", .str "sum"])),ge "PARTS" (.val (.tup [.int 0, .int 1, .non])),ge "MOST_NAMES" (.val (.int 4))]
noncomputable def flL:List (Nat×Fn):=[(1,fU),(2,aV),(2,bZ),(1,eN),(3,fV),(1,aW),(2,dG),(1,dW),(1,cF),(1,cO),(1,eV),(1,aH),(2,cP),(2,bR),(1,fA),(2,o8),(1,hJ),(2,hU),(2,eF),(1,bS),(1,eW),(1,hV),(1,cQ),(1,bT),(1,yZ jG 12),(1,sO),(3,cW),(1,hW),(1,hX),(1,jH),(1,cY),(1,bP),(1,fL),(2,fW),(2,hZ),(2,bU),(2,xV),(2,gN),(2,fX),(1,iA),(3,cV),(2,dR),(3,aE),(2,aO),(2,dY),(3,bV),(2,dZ)]
set_option maxHeartbeats 0 in
theorem all_mk {l:PySem.W.OpenLaw} {w:World} {h:Heap} {mg:Str->Option Value} {fa:Addr} (X:(KK w).In h) (G:h.Ns mainGlobals mg) (hfa:mg "law"=some (.ref fa)):
  ∃ ad C tn F g k n m c P0 params body scope,LawT l.prog w (KK w) mg fa "law" ad C tn F g k n m c P0 params body scope:=by
 cases hfa.symm.trans (PySem.W.mg_of X G (n:="law") (v:= .ref 371) (by kernel_rfl))
 refine⟨(aCe [24,37,49,61,73,85] 24 [94,101,106,113,120,127,132,137,142,149,156,163,170,177,182,187,195,200,207,212,217,222,227,232,237,242,247,252,259,266,272,277,282,289,296,303,308,313,318,323,330,337,344,354,359,349,366]),⟨tbL,flL,defScope (top 65),aP (defScope (top 65)),yH 50 (defBody (top 65))⟩,"",(fun _=> .bad),aJ7,58,100,15,370,368,defArgs (top 65),defBody (top 65),defScope (top 65), ?_⟩
 refine⟨⟨_,_,_,_,_,_,_,_,_,rfl,fun s u=> .of_eq rfl⟩,by kernel_rfl,by kernel_rfl,⟨rfl,by decide,by decide⟩,by kernel_rfl,by kernel_rfl,fun s₁ base H KX GX hC hB=> ?_,by kernel_rfl,by kernel_rfl,aO4⟩
 have t:PQ l.prog w (KK w) mg base base (aCe [24,37,49,61,73,85] 24 [94,101,106,113,120,127,132,137,142,149,156,163,170,177,182,187,195,200,207,212,217,222,227,232,237,242,247,252,259,266,272,277,282,289,296,303,308,313,318,323,330,337,344,354,359,349,366]) 0 [] []:= .nil KX GX (aFc (by kernel_rfl) (by kernel_rfl))
 have t:=t.int "MOST_NAMES" 4 289
 have t:=t.val "PARTS" (u:= .ref 188) (v:= .ref 188) rfl (fun G=>xD (ds:=[.int 0, .int 1, .non]) (vs:=[.int 0, .int 1, .non]) rfl rfl rfl rfl (by decide) (by repeat (first | exact .nil | refine .cons ⟨_,rfl⟩ ?_ | refine .cons rfl ?_)) (by repeat (first | exact aF.nil | refine aF.cons (by unfold Rep;rfl) ?_)))
 have t:=t.val "WORDS" (u:= .ref 267) (v:= .ref 267) rfl (aAu (ss:=["keeps 0","keeps 1","turned","rising","sum"]) rfl rfl rfl rfl (by decide) (by repeat (first | exact .nil | refine .cons ⟨_,rfl⟩ ?_)))
 have t:=t.exc "SwitchError" 0
 have t:=t.exc "NoSwitch" 1
 have t:=t.exc "NoName" 2
 have t:=t.exc "NoMove" 3
 have t:=t.exc "Unlike" 4
 have t:=t.exc "NoTerm" 5
 have t:=t.verr
 have t:=t.py .len
 have t:=t.py .range
 have t:=t.py .enum
 have t:=t.py .zip
 have t:=t.py .isin
 have t:=t.py .int
 have t:=t.py .bool
 have t:=t.py .tuple
 have t:=t.py .list
 have t:=t.py .sum
 have t:=t.py .all
 have t:=t.py .any
 have t:=t.py .sorted
 have t:=t.py .max
 have t:=t.py .abs
 have t:=t.add "is_whole" (top 9) 94 ["thing"] 1 fU rfl
 have t:=t.add "is_whole_below" (top 10) 101 ["thing","bound"] 2 aV rfl
 have t:=t.add "are_whole_below" (top 11) 106 ["things","bound"] 2 bZ rfl
 have t:=t.add "is_many" (top 12) 113 ["thing"] 1 eN rfl
 have t:=t.add "is_row" (top 13) 120 ["thing","length","bound"] 3 fV rfl
 have t:=t.add "how_many_settings" (top 14) 127 ["many"] 1 aW rfl
 have t:=t.add "setting_at" (top 15) 132 ["many","number"] 2 dG rfl
 have t:=t.add "number_of" (top 16) 137 ["setting"] 1 dW rfl
 have t:=t.add "all_settings" (top 17) 142 ["many"] 1 cF rfl
 have t:=t.add "how_many_ones" (top 18) 149 ["number"] 1 cO rfl
 have t:=t.add "is_switch" (top 20) 156 ["thing"] 1 eV rfl
 have t:=t.add "check_switch" (top 21) 163 ["thing"] 1 aH rfl
 have t:=t.add "check_alike" (top 22) 170 ["one","other"] 2 cP rfl
 have t:=t.add "check_name" (top 23) 177 ["many","thing"] 2 bR rfl
 have t:=t.add "ones" (top 24) 182 ["switch"] 1 fA rfl
 have t:=t.add "both" (top 25) 187 ["one","other"] 2 o8 rfl
 have t:=t.add "is_part" (top 28) 195 ["thing"] 1 hJ rfl
 have t:=t.add "is_term" (top 29) 200 ["many","thing"] 2 hU rfl
 have t:=t.add "check_term" (top 30) 207 ["many","thing"] 2 eF rfl
 have t:=t.add "held_at" (top 31) 212 ["term"] 1 bS rfl
 have t:=t.add "all_terms" (top 32) 217 ["many"] 1 eW rfl
 have t:=t.add "widened" (top 33) 222 ["term"] 1 hV rfl
 have t:=t.add "primes" (top 34) 227 ["switch"] 1 cQ rfl
 have t:=t.add "essentials" (top 35) 232 ["switch"] 1 bT rfl
 have t:=t.addR "summed" (top 37) 237 ["numbers"] 1 jG 12 rfl
 have t:=t.add "sums" (top 38) 242 ["switch"] 1 sO rfl
 have t:=t.add "sum_of_names" (top 39) 247 ["many","number","turn"] 3 cW rfl
 have t:=t.add "nearest" (top 40) 252 ["switch"] 1 hW rfl
 have t:=t.add "how_far" (top 41) 259 ["switch"] 1 hX rfl
 have t:=t.add "is_sum" (top 42) 266 ["switch"] 1 jH rfl
 have t:=t.add "rising_above" (top 45) 272 ["switch"] 1 cY rfl
 have t:=t.add "turns_with_names" (top 46) 277 ["switch"] 1 bP rfl
 have t:=t.add "classes" (top 47) 282 ["switch"] 1 fL rfl
 have t:=t.add "is_order" (top 49) 289 ["many","thing"] 2 fW rfl
 have t:=t.add "is_move" (top 50) 296 ["many","thing"] 2 hZ rfl
 have t:=t.add "check_move" (top 51) 303 ["many","thing"] 2 bU rfl
 have t:=t.add "led" (top 52) 308 ["setting","move"] 2 xV rfl
 have t:=t.add "moved" (top 53) 313 ["switch","move"] 2 gN rfl
 have t:=t.add "how_much" (top 55) 318 ["switch","name"] 2 fX rfl
 have t:=t.add "needed" (top 56) 323 ["switch"] 1 iA rfl
 have t:=t.add "exchanged" (top 57) 330 ["switch","one","other"] 3 cV rfl
 have t:=t.add "_law_cell" (top 59) 337 ["_law_script","_law_k"] 2 dR rfl
 have t:=t.add "_law_pick" (top 60) 344 ["_law_script","_law_k","_law_many"] 3 aE rfl
 have t:=t.add "_law_setting" (top 62) 354 ["_law_many","_law_number"] 2 aO rfl
 have t:=t.add "_law_odd" (top 63) 359 ["_law_one","_law_other"] 2 dY rfl
 have t:=t.add "_law_switch" (top 61) 349 ["_law_script","_law_at","_law_many"] 3 bV rfl
 have t:=t.add "_law_names" (top 64) 366 ["_law_script","_law_at"] 2 dZ rfl
 exact aFq (tab:=tbL) (fns:=flL) (x:="_law_script") t.B t.t t.u (by kernel_rfl) ⟨rfl,by decide,by decide⟩ hC hB
end SK.k63
open PySem PySem.W PyProof.Rows
set_option maxRecDepth 100000 in
set_option maxHeartbeats 0 in
theorem PySem.Challenge.cw_switchkinds_k63_whole_primes_led_holds : PySem.Challenge.rw_switchkinds_k63_whole_primes_led.Holds := by
 w_on
 refine PySem.W.holds_law SK.k63.sd fun said=> ?_
 refine PySem.W.holds_open (q:=SK.k63.kq) (loose:=[]) (Xt:=fun s=>PySem.W.xlAt SK.k63.kq [] s&&PySem.W.recOk (PySem.W.RowW.records (PySem.W.OpenRow.toRowW PySem.Challenge.rw_switchkinds_k63_whole_primes_led.row)) s) (XP:=PySem.W.XL SK.k63.kq []) (Yf:=PySem.W.Hook.obs (PySem.W.kHook SK.k63.kK SK.k63.kas (fun _=>by kernel_rfl))) (Ya:=PySem.W.Hook.val (PySem.W.kHook SK.k63.kK SK.k63.kas (fun _=>by kernel_rfl))) (YP:=PySem.W.Hook.says (PySem.W.kHook SK.k63.kK SK.k63.kas (fun _=>by kernel_rfl))) (N:=5520) SK.k63.left (PySem.W.Hook.of (PySem.W.kHook SK.k63.kK SK.k63.kas (fun _=>by kernel_rfl))) (PySem.W.Hook.keeps (PySem.W.kHook SK.k63.kK SK.k63.kas (fun _=>by kernel_rfl))) (fun s e=>PySem.W.xl_of s (Bool.and_eq_true_iff.mp e).1) PySem.W.XL.keeps (by rfl) (by rfl) (by rfl) (fun s e=>PySem.W.recFacts_of (Bool.and_eq_true_iff.mp e).2) (by rfl) (by first | assumption | decide+kernel) (by decide+kernel) ⟨rfl,rfl,rfl,rfl,rfl,by decide+kernel⟩ ?hw ?hc
 (case hw=>w_witness2)
 refine SK.walkT (l:=PySem.Challenge.rw_switchkinds_k63_whole_primes_led) rfl rfl (fun w h Y=>PySem.W.kIn_of Y) (Option.isSome_iff_exists.mp (by kernel_rfl)) ?F
 case F=>
  intro w mg fa h KX G hmg
  exact SK.k63.all_mk KX G hmg
