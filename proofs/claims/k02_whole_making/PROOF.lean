import PyProof.Rows.All
import Wide.All
import OpenK.AllK
import Wide.FinOn
import Lean
import PyProof.EqAt
import PyProof.EqKinds
import PyProof.TupleCall
import PySem.Syntax
import PySem.Builtin.Int.W1All
import PySem.Eval
import PyProof.StrBlockL
import PyProof.StrBlock2
import PyProof.P3Eq
import PyProof.NeData
import PyProof.Rows.IntBool
import KE.KxIndex
import PyProof.FString5
import KE.KIntText
import PyProof.ExcArgs
import PyProof.RulesAs
import PyProof.RulesDel
import KE.KTryMore
import PyProof.StrCalls2
import PyProof.StrLawsOcc
import PyProof.FitsReplace
import PyProof.DictKinds
import PyProof.MeetsDict
import PyProof.DictList
import PyProof.ZipIter
import PyProof.EnumStmt
import PyProof.ListRange
import PyProof.TupleOfSeq
import PyProof.ConsumeS
import PyProof.Rows.MinMaxGenD
import PyProof.Rows.RuleM_int
import KE.KRevSl
import PyProof.SetNew
import PyProof.Rows.SetFrom
import PyProof.TupleKey
import PyProof.FactsAll.NoneType
import KE.KSortTup
import PyProof.Rows.CallKwBuiltin
import KE.KUnpack
import PySem.Challenge.RW_switchkinds_k02_whole_making
noncomputable section
abbrev cb:=PySem.Value->PySem.Shared->Prop
abbrev cc:=List (PySem.Addr×PySem.Obj)
open PySem renaming wpAny_bind->aa,wpAny_pure->ae
open PySem.Heap renaming get?_push_of_some->af,get?_push_size->ag,lt_size->ah,size_push->ai
open Nat renaming le_refl->aj,lt_of_lt_of_le->bd,ne_of_lt->bf,zero_le->bq
open List renaming replicate->ak,length_map->am,mem_map->ao,mem_cons->aq,size_toArray->au,getElem?_eq_some_iff->av,getElem?_set_ne->ay,getElem?_eq_getElem->az,getElem?_set_self->bg,getElem?_append_right->bh,length_append->bj,length_cons->bo,mem_append_right->bp,getElem?_append_left->bt,getD_eq_getElem?_getD->bu
open Bool renaming and_eq_true->ar,false_eq_true->aw,false_ne_true->ba
open False renaming elim->ax
theorem zBd{α β:Type}{o:Option α}{f:α->Option β}{b:β}(h:o.bind f=some b): ∃a,o=some a/\f a=some b:=Option.bind_eq_some_iff.mp h
theorem zMd{α β:Type}{o:Option α}{f:α->β}{b:β}(h:o.map f=some b): ∃a,o=some a/\f a=b:=Option.map_eq_some_iff.mp h
theorem zAd{α:Type}{l:List α}{p:α->Bool}(h:l.all p=true): ∀x,x∈l->p x=true:=List.all_eq_true.mp h
theorem zPd{m n:Nat}(h:m<n):m∈List.range n:=List.mem_range.mpr h
theorem zRd{m n:Nat}(h:m∈List.range n):m<n:=List.mem_range.mp h
set_option Elab.async false
set_option linter.all false
set_option maxRecDepth 100000
namespace SK
open PySem PySem.W PyProof.Rows PySem.Calls
noncomputable def aKu(tb:String->Option Builtin)(p:Program)(w:World)(m:Nat)(ann:Option Value)(n:Nat):SharedT->Thread->Option SharedT:=
 Nat.rec (λ_ _=>none) (λ_ ih s t=>match through t with
  |true=>some s
  |false=>match stepOk m ann t with
   |false=>none
   |true=>match stepT (denote tb) p w s t with
    |some r=>ih r.1 r.2
    |none=>none) n
theorem oB{tb:String->Option Builtin}{p:Program}{w:World}{m:Nat}{ann:Option Value}: ∀(n:Nat) (s s':SharedT) (t:Thread),aKu tb p w m ann n s t=some s'->topRun tb p w m ann n s.abs t=some s'.abs
 |0,_,_,_,h=>nomatch h
 |n+1,s,s',t,h=>by
  have h:(match through t with
   |true=>some s
   |false=>match stepOk m ann t with
    |false=>none
    |true=>match stepT (denote tb) p w s t with
     |some r=>aKu tb p w m ann n r.1 r.2
     |none=>none)=some s':=h
  unfold topRun
  cases ht:through t with
  |true=>rw[ht]at h;cases h;rfl
  |false=>
   rw[ht]at h
   cases hk:stepOk m ann t with
   |false=>rw[hk]at h;cases h
   |true=>
    rw[hk]at h
    cases hs:stepT (denote tb) p w s t with
    |none=>rw[hs]at h;cases h
    |some r=>obtain⟨s₂,t₂⟩:=r;rw[hs]at h;rw[stepT_spec hs];exact oB n _ _ _ h
noncomputable def BTl:Nat->List Obj->BT
 |0,_=>.nil
 |n+1,l=>match l with
  |[]=>.nil
  |v::r=>.node v (BTl n (ev true r)) (BTl n (ev false r))
where
 ev:Bool->List Obj->List Obj
 |_,[]=>[]
 |true,v::r=>v::ev false r
 |false,_::r=>ev true r
def bt0(P:Params):BT:=BTl 12 (boot_heap P).objs.toList
def sT0(P:Params)(os:OsState):SharedT:=⟨bt0 P,(boot_heap P).objs.size,(boot_heap P).life, #[],boot_drawn,boot_toks,os⟩
theorem aGv(P:Params):absHeap (bt0 P) (boot_heap P).objs.size (boot_heap P).life=boot_heap P:=by kernel_rfl
theorem aC6(P:Params):(boot_heap P).isNs mainGlobals=true:=by kernel_rfl
def aC7(p q:Program)(loose:List Str)(Xt:Shared->Bool){α:Type}(Yf:Shared->α)(P:Params)(s:Shared):=
 (staticsOk (importedModules p.main.body) (boot_heap P) s.heap&&namesBound p s.heap&&gensDone s&&laidKept (boot_heap P) s.heap,openSeen q loose (importedModules p.main.body) Xt true s,Yf s)
def aMp(p:Program)(N:Nat)(w:World)(os:OsState):Option SharedT:=aKu treeTable p w (boot_heap w.params).objs.size ((boot_heap w.params).nsMap mainGlobals "__annotations__") N (sT0 w.params os) (topStub p)
theorem left_tree{p q:Program}{loose:List Str}{Xt:Shared->Bool}{α:Type}{Yf:Shared->α}{Ya:World->α}{N:Nat}
  (e:opening p=plainProg p.main.scope.names) (hN:Nat.ble 600 N=true) (f: ∀s,fenceModules? p s=some s)
  (hk: ∀w os,(aMp p N w os).map (λs=>aC7 p q loose Xt Yf w.params s.abs)=some (true,openGood q loose,Ya w)):LeftO p q loose Xt Yf Ya N:=λw=>by
 obtain⟨s0,b1,b2⟩:=zMd (boot_open e hN f w);obtain⟨h,gs,d,k,os⟩:=s0;obtain⟨rfl,rfl,rfl,rfl⟩:h=boot_heap w.params/\gs=Array.mk []/\d=boot_drawn/\k=boot_toks:=by simpa using b2
 obtain⟨s,r,l⟩:=zMd (hk w os);obtain⟨l1,l2,l3⟩:_/\_/\_:=by simpa only[aC7,Prod.mk.injEq]using l
 have r':=oB _ _ _ _ r
 have h0:(sT0 w.params os).abs=⟨boot_heap w.params,Array.mk [],boot_drawn,boot_toks,os⟩:=by
  show(⟨absHeap (bt0 w.params) (boot_heap w.params).objs.size (boot_heap w.params).life, #[],boot_drawn,boot_toks,os⟩:Shared)=_
  rw[aGv]
 rw[h0]at r'
 have t:topFrom treeTable p w N ⟨boot_heap w.params,Array.mk [],boot_drawn,boot_toks,os⟩=some s.abs:=by
  unfold topFrom
  dsimp only
  rw[aC6,r']
  show(match staticsOk (importedModules p.main.body) (boot_heap w.params) s.abs.heap&&namesBound p s.abs.heap&&gensDone s.abs&&laidKept (boot_heap w.params) s.abs.heap with|true=>_|false=>_)=_
  rw[l1]
 unfold openEnds;rw[b1]
 show(topFrom treeTable p w N _).map _=_
 rw[t];exact congrArg some (Prod.ext l2 l3)
universe u
def kt{α:Sort u}(_:α):Bool:=true
def q1(p q:Program)(lo:List Str)(N:Nat)(c:WRecords)(a:List Addr)(w:World)(os:OsState):=(aMp p N w os).map λs=>aC7 p q lo (λs=>xlAt q [] s&&recOk c s) (λs=>a.map s.heap.get?) w.params s.abs
theorem tg:kt q1=true:=by k_qdec
end SK
set_option maxHeartbeats 0
namespace L2
open PySem
noncomputable def defArgs(s:Stmt):Arguments:=match s with
 |.FunctionDef _ a _ _ _ _ _ _ _ _=>a
 |_=>{posonlyargs:=[],args:=[],vararg:=none,kwonlyargs:=[],kw_defaults:=[],kwarg:=none,defaults:=[]}
def defBody(s:Stmt):List Stmt:=match s with
 |.FunctionDef _ _ b _ _ _ _ _ _ _=>b
 |_=>[]
def defScope(s:Stmt):Scope:=match s with
 |.FunctionDef _ _ _ _ _ _ sc _ _ _=>sc
 |_=>{kind:=.function,names:=[],isGenerator:=false,isCoroutine:=false}
end L2
namespace SK.k02
open PySem
noncomputable def top(i:Nat):Stmt:=PySem.Challenge.pw_switchkinds_k02_whole_making.main.body.getD i (.Pass ⟨0,0,0,0⟩)
noncomputable abbrev en(P:Params)(k:Str)(t:Nat)(v:Value):DictEntry:=⟨PyData.keyHash P k,.str k t,v⟩
abbrev fo(st:Stmt)(x m:Str)(t c:Nat):Obj:={cls:=.type "function",data:=.func {name:=x,qualname:=x,params:=L2.defArgs st,body:=.stmts (L2.defBody st),scope:=L2.defScope st,globals:=3,closure:=[],defaults:=.none,kwdefaults:=.none,pyModule:=.str m t,code:=.ref c} }
noncomputable abbrev co(vs:Array Value):Obj:={cls:=.type "code",data:=.fields vs}
abbrev cC(x:Str)(a l n r e:Nat)(u v w:Value):Obj:=co #[.str x a,.str x (a+1),.str "/claim/cut.py" (a+2),.int l 0,.int n 0,.int 0 0,.int 0 0,.int 3 0,.ref r,.bool true,.int 181 0,.ref (r+1),.none,u,v,w,.int e 0,.int l 0,.str "/claim/cut.py" (e+1)]
abbrev cA(x:Str)(a l n r e:Nat):Obj:=cC x a l n r e .none .none (.ref (r+2))
abbrev cB(x:Str)(a l n r e:Nat):Obj:=cC x a l n r e (.ref (r+2)) (.ref (r+3)) (.ref (r+4))
noncomputable abbrev cK(x:Str)(f c ns s a b:Nat):Obj:={cls:=.type "type",data:=.cls {name:=x,bases:=[.ref c],mro:=[.ref f,.ref c,.type "ValueError",.type "Exception",.type "BaseException",.type "object"],ns:=ns,qualname:=x},slots:= #[some (.ref s),none,some (.str x a),some (.str x b),some (.builtin "ValueError.__new__"),some (.bool true)]}
abbrev dK(P:Params)(m:Str)(q a l r:Nat):Obj:={cls:=.type "dict",data:=.dict #[en P "__module__" a (.str m q),en P "__firstlineno__" (a+4) (.int l (a+3)),en P "__static_attributes__" (a+5) (.ref r),en P "__doc__" (a+6) .none] 2}
def kK:Params->PySem.W.Frag:=λP=>[
(3,{cls:=.type "dict",data:=.dict #[en P "__name__" 165 (.str "law_switchkinds_k02_whole_making" 481),en P "__doc__" 166 .none,en P "__package__" 167 .none,en P "__loader__" 168 (.builtin "__main__.__loader__#opaque"),en P "__spec__" 169 .none,en P "__annotations__" 170 (.ref 6),en P "__builtins__" 171 (.ref 4),en P "__file__" 173 (.str "/claim/cut.py" 172),en P "__cached__" 174 .none,en P "SwitchError" 206 (.ref 24),en P "NoSwitch" 222 (.ref 37),en P "NoName" 238 (.ref 49),en P "NoMove" 254 (.ref 61),en P "Unlike" 270 (.ref 73),en P "NoSums" 286 (.ref 85),en P "NoText" 302 (.ref 97),en P "MOST_NAMES" 306 (.int 4 305),en P "MOST_NAMES_LISTED" 308 (.int 3 307),en P "is_whole" 315 (.ref 106),en P "is_whole_below" 323 (.ref 113),en P "are_whole_below" 329 (.ref 118),en P "is_many" 336 (.ref 125),en P "is_many_listed" 343 (.ref 132),en P "is_row" 352 (.ref 139),en P "all_rows" 363 (.ref 146),en P "how_many_settings" 370 (.ref 153),en P "number_of" 376 (.ref 158),en P "is_switch" 385 (.ref 165),en P "check_switch" 392 (.ref 172),en P "check_alike" 400 (.ref 179),en P "check_many" 407 (.ref 186),en P "check_name" 415 (.ref 193),en P "check_worth" 422 (.ref 200),en P "worth_at" 430 (.ref 207),en P "ones" 436 (.ref 212),en P "both" 442 (.ref 217),en P "either" 448 (.ref 222),en P "unlike" 454 (.ref 227),en P "of_ones" 460 (.ref 232),en P "constant" 468 (.ref 239),en P "single" 474 (.ref 244),en P "all_switches" 480 (.ref 249),en P "_law_cell" 490 (.ref 256),en P "_law_pick" 500 (.ref 263),en P "_law_switch" 506 (.ref 268),en P "_law_setting" 512 (.ref 273),en P "_law_number" 518 (.ref 278),en P "_law_odd" 524 (.ref 283),en P "_law_names" 532 (.ref 290),en P "_law_places" 538 (.ref 295),en P "_law_put" 548 (.ref 302),en P "_law_spoilt_thing" 563 (.ref 309),en P "_law_is_bit" 570 (.ref 316),en P "_law_is_switch" 576 (.ref 321),en P "_law_is_move" 582 (.ref 326),en P "_law_word" 590 (.ref 333),en P "_law_do" 602 (.ref 340),en P "_law_are_made_right" 608 (.ref 345),en P "law" 614 (.ref 350)] 59}),
(23,{cls:=.type "dict",data:=.dict #[en P "__module__" 196 (.str "switchkinds.errors" 187),en P "__firstlineno__" 200 (.int 2 199),en P "__static_attributes__" 201 (.ref 22),en P "__weakref__" 203 (.ref 25),en P "__doc__" 204 .none] 3}),
(24,{cls:=.type "type",data:=.cls {name:="SwitchError",bases:=[.type "ValueError"],mro:=[.ref 24,.type "ValueError",.type "Exception",.type "BaseException",.type "object"],ns:=23,qualname:="SwitchError",subclasses:=[.ref 37,.ref 49,.ref 61,.ref 73,.ref 85,.ref 97]},slots:= #[some (.ref 15),none,some (.str "SwitchError" 189),some (.str "SwitchError" 197),some (.builtin "ValueError.__new__"),some (.bool true)]}),
(25,{cls:=.type "getset_descriptor",data:=.fields #[.str "__weakref__" 202,.ref 24,.builtin "ExceptionGroup.__weakref__",.none]}),
(36,dK P "switchkinds.errors" 187 214 4 35),
(37,cK "NoSwitch" 37 24 36 28 207 215),
(48,dK P "switchkinds.errors" 187 230 6 47),
(49,cK "NoName" 49 24 48 40 223 231),
(60,dK P "switchkinds.errors" 187 246 8 59),
(61,cK "NoMove" 61 24 60 52 239 247),
(72,dK P "switchkinds.errors" 187 262 10 71),
(73,cK "Unlike" 73 24 72 64 255 263),
(84,dK P "switchkinds.errors" 187 278 12 83),
(85,cK "NoSums" 85 24 84 76 271 279),
(96,dK P "switchkinds.errors" 187 294 14 95),
(97,cK "NoText" 97 24 96 88 287 295),
(105,cB "is_whole" 309 19 1 100 313),
(106,fo (top 11) "is_whole" "switchkinds.wholes" 303 105),
(112,cB "is_whole_below" 316 21 2 107 321),
(113,fo (top 12) "is_whole_below" "switchkinds.wholes" 303 112),
(117,cA "are_whole_below" 324 23 2 114 327),
(118,fo (top 13) "are_whole_below" "switchkinds.wholes" 303 117),
(124,cB "is_many" 330 25 1 119 334),
(125,fo (top 14) "is_many" "switchkinds.wholes" 303 124),
(131,cB "is_many_listed" 337 27 1 126 341),
(132,fo (top 15) "is_many_listed" "switchkinds.wholes" 303 131),
(138,cB "is_row" 344 29 3 133 350),
(139,fo (top 16) "is_row" "switchkinds.wholes" 303 138),
(145,cB "all_rows" 353 31 1 140 361),
(146,fo (top 17) "all_rows" "switchkinds.wholes" 303 145),
(152,cB "how_many_settings" 364 40 1 147 368),
(153,fo (top 18) "how_many_settings" "switchkinds.wholes" 303 152),
(157,cA "number_of" 371 42 1 154 374),
(158,fo (top 19) "number_of" "switchkinds.wholes" 303 157),
(164,cB "is_switch" 379 45 1 159 383),
(165,fo (top 21) "is_switch" "switchkinds.switches" 377 164),
(171,cB "check_switch" 386 49 1 166 390),
(172,fo (top 22) "check_switch" "switchkinds.switches" 377 171),
(178,cB "check_alike" 393 52 2 173 398),
(179,fo (top 23) "check_alike" "switchkinds.switches" 377 178),
(185,cB "check_many" 401 57 1 180 405),
(186,fo (top 24) "check_many" "switchkinds.switches" 377 185),
(192,cB "check_name" 408 60 2 187 413),
(193,fo (top 25) "check_name" "switchkinds.switches" 377 192),
(199,cB "check_worth" 416 63 1 194 420),
(200,fo (top 26) "check_worth" "switchkinds.switches" 377 199),
(206,cB "worth_at" 423 66 2 201 428),
(207,fo (top 27) "worth_at" "switchkinds.switches" 377 206),
(211,cA "ones" 431 71 1 208 434),
(212,fo (top 28) "ones" "switchkinds.switches" 377 211),
(216,cA "both" 437 74 2 213 440),
(217,fo (top 29) "both" "switchkinds.switches" 377 216),
(221,cA "either" 443 77 2 218 446),
(222,fo (top 30) "either" "switchkinds.switches" 377 221),
(226,cA "unlike" 449 80 2 223 452),
(227,fo (top 31) "unlike" "switchkinds.switches" 377 226),
(231,cA "of_ones" 455 83 2 228 458),
(232,fo (top 32) "of_ones" "switchkinds.switches" 377 231),
(238,cB "constant" 461 89 2 233 466),
(239,fo (top 33) "constant" "switchkinds.switches" 377 238),
(243,cA "single" 469 93 2 240 472),
(244,fo (top 34) "single" "switchkinds.switches" 377 243),
(248,cA "all_switches" 475 97 1 245 478),
(249,fo (top 35) "all_switches" "switchkinds.switches" 377 248),
(255,cB "_law_cell" 483 102 2 250 488),
(256,fo (top 37) "_law_cell" "law_switchkinds_k02_whole_making" 481 255),
(262,cB "_law_pick" 491 108 3 257 498),
(263,fo (top 38) "_law_pick" "law_switchkinds_k02_whole_making" 481 262),
(267,cA "_law_switch" 501 111 3 264 504),
(268,fo (top 39) "_law_switch" "law_switchkinds_k02_whole_making" 481 267),
(272,cA "_law_setting" 507 127 2 269 510),
(273,fo (top 40) "_law_setting" "law_switchkinds_k02_whole_making" 481 272),
(282,cA "_law_odd" 519 131 2 279 522),
(283,fo (top 42) "_law_odd" "law_switchkinds_k02_whole_making" 481 282),
(294,cA "_law_places" 533 135 1 291 536),
(295,fo (top 44) "_law_places" "law_switchkinds_k02_whole_making" 481 294),
(301,cB "_law_put" 539 141 3 296 546),
(302,fo (top 45) "_law_put" "law_switchkinds_k02_whole_making" 481 301),
(308,cB "_law_spoilt_thing" 549 146 3 303 561),
(309,fo (top 46) "_law_spoilt_thing" "law_switchkinds_k02_whole_making" 481 308),
(315,cB "_law_is_bit" 564 160 1 310 568),
(316,fo (top 47) "_law_is_bit" "law_switchkinds_k02_whole_making" 481 315),
(320,cA "_law_is_switch" 571 162 1 317 574),
(321,fo (top 48) "_law_is_switch" "law_switchkinds_k02_whole_making" 481 320),
(332,cB "_law_word" 583 178 1 327 588),
(333,fo (top 50) "_law_word" "law_switchkinds_k02_whole_making" 481 332),
(339,cB "_law_do" 591 184 3 334 600),
(340,fo (top 51) "_law_do" "law_switchkinds_k02_whole_making" 481 339),
(344,cA "_law_are_made_right" 603 199 1 341 606),
(345,fo (top 52) "_law_are_made_right" "law_switchkinds_k02_whole_making" 481 344),
(349,cA "law" 609 220 1 346 612),
(350,fo (top 53) "law" "law_switchkinds_k02_whole_making" 481 349)]
noncomputable def kas:List Addr:=[3,23,24,25,36,37,48,49,60,61,72,73,84,85,96,97,105,106,112,113,117,118,124,125,131,132,138,139,145,146,152,153,157,158,164,165,171,172,178,179,185,186,192,193,199,200,206,207,211,212,216,217,221,222,226,227,231,232,238,239,243,244,248,249,255,256,262,263,267,268,272,273,282,283,294,295,301,302,308,309,315,316,320,321,332,333,339,340,344,345,349,350]
def kq:Program:={PySem.Challenge.pw_switchkinds_k02_whole_making with main:={PySem.Challenge.pw_switchkinds_k02_whole_making.main with body:=[top 1,top 2,top 3,top 4,top 5,top 6,top 7,top 9,top 10,top 11,top 12,top 13,top 14,top 15,top 16,top 17,top 18,top 19,top 21,top 22,top 23,top 24,top 25,top 26,top 27,top 28,top 29,top 30,top 31,top 32,top 33,top 34,top 35,top 37,top 38,top 39,top 40,top 41,top 42,top 43,top 44,top 45,top 46,top 47,top 48,top 49,top 50,top 51,top 52,top 53]} }
theorem sd:PySem.Challenge.rw_switchkinds_k02_whole_making.wellSaid=true:=by kernel_rfl
theorem lk(w:World)(os:OsState):SK.q1 PySem.Challenge.rw_switchkinds_k02_whole_making.row.prog kq [] 5498 (PySem.W.RowW.records (PySem.W.OpenRow.toRowW PySem.Challenge.rw_switchkinds_k02_whole_making.row)) kas w os=some (true,PySem.W.openGood kq [],(kK w.params).map λp=>some p.2):=by
 have _:=SK.tg;rw[PySem.W.Fast.te11324695928718235439]
 kernel_rfl
theorem left:PySem.W.LeftO PySem.Challenge.rw_switchkinds_k02_whole_making.row.prog kq [] (λs=>PySem.W.xlAt kq [] s&&PySem.W.recOk (PySem.W.RowW.records (PySem.W.OpenRow.toRowW PySem.Challenge.rw_switchkinds_k02_whole_making.row)) s) (PySem.W.Hook.obs (PySem.W.kHook kK kas (λ_=>by kernel_rfl))) (PySem.W.Hook.val (PySem.W.kHook kK kas (λ_=>by kernel_rfl))) 5498:=SK.left_tree (by kernel_rfl) (by kernel_rfl) (λ_=>by kernel_rfl) lk
end SK.k02
namespace L2
open PySem PySem.Spec PyProof.Rows
abbrev Key:=Sum Int Str
def aGw:Key->Value->Bool
 |.inl k,v=>Value.isInt k v
 |.inr x,v=>Value.isStrOf x v
noncomputable def aNj(w:World):Key->Int
 |.inl k=>hashInt k
 |.inr x=>hashStr w x
theorem bY: ∀{k:Key} {v:Value},aGw k v=true->(∃i t,k=Sum.inl i/\v=Value.int i t)\/(∃x t,k=Sum.inr x/\v=Value.str x t)
 |.inl i,v,h=>by
  obtain⟨t,e⟩:=Value.isInt_shape (k:=i) (v:=v) h;exact .inl ⟨i,t,rfl,e⟩
 |.inr x,v,h=>by
  obtain⟨t,e⟩:=Value.isStrOf_shape (x:=x) (v:=v) h;exact .inr ⟨x,t,rfl,e⟩
theorem aGx(a b:Int):decide ((Sum.inl a:Key)=Sum.inl b)=(a==b):=by
 by_cases e:a=b
 ·subst e;simp
 ·have h: ¬(Sum.inl a:Key)=Sum.inl b:=λq=>e (Sum.inl.inj q)
  rw[decide_eq_false h];exact(beq_eq_false_iff_ne.mpr e).symm
theorem aGy(a b:Str):decide ((Sum.inr a:Key)=Sum.inr b)=decide (a=b):=by
 by_cases e:a=b
 ·subst e;simp
 ·have h: ¬(Sum.inr a:Key)=Sum.inr b:=λq=>e (Sum.inr.inj q)
  rw[decide_eq_false h,decide_eq_false e]
theorem aGz(a:Int)(b:Str):decide ((Sum.inl a:Key)=Sum.inr b)=false:=decide_eq_false (λq=>nomatch q)
theorem aG0(a:Str)(b:Int):decide ((Sum.inr a:Key)=Sum.inl b)=false:=decide_eq_false (λq=>nomatch q)
def vM(prog:Program)(w:World):PySem.KeyKind prog w Key where
 is:=aGw
 hash:=aNj w
 inj:=λv a b ha hb=>by
  rcases bY ha with ⟨i,t,rfl,rfl⟩|⟨x,t,rfl,rfl⟩
  ·rcases bY hb with ⟨j,u,rfl,e⟩|⟨y,u,rfl,e⟩
   ·injection e with e1 _;rw[e1]
   ·exact nomatch e
  ·rcases bY hb with ⟨j,u,rfl,e⟩|⟨y,u,rfl,e⟩
   ·exact nomatch e
   ·injection e with e1 _;rw[e1]
 byValue:=λk v h=>by
  rcases bY h with ⟨i,t,rfl,rfl⟩|⟨x,t,rfl,rfl⟩<;>rfl
 pyHash:=λhv h=>by
  rcases bY hv with ⟨i,t,rfl,rfl⟩|⟨x,t,rfl,rfl⟩
  ·exact wpAny_pyHash_int h
  ·exact wpAny_pyHash_str h
 eqBool:=λhu hv h=>by
  rcases bY hu with ⟨i,t,rfl,rfl⟩|⟨x,t,rfl,rfl⟩
  ·rcases bY hv with ⟨j,u,rfl,rfl⟩|⟨y,u,rfl,rfl⟩
   ·rw[aGx]at h;exact wpAny_eqBool_int h
   ·rw[aGz]at h;exact SeqAt.EqAt.int_str i t y u _ _ _ _ h
  ·rcases bY hv with ⟨j,u,rfl,rfl⟩|⟨y,u,rfl,rfl⟩
   ·rw[aG0]at h;exact SeqAt.EqAt.str_int x t j u _ _ _ _ h
   ·rw[aGy]at h;exact wpAny_eqBool_str h
 «strs»:=λk x t v h=>by
  rcases bY h with ⟨i,u,rfl,e⟩|⟨y,u,rfl,e⟩
  ·exact nomatch e
  ·injection e with e1 _
   subst e1
   cases v<;>rfl
inductive V where
 |non|bl (b:Bool)|int (i:Int)|str (x:Str)|byt (b:Array UInt8)|flt (b:UInt64)|ref (a:Addr)|ty (n:String)
 deriving DecidableEq
noncomputable def cD:V->Value->Prop
 |.non,u=>u=Value.none
 |.bl b,u=>u=Value.bool b
 |.int i,u=>∃t,u=Value.int i t
 |.str x,u=>∃t,u=Value.str x t
 |.byt b,u=>∃t,u=Value.bytes b t
 |.flt b,u=>∃t,u=Value.float b t
 |.ref a,u=>u=Value.ref a
 |.ty n,u=>u=Value.type n
abbrev bZ:List V->List Value->Prop:=Paired cD
theorem bZ.length{xs:List V}{us:List Value}(r:bZ xs us):xs.length=us.length:=Paired.length r
theorem bZ.get: ∀{xs:List V} {us:List Value} {i:Nat} {x:V},bZ xs us->xs[i]? =some x->∃u,us[i]? =some u/\cD x u
 |_,_,_,_,.nil,e=>by simp at e
 |_,_,0,_,.cons r _,e=>by simp at e;subst e;exact⟨_,rfl,r⟩
 |_,_,i+1,x,.cons _ t,e=>by
  obtain⟨u,h1,h2⟩:=bZ.get (i:=i) (x:=x) t (by simpa using e)
  exact⟨u,by simpa using h1,h2⟩
theorem bZ.set{x:V}{u:Value}(r:cD x u): ∀{xs:List V} {us:List Value} (i:Nat),bZ xs us->bZ (xs.set i x) (us.set i u)
 |_,_,_,.nil=>.nil
 |_,_,0,.cons _ t=>.cons r t
 |_,_,i+1,.cons q t=>.cons q (bZ.set r i t)
theorem bZ.append: ∀{xs ys:List V} {us ws:List Value},bZ xs us->bZ ys ws->bZ (xs++ys) (us++ws)
 |_,_,_,_,.nil,s=>s
 |_,_,_,_,.cons r t,s=>.cons r (bZ.append t s)
theorem bZ.take: ∀{xs:List V} {us:List Value} (n:Nat),bZ xs us->bZ (xs.take n) (us.take n)
 |_,_,0,_=>.nil
 |_,_,_+1,.nil=>.nil
 |_,_,n+1,.cons r t=>.cons r (bZ.take n t)
theorem bZ.drop: ∀{xs:List V} {us:List Value} (n:Nat),bZ xs us->bZ (xs.drop n) (us.drop n)
 |_,_,0,r=>r
 |_,_,_+1,.nil=>.nil
 |_,_,n+1,.cons _ t=>bZ.drop n t
def aMq:Option V->Option Value->Prop
 |some v,some u=>cD v u
 |none,none=>True
 |_,_=>False
def KV{κ:Type}:List (κ×V)->List (κ×Value)->Prop:=Paired λ(p:κ×V) (q:κ×Value)=>p.1=q.1/\cD p.2 q.2
def kV:Key->V
 |.inl i=>.int i
 |.inr x=>.str x
inductive HO where
 /-- a list -/
 |lst (xs:List V)
 /-- a tuple (never changes) -/
 |tup (xs:List V)
 /-- a dict whose keys are ints and texts;one whose keys are tuples of ints and texts (the empty one is both) -/
 |dK (kvs:List (Key×V))|dT (kvs:List (List Key×V))
 /-- a set of ints:its members,its size -/
 |set (S:Int->Bool) (n:Nat)
 /-- an instance of the class at C,its dict at dx,its attributes -/
 |ins (C dx:Addr) (fs:List (Str×V))
 /-- the dict of the instance at x -/
 |own (x:Addr)
 /-- the dict of an exception -/
 |xd (fs:List (Str×V))
 /-- a bound method,f of x -/
 |met (f x:Addr)
 /-- a range object lo,lo+1,.. below hi -/
 |rng (lo hi:Int)
 /-- a thing that is known to the object (the script;a dict while a loop walks it):read,never written while it is so -/
 |frz (o:Obj) (u:HO)
 /-- a code object's table -/
 |tbl (ps:Array Value)
 /-- any other thing,by what is true of its one object (a def of one's own:SetO a S n:=HO.ext λh=>..) -/
 |ext (φ:Heap->Prop)
abbrev Hp:=Addr->Option HO
def upd(H:Hp)(a:Addr)(o:HO):Hp:=λb=>if b=a then some o else H b
theorem a9{H:Hp}{a:Addr}{o:HO}:upd H a o a=some o:=by unfold upd;rw[if_pos rfl]
theorem aO{H:Hp}{a b:Addr}{o:HO}(h:b≠a):upd H a o b=H b:=by unfold upd;rw[if_neg h]
theorem bJ{H:Hp}{a b:Addr}{o:HO}(h:H a=some o)(h':H b=none):a≠b:=by
 intro e;subst e;rw[h]at h';cases h'
def aG1(h:Heap)(a:Addr):Prop:= ∃o,h.get? a=some o/\o.dict=none
section
variable (P:Program) (w:World)
def ObjOk(H:Hp)(h:Heap)(a:Addr):HO->Prop
 |.lst xs=>xs.length<=sizeLine/\∃(its:List Value) (n:Nat),bZ xs its/\h.get? a=some {cls:=.type "list",data:=.seq its.toArray n}
 |.tup xs=>xs.length<=sizeLine/\∃its:List Value,bZ xs its/\IsTup h a its.toArray/\aG1 h a
 |.dK kvs=>kvs.length<=sizeLine/\(a==sysModules)=false/\∃vs,KV kvs vs/\h.DictOf (vM P w) a vs
 |.dT kvs=>kvs.length<=sizeLine/\(a==sysModules)=false/\∃xs:List (List Key×Addr×Value),
   Paired (λ(p:List Key×V) (q:List Key×Addr×Value)=>p.1=q.1/\H q.2.1=some (.tup (p.1.map kV))/\cD p.2 q.2.2) kvs xs/\
   ∃o es ep,h.get? a=some o/\o.ExactDict/\o.data= .dict es ep/\es.toList=xs.map (entryOfKey (tupleKind (vM P w)))/\(xs.map (·.1)).Nodup
 |.set S n=>h.SetOf (intKind P w) a S n
 |.ins C dx fs=>H dx=some (.own a)/\fs.length<=1000/\dx≠a/\h.get? a=some (PySem.W.instObj C dx)/\
   ∃mA,h.Ns1 dx mA/\(∀f,aMq (fs.lookup f) (mA f))/\PySem.Within mA (fs.map (·.1))
 |.own _=>∃o,h.get? a=some o
 |.xd fs=>∃mA,h.Ns1 a mA/\∀f,aMq (fs.lookup f) (mA f)
 |.rng lo hi=>∃t u v,h.get? a=some {cls:=.type "range",data:=.fields #[.int lo t,.int hi u,.int 1 v]}
 |.frz o u=>h.get? a=some o/\ObjOk H h a u
 |.tbl ps=>h.get? a=some {cls:=.none,data:=.fields ps}
 |.met f x=>h.get? a=some (PySem.W.methodObj (.ref f) (.ref x))
 |.ext φ=>φ h/\(∃o,h.get? a=some o)/\∀h1 h2:Heap,φ h1->(∀o,h1.get? a=some o->h2.get? a=some o)->φ h2
def HOk(H:Hp)(h:Heap):Prop:= ∀a o,H a=some o->ObjOk P w H h a o
end
section
variable {P:Program} {w:World} {H H':Hp} {h h':Heap} {a:Addr} {o:HO}
theorem ObjOk.lt(x:ObjOk P w H h a o):a<h.objs.size:=by
 cases o with
 |lst xs=>obtain⟨_,_,_,_,e⟩:=x;exact ah e
 |tup xs=>obtain⟨_,_,_,p,_⟩:=x;exact p.lt
 |dK kvs=>obtain⟨_,_,_,_,o,_,_,e,_⟩:=x;exact ah e
 |dT kvs=>obtain⟨_,_,_,_,o,_,_,e,_⟩:=x;exact ah e
 |set S n=>obtain⟨o,_,_,_,e,_⟩:=x;exact ah e
 |ins C dx fs=>obtain⟨_,_,_,e,_⟩:=x;exact ah e
 |own y=>obtain⟨_,e⟩:=x;exact ah e
 |xd fs=>obtain⟨_,⟨_,_,_,e,_⟩,_⟩:=x;exact ah e
 |rng lo hi=>obtain⟨_,_,_,e⟩:=x;exact ah e
 |frz ob u=>obtain⟨e,_⟩:=x;exact ah e
 |tbl ps=>exact ah (show h.get? a=some _ from x)
 |met f y=>exact ah (show h.get? a=some _ from x)
 |ext φ=>obtain⟨_,⟨_,e⟩,_⟩:=x;exact ah e
theorem Paired.mapP{α β:Type}{F G:α->β->Prop}: ∀{l₁:List α} {l₂:List β},Paired F l₁ l₂->(∀a b,F a b->G a b)->Paired G l₁ l₂
 |_,_,.nil,_=>.nil
 |_,_,.cons r t,f=>.cons (f _ _ r) (Paired.mapP t f)
theorem ObjOk.stay(x:ObjOk P w H h a o)(k: ∀b u,(b=a\/H b=some (.own a))->h.get? b=some u->h'.get? b=some u)
  (ho: ∀b,H b=some (.own a)->H' b=some (.own a)) (ht: ∀b xs,H b=some (.tup xs)->H' b=some (.tup xs)):ObjOk P w H' h' a o:=by
 induction o with
 |lst xs=>obtain⟨z,its,n,r,e⟩:=x;exact⟨z,its,n,r,k _ _ (.inl rfl) e⟩
 |tup xs=>obtain⟨z,its,r,⟨ob,e,c⟩,od,e',d⟩:=x;exact⟨z,its,r,⟨ob,k _ _ (.inl rfl) e,c⟩,od,k _ _ (.inl rfl) e',d⟩
 |dK kvs=>obtain⟨z,y,vs,r,ob,es,ep,e,c⟩:=x;exact⟨z,y,vs,r,ob,es,ep,k _ _ (.inl rfl) e,c⟩
 |dT kvs=>
  obtain⟨z,y,xs,r,ob,es,ep,e,c⟩:=x;exact⟨z,y,xs,Paired.mapP r λp q z=>⟨z.1,ht _ _ z.2.1,z.2.2⟩,ob,es,ep,k _ _ (.inl rfl) e,c⟩
 |set S n=>obtain⟨ob,es,ep,t,e,c⟩:=x;exact⟨ob,es,ep,t,k _ _ (.inl rfl) e,c⟩
 |ins C dx fs=>
  obtain⟨d,z,ne,e,mA,⟨od,es,ep,e2,c⟩,r⟩:=x;exact⟨ho _ d,z,ne,k _ _ (.inl rfl) e,mA,⟨od,es,ep,k _ _ (.inr d) e2,c⟩,r⟩
 |own y=>obtain⟨ob,e⟩:=x;exact⟨ob,k _ _ (.inl rfl) e⟩
 |xd fs=>obtain⟨mA,⟨od,es,ep,e,c⟩,r⟩:=x;exact⟨mA,⟨od,es,ep,k _ _ (.inl rfl) e,c⟩,r⟩
 |rng lo hi=>obtain⟨t,u,v,e⟩:=x;exact⟨t,u,v,k _ _ (.inl rfl) e⟩
 |frz ob u ih=>obtain⟨e,q⟩:=x;exact⟨k _ _ (.inl rfl) e,ih q⟩
 |tbl ps=>
  have e:h.get? a=some {cls:=.none,data:=.fields ps}:=x
  show h'.get? a=some {cls:=.none,data:=.fields ps};exact k a _ (.inl rfl) e
 |met f y=>
  have e:h.get? a=some (PySem.W.methodObj (.ref f) (.ref y)):=x
  show h'.get? a=some (PySem.W.methodObj (.ref f) (.ref y));exact k a _ (.inl rfl) e
 |ext φ=>obtain⟨p,⟨o,e⟩,st⟩:=x;exact⟨st _ _ p λo q=>k _ _ (.inl rfl) q,⟨o,k _ _ (.inl rfl) e⟩,st⟩
theorem HOk.lt(x:HOk P w H h)(e:H a=some o):a<h.objs.size:=(x a o e).lt
theorem HOk.fresh(x:HOk P w H h)(e:h.objs.size<=a):H a=none:=by
 cases q:H a with
 |none=>rfl
 |some u=>exact absurd (bd (x.lt q) e) (Nat.lt_irrefl _)
theorem HOk.kept(x:HOk P w H h)(k: ∀b u,h.get? b=some u->h'.get? b=some u):HOk P w H h':=λa o e=>
 (x a o e).stay (λb u _ q=>k b u q) (λ_ q=>q) λ_ _ q=>q
theorem HOk.laid(x:HOk P w H h)(k: ∀b u,h.get? b=some u->h'.get? b=some u)(hp:h.objs.size<=a)(new:ObjOk P w (upd H a o) h' a o):HOk P w (upd H a o) h':=λb u e=>by
 have hn:=x.fresh hp
 by_cases hb:b=a
 ·subst hb;rw[a9]at e;cases e;exact new
 ·rw[aO hb]at e;exact(x b u e).stay (λc v _ q=>k c v q) (λc q=>by rw[aO (bJ q hn)];exact q) λc xs q=>by rw[aO (bJ q hn)];exact q
end
def Rd(H:Hp)(a:Addr)(u:HO):Prop:=H a=some u\/∃o,H a=some (.frz o u)
theorem Rd.ok{P:Program}{w:World}{H:Hp}{h:Heap}{a:Addr}{u:HO}(r:Rd H a u)(x:HOk P w H h):ObjOk P w H h a u:=by
 rcases r with r|⟨o,r⟩
 ·exact x a u r
 ·obtain⟨_,q⟩:=x a _ r;exact q
def Mut:Option HO->Prop
 |some (.lst _)=>True
 |some (.dK _)=>True
 |some (.dT _)=>True
 |some (.set _ _)=>True
 |some (.ins _ _ _)=>True
 |some (.ext _)=>True
 |_=>False
section
variable {P:Program} {w:World} {H:Hp} {h h':Heap} {x e:Addr} {o':HO}
theorem HOk.write(ok:HOk P w H h)(mu:Mut (H x))(he:e=x\/H e=some (.own x))(k: ∀b u,b≠e->h.get? b=some u->h'.get? b=some u)(heo: ∃u,h'.get? e=some u)
  (new:ObjOk P w (upd H x o') h' x o'):HOk P w (upd H x o') h':=λb u q=>by
 have nown: ∀c y,H c=some (.own y)->c≠x:=λc y r z=>by subst z;rw[r]at mu;exact mu
 have ntup: ∀c xs,H c=some (.tup xs)->c≠x:=λc xs r z=>by subst z;rw[r]at mu;exact mu
 by_cases hb:b=x
 ·subst hb;rw[a9]at q;cases q;exact new
 ·rw[aO hb]at q
  by_cases hbe:b=e
  ·have q':H b=some (.own x):=by
    rcases he with z|z
    ·exact absurd (hbe.trans z) hb
    ·rw[hbe];exact z
   rw[q]at q';cases q';obtain⟨v,hv⟩:=heo;exact⟨v,by rw[hbe];exact hv⟩
  ·refine(ok b u q).stay (λc v hc r=>k c v ?_ r) (λc r=>by rw[aO (nown c b r)];exact r) λc xs r=>by rw[aO (ntup c xs r)];exact r
   rcases hc with rfl|hc
   ·exact hbe
   ·rintro rfl;rcases he with z|z
    ·exact nown c b hc z
    ·rw[hc]at z;cases z;exact hb rfl
end
structure Un(fs ex:List Addr)(H H':Hp)(h h':Heap):Prop where
 keep: ∀b o,h.get? b=some o->H b=none->b∉fs->b∉ex->h'.get? b=some o
 slot: ∀b o,h.get? b=some o->H b=none->b∈fs->b∉ex->∃sl,h'.get? b=some {o with slots:=sl}
 free: ∀b o,h.get? b=some o->H b=none->b∉ex->H' b=none
 there: ∀b o,h.get? b=some o->b∉ex->∃o',h'.get? b=some o'
 tups: ∀b xs,H b=some (.tup xs)->H' b=some (.tup xs)
 frzs: ∀b o u,H b=some (.frz o u)->H' b=some (.frz o u)
 tbls: ∀b ps,H b=some (.tbl ps)->∃more,H' b=some (.tbl (ps++more))
section
variable {fs fs' ex ex':List Addr} {H H1 H2:Hp} {h h1 h2 h':Heap} {a x e:Addr} {o:HO}
theorem Un.any(u:Un fs ex H H1 h h1){b:Addr}{ob:Obj}(q:h.get? b=some ob)(n:H b=none)(hx:b∉ex): ∃sl,h1.get? b=some {ob with slots:=sl}:=by
 by_cases hb:b∈fs
 ·exact u.slot b ob q n hb hx
 ·exact⟨ob.slots,u.keep b ob q n hb hx⟩
theorem Un.kept(k: ∀b u,h.get? b=some u->h'.get? b=some u):Un fs ex H H h h':=
 ⟨λb ob q _ _ _=>k b ob q,λb ob q _ _ _=>⟨ob.slots,k b ob q⟩,λ_ _ _ n _=>n,λb ob q _=>⟨ob,k b ob q⟩,λ_ _ q=>q,λ_ _ _ q=>q,λ_ ps q=>⟨#[],by rw[q];simp⟩⟩
theorem Un.refl:Un fs ex H H h h:=Un.kept λ_ _ q=>q
theorem Un.laid(k: ∀b u,h.get? b=some u->h'.get? b=some u)(hp:h.objs.size<=a)(hn:H a=none):Un fs ex H (upd H a o) h h' where
 keep:=λb u q _ _ _=>k b u q
 slot:=λb u q _ _ _=>⟨u.slots,k b u q⟩
 free:=λb u q n _=>by rw[aO (bf (bd (ah q) hp))];exact n
 there:=λb u q _=>⟨u,k b u q⟩
 tups:=λb xs q=>by rw[aO (bJ q hn)];exact q
 frzs:=λb u xs q=>by rw[aO (bJ q hn)];exact q
 tbls:=λb ps q=>⟨#[],by rw[aO (bJ q hn),q];simp⟩
theorem Un.write(mu:Mut (H x))(he:e=x\/H e=some (.own x))(k: ∀b u,b≠e->h.get? b=some u->h'.get? b=some u)(heo: ∃u,h'.get? e=some u):Un fs ex H (upd H x o) h h':=by
 have hx: ∀b,H b=none->b≠x:=λb n z=>by subst z;rw[n]at mu;exact mu
 have hb: ∀b,H b=none->b≠e:=λb n z=>by
  subst z;rcases he with r|r
  ·exact hx b n r
  ·rw[n]at r;cases r
 have hm: ∀b u,H b=some u->¬Mut (some u)->b≠x:=λb u q nm z=>by subst z;rw[q]at mu;exact nm mu
 refine⟨λb u q n _ _=>k b u (hb b n) q,λb u q n _ _=>⟨u.slots,k b u (hb b n) q⟩,λb u q n _=>by rw[aO (hx b n)];exact n,λb u q _=>?_,
  λb xs q=>by rw[aO (hm b _ q λz=>z)];exact q,λb u xs q=>by rw[aO (hm b _ q λz=>z)];exact q,λb ps q=>⟨#[],by rw[aO (hm b _ q λz=>z),q];simp⟩⟩
 by_cases hbe:b=e
 ·subst hbe;exact heo
 ·exact⟨u,k b u hbe q⟩
end
noncomputable def trk(h:Heap)(H:Hp):List Addr:=(List.range h.objs.size).filter λa=>(H a).isSome
def zK(h:Heap)(H:Hp):Heap:=PySem.W.hideAll h (trk h H)
theorem vN(h:Heap)(H:Hp):(zK h H).objs.size=h.objs.size:=PySem.W.hideAll_size _ _
theorem zL{h:Heap}{H:Hp}{b:Addr}{o:Obj}(e:h.get? b=some o)(n:H b=none):(zK h H).get? b=some o:=
 PySem.W.hideAll_get _ e λhm=>by
  have q:(H b).isSome=true:=(List.mem_filter.mp hm).2
  rw[n]at q;simp at q
theorem aC8{h:Heap}{H:Hp}{b:Addr}{o:Obj}(e:(zK h H).get? b=some o):h.get? b=some o/\H b=none:=by
 have e':h.get? b=some o:=PySem.W.of_hideAll (trk h H) e
 refine⟨e',?_⟩
 cases q:H b with
 |none=>rfl
 |some x=>
  have hm:b∈trk h H:=List.mem_filter.mpr ⟨zPd (ah e'),by simp[q]⟩
  have z:(zK h H).get? b=none:=PySem.W.hideAll_none (trk h H) hm
  rw[z]at e;cases e
noncomputable def aC9(g h:Heap)(L:Addr):cc:=(List.range h.objs.size).filterMap λa=>if a=L\/(g.get? a).isSome=true then none else(h.get? a).map λo=>(a,o)
def eA(g h:Heap)(L d:Addr):cc:=(aC9 g h L).filter λp=>decide (p.1≠d)
structure Mod(K:PySem.W.Frag)(mg:Str->Option Value)(base:Heap):Prop where
 kin:K.In base
 glob:base.Ns mainGlobals mg
 blt: ∃mb,base.Ns builtinsNs mb/\∀x:Str,x≠"__name__"->mb x=bootBuiltins x
 nolimit:base.NoLimit
structure Cx where
 prog:Program
 w:World
 K:PySem.W.Frag
 mg:Str->Option Value
 base:Heap
 A:Around
 N:List Str
 s₀:Shared
 H₀:Hp
 env:Env
 outer:List Env
 stack:List Env
 ex:List Addr
 fn:Str->Bool
 calm:Bool
 pn:cc
 xe:Value->Shared->Prop
noncomputable def frs(l:List Env):List Addr:=l.filterMap (·.frame)
abbrev Cx.fs(X:Cx):List Addr:=frs X.outer
def Vis(sc:Scope)(x:Str):Prop:=sc.names.lookup x=some .local\/sc.names.lookup x=some .cell\/sc.names.lookup x=some .free
def Loc(sc:Scope)(x:Str):Prop:=sc.names.lookup x=some .local\/sc.names.lookup x=some .cell
def aNk(env:Env)(h:Heap)(m:Str->Option Value)(x:Str)(u:Value):Prop:=
 (env.kindOf x=some .local/\m x=some u)\/((env.kindOf x=some .cell\/env.kindOf x=some .free)/\∃c,env.cells.lookup x=some c/\h.IsCell c (some u))
structure Cx.Ok(X:Cx):Prop where
 mod:Mod X.K X.mg X.base
 kind:X.env.scope.kind= .function
 glob:X.env.globals=mainGlobals
 blt:X.env.builtins=builtinsNs
 above:X.s₀.heap.objs.size<=X.env.locals
 inj: ∀x y c,X.env.cells.lookup x=some c->X.env.cells.lookup y=some c->x=y
 has: ∀x,(X.env.kindOf x=some .cell\/X.env.kindOf x=some .free)->∃c,X.env.cells.lookup x=some c
 cab: ∀x c,X.fn x=true->X.env.cells.lookup x=some c->X.s₀.heap.objs.size<=c
 hd:X.calm=true->X.A.handled=none
 frames:X.A.frames=some X.stack
 stk:X.stack=X.outer\/(X.stack=X.env::X.outer/\X.env.frame=some X.env.locals)
 exf: ∀b∈X.ex,b≠X.env.locals/\∀x c,X.env.cells.lookup x=some c->c≠b
 bs: ∀b o,X.base.get? b=some o->X.s₀.heap.get? b=some o/\X.H₀ b=none
 bsz:X.base.objs.size<=X.s₀.heap.objs.size
 noex: ∀b o,X.base.get? b=some o->b∉X.ex
 exfs: ∀b∈X.ex,b∉X.fs
 funs:X.s₀.heap.FunFrames X.base X.outer
 frf: ∀b∈X.fs,X.H₀ b=none
structure Inv(X:Cx)(bx:cc)(σ:List (Option V))(H:Hp)(s:Shared):Prop where
 ok:X.Ok
 os:s.os=X.s₀.os
 bare:AllBare s.gens
 base:Un X.fs X.ex X.H₀ H X.s₀.heap s.heap
 loc: ∃m,s.heap.Ns X.env.locals m/\∀(i:Nat) (x:Str) (v:V),X.N[i]? =some x->σ[i]? =some (some v)->Vis X.env.scope x->∃u,cD v u/\aNk X.env s.heap m x u
 cell: ∀x c,X.env.cells.lookup x=some c->∃v,s.heap.IsCell c v
 free:H X.env.locals=none
 freeC: ∀x c,X.env.cells.lookup x=some c->H c=none
 pin: ∀p∈X.pn++bx,s.heap.get? p.1=some p.2/\H p.1=none/\p.1≠X.env.locals/\p.1∉X.fs/\∀v,p.2.data≠ .cell v
 hok:HOk X.prog X.w H s.heap
 len:σ.length=X.N.length
section
variable {X:Cx} {bx:cc} {σ:List (Option V)} {H H':Hp} {s:Shared} {h':Heap}
theorem Cx.Ok.nofr(ok:X.Ok){b:Addr}{o:Obj}(e:X.base.get? b=some o):b∉X.fs:=λhb=>by
 have:=(ok.funs.mem hb).1
 rw[e]at this;cases this
theorem Inv.bs(I:Inv X bx σ H s): ∀b o,X.base.get? b=some o->s.heap.get? b=some o/\H b=none:=λb o e=>
 ⟨I.base.keep b o (I.ok.bs b o e).1 (I.ok.bs b o e).2 (I.ok.nofr e) (I.ok.noex b o e),I.base.free b o (I.ok.bs b o e).1 (I.ok.bs b o e).2 (I.ok.noex b o e)⟩
theorem Inv.bk(I:Inv X bx σ H s): ∀b o,X.base.get? b=some o->s.heap.get? b=some o:=λb o e=>(I.bs b o e).1
theorem Inv.mod(I:Inv X bx σ H s):Mod X.K X.mg X.base:=I.ok.mod
theorem Inv.kIn(I:Inv X bx σ H s):X.K.In s.heap:=I.ok.mod.kin.keeps I.bk
theorem Inv.lt(I:Inv X bx σ H s):X.env.locals<s.heap.objs.size:=let ⟨_,hn,_⟩:=I.loc;hn.lt
theorem Inv.sz(I:Inv X bx σ H s):X.s₀.heap.objs.size<=s.heap.objs.size:=Nat.le_trans I.ok.above (Nat.le_of_lt I.lt)
theorem Inv.nofs(I:Inv X bx σ H s){a:Addr}(h:s.heap.objs.size<=a):a∉X.fs:=λhb=>by
 obtain⟨_,o,ho,_⟩:=I.ok.funs.mem hb;exact absurd (bd (ah ho) (Nat.le_trans I.sz h)) (Nat.lt_irrefl _)
theorem Inv.cne(I:Inv X bx σ H s): ∀x c,X.env.cells.lookup x=some c->c≠X.env.locals:=λx c e z=>by
 obtain⟨v,o,ho,hd⟩:=I.cell x c e;obtain⟨m,⟨o',es,ep,ho',hd',_⟩,_⟩:=I.loc;rw[z,ho']at ho;cases ho;rw[hd']at hd;cases hd
theorem Inv.funs(I:Inv X bx σ H s):s.heap.FunFrames X.base X.outer:=by
 have all: ∀(l:List Env),(∀b∈frs l,b∈X.fs)->X.s₀.heap.FunFrames X.base l->s.heap.FunFrames X.base l:=by
  intro l
  induction l with
  |nil=>intro _ _;trivial
  |cons env r ih=>
   intro hs hl;obtain⟨hk,⟨L,o,hf,hn,ho,hd⟩,hr⟩:=hl;have hL:L∈X.fs:=hs L (by unfold frs;rw[List.filterMap_cons,hf];exact List.mem_cons_self)
   obtain⟨sl,e⟩:=I.base.slot L o ho (I.ok.frf L hL) hL λz=>I.ok.exfs L z hL
   exact⟨hk,⟨L,_,hf,hn,e,hd⟩,ih (λb hb=>hs b (by unfold frs;rw[List.filterMap_cons,hf];exact List.mem_cons_of_mem _ hb)) hr⟩
 exact all X.outer (λ_ hb=>hb) I.ok.funs
theorem Inv.stack(I:Inv X bx σ H s):s.heap.FunFrames X.base X.stack:=by
 rcases I.ok.stk with e|⟨e,hf⟩
 ·rw[e];exact I.funs
 ·rw[e];obtain⟨m,hn,_⟩:=I.loc;refine .cons (by rw[I.ok.kind];decide) hf hn ?_ I.funs
  exact Heap.get?_none_of_le (Nat.le_trans I.ok.bsz I.ok.above)
theorem Inv.stkSub(I:Inv X bx σ H s): ∀b∈frs X.stack,b∈X.env.locals::X.fs:=λb hb=>by
 rcases I.ok.stk with e|⟨e,hf⟩
 ·rw[e]at hb;exact List.mem_cons_of_mem _ hb
 ·rw[e]at hb;unfold frs at hb;rw[List.filterMap_cons,hf]at hb;exact hb
theorem Inv.stkFree(I:Inv X bx σ H s): ∀b∈frs X.stack,H b=none:=λb hb=>by
 rcases aq.mp (I.stkSub b hb)with e|hb
 ·rw[e];exact I.free
 ·obtain⟨_,o,ho,_⟩:=I.ok.funs.mem hb;exact I.base.free b o ho (I.ok.frf b hb) λz=>I.ok.exfs b z hb
theorem Inv.step{g':Array GenState}{t':Nat}{d':Drawn}{ch:List Addr}(I:Inv X bx σ H s)
  (hch: ∀b∈ch,(b∈X.ex\/X.s₀.heap.objs.size<=b)/\b≠X.env.locals/\(∀x c,X.env.cells.lookup x=some c->c≠b)/\∀p∈X.pn++bx,p.1≠b)
  (keep: ∀b o,b≠X.env.locals->b∉X.fs->b∉ch->s.heap.get? b=some o->H b=none->h'.get? b=some o)
  (slot: ∀b o,b≠X.env.locals->b∈X.fs->b∉ch->s.heap.get? b=some o->H b=none->∃sl,h'.get? b=some {o with slots:=sl}) (free: ∀b o,b∉ch->s.heap.get? b=some o->H b=none->H' b=none)
  (there: ∀b o,b∉ch->s.heap.get? b=some o->∃o',h'.get? b=some o')
  (tups: ∀b xs,H b=some (.tup xs)->H' b=some (.tup xs)) (frzs: ∀b o u,H b=some (.frz o u)->H' b=some (.frz o u)) (tbls: ∀b ps,H b=some (.tbl ps)->∃more,H' b=some (.tbl (ps++more)))
  (ns: ∀m,s.heap.Ns X.env.locals m->h'.Ns X.env.locals m) (hok:HOk X.prog X.w H' h') (hg:AllBare g'):
  Inv X bx σ H' {s with heap:=h',gens:=g',drawn:=d',toks:=t'}:=by
 have neL: ∀b o,X.s₀.heap.get? b=some o->b≠X.env.locals:=λb o e=>bf (bd (ah e) I.ok.above)
 have neC: ∀b o,X.s₀.heap.get? b=some o->b∉X.ex->b∉ch:=λb o e hx hb=>by
  rcases(hch b hb).1 with z|z
  ·exact hx z
  ·exact absurd (bd (ah e) z) (Nat.lt_irrefl _)
 have cellK: ∀x c,X.env.cells.lookup x=some c->∀v,s.heap.IsCell c v->h'.IsCell c v:=λx c e v ⟨o,ho,hd⟩=>by
  have nch:c∉ch:=λz=>(hch c z).2.2.1 x c e rfl
  by_cases hc:c∈X.fs
  ·obtain⟨sl,q⟩:=slot c o (I.cne x c e) hc nch ho (I.freeC x c e);exact⟨_,q,hd⟩
  ·exact⟨o,keep c o (I.cne x c e) hc nch ho (I.freeC x c e),hd⟩
 refine⟨I.ok,I.os,hg,⟨λb o e n hb hx=>?_,λb o e n hb hx=>?_,λb o e n hx=>?_,λb o e hx=>?_,λb xs e=>tups b xs (I.base.tups b xs e),λb o xs e=>frzs b o xs (I.base.frzs b o xs e),λb ps e=>?_⟩,?_,λx c e=>?_,?_,λx c e=>?_,λp hp=>?_,hok,I.len⟩
 ·exact keep b o (neL b o e) hb (neC b o e hx) (I.base.keep b o e n hb hx) (I.base.free b o e n hx)
 ·obtain⟨sl,e1⟩:=I.base.slot b o e n hb hx;obtain⟨sl',e2⟩:=slot b _ (neL b o e) hb (neC b o e hx) e1 (I.base.free b o e n hx);exact⟨sl',e2⟩
 ·obtain⟨o',e1⟩:=I.base.there b o e hx;exact free b o' (neC b o e hx) e1 (I.base.free b o e n hx)
 ·obtain⟨o',e1⟩:=I.base.there b o e hx;exact there b o' (neC b o e hx) e1
 ·obtain⟨m1,e1⟩:=I.base.tbls b ps e;obtain⟨m2,e2⟩:=tbls b _ e1;exact⟨m1++m2,by rw[e2,Array.append_assoc]⟩
 ·obtain⟨m,hn,hl⟩:=I.loc;refine⟨m,ns m hn,λi x v e1 e2 e3=>?_⟩
  obtain⟨u,r,l⟩:=hl i x v e1 e2 e3;refine⟨u,r,?_⟩;rcases l with l|⟨k,c,e,z⟩
  ·exact .inl l
  ·exact .inr ⟨k,c,e,cellK x c e _ z⟩
 ·obtain⟨v,z⟩:=I.cell x c e;exact⟨v,cellK x c e v z⟩
 ·obtain⟨m,⟨o,_,_,ho,_⟩,_⟩:=I.loc;exact free _ o (λz=>(hch _ z).2.1 rfl) ho I.free
 ·obtain⟨v,o,ho,hd⟩:=I.cell x c e;exact free c o (λz=>(hch c z).2.2.1 x c e rfl) ho (I.freeC x c e)
 ·obtain⟨e,n,ne,nf,d⟩:=I.pin p hp;have nch:p.1∉ch:=λz=>(hch p.1 z).2.2.2 p hp rfl
  exact⟨keep p.1 p.2 ne nf nch e n,free p.1 p.2 nch e n,ne,nf,d⟩
theorem Inv.un{t':Nat}(I:Inv X bx σ H s)(u:Un X.fs [] H H' s.heap h')(hok:HOk X.prog X.w H' h'):Inv X bx σ H' {s with heap:=h',toks:=t'}:=by
 obtain⟨m,⟨o,es,ep,ho,r⟩,_⟩:=id I.loc;obtain⟨sl,hL⟩:=u.any ho I.free (by simp)
 exact I.step (g':=s.gens) (d':=s.drawn) (ch:=[]) (λ_ z=>nomatch z) (λb o _ hb _ e n=>u.keep b o e n hb (by simp)) (λb o _ hb _ e n=>u.slot b o e n hb (by simp)) (λb o _ e n=>u.free b o e n (by simp)) (λb o _ e=>u.there b o e (by simp)) u.tups u.frzs u.tbls (λm' hm=>by
  obtain⟨o',es',ep',ho',r'⟩:=hm;rw[ho]at ho';cases ho';exact⟨_,es',ep',hL,r'⟩) hok I.bare
theorem Inv.call{g':Array GenState}{t':Nat}{d':Drawn}{ch:List Addr}(I:Inv X bx σ H s)(u:Un (frs X.stack) ch H H' s.heap h')(hok:HOk X.prog X.w H' h')(hg:AllBare g')
  (hch: ∀b∈ch,(b∈X.ex\/X.s₀.heap.objs.size<=b)/\b≠X.env.locals/\(∀x c,X.env.cells.lookup x=some c->c≠b)/\∀p∈X.pn++bx,p.1≠b):
  Inv X bx σ H' {s with heap:=h',gens:=g',drawn:=d',toks:=t'}:=by
 obtain⟨m,⟨o,es,ep,ho,r⟩,_⟩:=id I.loc;obtain⟨sl,hL⟩:=u.any ho I.free λz=>(hch _ z).2.1 rfl
 exact I.step (ch:=ch) hch (λb o hL hb hc e n=>u.keep b o e n (λz=>(aq.mp (I.stkSub b z)).elim hL hb) hc) (λb o _ _ hc e n=>u.any e n hc) (λb o hc e n=>u.free b o e n hc) (λb o hc e=>u.there b o e hc) u.tups u.frzs u.tbls (λm' hm=>by
  obtain⟨o',es',ep',ho',r'⟩:=hm;rw[ho]at ho';cases ho';exact⟨_,es',ep',hL,r'⟩) hok hg
theorem Inv.turned{t':Nat}{it:Addr}(I:Inv X bx σ H s)(k: ∀b o,b≠it->s.heap.get? b=some o->h'.get? b=some o)(hn:H it=none)(hL:it≠X.env.locals)
  (h1:it∈X.ex\/X.s₀.heap.objs.size<=it) (h2: ∀x c,X.env.cells.lookup x=some c->c≠it) (h3: ∀p∈X.pn++bx,p.1≠it):Inv X bx σ H {s with heap:=h',toks:=t'}:=by
 have nit: ∀b u,H b=some u->b≠it:=λb u e z=>by rw[z,hn]at e;cases e
 refine I.step (g':=s.gens) (d':=s.drawn) (ch:=[it]) (λb hb=>?_) (λb o _ _ hc e _=>k b o (λz=>hc (by simp[z])) e) (λb o _ _ hc e _=>⟨o.slots,k b o (λz=>hc (by simp[z])) e⟩) (λ_ _ _ _ n=>n)
  (λb o hc e=>⟨o,k b o (λz=>hc (by simp[z])) e⟩) (λ_ _ e=>e) (λ_ _ _ e=>e) (λb ps e=>⟨#[],by rw[e];simp⟩) (λm hm=>?_) (λb u e=>?_) I.bare
 ·have e:b=it:=by simpa using hb
  subst e;exact⟨h1,hL,h2,h3⟩
 ·obtain⟨o,es,ep,ho,r⟩:=hm;exact⟨o,es,ep,k _ o (Ne.symm hL) ho,r⟩
 ·refine(I.hok b u e).stay (λc v hc q=>k c v ?_ q) (λ_ q=>q) λ_ _ q=>q
  rcases hc with z|z
  ·rw[z];exact nit b u e
  ·exact nit c _ z
theorem Inv.tok(I:Inv X bx σ H s)(t:Nat):Inv X bx σ H {s with toks:=t}:=I.un (h':=s.heap) (t':=t) Un.refl I.hok
theorem Inv.kept{t':Nat}(I:Inv X bx σ H s)(k: ∀b u,s.heap.get? b=some u->h'.get? b=some u):Inv X bx σ H {s with heap:=h',toks:=t'}:=I.un (Un.kept k) (I.hok.kept k)
theorem Inv.laid{a:Addr}{o:HO}{t':Nat}(I:Inv X bx σ H s)(k: ∀b u,s.heap.get? b=some u->h'.get? b=some u)(hp:s.heap.objs.size<=a)(new:ObjOk X.prog X.w (upd H a o) h' a o):
  Inv X bx σ (upd H a o) {s with heap:=h',toks:=t'}:=I.un (Un.laid k hp (I.hok.fresh hp)) (I.hok.laid k hp new)
theorem Inv.write{x e:Addr}{o:HO}{t':Nat}(I:Inv X bx σ H s)(mu:Mut (H x))(he:e=x\/H e=some (.own x))(k: ∀b u,b≠e->s.heap.get? b=some u->h'.get? b=some u)(heo: ∃u,h'.get? e=some u)
  (new:ObjOk X.prog X.w (upd H x o) h' x o):Inv X bx σ (upd H x o) {s with heap:=h',toks:=t'}:=I.un (Un.write mu he k heo) (I.hok.write mu he k heo new)
theorem Inv.pins_of{pins':cc}(I:Inv X bx σ H s)(h: ∀p∈pins',s.heap.get? p.1=some p.2/\H p.1=none/\p.1≠X.env.locals/\p.1∉X.fs/\∀v,p.2.data≠ .cell v):Inv X pins' σ H s:=
 ⟨I.ok,I.os,I.bare,I.base,I.loc,I.cell,I.free,I.freeC,λp hp=>(List.mem_append.mp hp).elim (λz=>I.pin p (List.mem_append_left _ z)) (h p),I.hok,I.len⟩
theorem mQ{N:List Str}(hN:N.Nodup){i j:Nat}{x:Str}(a:N[i]? =some x)(b:N[j]? =some x):i=j:=by
 obtain⟨h1,e1⟩:=av.mp a;obtain⟨h2,e2⟩:=av.mp b;exact(List.getElem_inj hN).mp (e1.trans e2.symm)
theorem oC{M:Model}{A:Around}{E:cb}{i:Nat}{x:Str}{v:V}{u:Value}{Q:Unit->Shared->Prop}(I:Inv X bx σ H s)(hN:X.N.Nodup)(hi:X.N[i]? =some x)(hx:Loc X.env.scope x)(r:cD v u)
  (h: ∀s',Inv X bx (σ.set i (some v)) H s'->(∃a,Heap.SameBut a s.heap s'.heap/\(a=X.env.locals\/X.env.cells.lookup x=some a))->Q () s') (hf:X.fn x=true\/X.env.scope.names.lookup x=some .local:=by first|exact .inl rfl|exact .inr rfl|assumption):wpAny M A (storeName X.env x u) Q E s:=by
 obtain⟨m,hn,hl⟩:=id I.loc
 have hcls:(X.env.scope.kind== .class||(X.env.scope.kind== .module&&X.env.locals != X.env.globals))=false:=by rw[I.ok.kind];rfl
 have hiσ:i<σ.length:=by rw[I.len];exact(av.mp hi).1
 have cne:=I.cne
 have tracked: ∀{a:Addr} {h':Heap},(∃o,s.heap.get? a=some o/\H a=none)->Heap.SameBut a s.heap h'->HOk X.prog X.w H h':=λ{a h'} ha hs b ob e=>by
  obtain⟨_,_,hfree⟩:=ha;refine(I.hok b ob e).stay (λc w' hc q=>(hs.2 c ?_).trans q) (λ_ q=>q) λ_ _ q=>q
  rintro rfl;rcases hc with rfl|hc
  ·rw[hfree]at e;cases e
  ·rw[hfree]at hc;cases hc
 rcases hx with hk|hk
 ·refine wpAny_storeName_local hk hn (λh' hn' hs=>?_) hcls
  obtain⟨oL,_,_,hoL,_⟩:=id hn;refine h _ ⟨I.ok,I.os,I.bare,⟨λb o e n hb hx=>?_,λb o e n hb hx=>?_,I.base.free,λb o e hx=>?_,I.base.tups,I.base.frzs,I.base.tbls⟩,⟨_,hn',λj y v' e1 e2 e3=>?_⟩,λy c e=>?_,I.free,I.freeC,λp hp=>?_,tracked ⟨oL,hoL,I.free⟩ hs,by simpa using I.len⟩ ⟨_,hs,.inl rfl⟩
  ·exact(hs.2 b (bf (bd (ah e) I.ok.above))).trans (I.base.keep b o e n hb hx)
  ·obtain⟨sl,e1⟩:=I.base.slot b o e n hb hx;exact⟨sl,(hs.2 b (bf (bd (ah e) I.ok.above))).trans e1⟩
  ·obtain⟨o',e1⟩:=I.base.there b o e hx;exact⟨o',(hs.2 b (bf (bd (ah e) I.ok.above))).trans e1⟩
  ·by_cases hj:j=i
   ·subst hj;rw[hi]at e1;cases e1;rw[bg hiσ]at e2;cases e2;exact⟨u,r,.inl ⟨hk,by simp⟩⟩
   ·rw[ay (Ne.symm hj)]at e2;obtain⟨u',r',q⟩:=hl j y v' e1 e2 e3;refine⟨u',r',?_⟩;rcases q with ⟨k,e⟩|⟨k,c,e,z⟩
    ·refine .inl ⟨k,?_⟩
     have:y≠x:=λe=>hj (mQ hN e1 (e▸hi))
     simp[this,e]
    ·exact .inr ⟨k,c,e,z.sameBut hs (cne y c e)⟩
  ·obtain⟨w',z⟩:=I.cell y c e;exact⟨w',z.sameBut hs (cne y c e)⟩
  ·obtain⟨e,n,ne,nf,d⟩:=I.pin p hp;exact⟨(hs.2 p.1 ne).trans e,n,ne,nf,d⟩
 ·have hfn:X.fn x=true:=by
   rcases hf with z|z
   ·exact z
   ·rw[z]at hk;cases hk
  obtain⟨c,hc⟩:=I.ok.has x (.inl hk);obtain⟨w',z⟩:=I.cell x c hc;refine wpAny_storeName_cell I.ok.kind hk hc z (λh' hc' hs=>?_)
  obtain⟨oc,hoc,hocd⟩:=id z;refine h {s with heap:=h'} ⟨I.ok,I.os,I.bare,⟨λb o e n hb hx=>?_,λb o e n hb hx=>?_,I.base.free,λb o e hx=>?_,I.base.tups,I.base.frzs,I.base.tbls⟩,⟨m,hn.sameBut hs (Ne.symm (cne x c hc)),λj y v' e1 e2 e3=>?_⟩,λy c' e=>?_,I.free,I.freeC,λp hp=>?_,tracked ⟨oc,hoc,I.freeC x c hc⟩ hs,by simpa using I.len⟩ ⟨c,hs,.inr hc⟩
  ·exact(hs.2 b (bf (bd (ah e) (I.ok.cab x c hfn hc)))).trans (I.base.keep b o e n hb hx)
  ·obtain⟨sl,e1⟩:=I.base.slot b o e n hb hx;exact⟨sl,(hs.2 b (bf (bd (ah e) (I.ok.cab x c hfn hc)))).trans e1⟩
  ·obtain⟨o',e1⟩:=I.base.there b o e hx;exact⟨o',(hs.2 b (bf (bd (ah e) (I.ok.cab x c hfn hc)))).trans e1⟩
  ·by_cases hj:j=i
   ·subst hj;rw[hi]at e1;cases e1;rw[bg hiσ]at e2;cases e2;exact⟨u,r,.inr ⟨.inl hk,c,hc,hc'⟩⟩
   ·rw[ay (Ne.symm hj)]at e2;obtain⟨u',r',q⟩:=hl j y v' e1 e2 e3;refine⟨u',r',?_⟩;rcases q with q|⟨k,c',e,z'⟩
    ·exact .inl q
    ·refine .inr ⟨k,c',e,z'.sameBut hs ?_⟩;rintro rfl;exact hj (mQ hN e1 (I.ok.inj _ _ _ e hc▸hi))
  ·by_cases hcc:c'=c
   ·subst hcc;exact⟨_,hc'⟩
   ·obtain⟨w2,z2⟩:=I.cell y c' e;exact⟨w2,z2.sameBut hs hcc⟩
  ·obtain⟨e,n,ne,nf,d⟩:=I.pin p hp;refine⟨(hs.2 p.1 ?_).trans e,n,ne,nf,d⟩;intro q;rw[q,hoc]at e
   have q':oc=p.2:=Option.some.inj e
   exact d w' (by rw[<-q'];exact hocd)
theorem eX{M:Model}{A:Around}{E:cb}{i:Nat}{x:Str}{v:V}{u:Value}{Q:Unit->Shared->Prop}(I:Inv X bx σ H s)(hN:X.N.Nodup)(hi:X.N[i]? =some x)(hx:Loc X.env.scope x)(r:cD v u)
  (h: ∀s',Inv X bx (σ.set i (some v)) H s'->Q () s') (hf:X.fn x=true\/X.env.scope.names.lookup x=some .local:=by first|exact .inl rfl|exact .inr rfl|assumption):wpAny M A (storeName X.env x u) Q E s:=
 oC I hN hi hx r (λs' I' _=>h s' I') hf
theorem Inv.call'{s':Shared}{ch:List Addr}(I:Inv X bx σ H s)(ho:s'.os=s.os)(u:Un (frs X.stack) ch H H' s.heap s'.heap)(hok:HOk X.prog X.w H' s'.heap)(hg:AllBare s'.gens)
  (hch: ∀b∈ch,(b∈X.ex\/X.s₀.heap.objs.size<=b)/\b≠X.env.locals/\(∀x c,X.env.cells.lookup x=some c->c≠b)/\∀p∈X.pn++bx,p.1≠b):Inv X bx σ H' s':=by
 obtain⟨h',g',d',t',o'⟩:=s'
 have e:o'=s.os:=ho
 subst e;exact I.call (g':=g') (t':=t') (d':=d') u hok hg hch
end
abbrev XK:=Value->Option Addr->Hp->Prop
abbrev St:=List (Option V)
abbrev VK:=V->Hp->Prop
abbrev TE:=St->Hp->VK->Prop
abbrev TT:=St->Hp->(Bool->Hp->Prop)->Prop
abbrev TA:=St->Hp->(List V->Hp->Prop)->Prop
structure Ends where
 nx:St->Hp->Prop
 rt:VK
 bk:St->Hp->Prop:=λ_ _=>False
 ct:St->Hp->Prop:=λ_ _=>False
abbrev TS:=Ends->St->Hp->Prop
def EP(X:Cx)(bx:cc)(σ:St)(Q:VK)(u:Value)(s':Shared):Prop:= ∃v H',Inv X bx σ H' s'/\cD v u/\Q v H'
def TP(X:Cx)(bx:cc)(σ:St)(Q:Bool->Hp->Prop)(b:Bool)(s':Shared):Prop:= ∃H',Inv X bx σ H' s'/\Q b H'
def AP(X:Cx)(bx:cc)(σ:St)(Q:List V->Hp->Prop)(us:List Value)(s':Shared):Prop:= ∃vs H',Inv X bx σ H' s'/\bZ vs us/\Q vs H'
def SP(X:Cx)(bx:cc)(D:Ends)(f:Flow)(s':Shared):Prop:=
 match f with
 |.next=>∃σ' H',Inv X bx σ' H' s'/\D.nx σ' H'
 |.brk=>∃σ' H',Inv X bx σ' H' s'/\D.bk σ' H'
 |.cont=>∃σ' H',Inv X bx σ' H' s'/\D.ct σ' H'
 |.ret u=>∃v σ' H',Inv X bx σ' H' s'/\cD v u/\D.rt v H'
def PE(X:Cx)(e:Expr)(t:TE):Prop:=
 ∀(bx:cc) (s:Shared) (σ:St) (H:Hp) (Q:VK),Inv X bx σ H s->t σ H Q->wpAny (model X.prog X.w) X.A (eval e X.env) (EP X bx σ Q) X.xe s
def PT(X:Cx)(e:Expr)(t:TT):Prop:=
 ∀(bx:cc) (s:Shared) (σ:St) (H:Hp) (Q:Bool->Hp->Prop),Inv X bx σ H s->t σ H Q->wpAny (model X.prog X.w) X.A (isTrue e X.env (eval e X.env)) (TP X bx σ Q) X.xe s
def PW(X:Cx)(e:Expr)(t:TT):Prop:=
 ∀(whole:Sem Value) (bx:cc) (s:Shared) (σ:St) (H:Hp) (Q:Bool->Hp->Prop),Inv X bx σ H s->t σ H Q->wpAny (model X.prog X.w) X.A (isTrue e X.env whole) (TP X bx σ Q) X.xe s
def PA(X:Cx)(es:List Expr)(t:TA):Prop:=
 ∀(pos:Pos) (bx:cc) (s:Shared) (σ:St) (H:Hp) (Q:List V->Hp->Prop),Inv X bx σ H s->t σ H Q->wpAny (model X.prog X.w) X.A (spliced (backTo pos (starEach es X.env))) (AP X bx σ Q) X.xe s
def PS(X:Cx)(st:Stmt)(t:TS):Prop:=
 ∀(bx:cc) (s:Shared) (σ:St) (H:Hp) (D:Ends),Inv X bx σ H s->t D σ H->wpAny (model X.prog X.w) X.A (exec st X.env) (SP X bx D) X.xe s
def PSs(X:Cx)(st:List Stmt)(t:TS):Prop:=
 ∀(bx:cc) (s:Shared) (σ:St) (H:Hp) (D:Ends),Inv X bx σ H s->t D σ H->wpAny (model X.prog X.w) X.A (execs st X.env) (SP X bx D) X.xe s
theorem thn{α:Type}{t:Sem α}{Q Q':α->Shared->Prop}{M:Model}{A:Around}{E:cb}{s:Shared}(h:wpAny M A t Q E s)(hQ: ∀a s,Q a s->Q' a s):wpAny M A t Q' E s:=wpAny_mono h hQ λ_ _ x=>x
section
variable {X:Cx}
def aNl(i:Nat):TE:=λσ H Q=>∃v,σ[i]? =some (some v)/\Q v H
def tC(v:V):TE:=λ_ H Q=>Q v H
theorem j7{i:Nat}{x:Str}{pos:Pos}(hN:X.N[i]? =some x)(hv:Vis X.env.scope x)(hd:(x==("__debug__":Str))=false:=by decide)(hcd:(x==("__classdict__":Str))=false:=by decide):PE X (.Name x pos) (aNl i):=by
 intro bx s σ H Q I h;obtain⟨v,e,h⟩:=h;obtain⟨m,hn,hl⟩:=I.loc;obtain⟨u,r,l⟩:=hl i x v hN e hv;have fin:EP X bx σ Q u s:=⟨v,H,I,r,h⟩;rcases l with ⟨hk,hm⟩|⟨hk,c,hc,hcell⟩
 ·exact wpAny_Name (wpAny_loadName_local I.ok.kind hk hn hm fin) hd
 ·rcases hk with hk|hk
  ·exact wpAny_Name (wpAny_loadName_cell I.ok.kind hk hc hcell fin) hd
  ·exact wpAny_Name (wpAny_loadName_free I.ok.kind hk hc hcell fin hcd) hd
theorem aG2{i j pos}:PE X (.Constant (.int i) j pos) (tC (.int i)):=λ_ _ _ H _ I h=>wpAny_Constant_int ⟨.int i,H,I.tok _,⟨_,rfl⟩,h⟩
theorem aKv{b j pos}:PE X (.Constant (.bool b) j pos) (tC (.bl b)):=λ_ _ _ H _ I h=>Constant_bool ⟨.bl b,H,I,rfl,h⟩
theorem aG3{j pos}:PE X (.Constant .none j pos) (tC .non):=λ_ _ _ H _ I h=>Constant_none ⟨.non,H,I,rfl,h⟩
theorem aG4{x j pos}:PE X (.Constant (.str x) j pos) (tC (.str x)):=λ_ _ _ H _ I h=>Calls.Constant_str ⟨.str x,H,I.tok _,⟨_,rfl⟩,h⟩
def Gl(X:Cx)(x:Str):Prop:=X.env.kindOf x=some .globalImplicit
theorem mR{E:cb}{bx:cc}{s:Shared}{σ:St}{H:Hp}{x:Str}{u:Value}{pos:Pos}{Q:cb}(I:Inv X bx σ H s)(hg:Gl X x)(hm:X.mg x=some u)(h:Q u s)
  (hd:(x==("__debug__":Str))=false:=by decide):wpAny (model X.prog X.w) X.A (eval (.Name x pos) X.env) Q E s:=
 Calls.Name_function_global I.ok.kind hg (Calls.loadGlobal_global (by rw[I.ok.glob];exact I.mod.glob.keeps I.bk) hm h) hd
theorem fK{E:cb}{bx:cc}{s:Shared}{σ:St}{H:Hp}{x:Str}{u:Value}{pos:Pos}{Q:cb}(I:Inv X bx σ H s)(hg:Gl X x)(hm:X.mg x=none)(hv:bootBuiltins x=some u)(h:Q u s)
  (hn:x≠"__name__":=by decide) (hd:(x==("__debug__":Str))=false:=by decide):wpAny (model X.prog X.w) X.A (eval (.Name x pos) X.env) Q E s:=by
 obtain⟨mb,h1,h2⟩:=I.mod.blt;exact Calls.Name_function_global I.ok.kind hg (Calls.loadGlobal_builtin (by rw[I.ok.glob];exact I.mod.glob.keeps I.bk) hm (by rw[I.ok.blt];exact h1.keeps I.bk) ((h2 x hn).trans hv) h) hd
theorem aDa{x:Str}{v:V}{u:Value}{pos:Pos}(hg:Gl X x)(hm:X.mg x=some u)(r:cD v u)(hd:(x==("__debug__":Str))=false:=by decide):PE X (.Name x pos) (tC v):=
 λ_ _ _ H _ I h=>mR I hg hm ⟨v,H,I,r,h⟩ hd
variable {a b:Expr} {ta tb:TE} {pos:Pos}
def tB(t:TE):TT:=λσ H Q=>t σ H λx H1=>∃c,x= .bl c/\Q c H1
theorem aG5{e:Expr}{t:TE}(h:PE X e t)(he: ∀whole,isTrue e X.env whole=(do let v<-whole;standAt e.pos;holding [v] (truthy v)):=by intro _;rfl):PT X e (tB t):=by
 intro bx s σ H Q I hw;refine isTrue_plain (thn (h bx s σ H _ I hw) λv s1 ⟨x,H1,I1,r1,q1⟩=>?_) (he _)
 obtain⟨d,rfl,q⟩:=q1;cases r1;exact wpAny_truthy_bool ⟨H1,I1,q⟩
variable {tA tB':TT} {eA:List Expr}
def aMr(t u:TT):TT:=λσ H Q=>t σ H λc H1=>if c=true then u σ H1 Q else Q false H1
def tOr(t u:TT):TT:=λσ H Q=>t σ H λc H1=>if c=true then Q true H1 else u σ H1 Q
def aMs(t:TT):TT:=λσ H Q=>t σ H λc H1=>Q (!c) H1
theorem pw_and1(ha:PT X a tA):PW X (.BoolOp .And [a] pos) tA:=by
 intro wh bx s σ H Q I h;refine isTrue_and (thn (ha bx s σ H Q I h) λc s1 e=>?_)
 cases c with
 |true=>exact isTrue_and_nil e
 |false=>exact e
theorem pw_or1(ha:PT X a tA):PW X (.BoolOp .Or [a] pos) tA:=by
 intro wh bx s σ H Q I h;refine isTrue_or (thn (ha bx s σ H Q I h) λc s1 e=>?_)
 cases c with
 |false=>exact isTrue_or_nil e
 |true=>exact e
theorem pw_and(ha:PT X a tA)(hb:PW X (.BoolOp .And (b::eA) pos) tB'):PW X (.BoolOp .And (a::b::eA) pos) (aMr tA tB'):=by
 intro wh bx s σ H Q I h;refine isTrue_and (thn (ha bx s σ H _ I h) λc s1 hz_=>?_)
 obtain⟨H1,I1,q1⟩:=hz_
 cases c with
 |true=>exact hb wh bx s1 σ H1 Q I1 q1
 |false=>exact⟨H1,I1,q1⟩
theorem pw_or(ha:PT X a tA)(hb:PW X (.BoolOp .Or (b::eA) pos) tB'):PW X (.BoolOp .Or (a::b::eA) pos) (tOr tA tB'):=by
 intro wh bx s σ H Q I h;refine isTrue_or (thn (ha bx s σ H _ I h) λc s1 hz_=>?_)
 obtain⟨H1,I1,q1⟩:=hz_
 cases c with
 |true=>exact⟨H1,I1,q1⟩
 |false=>exact hb wh bx s1 σ H1 Q I1 q1
theorem aG6(ha:PT X a tA):PT X (.UnaryOp .Not a pos) (aMs tA):=by
 intro bx s σ H Q I h;exact isTrue_not (ha bx s σ H (λc H1=>Q (!c) H1) I h)
def aG7(ta tb:TE):TE:=λσ H Q=>ta σ H λx H1=>∃c,x= .bl c/\if c=true then tb σ H1 Q else Q (.bl false) H1
def aMt(ta tb:TE):TE:=λσ H Q=>ta σ H λx H1=>∃c,x= .bl c/\if c=true then Q (.bl true) H1 else tb σ H1 Q
def aKw(ta:TE):TE:=λσ H Q=>ta σ H λx H1=>∃c,x= .bl c/\Q (.bl (!c)) H1
theorem aG8{op}{t:TE}(h:PE X a t):PE X (.BoolOp op [a] pos) t:=λbx s σ H Q I hw=>BoolOp_one (h bx s σ H Q I hw)
theorem aG9(ha:PE X a ta)(hb:PE X (.BoolOp .And (b::eA) pos) tb):PE X (.BoolOp .And (a::b::eA) pos) (aG7 ta tb):=by
 intro bx s σ H Q I h;refine BoolOp_and (thn (ha bx s σ H _ I h) λv s1 hz_=>?_)
 obtain⟨x,H1,I1,r1,q1⟩:=hz_;obtain⟨c,rfl,q1⟩:=q1;cases r1;refine wpAny_truthy_bool ?_
 cases c with
 |true=>exact hb bx s1 σ H1 Q I1 q1
 |false=>exact⟨.bl false,H1,I1,rfl,q1⟩
theorem aKx(ha:PE X a ta)(hb:PE X (.BoolOp .Or (b::eA) pos) tb):PE X (.BoolOp .Or (a::b::eA) pos) (aMt ta tb):=by
 intro bx s σ H Q I h;refine BoolOp_or (thn (ha bx s σ H _ I h) λv s1 hz_=>?_)
 obtain⟨x,H1,I1,r1,q1⟩:=hz_;obtain⟨c,rfl,q1⟩:=q1;cases r1;refine wpAny_truthy_bool ?_
 cases c with
 |false=>exact hb bx s1 σ H1 Q I1 q1
 |true=>exact⟨.bl true,H1,I1,rfl,q1⟩
theorem aHa(ha:PE X a ta):PE X (.UnaryOp .Not a pos) (aKw ta):=by
 intro bx s σ H Q I h;refine UnaryOp_ (thn (ha bx s σ H _ I h) λv s1 hz_=>?_)
 obtain⟨x,H1,I1,r1,q1⟩:=hz_;obtain⟨c,rfl,q1⟩:=q1;cases r1;exact not_of (wpAny_truthy_bool ⟨.bl (!c),H1,I1,rfl,q1⟩)
def tIf(t:TT)(ta tb:TE):TE:=λσ H Q=>t σ H λc H1=>if c=true then ta σ H1 Q else tb σ H1 Q
theorem zM{c:Expr}(hc:PT X c tA)(ha:PE X a ta)(hb:PE X b tb):PE X (.IfExp c a b pos) (tIf tA ta tb):=by
 intro bx s σ H Q I h;refine wpAny_IfExp (thn (hc bx s σ H _ I h) λd s1 hz_=>?_)
 obtain⟨H1,I1,q1⟩:=hz_
 cases d with
 |true=>exact ha bx s1 σ H1 Q I1 q1
 |false=>exact hb bx s1 σ H1 Q I1 q1
end
def SqL(K:PySem.W.Frag)(H:Hp)(a:Addr)(xs:List V):Prop:=
 Rd H a (.lst xs)\/
  ∃(o:Obj) (its:Array Value) (n:Nat),K.lookup a=some o/\o.cls= .type "list"/\o.dict=none/\o.data= .seq its n/\its.size<=sizeLine/\bZ xs its.toList
def SqT(K:PySem.W.Frag)(H:Hp)(a:Addr)(xs:List V):Prop:=
 Rd H a (.tup xs)\/
  ∃(o:Obj) (its:Array Value) (n:Nat),K.lookup a=some o/\o.cls= .type "tuple"/\o.dict=none/\o.data= .seq its n/\its.size<=sizeLine/\bZ xs its.toList
noncomputable def aNm:Value->Option V
 |.none=>some .non
 |.bool b=>some (.bl b)
 |.int i _=>some (.int i)
 |.str x _=>some (.str x)
 |.bytes b _=>some (.byt b)
 |.float b _=>some (.flt b)
 |.ref a=>some (.ref a)
 |.type n=>some (.ty n)
 |_=>none
theorem cD.abs{x:V}{u:Value}(r:cD x u):aNm u=some x:=by
 cases x with
 |non=>cases r;rfl
 |bl _=>cases r;rfl
 |int _=>obtain⟨t,rfl⟩:=r;rfl
 |str _=>obtain⟨t,rfl⟩:=r;rfl
 |byt _=>obtain⟨t,rfl⟩:=r;rfl
 |flt _=>obtain⟨t,rfl⟩:=r;rfl
 |ref _=>cases r;rfl
 |ty _=>cases r;rfl
theorem cD.inj{x y:V}{u:Value}(r:cD x u)(q:cD y u):x=y:=Option.some.inj (r.abs.symm.trans q.abs)
theorem bZ.inj: ∀{xs ys:List V} {us:List Value},bZ xs us->bZ ys us->xs=ys
 |_,_,_,.nil,.nil=>rfl
 |_,_,_,.cons r t,.cons r' t'=>by rw[r.inj r',bZ.inj t t']
section
variable {X:Cx} {bx:cc} {σ:St} {H:Hp} {s:Shared} {a:Addr} {xs ys:List V}
theorem SqL.of{K:PySem.W.Frag}(h:H a=some (.lst xs)):SqL K H a xs:=.inl (.inl h)
theorem SqT.of{K:PySem.W.Frag}(h:H a=some (.tup xs)):SqT K H a xs:=.inl (.inl h)
theorem Inv.list(I:Inv X bx σ H s)(h:SqL X.K H a xs): ∃its:List Value,bZ xs its/\PlainL s.heap a its.toArray/\xs.length<=sizeLine:=by
 rcases h with h|⟨o,its,n,hk,hc,hd,hs,hz,r⟩
 ·obtain⟨z,its,n,r,e⟩:=h.ok I.hok;exact⟨its,r,⟨_,n,e,rfl,rfl,rfl⟩,z⟩
 ·refine⟨its.toList,r,⟨o,n,I.kIn a o hk,hc,hd,by simpa using hs⟩,?_⟩
  have e:=r.length;simp only[Array.length_toList]at e
  lia
theorem Inv.tuple(I:Inv X bx σ H s)(h:SqT X.K H a xs): ∃its:List Value,bZ xs its/\IsTup s.heap a its.toArray/\xs.length<=sizeLine:=by
 rcases h with h|⟨o,its,n,hk,hc,_,hs,hz,r⟩
 ·obtain⟨z,its,r,p,_⟩:=h.ok I.hok;exact⟨its,r,p,z⟩
 ·refine⟨its.toList,r,⟨o,I.kIn a o hk,hc,n,by simpa using hs⟩,?_⟩
  have e:=r.length;simp only[Array.length_toList]at e
  lia
theorem Inv.list_inj(I:Inv X bx σ H s)(h:SqL X.K H a xs)(h':SqL X.K H a ys):xs=ys:=by
 obtain⟨its,r,⟨o,n,e,_,_,d⟩,_⟩:=I.list h;obtain⟨its',r',⟨o',n',e',_,_,d'⟩,_⟩:=I.list h';rw[e]at e';cases e';rw[d]at d';injection d' with d1 _
 have:its=its':=by simpa using congrArg Array.toList d1
 subst this;exact r.inj r'
theorem Inv.tuple_inj(I:Inv X bx σ H s)(h:SqT X.K H a xs)(h':SqT X.K H a ys):xs=ys:=by
 obtain⟨its,r,⟨o,e,_,n,d⟩,_⟩:=I.tuple h;obtain⟨its',r',⟨o',e',_,n',d'⟩,_⟩:=I.tuple h';rw[e]at e';cases e';rw[d]at d';injection d' with d1 _
 have:its=its':=by simpa using congrArg Array.toList d1
 subst this;exact r.inj r'
end
noncomputable abbrev Cx.wish(X:Cx)(E:cb):Cx:={X with xe:=E}
section
variable {X:Cx} {bx:cc} {σ:St} {H:Hp} {s:Shared} {E:cb}
end
section
variable {X:Cx} {st:Stmt} {eA:List Stmt} {t u:TS} {e:Expr} {te:TE} {pos:Pos}
def aHb:TS:=λD σ H=>D.nx σ H
def aNn(t u:TS):TS:=λD σ H=>t {D with nx:=u D} σ H
theorem aDb:PSs X [] aHb:=λ_ _ σ H _ I h=>wpAny_execs_nil ⟨σ,H,I,h⟩
theorem zN(h1:PS X st t)(h2:PSs X eA u):PSs X (st::eA) (aNn t u):=by
 intro bx s σ H D I h;refine wpAny_execs_cons (thn (h1 bx s σ H {D with nx:=u D} I h) λf s1 q=>?_)
 cases f with
 |next=>
  obtain⟨σ',H',I',q⟩:=q;exact h2 bx s1 σ' H' D I' q
 |ret v=>exact q
 |brk=>exact q
 |cont=>exact q
theorem aDc(h1:PS X st t):PSs X [st] t:=by
 intro bx s σ H D I h;refine wpAny_execs_cons (thn (h1 bx s σ H D I h) λf s1 q=>?_)
 cases f with
 |next=>exact wpAny_execs_nil q
 |ret v=>exact q
 |brk=>exact q
 |cont=>exact q
def aHc:TS:=λD σ H=>D.bk σ H
def aKy:TS:=λD σ H=>D.ct σ H
theorem aDd:PS X (.Pass pos) aHb:=λ_ _ σ H _ I h=>wpAny_Pass ⟨σ,H,I,h⟩
theorem zO:PS X (.Break pos) aHc:=λ_ _ σ H _ I h=>wpAny_Break ⟨σ,H,I,h⟩
theorem qS:PS X (.Continue pos) aKy:=λ_ _ σ H _ I h=>wpAny_Continue ⟨σ,H,I,h⟩
theorem Inv.quiet{bx:cc}{σ:St}{H:Hp}{s:Shared}(I:Inv X bx σ H s):interactive X.env=false:=by simp[interactive,I.ok.kind]
def aKz(te:TE):TS:=λD σ H=>te σ H λ_ H1=>D.nx σ H1
theorem qT(he:PE X e te)(hs:swapsWith e none pos.line X.env=pure false:=by rfl):PS X (.Expr e pos) (aKz te):=by
 intro bx s σ H D I h;exact wpAny_Expr_any (thn (he bx s σ H _ I h) λv s1 ⟨x,H1,I1,r1,q1⟩=>⟨σ,H1,I1,q1⟩) I.quiet hs
def aNo(te:TE):TS:=λD σ H=>te σ H D.rt
theorem aBz(he:PE X e te):PS X (.Return (some e) pos) (aNo te):=by
 intro bx s σ H D I h;exact wpAny_Return_some (thn (he bx s σ H _ I h) λv s1 ⟨x,H1,I1,r1,q1⟩=>⟨x,σ,H1,I1,r1,q1⟩)
def aK0:TS:=λD _ H=>D.rt .non H
theorem aDe:PS X (.Return none pos) aK0:=λ_ _ σ H _ I h=>wpAny_Return_none ⟨.non,σ,H,I,rfl,h⟩
def aNp(c:TT)(t u:TS):TS:=λD σ H=>c σ H λb H1=>if b=true then t D σ H1 else u D σ H1
theorem aK1{c:Expr}{a b:List Stmt}{tc:TT}(hc:PT X c tc)(ha:PSs X a t)(hb:PSs X b u):PS X (.If c a b pos) (aNp tc t u):=by
 intro bx s σ H D I h;refine wpAny_If (thn (hc bx s σ H _ I h) λd s1 hz_=>?_)
 obtain⟨H1,I1,q1⟩:=hz_
 cases d with
 |true=>exact ha bx s1 σ H1 D I1 q1
 |false=>exact hb bx s1 σ H1 D I1 q1
end
abbrev TG:=V->St->Hp->(St->Hp->Prop)->Prop
abbrev TGs:=List V->St->Hp->(St->Hp->Prop)->Prop
def PG(X:Cx)(target:Expr)(t:TG):Prop:=
 ∀(bx:cc) (s:Shared) (σ:St) (H:Hp) (v:V) (u:Value) (Q:St->Hp->Prop),Inv X bx σ H s->cD v u->t v σ H Q->
  wpAny (model X.prog X.w) X.A (assign target X.env u) (λ_ s'=>∃σ' H',Inv X bx σ' H' s'/\Q σ' H') X.xe s
def PGs(X:Cx)(ts:List Expr)(t:TGs):Prop:=
 ∀(bx:cc) (s:Shared) (σ:St) (H:Hp) (vs:List V) (us:List Value) (Q:St->Hp->Prop),Inv X bx σ H s->bZ vs us->t vs σ H Q->
  wpAny (model X.prog X.w) X.A (assignInOrder ((assignEach ts X.env).map (·.2)) us) (λ_ s'=>∃σ' H',Inv X bx σ' H' s'/\Q σ' H') X.xe s
abbrev aK2:=V->V->V->Hp->(Hp->Prop)->Prop
def aMu(X:Cx)(t:aK2):Prop:=
 ∀(bx:cc) (s:Shared) (σ:St) (H:Hp) (o i v:V) (ov iv u:Value) (Q:Hp->Prop),Inv X bx σ H s->cD o ov->cD i iv->cD v u->t o i v H Q->
  wpAny (model X.prog X.w) X.A (setItem ov iv u) (λ_ s'=>∃H',Inv X bx σ H' s'/\Q H') X.xe s
section
variable {X:Cx} {pos:Pos}
def jN(i:Nat):TG:=λv σ H Q=>Q (σ.set i (some v)) H
theorem j8{i:Nat}{x:Str}(hN:X.N.Nodup)(hi:X.N[i]? =some x)(hx:Loc X.env.scope x)(hf:X.fn x=true\/X.env.scope.names.lookup x=some .local:=by first|exact .inl rfl|exact .inr rfl|assumption):PG X (.Name x pos) (jN i):=by
 intro bx s σ H v u Q I r h;exact wpAny_assign_Name (eX I hN hi hx r (λs' I'=>⟨_,H,I',h⟩) hf)
def aK3:TGs:=λvs σ H Q=>vs=[]/\Q σ H
def aDf(t:TG)(u:TGs):TGs:=λvs σ H Q=>∃v r,vs=v::r/\t v σ H λσ' H'=>u r σ' H' Q
theorem vO:PGs X [] aK3:=by
 intro bx s σ H vs us Q I r h;obtain⟨e,h⟩:=h;subst e;cases r;exact assignInOrder_nil ⟨σ,H,I,h⟩
theorem sI{e:Expr}{es:List Expr}{t:TG}{u:TGs}(h1:PG X e t)(h2:PGs X es u)
  (hs:(assignEach (e::es) X.env).map (·.2)=assign e X.env::(assignEach es X.env).map (·.2):=by rfl):PGs X (e::es) (aDf t u):=by
 intro bx s σ H vs us Q I r h;obtain⟨v,vr,e1,h⟩:=h;subst e1
 cases r with
 |cons r rr=>
  rw[hs];refine assignInOrder_cons (thn (h1 bx s σ H _ _ _ I r h) λ_ s1 hz_=>?_)
  obtain⟨σ1,H1,I1,q1⟩:=hz_;exact h2 bx s1 σ1 H1 _ _ Q I1 rr q1
def aHd(K:PySem.W.Frag)(n:Nat)(t:TGs):TG:=λv σ H Q=>∃a xs,v= .ref a/\SqT K H a xs/\xs.length=n/\t xs σ H Q
theorem aB0{es:List Expr}{k:Nat}{t:TGs}{n:Nat}(hc:X.calm=true)(h:PGs X es t)
  (hn:(assignEach es X.env).length=n:=by rfl) (hst:(assignEach es X.env).findIdx? (·.1)=none:=by rfl):PG X (.Tuple es k pos) (aHd X.K n t):=by
 intro bx s σ H v u Q I r hw;obtain⟨a,xs,e1,hq,hl,hw⟩:=hw;subst e1;cases r;obtain⟨its,rv,ht,hz⟩:=I.tuple hq;refine assign_Tuple_tuple (I.ok.hd hc) ht (by simp[hn, <-hl,rv.length]) hst λh' hx=>?_
 have I1:Inv X bx σ H {s with heap:=h'}:=I.kept (t':=s.toks) λb o e=>hx b o (bf (ah e)) e
 exact h bx _ σ H xs _ Q I1 (by simpa using rv) hw
def aNq(to ti:TE)(t:aK2):TG:=λv σ H Q=>to σ H λo H1=>ti σ H1 λi H2=>t o i v H2 λH3=>Q σ H3
theorem aHe{o i:Expr}{to ti:TE}{t:aK2}(ho:PE X o to)(hi:PE X i ti)(hs:aMu X t)
  (ha: ∀v,assign (.Subscript o i pos) X.env v=(do
   let ov<-holding [v] (eval o X.env);let iv<-holding [v,ov] (eval i X.env)
   standAt pos
   holding [v,ov,iv] (setItem ov iv v)
   release [v,ov,iv] []):=by intro _;rfl):PG X (.Subscript o i pos) (aNq to ti t):=by
 intro bx s σ H v u Q I r h;rw[ha];refine aa (wpAny_holding (thn (ho bx s σ H _ I h) λov s1 hz_=>?_))
 obtain⟨x,H1,I1,r1,q1⟩:=hz_;refine aa (wpAny_holding (thn (hi bx s1 σ H1 _ I1 q1) λiv s2 hz_=>?_))
 obtain⟨y,H2,I2,r2,q2⟩:=hz_;refine aa (wpAny_standAt (aa (wpAny_holding (thn (hs bx s2 σ H2 x y v ov iv u _ I2 r1 r2 r q2) λ_ s3 hz_=>?_))))
 obtain⟨H3,I3,q3⟩:=hz_;exact wpAny_release ⟨σ,H3,I3,q3⟩
def aDg(te:TE)(g:TG):TS:=λD σ H=>te σ H λx H1=>g x σ H1 D.nx
theorem aB1{tg e:Expr}{te:TE}{g:TG}(he:PE X e te)(hg:PG X tg g)(hs:swapsWithSole [tg] e pos.line X.env=pure false:=by rfl)(hw:swappedStores [tg] e X.env=pure none:=by rfl)
  (h1:(assignEach [tg] X.env).map (·.2)=[assign tg X.env]:=by rfl):PS X (.Assign [tg] e pos) (aDg te g):=by
 intro bx s σ H D I h;refine wpAny_Assign_stores (thn (he bx s σ H _ I h) λv s1 ⟨x,H1,I1,r1,q1⟩=>?_) hs hw
 rw[h1];exact thn (hg bx s1 σ H1 x v _ I1 r1 q1) λ_ s2 q=>q
theorem aB2{i:Nat}{x:Str}{e:Expr}{te:TE}{pos':Pos}(hN:X.N.Nodup)(hi:X.N[i]? =some x)(hx:Loc X.env.scope x)(he:PE X e te)(hs:swapsWith e (some (.Name x pos')) pos.line X.env=pure false:=by rfl)(hf:X.fn x=true\/X.env.scope.names.lookup x=some .local:=by first|exact .inl rfl|exact .inr rfl|assumption):
  PS X (.Assign [.Name x pos'] e pos) (aDg te (jN i)):=by
 intro bx s σ H D I h;refine wpAny_Assign_Name (thn (he bx s σ H _ I h) λv s1 ⟨y,H1,I1,r1,q1⟩=>?_) hs
 exact eX I1 hN hi hx r1 (λs2 I2=>⟨_,H1,I2,q1⟩) hf
def aNr(i j:Nat)(ta:TA):TS:=λD σ H=>ta σ H λvs H1=>∃v w,vs=[v,w]/\D.nx ((σ.set i (some v)).set j (some w)) H1
theorem aHf{i j:Nat}{x y:Str}{a b:Expr}{ta:TA}{px py pt:Pos}{kt k2 pt2}(hc:X.calm=true)(hN:X.N.Nodup)(hi:X.N[i]? =some x)(hj:X.N[j]? =some y)(hij:i≠j)
  (hx:X.env.scope.names.lookup x=some .local) (hy:X.env.scope.names.lookup y=some .local) (ha:PA X [a,b] ta)
  (hw:swappedStores [.Tuple [.Name x px,.Name y py] kt pt] (.Tuple [a,b] k2 pt2) X.env=pure (some [x,y]))
  (hs:swapsWithSole [.Tuple [.Name x px,.Name y py] kt pt] (.Tuple [a,b] k2 pt2) pos.line X.env=pure false:=by rfl):
  PS X (.Assign [.Tuple [.Name x px,.Name y py] kt pt] (.Tuple [a,b] k2 pt2) pos) (aNr i j ta):=by
 intro bx s σ H D I h;rw[exec_Assign_arm];refine aa (wpAny_standAt ?_);rw[hs];refine aa (ae ?_);rw[if_neg (by decide)]
 refine aa (Tuple_ (thn (ha _ bx s σ H _ I h) λus s1 hz_=>?_))
 obtain⟨vs,H1,I1,r1,q1⟩:=hz_;obtain⟨v,w,e1,q1⟩:=q1;subst e1
 obtain⟨u1,u2,rfl,rv,rw'⟩: ∃u1 u2,us=[u1,u2]/\cD v u1/\cD w u2:=by
  cases r1 with
  |cons p q=>
   cases q with
   |cons p' q'=>
    cases q';exact⟨_,_,rfl,p,p'⟩
 refine wpAny_newObj_type ?_ (by show 2<=sizeLine;decide)
 have I2:Inv X bx σ H1 {s1 with heap:=s1.heap.push {cls:=.type "tuple",data:=.seq [u1,u2].toArray} }:=I1.kept (t':=s1.toks) λb o e=>af _ e
 rw[hw];refine aa (ae ?_);show wpAny (model X.prog X.w) X.A (do rule "assign.swapped-stores";let items<-unpackItems (.ref s1.heap.objs.size) 2 none;assignInOrder [λv=>bindName X.env y v,λv=>bindName X.env x v] items.reverse;pure Flow.next) _ _ _
 refine aa (wpAny_rule (aa (unpackItems_tuple (items:= #[u1,u2]) (I.ok.hd hc) (IsTup.new s1.heap _) λh' hx'=>?_)))
 have I3:=I2.kept (h':=h') (t':=s1.toks) λb o e=>hx' b o (bf (ah e)) e
 show wpAny _ _ (assignInOrder [λv=>bindName X.env y v,λv=>bindName X.env x v] [u2,u1] >>= λ_=>pure Flow.next) _ _ _
 refine aa (assignInOrder_cons (wpAny_bindName (eX I3 hN hj (.inl hy) rw' (λs2 I4=>?_) (.inr hy))))
 refine assignInOrder_cons (wpAny_bindName (eX I4 hN hi (.inl hx) rv (λs3 I5=>assignInOrder_nil (ae ?_)) (.inr hx)))
 rw[List.set_comm _ _ (Ne.symm hij)]at I5;exact⟨_,H1,I5,q1⟩
end
section
variable {X:Cx} {pos:Pos}
end
structure It where
 go:Nat->Hp->Prop
 yld:Nat->Hp->V->Hp->Prop
 stop:Nat->Hp->Prop
def n6(X:Cx)(bx:cc)(H:Hp)(b:Addr):Prop:=
 H b=none/\b≠X.env.locals/\b∉X.fs/\(b∈X.ex\/X.s₀.heap.objs.size<=b)/\(∀x c,X.env.cells.lookup x=some c->c≠b)/\∀p∈X.pn++bx,p.1≠b
theorem Inv.fpOk{X:Cx}{bx:cc}{σ:St}{H H':Hp}{s:Shared}{b:Addr}(I:Inv X bx σ H s)(hb:s.heap.objs.size<=b)(hn:H' b=none):n6 X bx H' b:=by
 refine⟨hn,Nat.ne_of_gt (bd I.lt hb),I.nofs hb,.inr (Nat.le_trans I.sz hb),λx c e z=>?_,λp hp z=>?_⟩
 ·obtain⟨v,q⟩:=I.cell x c e;exact absurd (bd q.lt (by rw[z];exact hb)) (Nat.lt_irrefl _)
 ·exact absurd (bd (ah (I.pin p hp).1) (by rw[z];exact hb)) (Nat.lt_irrefl _)
structure Turn(P:Program)(w:World)(K:PySem.W.Frag)(tg:Expr)(J:It)(fp:List Addr)(it:Addr)(tn:Nat->Heap->Prop):Prop where
 mem:it∈fp
 obj: ∀i h,tn i h->∀b∈fp, ∃o,h.get? b=some o/\∀v,o.data≠ .cell v
 keep: ∀i h h',tn i h->(∀b∈fp, ∀o,h.get? b=some o->h'.get? b=some o)->tn i h'
 item: ∀(X:Cx),X.prog=P->X.w=w->X.K=K->X.calm=true->∀(i:Nat) (bx:cc) (s:Shared) (σ:St) (H:Hp) (E:cb),Inv X bx σ H s->(∀b∈fp,n6 X bx H b)->tn i s.heap->J.go i H->
  wpAny (model P w) X.A (pyNext (.ref it)) (λr s1=>∃u,r=some u/\
   wpAny (model P w) X.A (letOwnedTupleGo tg (.ref it) u) (λ_ s2=>∃x H',Inv X bx σ H' s2/\cD x u/\J.yld i H x H'/\tn (i+1) s2.heap/\∀b∈fp,H' b=none) E s1) E s
 done: ∀(X:Cx),X.prog=P->X.w=w->X.K=K->X.calm=true->∀(i:Nat) (bx:cc) (s:Shared) (σ:St) (H:Hp) (E:cb),Inv X bx σ H s->(∀b∈fp,n6 X bx H b)->tn i s.heap->J.stop i H->
  wpAny (model P w) X.A (pyNext (.ref it)) (λr s1=>r=none/\Inv X bx σ H s1) E s
 self: ∀(A:Around) (i:Nat) (s:Shared) (Q:cb) (E:cb),tn i s.heap->Q (.ref it) s->wpAny (model P w) A (pyIter (.ref it)) Q E s
abbrev TI:=St->Hp->(It->Hp->Prop)->Prop
def PIE(X:Cx)(bx:cc)(σ:St)(tg:Expr)(R:It->Hp->Prop)(itv:Value)(s2:Shared):Prop:=
 ∃(it:Addr) (fp:List Addr) (tn:Nat->Heap->Prop) (J:It) (H':Hp),itv= .ref it/\Inv X bx σ H' s2/\Turn X.prog X.w X.K tg J fp it tn/\tn 0 s2.heap/\(∀b∈fp,n6 X bx H' b)/\R J H'
def PI(X:Cx)(tg iter:Expr)(wi:TI):Prop:=
 ∀(bx:cc) (s:Shared) (σ:St) (H:Hp) (R:It->Hp->Prop),Inv X bx σ H s->wi σ H R->
  wpAny (model X.prog X.w) X.A (eval iter X.env) (λv s1=>wpAny (model X.prog X.w) X.A (pyIter v) (PIE X bx σ tg R) X.xe s1) X.xe s
theorem aDh{M:Model}{A:Around}{E:cb}{s:Shared}{tg:Expr}{it:Addr}{u:Value}{o:Obj}{n:String}{vs:Array Value}{Q:Unit->Shared->Prop}(ho:s.heap.get? it=some o)(hc:o.cls= .type n)(hd:o.data= .fields vs)
  (hn:["enumerate","zip","dict_itemiterator","dict_reverseitemiterator","odict_iterator","itertools.zip_longest","itertools.pairwise"].contains n=false) (hQ:Q () s):wpAny M A (letOwnedTupleGo tg (.ref it) u) Q E s:=by
 unfold letOwnedTupleGo
 cases tg<;>first
  |exact ae hQ
  |(cases u<;>first
    |exact ae hQ
    | (refine aa (wpAny_load ho ?_)
       rw[hc,hd];show wpAny M A (if(["enumerate","zip","dict_itemiterator","dict_reverseitemiterator","odict_iterator","itertools.zip_longest","itertools.pairwise"].contains n&&vs[0]? ==some (rawInt _))=true then _ else _) Q E s
       rw[if_neg (by intro h;rw[hn,Bool.false_and]at h;cases h)]
       exact ae hQ))
def Itl(K:PySem.W.Frag)(a:Addr):It:=
 ⟨λi H=>∃xs x,SqL K H a xs/\xs[i]? =some x,λi H x H'=>H'=H/\∀xs,SqL K H a xs->xs[i]? =some x,λi H=>∃xs,SqL K H a xs/\xs.length<=i⟩
def Itt(K:PySem.W.Frag)(a:Addr):It:=
 ⟨λi H=>∃xs x,SqT K H a xs/\xs[i]? =some x,λi H x H'=>H'=H/\∀xs,SqT K H a xs->xs[i]? =some x,λi H=>∃xs,SqT K H a xs/\xs.length<=i⟩
def Itr(lo:Int)(n:Nat):It:=⟨λi _=>i<n,λi H x H'=>H'=H/\x= .int (lo+i),λi _=>n<=i⟩
theorem oD{P:Program}{w:World}{K:PySem.W.Frag}{tg:Expr}(a it:Addr):Turn P w K tg (Itl K a) [it] it (λi h=>h.IsListIter it a i) where
 mem:=by simp
 obj:=λi h st b hb=>by
  have e:b=it:=by simpa using hb
  subst e;obtain⟨o,e,c,d⟩:=st;exact⟨o,e,λv z=>by rw[d]at z;cases z⟩
 keep:=λi h h' st k=>st.at λo e=>k it (by simp) o e
 item:=by
  intro X hP hw hK hc i bx s σ H E I hf st hg;subst hP hw hK;obtain⟨xs,x,hq,hx⟩:=hg;obtain⟨its,rv,p,hz⟩:=I.list hq;obtain⟨u,hu,ru⟩:=rv.get hx;obtain⟨f0,f1,f2,f3,f4,f5⟩:=hf it (by simp)
  refine wpAny_pyNext_list_item st p.isList (x:=u) (by simpa using hu) λh' st' sb=>?_
  have I1:Inv X bx σ H {s with heap:=h'}:=I.turned (t':=s.toks) (λb o hb e=>(sb.2 b hb).trans e) f0 f1 f3 f4 f5
  obtain⟨o,e,c,d⟩:=id st';exact⟨u,rfl,aDh (s:={s with heap:=h'}) e c d (by decide) ⟨x,H,I1,ru,⟨rfl,λys hy=>by rw[I.list_inj hy hq];exact hx⟩,st',λb hb=>(hf b hb).1⟩⟩
 done:=by
  intro X hP hw hK hc i bx s σ H E I hf st hg;subst hP hw hK;obtain⟨xs,hq,hx⟩:=hg;obtain⟨its,rv,p,hz⟩:=I.list hq;obtain⟨f0,f1,f2,f3,f4,f5⟩:=hf it (by simp)
  have hl:=rv.length;exact wpAny_pyNext_list_end (I.ok.hd hc) st p.isList (by simp;lia) λh' eb=>⟨rfl,I.turned (t':=s.toks) (λb o hb e=>eb b o hb e) f0 f1 f3 f4 f5⟩
 self:=λ_ _ _ _ _ st h=>wpAny_pyIter_listiter st h
theorem lQ{P:Program}{w:World}{K:PySem.W.Frag}{tg:Expr}(a it:Addr):Turn P w K tg (Itt K a) [it] it (λi h=>h.IsTupleIter it a i) where
 mem:=by simp
 obj:=λi h st b hb=>by
  have e:b=it:=by simpa using hb
  subst e;obtain⟨o,e,c,d⟩:=st;exact⟨o,e,λv z=>by rw[d]at z;cases z⟩
 keep:=λi h h' st k=>st.at λo e=>k it (by simp) o e
 item:=by
  intro X hP hw hK hc i bx s σ H E I hf st hg;subst hP hw hK;obtain⟨xs,x,hq,hx⟩:=hg;obtain⟨its,rv,p,hz⟩:=I.tuple hq;obtain⟨u,hu,ru⟩:=rv.get hx;obtain⟨f0,f1,f2,f3,f4,f5⟩:=hf it (by simp)
  refine wpAny_pyNext_tuple_item st (show s.heap.IsTuple a its.toArray from p) (x:=u) (by simpa using hu) λh' st' sb=>?_
  have I1:Inv X bx σ H {s with heap:=h'}:=I.turned (t':=s.toks) (λb o hb e=>(sb.2 b hb).trans e) f0 f1 f3 f4 f5
  obtain⟨o,e,c,d⟩:=id st';exact⟨u,rfl,aDh (s:={s with heap:=h'}) e c d (by decide) ⟨x,H,I1,ru,⟨rfl,λys hy=>by rw[I.tuple_inj hy hq];exact hx⟩,st',λb hb=>(hf b hb).1⟩⟩
 done:=by
  intro X hP hw hK hc i bx s σ H E I hf st hg;subst hP hw hK;obtain⟨xs,hq,hx⟩:=hg;obtain⟨its,rv,p,hz⟩:=I.tuple hq;obtain⟨f0,f1,f2,f3,f4,f5⟩:=hf it (by simp)
  have hl:=rv.length;exact wpAny_pyNext_tuple_end (I.ok.hd hc) st (show s.heap.IsTuple a its.toArray from p) (by simp;lia) λh' eb=>⟨rfl,I.turned (t':=s.toks) (λb o hb e=>eb b o hb e) f0 f1 f3 f4 f5⟩
 self:=λ_ _ _ _ _ st h=>wpAny_pyIter_tupleiter st h
theorem uM{P:Program}{w:World}{K:PySem.W.Frag}{tg:Expr}(it:Addr)(lo:Int)(n:Nat):Turn P w K tg (Itr lo n) [it] it (λi h=>IsRangeIter h it (lo+(i:Nat)*1) ((n:Int)-(i:Nat)) 1) where
 mem:=by simp
 obj:=λi h st b hb=>by
  have e:b=it:=by simpa using hb
  subst e
  exact⟨_,st,λv z=>by
   have z':Data.fields _=Data.cell v:=z
   cases z'⟩
 keep:=λi h h' st k=>k it (by simp) _ st
 item:=by
  intro X hP hw hK hc i bx s σ H E I hf st hg;subst hP hw hK;obtain⟨f0,f1,f2,f3,f4,f5⟩:=hf it (by simp)
  have W:=Walks.range (prog:=X.prog) (w:=X.w) (I.ok.hd hc) it lo 1 n;refine W.item i s _ _ hg st λv h' tk hv st' kk=>?_
  obtain⟨t,rfl⟩:=hv;have I1:Inv X bx σ H {s with heap:=h',toks:=tk}:=I.turned (λb o hb e=>kk b o (by simpa using hb) e) f0 f1 f3 f4 f5
  refine⟨_,rfl,aDh (s:={s with heap:=h',toks:=tk}) (n:="range_iterator") st' rfl rfl (by decide) ⟨.int (lo+i),H,I1,⟨t,?_⟩,⟨rfl,rfl⟩,st',λb hb=>(hf b hb).1⟩⟩
  rw[Int.mul_one]
 done:=by
  intro X hP hw hK hc i bx s σ H E I hf st hg;subst hP hw hK;obtain⟨f0,f1,f2,f3,f4,f5⟩:=hf it (by simp)
  exact wpAny_pyNext_range_end (I.ok.hd hc) st (by have:n<=i:=hg;lia) λh' eb=>⟨rfl,I.turned (t':=s.toks) (λb o hb e=>eb b o hb e) f0 f1 f3 f4 f5⟩
 self:=λ_ _ _ _ _ st h=>wpAny_pyIter_rangeiter st h
section
variable {X:Cx} {tg:Expr}
theorem zP{bx:cc}{σ:St}{H:Hp}{s:Shared}{R:It->Hp->Prop}{E:cb}{lo hi:Int}{t u v:Tok}{tk:Nat}(I:Inv X bx σ H s)(h1: -(2^62)<=lo)(h2:lo<2^62)(h3: -(2^62)<=hi)(h4:hi<2^62)
  (q:R (Itr lo (hi-lo).toNat) H):wpAny (model X.prog X.w) X.A (pyIter (.ref s.heap.objs.size)) (PIE X bx σ tg R) E {s with heap:=s.heap.push {cls:=.type "range",data:=.fields #[.int lo t,.int hi u,.int 1 v]},toks:=tk}:=by
 refine wpAny_pyIter_range (IsRange.new ..) (small_one h1 h2 h3 h4) ?_;have I1:Inv X bx σ H {s with heap:=s.heap.push {cls:=.type "range",data:=.fields #[.int lo t,.int hi u,.int 1 v]},toks:=tk}:=I.kept λb o e=>af _ e
 refine⟨(s.heap.push {cls:=.type "range",data:=.fields #[.int lo t,.int hi u,.int 1 v]}).objs.size,[(s.heap.push {cls:=.type "range",data:=.fields #[.int lo t,.int hi u,.int 1 v]}).objs.size],_,_,H,rfl,
  I1.kept (t':=tk) λb o e=>af _ e,uM _ lo (hi-lo).toNat,?_,λb hb=>?_,q⟩
 ·have e1:lo+((0:Nat):Int)*1=lo:=by simp
  have e2:(((hi-lo).toNat:Nat):Int)-((0:Nat):Int)=Builtin.Range.rangeSize lo hi 1:=by rw[rangeSize_one];split<;>lia
  show IsRangeIter _ _ (lo+((0:Nat):Int)*1) ((((hi-lo).toNat:Nat):Int)-((0:Nat):Int)) 1;rw[e1,e2];exact ag _ rfl
 ·have e:b=(s.heap.push {cls:=.type "range",data:=.fields #[.int lo t,.int hi u,.int 1 v]}).objs.size:=by simpa using hb
  subst e;exact I1.fpOk (aj _) (I1.hok.fresh (aj _))
def aK4(ta:TA):TI:=λσ H R=>ta σ H λvs H1=>∃j:Int,vs=[.int j]/\ -(2^62)<=j/\j<2^62/\R (Itr 0 j.toNat) H1
theorem oE{a:Expr}{ta:TA}{p pos:Pos}(hg:Gl X "range")(hm:X.mg "range"=none)(ha:PA X [a] ta)(hs:starEach [a] X.env=[(false,eval a X.env)]:=by rfl):PI X tg (.Call (.Name "range" p) [a] [] pos) (aK4 ta):=by
 intro bx s σ H R I h;refine Call_ (fK I hg hm boot_range (PyProof.Rows.callWith_type1 (thn (ha pos bx s σ H _ I h) λus s1 ⟨vs,H1,I1,r1,q1⟩=>?_) hs rfl))
 obtain⟨j,e,q1,q2,q⟩:=q1;subst e
 cases r1 with
 |cons r rr=>
  cases rr;obtain⟨t,rfl⟩:=r;exact call_range_1 (zP I1 (by lia) (by lia) q1 q2 (by simpa using q))
def aNs(wi:TI)(g:TG)(tb:TS):TS:=λD σ H=>wi σ H λJ H1=>∃W:Nat->Nat->St->Hp->Prop,(∃m,W 0 m σ H1)/\∀i m σ H,W i m σ H->
 (J.stop i H/\D.nx σ H)\/(J.go i H/\∃N:St->Hp->Prop,(∀σ' H',N σ' H'->∃m',m'<m/\W (i+1) m' σ' H')/\∀x H',J.yld i H x H'->g x σ H' λσ2 H2=>tb {D with nx:=N,ct:=N,bk:=D.nx} σ2 H2)
def lR(fp:List Addr)(h:Heap):cc:=fp.filterMap λb=>(h.get? b).map λo=>(b,o)
theorem gB{fp:List Addr}{h:Heap}{b:Addr}{o:Obj}(hb:b∈fp)(e:h.get? b=some o):(b,o)∈lR fp h:=List.mem_filterMap.mpr ⟨b,hb,by rw[e];rfl⟩
theorem vP{fp:List Addr}{h:Heap}{p:Addr×Obj}(hp:p∈lR fp h):p.1∈fp/\h.get? p.1=some p.2:=by
 obtain⟨b,hb,e⟩:=List.mem_filterMap.mp hp
 cases q:h.get? b with
 |none=>rw[q]at e;cases e
 |some o=>
  rw[q]at e
  have e':(b,o)=p:=Option.some.inj e
  subst e';exact⟨hb,q⟩
theorem Inv.pinned{bx:cc}{σ:St}{H:Hp}{s:Shared}{fp:List Addr}(I:Inv X bx σ H s)(hf: ∀b∈fp,n6 X bx H b)(ho: ∀b∈fp, ∃o,s.heap.get? b=some o/\∀v,o.data≠ .cell v):Inv X (bx++lR fp s.heap) σ H s:=
 I.pins_of λp hp=>(List.mem_append.mp hp).elim (λz=>I.pin p (bp _ z)) λz=>by
  obtain⟨hb,e⟩:=vP z;obtain⟨f0,f1,f2,_⟩:=hf p.1 hb;obtain⟨o,e',d⟩:=ho p.1 hb;rw[e]at e';cases e';exact⟨e,f0,f1,f2,d⟩
theorem Inv.unpinned{bx pl:cc}{σ:St}{H:Hp}{s:Shared}(I:Inv X (bx++pl) σ H s):Inv X bx σ H s:=I.pins_of λp hp=>I.pin p (bp _ (List.mem_append_left _ hp))
theorem aHg{iter:Expr}{body:List Stmt}{wi:TI}{g:TG}{tb:TS}{pos:Pos}(hp:PassesOwn (model X.prog X.w) X.A X.env X.xe)(hc:X.calm=true)(hi:PI X tg iter wi)(hg:PG X tg g)(hb:PSs X body tb)
  (hs: ∀x,foldedSetIterable iter X.env x=pure x:=by intro _;rfl):PS X (.For tg iter body [] pos) (aNs wi g tb):=by
 intro bx s σ H D I h;refine wpAny_For (thn (hi bx s σ H _ I h) λv s1 h1=>thn h1 λitv s2 h2=>?_) hs
 obtain⟨it,fp,tn,J,H2,e,I2,T,st2,f2,W,⟨m0,w0⟩,turn⟩:=h2;subst e
 -- what stays true of the iterator's objects through the loop
 have stat: ∀{H':Hp},(∀b∈fp,H' b=none)->∀b∈fp,n6 X bx H' b:=λhn b hb=>⟨hn b hb,(f2 b hb).2⟩
 refine codeAny_forLoop_any (λn s'=>∃i σ' H',Inv X bx σ' H' s'/\tn i s'.heap/\(∀b∈fp,H' b=none)/\W i n σ' H') ?_ m0 ⟨0,σ,H2,I2,st2,λb hb=>(f2 b hb).1,w0⟩
 rintro n s3 ⟨i,σ3,H3,I3,st3,fr3,w3⟩;rcases turn i n σ3 H3 w3 with ⟨stop,qn⟩|⟨go,N,hN,step⟩
 ·refine wpAny_passesOwn hp (thn (T.done X rfl rfl rfl hc i bx s3 σ3 H3 X.xe I3 (stat fr3) st3 stop) λr s4 hz_=>?_)
  obtain⟨hr,I4⟩:=hz_;subst hr;exact wpAny_execs_nil ⟨σ3,H3,I4,qn⟩
 ·refine wpAny_passesOwn hp (thn (T.item X rfl rfl rfl hc i bx s3 σ3 H3 X.xe I3 (stat fr3) st3 go) λr s4 hz_=>?_)
  obtain⟨u,hr,h4⟩:=hz_;subst hr;refine wpAny_passesOwn hp (thn h4 λ_ s5 hz_=>?_)
  obtain⟨x,H5,I5,r5,y5,st5,fr5⟩:=hz_;have I5':=I5.pinned (stat fr5) (T.obj _ _ st5);refine wpAny_passesOwn hp (thn (hg _ s5 σ3 H5 x u _ I5' r5 (step x H5 y5)) λ_ s6 hz_=>?_)
  obtain⟨σ6,H6,I6,q6⟩:=hz_;refine wpAny_passesOwn hp (thn (hb _ s6 σ6 H6 _ I6 q6) λf s7 q7=>?_)
  have again: ∀{σ7:St} {H7:Hp},Inv X (bx++lR fp s5.heap) σ7 H7 s7->N σ7 H7->∃m,m<n/\∃i σ' H',Inv X bx σ' H' s7/\tn i s7.heap/\(∀b∈fp,H' b=none)/\W i m σ' H':=λ{σ7 H7} I7 n7=>by
   obtain⟨m',hm,w7⟩:=hN σ7 H7 n7;refine⟨m',hm,i+1,σ7,H7,I7.unpinned,T.keep _ _ _ st5 λb hb o e=>(I7.pin (b,o) (bp _ (bp _ (gB hb e)))).1,λb hb=>?_,w7⟩
   obtain⟨o,e,d⟩:=T.obj _ _ st5 b hb;exact(I7.pin (b,o) (bp _ (bp _ (gB hb e)))).2.1
  cases f with
  |next=>obtain⟨σ7,H7,I7,n7⟩:=q7;exact again I7 n7
  |cont=>obtain⟨σ7,H7,I7,n7⟩:=q7;exact again I7 n7
  |brk=>obtain⟨σ7,H7,I7,q7⟩:=q7;exact⟨σ7,H7,I7.unpinned,q7⟩
  |ret v=>obtain⟨x7,σ7,H7,I7,r7,q7⟩:=q7;exact⟨x7,σ7,H7,I7.unpinned,r7,q7⟩
end
abbrev R2:=V->V->Hp->VK->Prop
def OpR(X:Cx)(f:Value->Value->Sem Value)(r:R2):Prop:=
 ∀(bx:cc) (s:Shared) (σ:St) (H:Hp) (x y:V) (v u:Value) (Q:VK),Inv X bx σ H s->cD x v->cD y u->r x y H Q->
  wpAny (model X.prog X.w) X.A (f v u) (EP X bx σ Q) X.xe s
def UnR(X:Cx)(f:Value->Sem Value)(r:V->Hp->VK->Prop):Prop:=
 ∀(bx:cc) (s:Shared) (σ:St) (H:Hp) (x:V) (v:Value) (Q:VK),Inv X bx σ H s->cD x v->r x H Q->
  wpAny (model X.prog X.w) X.A (f v) (EP X bx σ Q) X.xe s
def mS(X:Cx)(f:Value)(r:List V->Hp->VK->Prop):Prop:=
 ∀(bx:cc) (s:Shared) (σ:St) (H:Hp) (xs:List V) (us:List Value) (Q:VK),Inv X bx σ H s->bZ xs us->r xs H Q->
  wpAny (model X.prog X.w) X.A (call f us) (EP X bx σ Q) X.xe s
def tUn(r:V->Hp->VK->Prop)(ta:TE):TE:=λσ H Q=>ta σ H λx H1=>r x H1 Q
def rI(C:Int->Int->Prop)(g:Int->Int->V):R2:=λx y H Q=>∃i j,x= .int i/\y= .int j/\C i j/\Q (g i j) H
def rI0(g:Int->Int->V):R2:=λx y H Q=>∃i j,x= .int i/\y= .int j/\Q (g i j) H
def rU(g:Int->V):V->Hp->VK->Prop:=λx H Q=>∃i,x= .int i/\Q (g i) H
section
variable {X:Cx} {a b c:Expr} {ta tb tc:TE} {pos:Pos}
theorem aK5{op:UnaryOp}{r:V->Hp->VK->Prop}(ho:UnR X (unaryOp op) r)(ha:PE X a ta):PE X (.UnaryOp op a pos) (tUn r ta):=by
 intro bx s σ H Q I h;exact UnaryOp_ (thn (ha bx s σ H _ I h) λv s1 ⟨x,H1,I1,r1,q1⟩=>ho bx s1 σ H1 x v Q I1 r1 q1)
theorem opI{f:Value->Value->Sem Value}{C:Int->Int->Prop}{g:Int->Int->Int}
  (rule: ∀(i j:Int) (t u:Tok) (s:Shared) (Q:cb) (E:cb),C i j->Q (.int (g i j) s.toks) {s with toks:=s.toks+1}->wpAny (model X.prog X.w) X.A (f (.int i t) (.int j u)) Q E s):
  OpR X f (rI C λi j=>.int (g i j)):=by
 intro bx s σ H x y v u Q I rx ry h;obtain⟨i,j,rfl,rfl,hc,q⟩:=h;obtain⟨t,rfl⟩:=rx;obtain⟨t',rfl⟩:=ry;exact rule i j t t' s _ _ hc ⟨.int (g i j),H,I.tok _,⟨_,rfl⟩,q⟩
theorem aHh{f:Value->Value->Sem Value}{g:Int->Int->Int}
  (rule: ∀(i j:Int) (t u:Tok) (s:Shared) (Q:cb) (E:cb),Q (.int (g i j) s.toks) {s with toks:=s.toks+1}->wpAny (model X.prog X.w) X.A (f (.int i t) (.int j u)) Q E s):
  OpR X f (rI0 λi j=>.int (g i j)):=by
 intro bx s σ H x y v u Q I rx ry h;obtain⟨i,j,rfl,rfl,q⟩:=h;obtain⟨t,rfl⟩:=rx;obtain⟨t',rfl⟩:=ry;exact rule i j t t' s _ _ ⟨.int (g i j),H,I.tok _,⟨_,rfl⟩,q⟩
theorem aKl{f:Value->Value->Sem Value}{g:Int->Int->Bool}
  (rule: ∀(i j:Int) (t u:Tok) (s:Shared) (Q:cb) (E:cb),Q (.bool (g i j)) s->wpAny (model X.prog X.w) X.A (f (.int i t) (.int j u)) Q E s):
  OpR X f (rI0 λi j=>.bl (g i j)):=by
 intro bx s σ H x y v u Q I rx ry h;obtain⟨i,j,rfl,rfl,q⟩:=h;obtain⟨t,rfl⟩:=rx;obtain⟨t',rfl⟩:=ry;exact rule i j t t' s _ _ ⟨.bl (g i j),H,I,rfl,q⟩
def aNt(i j:Int):Prop:=0<j/\j<1073741824
def aNu(i j:Int):Prop:=0<=j/\j<=1000000/\i.natAbs<2^64
def aK6(i j:Int):Prop:=(-(2^64)<i/\i<2^64)\/(-(2^64)<j/\j<2^64)
theorem aK6.ok{i j:Int}(h:aK6 i j):IntMulOk i j:=by
 rcases h with ⟨h1,h2⟩|⟨h1,h2⟩
 ·exact .of_left (intBits_le_64 h1 h2)
 ·exact .of_right (intBits_le_64 h1 h2)
theorem uN(k:Nat):(0:Int)<=2^k:=by
 rw[two_pow_cast];exact Int.natCast_nonneg _
theorem aHi:OpR X (binaryOp .Add) (rI0 λi j=>.int (i+j)):=aHh λ_ _ _ _ _ _ _ q=>add_int q
theorem aHj:OpR X (binaryOp .Sub) (rI0 λi j=>.int (i-j)):=aHh λ_ _ _ _ _ _ _ q=>sub_int q
theorem aHk:OpR X (binaryOp .Mult) (rI aK6 λi j=>.int (i*j)):=opI λ_ _ _ _ _ _ _ hc q=>mul_int q hc.ok
theorem aDi:OpR X (binaryOp .FloorDiv) (rI aNt λi j=>.int (i/j)):=opI λi j _ _ _ _ _ hc q=>by
 have h1:(0:Int)<j:=hc.1;have h2:j<1073741824:=hc.2;exact floordiv_int (by lia) (by rw[Int.fdiv_eq_ediv_of_nonneg i (by lia)];exact q) (.inl (PyProof.noPylong_small (by lia)))
theorem aHl:OpR X (binaryOp .Mod) (rI (λ_ j=>0<j) λi j=>.int (i % j)):=opI λi j _ _ _ _ _ hc q=>by
 have h1:(0:Int)<j:=hc;exact mod_int' (by lia) (by rw[Int.fmod_eq_emod_of_nonneg i (by lia)];exact q)
theorem aHm:OpR X (binaryOp .LShift) (rI aNu λi j=>.int (i*2^j.toNat)):=opI λ_ _ _ _ _ _ _ hc q=>lshift_int_small hc.1 hc.2.1 hc.2.2 q
theorem aHn:OpR X (binaryOp .RShift) (rI (λ_ j=>0<=j) λi j=>.int (i/2^j.toNat)):=opI λi j _ _ _ _ _ hc q=>
 rshift_int hc (by rw[Int.fdiv_eq_ediv_of_nonneg i (uN _)];exact q)
theorem aHo:OpR X (binaryOp .BitAnd) (rI0 λi j=>.int (Builtin.bitAnd i j)):=aHh λ_ _ _ _ _ _ _ q=>and_int q
theorem aK7:OpR X (binaryOp .BitOr) (rI0 λi j=>.int (Builtin.bitOr i j)):=aHh λ_ _ _ _ _ _ _ q=>or_int q
theorem aHp:OpR X (binaryOp .BitXor) (rI0 λi j=>.int (Builtin.bitXor i j)):=aHh λ_ _ _ _ _ _ _ q=>xor_int q
theorem unI{f:Value->Sem Value}{g:Int->Int}
  (rule: ∀(i:Int) (t:Tok) (s:Shared) (Q:cb) (E:cb),Q (.int (g i) s.toks) {s with toks:=s.toks+1}->wpAny (model X.prog X.w) X.A (f (.int i t)) Q E s):
  UnR X f (rU λi=>.int (g i)):=by
 intro bx s σ H x v Q I rx h;obtain⟨i,rfl,q⟩:=h;obtain⟨t,rfl⟩:=rx;exact rule i t s _ _ ⟨.int (g i),H,I.tok _,⟨_,rfl⟩,q⟩
theorem aHq:UnR X (unaryOp .USub) (rU λi=>.int (-i)):=unI λ_ _ _ _ _ q=>neg_int q
end
section
variable {X:Cx} {a b c:Expr} {ta tb tc:TE} {pos:Pos}
theorem sJ{bx:cc}{σ:St}{H:Hp}{s:Shared}{Q:VK}{k k':Bool}(I:Inv X bx σ H s)(q:Q (.bl k) H)(e:k=k'):EP X bx σ Q (.bool k') s:=by
 subst e;exact⟨.bl k,H,I,rfl,q⟩
theorem aK8:OpR X (compareOp .Lt) (rI0 λi j=>.bl (decide (i<j))):=aKl λ_ _ _ _ _ _ _ q=>lt_int q
theorem aK9:OpR X (compareOp .LtE) (rI0 λi j=>.bl (decide (i<=j))):=aKl λ_ _ _ _ _ _ _ q=>le_int q
theorem aLa:OpR X (compareOp .Gt) (rI0 λi j=>.bl (decide (j<i))):=aKl λ_ _ _ _ _ _ _ q=>gt_int q
theorem aLb:OpR X (compareOp .GtE) (rI0 λi j=>.bl (decide (j<=i))):=aKl λ_ _ _ _ _ _ _ q=>ge_int q
theorem vQ:OpR X (compareOp .In) (λx y H Q=>∃i j,x= .str i/\y= .str j/\Q (.bl (!(Builtin.Str.occurrences j i 0 j.length 1).isEmpty)) H):=by
 intro bx s σ H x y v u Q I rx ry h;obtain⟨i,j,rfl,rfl,q⟩:=h;obtain⟨t,rfl⟩:=rx;obtain⟨t',rfl⟩:=ry;exact in_str (sJ I q rfl)
theorem aHr:OpR X (compareOp .Is) (λx y H Q=>y= .non/\Q (.bl (decide (x= .non))) H):=by
 intro bx s σ H x y v u Q I rx ry h;obtain⟨rfl,q⟩:=h;cases ry;refine is_none_gen (sJ I q ?_)
 cases x<;>first
  |(cases rx;rfl)
  |(obtain⟨t,rfl⟩:=rx;rfl)
theorem aDj:OpR X (compareOp .IsNot) (λx y H Q=>y= .non/\Q (.bl (!decide (x= .non))) H):=by
 intro bx s σ H x y v u Q I rx ry h;obtain⟨rfl,q⟩:=h;cases ry;refine isnot_none_gen (sJ I q ?_)
 cases x<;>first
  |(cases rx;rfl)
  |(obtain⟨t,rfl⟩:=rx;rfl)
theorem oF:OpR X (compareOp .NotIn) (λx y H Q=>∃i j,x= .str i/\y= .str j/\Q (.bl (!(!(Builtin.Str.occurrences j i 0 j.length 1).isEmpty))) H):=by
 intro bx s σ H x y v u Q I rx ry h;obtain⟨i,j,rfl,rfl,q⟩:=h;obtain⟨t,rfl⟩:=rx;obtain⟨t',rfl⟩:=ry;exact notIn_str (sJ I q rfl)
theorem lS:(sizeLine:Nat)<2^63:=by rw[sizeLine_eq];decide
theorem uO:OpR X (binaryOp .Add) (λx y H Q=>∃i j,x= .str i/\y= .str j/\i.length+j.length<=sizeLine/\Q (.str (i++j)) H):=by
 intro bx s σ H x y v u Q I rx ry h;obtain⟨i,j,rfl,rfl,hz,q⟩:=h;obtain⟨t,rfl⟩:=rx;obtain⟨t',rfl⟩:=ry;exact add_str (λt' tk=>⟨.str (i++j),H,I.tok _,⟨_,rfl⟩,q⟩) hz
theorem mT{x:V}{us:List Value}(r:bZ [x] us): ∃u,us=[u]/\cD x u:=by
 cases r with
 |cons r1 r2=>cases r2;exact⟨_,rfl,r1⟩
theorem vR{x y:V}{us:List Value}(r:bZ [x,y] us): ∃u w',us=[u,w']/\cD x u/\cD y w':=by
 cases r with
 |cons r1 r2=>
  cases r2 with
  |cons r3 r4=>cases r4;exact⟨_,_,rfl,r1,r3⟩
theorem aHs(hc:X.calm=true):mS X (.builtin "max") (λxs H Q=>∃i j,xs=[.int i,.int j]/\Q (.int (if j > i then j else i)) H):=by
 intro bx s σ H xs us Q I r h;obtain⟨i,j,rfl,q⟩:=h;obtain⟨u,w',rfl,⟨t,rfl⟩,⟨t',rfl⟩⟩:=vR r;refine max_two_ints (I.ok.hd hc) λh' tk k=>⟨_,H,I.kept k,?_,q⟩
 by_cases hj:j > i
 ·rw[if_pos hj,if_pos hj];exact⟨_,rfl⟩
 ·rw[if_neg hj,if_neg hj];exact⟨_,rfl⟩
theorem aHt(hc:X.calm=true):mS X (.builtin "min") (λxs H Q=>∃i j,xs=[.int i,.int j]/\Q (.int (if j<i then j else i)) H):=by
 intro bx s σ H xs us Q I r h;obtain⟨i,j,rfl,q⟩:=h;obtain⟨u,w',rfl,⟨t,rfl⟩,⟨t',rfl⟩⟩:=vR r;refine min_two_ints (I.ok.hd hc) λh' tk k=>⟨_,H,I.kept k,?_,q⟩
 by_cases hj:j<i
 ·rw[if_pos hj,if_pos hj];exact⟨_,rfl⟩
 ·rw[if_neg hj,if_neg hj];exact⟨_,rfl⟩
theorem oG:mS X (.type "int") (λxs H Q=>(∃i,xs=[.int i]/\Q (.int i) H)\/∃k,xs=[.bl k]/\Q (.int (if k then 1 else 0)) H):=by
 intro bx s σ H xs us Q I r h;rcases h with ⟨i,rfl,q⟩|⟨k,rfl,q⟩
 ·obtain⟨u,rfl,t,rfl⟩:=mT r;exact call_int_int ⟨.int i,H,I,⟨_,rfl⟩,q⟩
 ·obtain⟨u,rfl,r1⟩:=mT r;cases r1;exact call_int_bool ⟨.int (if k then 1 else 0),H,I.tok _,⟨_,rfl⟩,q⟩
end
section
variable {prog:Program} {w:World} {A:Around} {E:cb} {s:Shared} {K:PySem.W.Frag} {x dx C f:Addr} {mA:Str->Option Value} {name:Str} {v:Value}
end
section
variable {P:Program} {w:World} {H H':Hp} {h h':Heap} {a C dx:Addr} {fs fs':List (Str×V)}
end
section
variable {X:Cx} {bx:cc} {σ:St} {H:Hp} {s:Shared} {a C dx:Addr} {fs:List (Str×V)} {f:Str} {v:V} {A:Around} {E:cb}
end
section
variable {X:Cx} {o e value:Expr} {f:Str} {pos pos' tpos:Pos} {ta tv:TE}
end
section
variable {X:Cx} {bx:cc} {σ:St} {H:Hp} {s:Shared} {A:Around} {E:cb} {Q:cb} {c:Value} {b:Bool}
end
structure Room(k:Nat)(A:Around):Prop where
 hd:A.handled=none
 dp:A.depth+3*k+5<recursionLimit
 un:A.units+16*k+200<cLine
theorem Room.mono{j k:Nat}{A:Around}(r:Room k A)(h:j<=k):Room j A:=⟨r.hd,by have:=r.dp;lia,by have:=r.un;lia⟩
theorem Room.deeper{k:Nat}{A:Around}(r:Room (k+1) A)(env:Env):Room k (A.deeper env):=
 ⟨r.hd,by have:=r.dp;show A.depth+1+3*k+5<_;lia,by have:=r.un;show A.units+3+16*k+200<_;lia⟩
theorem Room.depth{k:Nat}{A:Around}(r:Room k A):A.depth<recursionLimit:=by have:=r.dp;lia
theorem Room.units{k:Nat}{A:Around}(r:Room k A):A.units+64<cLine:=by have:=r.un;lia
def aB3:TA:=λ_ H Q=>Q [] H
def j9(ta:TE)(tr:TA):TA:=λσ H Q=>ta σ H λx H1=>tr σ H1 λxs H2=>Q (x::xs) H2
section
variable {X:Cx} {e:Expr} {es:List Expr} {te:TE} {t:TA} {pos:Pos}
theorem eK:PA X [] aB3:=λ_ _ _ _ H Q I h=>Calls.spliced_nil ⟨[],H,I,.nil,h⟩
theorem cM(ha:PE X e te)(hr:PA X es t)(hs:starEach (e::es) X.env=(false,eval e X.env)::starEach es X.env:=by rfl):PA X (e::es) (j9 te t):=by
 intro pos bx s σ H Q I h;rw[hs];show wpAny _ _ (spliced ((false,eval e X.env)::backTo pos (starEach es X.env))) _ _ s;refine Calls.spliced_cons (thn (ha bx s σ H _ I h) λu s1 hz_=>?_)
 obtain⟨x,H1,I1,r1,q1⟩:=hz_;exact thn (hr pos bx s1 σ H1 _ I1 q1) λus s2 ⟨xs,H2,I2,r2,q2⟩=>⟨x::xs,H2,I2,.cons r1 r2,q2⟩
def aNv(t:TA):TE:=λσ H Q=>t σ H λxs H1=>xs.length<=sizeLine/\∀p,H1 p=none->Q (.ref p) (upd H1 p (.tup xs))
def aNw(t:TA):TE:=λσ H Q=>t σ H λxs H1=>xs.length<=sizeLine/\∀p,H1 p=none->Q (.ref p) (upd H1 p (.lst xs))
theorem aHu{x1}(h:PA X es t):PE X (.Tuple es x1 pos) (aNv t):=by
 intro bx s σ H Q I hq;refine wpAny_Tuple_spliced (thn (h pos bx s σ H _ I hq) λus s1 ⟨xs,H1,I1,r,z,q⟩=>⟨by rw[<-r.length];exact z,?_⟩)
 have hf:H1 s1.heap.objs.size=none:=I1.hok.fresh (aj _)
 refine⟨.ref s1.heap.objs.size,upd H1 s1.heap.objs.size (.tup xs),I1.laid (t':=s1.toks) (λb u e=>af _ e) (aj _) ?_,rfl,q _ hf⟩
 exact⟨z,us,r,⟨_,ag _ rfl,rfl,_,rfl⟩,⟨_,ag _ rfl,rfl⟩⟩
theorem aHv(h:PA X es t):PE X (.List es pos) (aNw t):=by
 intro bx s σ H Q I hq;refine wpAny_List_spliced (thn (h pos bx s σ H _ I hq) λus s1 ⟨xs,H1,I1,r,z,q⟩=>⟨by rw[<-r.length];exact z,?_⟩)
 have hf:H1 s1.heap.objs.size=none:=I1.hok.fresh (aj _)
 refine⟨.ref s1.heap.objs.size,upd H1 s1.heap.objs.size (.lst xs),I1.laid (t':=s1.toks) (λb u e=>af _ e) (aj _) ?_,rfl,q _ hf⟩
 exact⟨z,us,0,r,ag _ rfl⟩
end
abbrev Sp:=List V->Hp->VK->XK->Prop
abbrev CXT:=List Env->Hp->Shared->XK->Value->Shared->Prop
structure Env0(P:Program)(w:World)(K:PySem.W.Frag)(mg:Str->Option Value)(base:Heap)(A:Around)(outer:List Env)(s:Shared)(H:Hp):Prop where
 frames:A.frames=some outer
 mod:Mod K mg base
 bs: ∀b o,base.get? b=some o->s.heap.get? b=some o/\H b=none
 bsz:base.objs.size<=s.heap.objs.size
 funs:s.heap.FunFrames base outer
 frf: ∀b∈frs outer,H b=none
 hok:HOk P w H s.heap
 bare:AllBare s.gens
def CE(outer:List Env)(P:Program)(w:World)(H:Hp)(s:Shared)(Q:VK)(u:Value)(s':Shared):Prop:=
 ∃v H',s'.os=s.os/\AllBare s'.gens/\Un (frs outer) [] H H' s.heap s'.heap/\HOk P w H' s'.heap/\cD v u/\Q v H'
def CR(CX:CXT)(outer:List Env)(P:Program)(w:World)(H:Hp)(s:Shared)(Q:VK)(E:XK)(r:Result)(s':Shared):Prop:=
 match r with
 |.ok (.ret u)=>CE outer P w H s Q u s'
 |.ok _=>False
 |.error e=>CX outer H s E e s'
structure FnOk(P:Program)(w:World)(K:PySem.W.Frag)(mg:Str->Option Value)(base:Heap)(CX:CXT)(k:Nat)(f:Addr)(fd:FuncData)(ps:List Str)(sp:Sp):Prop where
 len: ∀vs H Q E,sp vs H Q E->vs.length=ps.length
 run: ∀(A:Around) (outer:List Env) (s:Shared) (H:Hp) (args:Args) (us:List Value) (vs:List V) (Q:VK) (E:XK),Room k A->Env0 P w K mg base A outer s H->BindsTo s fd args (ps.zip us)->bZ vs us->sp vs H Q E->
  codeAny (model P w) A (.call (.ref f) args) (CR CX outer P w H s Q E) s
theorem FnOk.imp{P:Program}{w:World}{K:PySem.W.Frag}{mg:Str->Option Value}{base:Heap}{CX:CXT}{k:Nat}{f:Addr}{fd:FuncData}{ps:List Str}{sp sp':Sp}(F:FnOk P w K mg base CX k f fd ps sp)
  (h: ∀vs H Q E,sp' vs H Q E->sp vs H Q E):FnOk P w K mg base CX k f fd ps sp':=
 ⟨λvs H Q E q=>F.len vs H Q E (h _ _ _ _ q),λA outer s H args us vs Q E hr he hb hv hs=>F.run A outer s H args us vs Q E hr he hb hv (h _ _ _ _ hs)⟩
section
variable {X:Cx} {bx:cc} {σ:St} {H:Hp} {s s':Shared}
theorem Inv.env0(I:Inv X bx σ H s):Env0 X.prog X.w X.K X.mg X.base X.A X.stack s H:=
 ⟨I.ok.frames,I.ok.mod,I.bs,Nat.le_trans I.ok.bsz I.sz,I.stack,I.stkFree,I.hok,I.bare⟩
theorem Inv.after{Q:VK}{u:Value}(I:Inv X bx σ H s)(h:CE X.stack X.prog X.w H s Q u s'):EP X bx σ Q u s':=by
 obtain⟨v,H',os,bare,un,hok,r,q⟩:=h;obtain⟨hh,g,d,t,os'⟩:=s';obtain rfl:os'=s.os:=os;exact⟨v,H',I.call (h':=hh) (g':=g) (d':=d) (t':=t) (ch:=[]) un hok bare (λb z=>absurd z (by simp)),r,q⟩
end
def kA(K:PySem.W.Frag)(fd:FuncData)(ps:List Str)(ds:List Value):Prop:=
 ∀(s:Shared) (us:List Value),K.In s.heap->(us++ds).length=ps.length->BindsTo s fd ⟨us,[]⟩ (ps.zip (us++ds))
theorem kA.all{K:PySem.W.Frag}{fd:FuncData}{ps:List Str}(h: ∀us:List Value,us.length=ps.length->bindArgs fd ⟨us,[]⟩=pure (ps.zip us)):kA K fd ps []:=λs us _ hl=>by
 rw[List.append_nil]at hl ⊢;exact .of_eq (h us hl)
section
variable {X:Cx} {CX:CXT} {k:Nat} {f C:Addr} {fd:FuncData} {ps:List Str} {sp:Sp} {dvs:List V} {ds:List Value} {E:XK} {x m:Str} {p pos apos:Pos} {e o:Expr} {es:List Expr} {ta:TE} {t:TA}
end
def PK(X:Cx)(kws:List Keyword)(t:TA):Prop:=
 ∀(pos:Pos) (bx:cc) (s:Shared) (σ:St) (H:Hp) (Q:List V->Hp->Prop),Inv X bx σ H s->t σ H Q->wpAny (model X.prog X.w) X.A (evalAll ((backToKw pos (keywordEach kws X.env)).map (·.2))) (AP X bx σ Q) X.xe s
section
variable {X:Cx} {CX:CXT} {k:Nat} {f C:Addr} {fd:FuncData} {ps ks:List Str} {sp:Sp} {E:XK} {x m:Str} {p pos apos kpos:Pos} {e o:Expr} {es:List Expr} {kws:List Keyword} {te ta:TE} {t tk:TA} {nm:Option Str}
variable {g:List Value->List Value->List Value} {gV:List V->List V->List V}
end
structure FnScope(N P:List Str)(sc:Scope):Prop where
 kind:sc.kind= .function
 co:sc.isCoroutine=false
 gen:sc.isGenerator=false
 nd:N.Nodup
 pre:N.take P.length=P
 par: ∀x∈P,sc.names.lookup x=some .local\/sc.names.lookup x=some .cell
 nofree: ∀y∈sc.names,y.2≠ .free
theorem oH{kindOf:Str->Option NameKind}{x:Str}: ∀{binds:List (Str×Value)} {m:Str->Option Value},(∀v,(x,v)∉binds)->bindL kindOf binds m x=m x
 |[],_,_=>rfl
 |(n,v)::r,m,h=>by
  unfold bindL;rw[oH λw hw=>h w (List.mem_cons_of_mem _ hw)]
  split
  ·have:x≠n:=by rintro rfl;exact h v List.mem_cons_self
   simp[this]
  ·rfl
theorem oI{kindOf:Str->Option NameKind}{x:Str}: ∀{binds:List (Str×Value)} {m:Str->Option Value},(∀v,(x,v)∉binds)->bindC kindOf binds m x=m x
 |[],_,_=>rfl
 |(n,v)::r,m,h=>by
  unfold bindC;rw[oI λw hw=>h w (List.mem_cons_of_mem _ hw)]
  split
  ·rfl
  ·have:x≠n:=by rintro rfl;exact h v List.mem_cons_self
   simp[this]
theorem oJ{kindOf:Str->Option NameKind}{x:Str}{v:Value}: ∀{P:List Str} {vs:List Value} {i:Nat} {m:Str->Option Value},P.Nodup->P[i]? =some x->vs[i]? =some v->kindOf x=some .local->
  bindL kindOf (P.zip vs) m x=some v
 |[],_,_,_,_,h,_,_=>by simp at h
 |_::_,[],_,_,_,_,h,_=>by simp at h
 |p::P,w::vs,0,m,nd,h1,h2,hk=>by
  simp at h1 h2;subst h1;subst h2
  show bindL kindOf ((p,w)::P.zip vs) m p=_;unfold bindL;rw[oH λv hv=>(List.nodup_cons.mp nd).1 (List.of_mem_zip hv).1,if_pos hk]
  simp
 |p::P,w::vs,i+1,m,nd,h1,h2,hk=>by
  show bindL kindOf ((p,w)::P.zip vs) m x=_;unfold bindL;exact oJ (i:=i) (List.nodup_cons.mp nd).2 (by simpa using h1) (by simpa using h2) hk
theorem oK{kindOf:Str->Option NameKind}{x:Str}{v:Value}: ∀{P:List Str} {vs:List Value} {i:Nat} {m:Str->Option Value},P.Nodup->P[i]? =some x->vs[i]? =some v->kindOf x≠some .local->
  bindC kindOf (P.zip vs) m x=some v
 |[],_,_,_,_,h,_,_=>by simp at h
 |_::_,[],_,_,_,_,h,_=>by simp at h
 |p::P,w::vs,0,m,nd,h1,h2,hk=>by
  simp at h1 h2;subst h1;subst h2
  show bindC kindOf ((p,w)::P.zip vs) m p=_;unfold bindC;rw[oI λv hv=>(List.nodup_cons.mp nd).1 (List.of_mem_zip hv).1,if_neg hk]
  simp
 |p::P,w::vs,i+1,m,nd,h1,h2,hk=>by
  show bindC kindOf ((p,w)::P.zip vs) m x=_;unfold bindC;exact oK (i:=i) (List.nodup_cons.mp nd).2 (by simpa using h1) (by simpa using h2) hk
noncomputable def start(N:List Str)(vs:List V):St:=vs.map some++ak (N.length-vs.length) none
noncomputable def zQ(CX:CXT)(P:Program)(w:World)(K:PySem.W.Frag)(mg:Str->Option Value)(base:Heap)(N:List Str)(qual:Str)(scope:Scope)(f:Addr)(cd:Value)(A:Around)(outer:List Env)(s:Shared)(H:Hp)(E:XK):Cx where
 prog:=P
 w:=w
 K:=K
 mg:=mg
 base:=base
 A:=A.deeper (envOfC qual scope s.heap.objs.size f cd)
 N:=N
 s₀:=s
 H₀:=H
 env:=envOfC qual scope s.heap.objs.size f cd
 outer:=outer
 stack:=envOfC qual scope s.heap.objs.size f cd::outer
 ex:=[]
 calm:=true
 fn:=λ_=>true
 pn:=[]
 xe:=λe s'=>wpAny (model P w) (A.deeper (envOfC qual scope s.heap.objs.size f cd)) (leaving (envOfC qual scope s.heap.objs.size f cd) e) (λ_ s''=>CX outer H s E e s'') (λe' s''=>CX outer H s E e' s'') s'
theorem sK{sc:Scope}{n:Nat}{x:Str}(h:sc.names.lookup x=some .cell): ∃c,(cellsFrom n sc.names []).lookup x=some c:=by
 have q:=PySem.W.cellsFrom_some sc.names n [] (.inl h);exact Option.isSome_iff_exists.mp q
theorem vS{CX:CXT}{P:Program}{w:World}{K:PySem.W.Frag}{mg:Str->Option Value}{base:Heap}{N ps:List Str}{qual:Str}{scope:Scope}{f:Addr}{cd:Value}{A:Around}{outer:List Env}{s s1:Shared}{H:Hp}{E:XK}{us:List Value}{vs:List V}
  (S:FnScope N ps scope) (hd:A.handled=none) (e0:Env0 P w K mg base A outer s H) (hl:vs.length=ps.length) (r:bZ vs us)
  (x:InCallC s s.heap.objs.size (bindL (envOfC qual scope s.heap.objs.size f cd).kindOf (ps.zip us) λ_=>none) (cellsFrom (s.heap.objs.size+1) scope.names []) (bindC (envOfC qual scope s.heap.objs.size f cd).kindOf (ps.zip us) λ_=>none) s1):
  Inv (zQ CX P w K mg base N qual scope f cd A outer s H E) [] (start N vs) H s1:=by
 have hpl:ps.length<=N.length:=by have:=congrArg List.length S.pre;rw[List.length_take]at this;lia
 obtain⟨h1,tk,rfl,hk⟩:=x.done;have noA: ∀b:Addr,b∉(zQ CX P w K mg base N qual scope f cd A outer s H E).ex:=λb z=>absurd (show b∈([]:List Addr) from z) (by simp)
 refine⟨⟨e0.mod,S.kind,rfl,rfl,aj _,λy z c h1 h2=>?_,λy hy=>?_,λy c _ h=>?_,λ_=>hd,Around.frames_deeper e0.frames,.inr ⟨rfl,rfl⟩,λb z=>absurd z (noA b),e0.bs,e0.bsz,λb _ _=>noA b,λb z=>absurd z (noA b),e0.funs,e0.frf⟩,
  rfl,e0.bare,Un.kept hk,⟨_,x.toInCall.ns,λi y v h1 h2 h3=>?_⟩,λy c h=>⟨_,x.cell y c h⟩,e0.hok.fresh (aj _),λy c h=>?_,λp hp=>absurd (show p∈([]:cc) from hp) (by simp),e0.hok.kept hk,?_⟩
 ·exact name_of_addr x.apart (PySem.mem_of_lookup h1) (PySem.mem_of_lookup h2)
 ·have hy:scope.names.lookup y=some .cell\/scope.names.lookup y=some .free:=hy
  rcases hy with hy|hy
  ·exact sK hy
  ·exact absurd rfl (S.nofree _ (PySem.mem_of_lookup hy))
 ·exact Nat.le_of_lt (x.above y c (PySem.mem_of_lookup h))
 ·have hi:i<vs.length:=by
   unfold start at h2
   by_cases hi:i<vs.length
   ·exact hi
   ·rw[bh (by simpa using hi)]at h2
    rw[List.getElem?_replicate]at h2;split at h2<;>cases h2
  have ha:vs[i]? =some v:=by
   unfold start at h2;rw[bt (by simpa using hi),List.getElem?_map]at h2
   cases e:vs[i]? with
   |none=>rw[e]at h2;cases h2
   |some a=>rw[e]at h2;cases h2;rfl
  obtain⟨u,hu,rv⟩:=r.get ha
  have hp:ps[i]? =some y:=by
   rw[<-S.pre,List.getElem?_take_of_lt (by lia)];exact h1
  have ndP:ps.Nodup:=by rw[<-S.pre];exact S.nd.sublist (List.take_sublist _ _)
  refine⟨u,rv,?_⟩;rcases S.par y (List.mem_of_getElem? hp)with k|k
  ·exact .inl ⟨k,oJ ndP hp hu k⟩
  ·obtain⟨c,e⟩:=sK (n:=s.heap.objs.size+1) k;refine .inr ⟨.inl k,c,e,?_⟩;have q:=x.cell y c e;rw[oK ndP hp hu (by show scope.names.lookup y≠_;rw[k];decide)]at q
   exact q
 ·exact e0.hok.fresh (Nat.le_of_lt (x.above y c (PySem.mem_of_lookup h)))
 ·unfold start;show _=N.length;rw[bj,am,List.length_replicate]
  lia
theorem aLc{CX:CXT}{P:Program}{w:World}{K:PySem.W.Frag}{mg:Str->Option Value}{base:Heap}{k:Nat}{f:Addr}{name qual:Str}{params:Arguments}{body:List Stmt}{scope:Scope}{dV kV doc pm cdv ct oc:Value}{an od:Option Addr}
  {osl:Array (Option Value)} {N ps:List Str} {sp:Sp} (lk:K.lookup f=some ⟨oc,od,.func (PySem.W.fnOf name qual params body scope dV kV doc pm an cdv ct),osl⟩) (hcd:PySem.W.codeIn K cdv qual=true) (S:FnScope N ps scope)
  (len: ∀vs H Q E,sp vs H Q E->vs.length=ps.length)
  (hbody: ∀(A:Around) (outer:List Env) (s:Shared) (H:Hp) (vs:List V) (Q:VK) (E:XK),Room k (A.deeper (envOfC qual scope s.heap.objs.size f cdv))->sp vs H Q E->
   ∃t,PSs (zQ CX P w K mg base N qual scope f cdv A outer s H E) body t/\t {nx:=λ_ H'=>Q .non H',rt:=Q} (start N vs) H):
  FnOk P w K mg base CX (k+1) f (PySem.W.fnOf name qual params body scope dV kV doc pm an cdv ct) ps sp:=by
 refine⟨len,λA outer s H args us vs Q E hr e0 hb r hsp=>?_⟩
 have hl:=len _ _ _ _ hsp;have KX:K.In s.heap:=e0.mod.kin.keeps λb o e=>(e0.bs b o e).1
 have lim:s.heap.NoLimit:=e0.mod.nolimit.keeps λb o e=>(e0.bs b o e).1
 have hkind: ∀y∈ps.zip us,scope.names.lookup y.1=some .local\/(scope.names.lookup y.1=some .cell/\((cellsFrom (s.heap.objs.size+1) scope.names []).lookup y.1).isSome=true):=λ⟨n,v⟩ hy=>by
  rcases S.par n (List.of_mem_zip hy).1 with q|q
  ·exact .inl q
  ·exact .inr ⟨q,PySem.W.cellsFrom_some _ _ _ (.inl q)⟩
 refine codeAny_call_function hr.depth (KX _ _ lk) rfl S.co S.gen rfl (PySem.W.codeRec_of KX hcd) (hb _ _ _ _ ?_);refine wpAny_newFunctionEnv_cells S.kind hkind λenv he s1 x=>?_
 subst he;refine⟨lim.keeps x.toInCall.keep,codeAny_func ?_⟩;obtain⟨t,ht,hq⟩:=hbody A outer s H vs Q E (hr.deeper _) hsp;have I:Inv (zQ CX P w K mg base N qual scope f cdv A outer s H E) [] (start N vs) H s1:=vS S hr.hd e0 hl r x;refine wpAny_mono (ht [] s1 (start N vs) H _ I hq) (λfl s' hs=>?_) λe s' hs=>hs
 have fin: ∀{σ':St} {H':Hp} {v:V} {u:Value},Inv (zQ CX P w K mg base N qual scope f cdv A outer s H E) [] σ' H' s'->cD v u->Q v H'->CE outer P w H s Q u s':=
  λ{σ' H' v u} J rv q=>⟨v,H',J.os,J.bare,J.base,J.hok,rv,q⟩
 cases fl with
 |ret u=>
  obtain⟨v,σ',H',J,rv,q⟩:=hs;exact fin J rv q
 |next=>
  obtain⟨σ',H',J,q⟩:=hs;exact fin (v:=V.non) (u:=Value.none) J rfl q
 |brk=>
  obtain⟨_,_,_,q⟩:=hs;exact ax q
 |cont=>
  obtain⟨_,_,_,q⟩:=hs;exact ax q
section
variable {X:Cx} {x:Str} {p pos:Pos} {e:Expr} {es:List Expr} {t:TA} {id T:String} {r:List V->Hp->VK->Prop}
def tCB(r:List V->Hp->VK->Prop)(t:TA):TE:=λσ H Q=>t σ H λvs H1=>r vs H1 Q
theorem zR(hc:mS X (.builtin id) r)(hg:Gl X x)(hm:X.mg x=none)(hv:bootBuiltins x=some (.builtin id))(ha:PA X (e::es) t)(hn:x≠"__name__":=by decide)(hdb:(x==("__debug__":Str))=false:=by decide)
  (he:starEach (e::es) X.env=(false,eval e X.env)::starEach es X.env:=by rfl) (hpl:(backTo pos (starEach es X.env)).any (·.1)=false:=by rfl):PE X (.Call (.Name x p) (e::es) [] pos) (tCB r t):=by
 intro bx s σ H Q I h;refine wpAny_Call_Name_kw (fK I hg hm hv ?_ hn hdb);exact PyProof.Rows.callWith_builtin1 (thn (ha pos bx s σ H _ I h) λus s1 ⟨vs,H1,I1,r1,q1⟩=>hc bx s1 σ H1 vs us Q I1 r1 q1) he hpl
end
end L2
namespace HT
open PySem PyProof.Rows
section
open PySem.SeqAt
open PySem.AutoSeq1 (wpAny_loadPart')
open PySem.MeetsSeq PySem.MeetsSeq2 PySem.MeetsSeq3
end
section
variable {prog:Program} {w:World} {A:Around} {E:cb} {s:Shared}
theorem cat_tup{t b:Addr}{vs ws:List Value}{Q:cb}(ht:IsTup s.heap t vs.toArray)(hb:IsTup s.heap b ws.toArray)(hv:vs≠[])
  (h1:ws=[]->Q (.ref t) s) (h2:ws≠[]->Q (.ref s.heap.objs.size) {s with heap:=s.heap.push {cls:=.type "tuple",data:=.seq (vs++ws).toArray} })
  (hsz:vs.length+ws.length<=sizeLine):wpAny (model prog w) A (binaryOp .Add (.ref t) (.ref b)) Q E s:=by
 obtain⟨⟨cls,dd,data,sl⟩,ho,hc,n,hd⟩:=id ht;obtain⟨⟨cls2,dd2,data2,sl2⟩,ho2,hc2,n2,hd2⟩:=id hb
 simp only at hc hd hc2 hd2
 subst hc hd hc2 hd2
 have e:vs.toArray++ws.toArray=(vs++ws).toArray:=by simp
 by_cases hw:ws=[]
 ·exact concat_meets ⟨_,ho,rfl⟩ ⟨_,ho2,rfl⟩ noFill_tuple_add seq_tuple_add PySem.F.slot_tuple_add PySem.F.entry_tuple_add (PySem.F.args_tuple_add_2 _ _)
   (tuple_addW1 t b vs.toArray ws.toArray n n2 dd dd2 sl sl2 (by simpa using hv) (by simp[hw])) ⟨ho,ho2,h1 hw⟩
 ·refine concat_meets ⟨_,ho,rfl⟩ ⟨_,ho2,rfl⟩ noFill_tuple_add seq_tuple_add PySem.F.slot_tuple_add PySem.F.entry_tuple_add (PySem.F.args_tuple_add_2 _ _)
   (tuple_addW2 t b vs.toArray ws.toArray n n2 dd dd2 sl sl2 (by simpa using hv) (by simpa using hw) (by rw[au,au];exact hsz)) ⟨ho,ho2,?_⟩
  rw[e];exact h2 hw
noncomputable def sIx(n d:Nat):Option Int->Nat
 |none=>d
 |some v=>if v<0 then(v+(n:Int)).toNat else min v.toNat n
theorem aHw(n d:Nat)(hd:d<=n)(o:Option Int):sIx n d o<=n:=by
 cases o with
 |none=>exact hd
 |some v=>
  show(if v<0 then(v+(n:Int)).toNat else min v.toNat n)<=n
  by_cases hv:v<0
  ·rw[if_pos hv];lia
  ·rw[if_neg hv];exact Nat.min_le_right _ _
theorem vT(v:Int)(n d:Nat):(if v<0 then max (v+(n:Int)) 0 else min v (n:Int))=((sIx n d (some v):Nat):Int):=by
 show(if v<0 then max (v+(n:Int)) 0 else min v (n:Int))=(((if v<0 then(v+(n:Int)).toNat else min v.toNat n):Nat):Int)
 by_cases hv:v<0
 ·simp only[if_pos hv];lia
 ·simp only[if_neg hv];lia
theorem uP(lo hi:Option Int)(n:Nat):Builtin.Slice.sliceAdjust lo hi 1 (n:Int)=(((sIx n 0 lo:Nat):Int),((sIx n n hi:Nat):Int)):=by
 have h1: ¬((1:Int)<0):=by lia
 unfold Builtin.Slice.sliceAdjust;simp only[h1,if_false];refine Prod.ext ?_ ?_
 ·cases lo with
  |none=>rfl
  |some v=>exact vT v n 0
 ·cases hi with
  |none=>rfl
  |some v=>exact vT v n n
theorem uQ(i j:Nat):Builtin.Slice.slicePlaces (i:Int) (j:Int) 1=j-i:=by
 unfold Builtin.Slice.slicePlaces;have h1:(1:Int) > 0:=by lia
 simp only[h1,if_true,Int.ediv_one]
 split<;>lia
theorem lT{v:Value}{o:Option Int}{Q:Option Int->Shared->Prop}(p:IsPart v o)(h:Q o s):wpAny (model prog w) A (Builtin.Slice.slicePartIndex v) Q E s:=by
 cases p with
 |none=>exact slicePart_none h
 |int i t=>exact slicePart_int h
theorem sliceApplied_gen{sl:Addr}{vl vu:Value}{lo hi:Option Int}{n:Nat}{Q:Int×Int×Nat->Shared->Prop}(hs:s.heap.IsSliceOf sl vl vu .none)(pl:IsPart vl lo)(pu:IsPart vu hi)
  (h:Q (((sIx n 0 lo:Nat):Int),1,sIx n n hi-sIx n 0 lo) s):wpAny (model prog w) A (Builtin.Slice.sliceApplied (.ref sl) (pure (n:Int))) Q E s:=by
 obtain⟨os,hos,hcs,hds⟩:=id hs;unfold Builtin.Slice.sliceApplied Builtin.Slice.sliceFields;refine aa (aa (wpAny_field hos hds (x:=vl) rfl (aa (wpAny_field hos hds (x:=vu) rfl (aa (wpAny_field hos hds (x:=.none) rfl (ae ?_)))))));refine aa (slicePart_none ?_);show wpAny _ _ (if((1:Int)==0)=true then _ else _) _ _ s
 rw[if_neg (by decide)]
 refine aa (lT pl (aa (lT pu (aa (ae ?_)))));show wpAny _ _ (match Builtin.Slice.sliceAdjust lo hi 1 (n:Int)with|(lo,hi)=>pure (lo,(1:Int),Builtin.Slice.slicePlaces lo hi 1)) _ _ s
 rw[uP lo hi n];show wpAny _ _ (pure (((sIx n 0 lo:Nat):Int),(1:Int),Builtin.Slice.slicePlaces ((sIx n 0 lo:Nat):Int) ((sIx n n hi:Nat):Int) 1)) _ _ s;rw[uQ];exact ae h
theorem zS(xs:Array Value)(i k:Nat):((List.range k).filterMap λ(m:Nat)=>xs[((i:Int)+(m:Int)*1).toNat]?).toArray=((xs.toList.drop i).take k).toArray:=by
 have e:(λ(m:Nat)=>xs[((i:Int)+(m:Int)*1).toNat]?)=λm=>xs[i+m]? :=by
  funext m
  have:((i:Int)+(m:Int)*1).toNat=i+m:=by lia
  rw[this]
 rw[e]
 have:=pick_run xs i k
 rw[List.filterMap_map]at this
 have e2:((λx=>xs[x]?) ∘ λx=>i+x)=λm=>xs[i+m]? :=rfl
 rw[e2]at this;rw[this]
theorem getItem_tuple_cut{t sl:Addr}{items:Array Value}{vl vu:Value}{lo hi:Option Int}{Q:cb}(ht:IsTup s.heap t items)(hs:s.heap.IsSliceOf sl vl vu .none)(pl:IsPart vl lo)(pu:IsPart vu hi)
  (hw: ¬(sIx items.size 0 lo=0/\sIx items.size items.size hi=items.size))
  (h:Q (.ref s.heap.objs.size) {s with heap:=s.heap.push {cls:=.type "tuple",data:=.seq ((items.toList.drop (sIx items.size 0 lo)).take (sIx items.size items.size hi-sIx items.size 0 lo)).toArray} })
  (hsz:items.size<=sizeLine):wpAny (model prog w) A (getItem (.ref t) (.ref sl)) Q E s:=by
 have htake:sizeOk (.seq ((items.toList.drop (sIx items.size 0 lo)).take (sIx items.size items.size hi-sIx items.size 0 lo)).toArray):=by
  show((items.toList.drop (sIx items.size 0 lo)).take (sIx items.size items.size hi-sIx items.size 0 lo)).toArray.size<=sizeLine
  rw[au,List.length_take,List.length_drop,Array.length_toList]
  lia
 have hj:sIx items.size items.size hi<=items.size:=aHw _ _ (aj _) hi
 obtain⟨os,hos,hcs,hds⟩:=id hs;have hTs:s.TypeIs (.ref sl) "slice":=⟨os,hos,hcs⟩;unfold getItem
 try with_reducible refine wpAny_holding ?_
 first|refine aa (ae ?_)|skip
 refine aa (wpAny_sequenceKey ht.typeIs (by decide) ?_)
 refine aa (wpAny_callSpecial?_slot (name:=Str.ofString "__getitem__") ht.typeIs PyProof.Rows.slot_tuple_getitem
  (wpAny_call_entry PyProof.Rows.slot_tuple_getitem ht.typeIs entry_tuple_getitem ?_ (args_tuple_getitem _ _)))
 show wpAny _ _ (Builtin.Tuple.tupleItemsOf (.ref t) >>= _) _ _ s;refine aa (tupleItemsOf_ ht ?_);refine aa (wpAny_typeOf hTs ?_);rw[if_pos (by decide)]
 refine aa (sliceApplied_gen hs pl pu ?_)
 have hno: ¬((((sIx items.size 0 lo:Nat):Int)==0&&(1:Int)==1&&(sIx items.size items.size hi-sIx items.size 0 lo)==items.size)=true):=by
  intro q;rw[ar,ar]at q
  have q1:((sIx items.size 0 lo:Nat):Int)=0:=eq_of_beq q.1.1
  have q2:sIx items.size items.size hi-sIx items.size 0 lo=items.size:=eq_of_beq q.2
  exact hw ⟨by lia,by lia⟩
 show wpAny _ _ (if(((sIx items.size 0 lo:Nat):Int)==0&&(1:Int)==1&&(sIx items.size items.size hi-sIx items.size 0 lo)==items.size)=true then _ else _) _ _ s
 rw[if_neg hno,zS]
 first
  |exact aa (m:=Builtin.Tuple.tupleExact _) (wpAny_newObj_type (ae ⟨_,rfl,ae h⟩) htake)
  |exact aa (m:=Builtin.Tuple.tupleExact _) (wpAny_newObj_type (aa (ae (ae ⟨_,rfl,ae h⟩))) htake)
  |exact aa (aa (m:=Builtin.Tuple.tupleExact _) (wpAny_newObj_type (ae (ae ⟨_,rfl,ae h⟩)) htake))
  |exact aa (aa (m:=Builtin.Tuple.tupleExact _) (wpAny_newObj_type (ae ⟨_,rfl,ae h⟩) htake))
end
end HT
namespace L2
open PySem PySem.Spec PyProof.Rows
abbrev TO:=St->Hp->(Option Int->Hp->Prop)->Prop
theorem aGo{ns:List Int}: ∀{us:List Value},bZ (ns.map V.int) us->IntsAre us ns:=by
 induction ns with
 |nil=>intro us r;rw[List.map_nil]at r;cases r;exact .nil
 |cons n ns ih=>
  intro us r;rw[List.map_cons]at r
  cases r with
  |cons r1 r2=>
   obtain⟨t,e⟩:=r1;subst e;exact .cons n t (ih r2)
section
variable {X:Cx} {e:Expr} {te:TE} {lo hi:Option Expr} {tl th:TO} {pos p2:Pos}
def SlR(X:Cx)(r:V->Option Int->Option Int->Hp->VK->Prop):Prop:=
 ∀(bx:cc) (s:Shared) (σ:St) (H:Hp) (x:V) (v vl vu:Value) (lo hi:Option Int) (sl:Addr) (Q:VK),Inv X bx σ H s->cD x v->s.heap.IsSliceOf sl vl vu .none->IsPart vl lo->IsPart vu hi->r x lo hi H Q->
  ∃T id,typeLookup (.type T) "__getitem__"=pure (some (.builtin id))/\s.TypeIs v T/\wpAny (model X.prog X.w) X.A (getItem v (.ref sl)) (EP X bx σ Q) X.xe s
def zG(xs:List V)(lo hi:Option Int):List V:=(xs.drop (HT.sIx xs.length 0 lo)).take (HT.sIx xs.length xs.length hi-HT.sIx xs.length 0 lo)
theorem kB(xs:List V)(lo hi:Option Int):(zG xs lo hi).length<=xs.length:=by
 unfold zG;rw[List.length_take,List.length_drop]
 lia
def aNx(K:PySem.W.Frag):V->Option Int->Option Int->Hp->VK->Prop:=λx lo hi H Q=>∃a xs,x= .ref a/\SqT K H a xs/\
 ¬(HT.sIx xs.length 0 lo=0/\HT.sIx xs.length xs.length hi=xs.length)/\∀p,H p=none->Q (.ref p) (upd H p (.tup (zG xs lo hi)))
theorem aHx:SlR X (aNx X.K):=by
 intro bx s σ H x v vl vu lo hi sl Q I rx hs pl pu h;obtain⟨a,xs,rfl,hx,hw,q⟩:=h;cases rx;obtain⟨its,r,ht,hz⟩:=I.tuple hx
 have hlen:its.toArray.size=xs.length:=by rw[au];exact r.length.symm
 refine⟨"tuple",_,PyProof.Rows.slot_tuple_getitem.lookup,ht.typeIs,?_⟩;refine HT.getItem_tuple_cut ht hs pl pu (by rw[hlen];exact hw) ?_ (by rw[hlen];exact hz)
 rw[hlen];refine⟨.ref s.heap.objs.size,_,I.laid (t':=s.toks) (o:=.tup (zG xs lo hi)) (λb ob q=>af _ q) (aj _) ?_,rfl,q _ (I.hok.fresh (aj _))⟩
 exact⟨Nat.le_trans (kB xs lo hi) hz,_,(r.drop (HT.sIx xs.length 0 lo)).take (HT.sIx xs.length xs.length hi-HT.sIx xs.length 0 lo),IsTup.new _ _,⟨_,ag _ rfl,rfl⟩⟩
def aLd(K:PySem.W.Frag):R2:=λx y H Q=>∃a b xs ys,x= .ref a/\y= .ref b/\SqT K H a xs/\SqT K H b ys/\xs≠[]/\xs.length+ys.length<=sizeLine/\
 (ys=[]->Q (.ref a) H)/\(ys≠[]->∀p,H p=none->Q (.ref p) (upd H p (.tup (xs++ys))))
theorem bZ.nil_iff{xs:List V}{us:List Value}(r:bZ xs us):us=[]↔xs=[]:=by
 cases r with
 |nil=>simp
 |cons _ _=>simp
theorem aDk:OpR X (binaryOp .Add) (aLd X.K):=by
 intro bx s σ H x y v u Q I rx ry h;obtain⟨a,b,xs,ys,rfl,rfl,ha,hb,hx,hz,q1,q2⟩:=h;cases rx;cases ry;obtain⟨its,r1,p1,_⟩:=I.tuple ha;obtain⟨its2,r2,p2,_⟩:=I.tuple hb;refine HT.cat_tup p1 p2 (λz=>hx (r1.nil_iff.mp z)) (λz=>⟨.ref a,H,I,rfl,q1 (r2.nil_iff.mp z)⟩) (λz=>?_) (by rw[<-r1.length, <-r2.length];exact hz)
 refine⟨.ref s.heap.objs.size,_,I.laid (t':=s.toks) (o:=.tup (xs++ys)) (λb ob q=>af _ q) (aj _) ?_,rfl,q2 (λw=>z (r2.nil_iff.mpr w)) _ (I.hok.fresh (aj _))⟩
 exact⟨by rw[bj];exact hz,_,r1.append r2,IsTup.new _ _,⟨_,ag _ rfl,rfl⟩⟩
end
noncomputable def ixN(n:Nat)(i:Int):Option Nat:=if 0<=i then(if i<n then some i.toNat else none)else if -(n:Int)<=i then some (i+n).toNat else none
def atI{α:Type}(xs:List α)(i:Int):Option α:=(ixN xs.length i).bind λj=>xs[j]?
theorem vU{n:Nat}{i:Int}{j:Nat}(h:ixN n i=some j):seqIndex? i n=some j/\j<n/\ -(n:Int)<=i/\i<n:=by
 unfold ixN at h
 by_cases h0:0<=i
 ·rw[if_pos h0]at h
  by_cases h1:i<n
  ·rw[if_pos h1]at h
   have e:i.toNat=j:=Option.some.inj h
   exact⟨by rw[seqIndex_of h0 h1,e],by lia,by lia,h1⟩
  ·rw[if_neg h1]at h;cases h
 ·rw[if_neg h0]at h
  by_cases h1: -(n:Int)<=i
  ·rw[if_pos h1]at h
   have e:(i+n).toNat=j:=Option.some.inj h
   exact⟨by rw[seqIndex_neg (by lia) h1,e],by lia,h1,by lia⟩
  ·rw[if_neg h1]at h;cases h
theorem qU{α:Type}{xs:List α}{i:Int}{v:α}(h:atI xs i=some v): ∃j,seqIndex? i xs.length=some j/\xs[j]? =some v/\j<xs.length/\ -(xs.length:Int)<=i/\i<xs.length:=by
 unfold atI at h
 cases e:ixN xs.length i with
 |none=>rw[e]at h;cases h
 |some j=>
  rw[e]at h;obtain⟨h1,h2,h3,h4⟩:=vU e;exact⟨j,h1,h,h2,h3,h4⟩
def vV(b:Expr):Prop:= ∀o i,subscripted b false o i=operate [o,i] (getItem o i)
def IxR(X:Cx)(r:R2):Prop:=
 ∀(value slice:Expr) (bx:cc) (s:Shared) (σ:St) (H:Hp) (x y:V) (v u:Value) (Q:VK),Inv X bx σ H s->cD x v->cD y u->r x y H Q->
  subscripted slice false v u=operate [v,u] (getItem v u)->wpAny (model X.prog X.w) X.A (subscriptTail value slice v u) (EP X bx σ Q) X.xe s
def MtR(X:Cx)(id:String)(r:V->List V->Hp->VK->Prop):Prop:=
 ∀(bx:cc) (s:Shared) (σ:St) (H:Hp) (x:V) (xs:List V) (v:Value) (us:List Value) (Q:VK),Inv X bx σ H s->cD x v->bZ xs us->r x xs H Q->
  wpAny (model X.prog X.w) X.A (call (.builtin id) (v::us)) (EP X bx σ Q) X.xe s
section
variable {X:Cx} {a b:Expr} {ta tb:TE} {pos:Pos}
def aMv(K:PySem.W.Frag):R2:=λx y H Q=>∃p xs i v,x= .ref p/\y= .int i/\SqL K H p xs/\atI xs i=some v/\Q v H
def aMw(K:PySem.W.Frag):R2:=λx y H Q=>∃p xs i v,x= .ref p/\y= .int i/\SqT K H p xs/\atI xs i=some v/\Q v H
def aMx:R2:=λx y H Q=>∃z i c,x= .str z/\y= .int i/\z.length<=sizeLine/\atI z.cps.toList i=some c/\Q (.str ⟨#[c]⟩) H
theorem aDl:IxR X (aMv X.K):=by
 intro value slice bx s σ H x y v u Q I rx ry h hs;obtain⟨p,xs,i,z,rfl,rfl,hq,he,q⟩:=h;cases rx;obtain⟨t,rfl⟩:=ry;obtain⟨its,r,pl,hz⟩:=I.list hq;obtain⟨j,h1,h2,h3,h4,h5⟩:=qU he;obtain⟨w,ew,rw'⟩:=r.get h2;have hl:=r.length;have hn:=lS;have fin:EP X bx σ Q w s:=⟨z,H,I,rw',q⟩
 by_cases h0:0<=i
 ·have hj:i.toNat=j:=by
   rw[seqIndex_of h0 h5]at h1;exact Option.some.inj h1
  exact item_listR pl.isList h0 (by lia) (by rw[hj];simpa using ew) fin hs
 ·have hj:(i+(its.toArray.size:Int)).toNat=j:=by
   rw[seqIndex_neg (by lia) h4]at h1
   rw[au, <-hl];exact Option.some.inj h1
  exact subscriptTail_builtinR (x:=w) pl.isList.typeIs slot_list_getitem.lookup
   (wpAny_getItem_list_neg (Q:=λr s'=>r=w/\EP X bx σ Q r s') pl.isList (by lia) (by rw[au]<;>lia) (by lia) (by rw[hj];simpa using ew) ⟨rfl,fin⟩) hs
theorem aHy:IxR X (aMw X.K):=by
 intro value slice bx s σ H x y v u Q I rx ry h hs;obtain⟨p,xs,i,z,rfl,rfl,hq,he,q⟩:=h;cases rx;obtain⟨t,rfl⟩:=ry;obtain⟨its,r,pl,hz⟩:=I.tuple hq;obtain⟨j,h1,h2,h3,h4,h5⟩:=qU he;obtain⟨w,ew,rw'⟩:=r.get h2;have hl:=r.length;have hn:=lS;have fin:EP X bx σ Q w s:=⟨z,H,I,rw',q⟩
 exact subscriptTail_builtinR (x:=w) pl.typeIs slot_tuple_getitem.lookup
  (getItem_tuple (j:=j) (Q:=λr s'=>r=w/\EP X bx σ Q r s') pl (by lia) (by lia) (by rw[au, <-hl];exact h1) (by simpa using ew) ⟨rfl,fin⟩) hs
theorem aHz:IxR X aMx:=by
 intro value slice bx s σ H x y v u Q I rx ry h hs;obtain⟨z,i,c,rfl,rfl,hz,he,q⟩:=h;obtain⟨t,rfl⟩:=rx;obtain⟨t',rfl⟩:=ry;obtain⟨j,h1,h2,h3,h4,h5⟩:=qU he
 have hl:z.cps.toList.length=z.length:=by simp[Str.length]
 rw[hl]at h1 h4 h5;have hn:=lS
 exact tail_any (typeIs_str s z t) slot_str_getitem.lookup (getItem_str (c:=c) (by
  have e1:decide (i< -(2^63:Int))=false:=decide_eq_false (by lia)
  have e2:decide (i≥2^63)=false:=decide_eq_false (by lia)
  rw[e1,e2,Bool.or_false]) (by rw[h1];simpa using h2) ⟨.str ⟨#[c]⟩,H,I.tok _,⟨_,rfl⟩,q⟩) hs
def rIx(K:PySem.W.Frag):R2:=λx y H Q=>aMv K x y H Q\/aMw K x y H Q\/aMx x y H Q
theorem uR(its:List Value)(n j:Nat)(u:Value):Obj.mapSeq (·.setIfInBounds j u) {cls:=.type "list",data:=.seq its.toArray n}={cls:=.type "list",data:=.seq (its.set j u).toArray n}:=by
 simp[Obj.mapSeq]
theorem Inv.lst{bx:cc}{σ:St}{H:Hp}{s:Shared}{p:Addr}{xs:List V}(I:Inv X bx σ H s)(h:H p=some (.lst xs)):
  ∃(its:List Value) (n:Nat),bZ xs its/\s.heap.get? p=some {cls:=.type "list",data:=.seq its.toArray n}/\xs.length<=sizeLine:=by
 obtain⟨z,its,n,r,e⟩:=I.hok p _ h;exact⟨its,n,r,e,z⟩
theorem Inv.lstUpd{bx:cc}{σ:St}{H:Hp}{s:Shared}{p:Addr}{xs ys:List V}{its its':List Value}{n n':Nat}{f:Obj->Obj}(I:Inv X bx σ H s)(h:H p=some (.lst xs))
  (ho:s.heap.get? p=some {cls:=.type "list",data:=.seq its.toArray n}) (hf:f {cls:=.type "list",data:=.seq its.toArray n}={cls:=.type "list",data:=.seq its'.toArray n'}) (r:bZ ys its') (hz:ys.length<=sizeLine) (t:Nat):
  Inv X bx σ (upd H p (.lst ys)) {s with heap:=s.heap.update p f,toks:=t}:=by
 have e:(s.heap.update p f).get? p=some {cls:=.type "list",data:=.seq its'.toArray n'}:=by
  rw[Heap.get?_update_self f ho (by rw[hf]<;>rfl),hf]
 refine I.write (x:=p) (e:=p) (by rw[h];trivial) (.inl rfl) (λb u hb q=>(Heap.get?_update_other _ _ (Ne.symm hb)).trans q) ⟨_,e⟩ ?_
 exact⟨hz,its',n',r,e⟩
def aLe:V->V->V->Hp->(Hp->Prop)->Prop:=λo i v H Q=>∃p xs k j,o= .ref p/\i= .int k/\H p=some (.lst xs)/\ixN xs.length k=some j/\Q (upd H p (.lst (xs.set j v)))
theorem zT:aMu X aLe:=by
 intro bx s σ H o i v ov iv u Q I ro ri rv h;obtain⟨p,xs,k,j,rfl,rfl,hp,hj,q⟩:=h;cases ro;obtain⟨t,rfl⟩:=ri;obtain⟨its,n,r,ho,hz⟩:=I.lst hp;obtain⟨h1,h2,h3,h4⟩:=vU hj;have hl:=r.length;have hn:=lS
 have I':Inv X bx σ (upd H p (.lst (xs.set j v))) {s with heap:=s.heap.update p (Obj.mapSeq (·.setIfInBounds j u))}:=
  I.lstUpd hp ho (uR its n j u) (r.set rv j) (by rw[List.length_set];exact hz) s.toks
 by_cases h0:0<=k
 ·have hk:k.toNat=j:=by
   rw[seqIndex_of h0 h4]at h1;exact Option.some.inj h1
  exact PySem.W.ki_setAt ho h0 (by lia) (by rw[au, <-hl];exact h4) (by rw[hk];exact⟨_,I',q⟩)
 ·have hk:(k+(its.toArray.size:Int)).toNat=j:=by
   rw[seqIndex_neg (by lia) h3]at h1
   rw[au, <-hl];exact Option.some.inj h1
  exact PySem.W.ki_setBack ho (by lia) (by rw[au, <-hl];exact h3) (by lia) (by rw[hk];exact⟨_,I',q⟩)
theorem oM(lo hi:Option Int)(n:Nat):(sliceBounds lo hi none n).1=((HT.sIx n 0 lo:Nat):Int)/\(sliceBounds lo hi none n).2.1=((HT.sIx n n hi:Nat):Int)/\(sliceBounds lo hi none n).2.2=1:=by
 refine⟨?_,?_,rfl⟩
 ·cases lo with
  |none=>simp[sliceBounds,HT.sIx]
  |some i=>
   simp only[sliceBounds,HT.sIx,Option.getD_none,show(1:Int) > 0 by decide,if_true]
   by_cases h:i<0
   ·simp only[h,if_true]<;>lia
   ·simp only[h,if_false]<;>lia
 ·cases hi with
  |none=>simp[sliceBounds,HT.sIx]
  |some i=>
   simp only[sliceBounds,HT.sIx,Option.getD_none,show(1:Int) > 0 by decide,if_true]
   by_cases h:i<0
   ·simp only[h,if_true]<;>lia
   ·simp only[h,if_false]<;>lia
theorem mU(its:List Value)(lo hi:Option Int):slicePick its.toArray lo hi none=((its.drop (HT.sIx its.length 0 lo)).take (HT.sIx its.length its.length hi-HT.sIx its.length 0 lo)).toArray:=by
 obtain⟨h1,h2,h3⟩:=oM lo hi its.toArray.size;unfold slicePick;rw[h1,h2,h3];simp only[sliceRange_one,pick_run,au]<;>rfl
def aNy(K:PySem.W.Frag):V->Option Int->Option Int->Hp->VK->Prop:=λx lo hi H Q=>∃a xs,x= .ref a/\SqL K H a xs/\∀p,H p=none->Q (.ref p) (upd H p (.lst (zG xs lo hi)))
theorem aDm:SlR X (aNy X.K):=by
 intro bx s σ H x v vl vu lo hi sl Q I rx hs pl pu h;obtain⟨a,xs,rfl,hx,q⟩:=h;cases rx;obtain⟨its,r,ht,hz⟩:=I.list hx;have hlen:=r.length;refine⟨"list",_,slot_list_getitem.lookup,ht.isList.typeIs,?_⟩;refine wpAny_getItem_list_slice ht.isList hs pl pu .none (by simp) ?_ (by rw[au]<;>lia)
 rw[mU, <-hlen];refine⟨.ref s.heap.objs.size,_,I.laid (t':=s.toks) (o:=.lst (zG xs lo hi)) (λb ob q=>af _ q) (aj _) ?_,rfl,q _ (I.hok.fresh (aj _))⟩
 exact⟨Nat.le_trans (kB xs lo hi) hz,_,0,(r.drop (HT.sIx xs.length 0 lo)).take (HT.sIx xs.length xs.length hi-HT.sIx xs.length 0 lo),ag _ rfl⟩
theorem oN:mS X (.builtin "len") (λxs H Q=>∃p ys,xs=[.ref p]/\(SqL X.K H p ys\/SqT X.K H p ys)/\Q (.int ys.length) H):=by
 intro bx s σ H xs us Q I r h;obtain⟨p,ys,rfl,hq,q⟩:=h;obtain⟨u,rfl,rx⟩:=mT r;cases rx;have hn:=lS;rcases hq with hq|hq
 ·obtain⟨its,r',pl,hz⟩:=I.list hq;have hlen:=r'.length;exact Calls.call_len_list pl.isList (by simp only[au]<;>lia) ⟨.int ys.length,H,I.tok _,⟨s.toks+1,by rw[au,hlen]⟩,q⟩
 ·obtain⟨its,r',pl,hz⟩:=I.tuple hq;have hlen:=r'.length;exact len_tuple pl (by simp only[au]<;>lia) ⟨.int ys.length,H,I.tok _,⟨s.toks+1,by rw[au,hlen]⟩,q⟩
theorem oO:mS X (.builtin "len") (λxs H Q=>∃z,xs=[.str z]/\z.length<=sizeLine/\Q (.int z.length) H):=by
 intro bx s σ H xs us Q I r h;obtain⟨z,rfl,hz,q⟩:=h;obtain⟨u,rfl,t,rfl⟩:=mT r;have hn:=lS;exact len_str (by lia) ⟨.int z.length,H,I.tok _,⟨_,rfl⟩,q⟩
theorem oP:mS X (.type "list") (λxs H Q=>∃p ys,xs=[.ref p]/\(SqL X.K H p ys\/SqT X.K H p ys)/\∀l,H l=none->Q (.ref l) (upd H l (.lst ys))):=by
 intro bx s σ H xs us Q I r h;obtain⟨p,ys,rfl,hq,q⟩:=h;obtain⟨u,rfl,rx⟩:=mT r;cases rx
 have fin: ∀(its:List Value),bZ ys its->ys.length<=sizeLine->∀(h':Heap) (c':Nat),(∀b o',s.heap.get? b=some o'->h'.get? b=some o')->
   h'.get? s.heap.objs.size=some {cls:=.type "list",dict:=none,data:=.seq its.toArray c',slots:= #[]}->EP X bx σ Q (.ref s.heap.objs.size) {s with heap:=h'}:=λits r' hz h' c' kp e=>
  ⟨.ref s.heap.objs.size,_,I.laid (t':=s.toks) kp (aj _) (show ObjOk X.prog X.w _ h' _ (.lst ys) from⟨hz,its,c',r',e⟩),rfl,q _ (I.hok.fresh (aj _))⟩
 rcases hq with hq|hq
 ·obtain⟨its,r',pl,hz⟩:=I.list hq;have hlen:=r'.length;obtain⟨o,ho,hc,n,hd⟩:=pl.isList;exact call_list_seq p (.inl rfl) ho hc hd (λh' c' kp e=>fin its r' hz h' c' kp e) (by simp only[au]<;>lia)
 ·obtain⟨its,r',pl,hz⟩:=I.tuple hq;have hlen:=r'.length;obtain⟨o,ho,hc,n,hd⟩:=pl;exact call_list_seq p (.inr rfl) ho hc hd (λh' c' kp e=>fin its r' hz h' c' kp e) (by simp only[au]<;>lia)
theorem iB:mS X (.type "tuple") (λxs H Q=>∃p ys,xs=[.ref p]/\((SqL X.K H p ys/\∀l,H l=none->Q (.ref l) (upd H l (.tup ys)))\/(SqT X.K H p ys/\Q (.ref p) H))):=by
 intro bx s σ H xs us Q I r h;obtain⟨p,ys,rfl,h⟩:=h;obtain⟨u,rfl,rx⟩:=mT r;cases rx;rcases h with ⟨hq,q⟩|⟨hq,q⟩
 ·obtain⟨its,r',pl,hz⟩:=I.list hq;have hlen:=r'.length;refine call_tuple_list pl.isList (λh' kp=>?_) (by simp only[au]<;>lia)
  have I1:Inv X bx σ H {s with heap:=h'}:=I.kept (t':=s.toks) kp
  have I2:Inv X bx σ (upd H h'.objs.size (.tup ys)) {s with heap:=h'.push {cls:=.type "tuple",data:=.seq its.toArray} }:=
   I1.laid (t':=s.toks) (λb o e=>af _ e) (aj _) (show ObjOk X.prog X.w _ _ _ (.tup ys) from⟨hz,its,r',IsTup.new _ _,⟨_,ag _ rfl,rfl⟩⟩)
  exact⟨.ref h'.objs.size,_,I2,rfl,q _ (I1.hok.fresh (aj _))⟩
 ·obtain⟨its,r',pl,hz⟩:=I.tuple hq;exact call_tuple_same pl ⟨.ref p,H,I,rfl,q⟩
def tyV(K:PySem.W.Frag)(T:String)(x:V)(H:Hp):Prop:=match x with
 |.str _=>T="str"
 |.int _=>T="int"
 |.ref p=>(T="list"/\∃xs,SqL K H p xs)\/(T="tuple"/\∃o,K.lookup p=some o/\o.cls= .type "tuple"/\o.dict=none)\/
   (T="dict"/\((∃kvs,H p=some (.dK kvs))\/∃kvs,H p=some (.dT kvs)))\/(T="set"/\∃S n,H p=some (.set S n))
 |_=>False
theorem aH0{bx:cc}{σ:St}{H:Hp}{s:Shared}{T:String}{x:V}{v:Value}(I:Inv X bx σ H s)(r:cD x v)(ty:tyV X.K T x H):
  s.TypeIs v T/\∀a,v= .ref a->∃ob,s.heap.get? a=some ob/\ob.dict=none:=by
 cases x with
 |str z=>
  obtain⟨t,rfl⟩:=r
  cases (show T="str" from ty)
  exact⟨typeIs_str s z t,λ_ e=>nomatch e⟩
 |int i=>
  obtain⟨t,rfl⟩:=r
  cases (show T="int" from ty)
  exact⟨typeIs_int s i t,λ_ e=>nomatch e⟩
 |ref p=>
  cases r;rcases ty with ⟨rfl,xs,hq⟩|⟨rfl,o,hk,hc,hd⟩|⟨rfl,hk⟩|⟨rfl,S,n,hk⟩
  ·obtain⟨its,_,pl,_⟩:=I.list hq;refine⟨pl.isList.typeIs,λa e=>?_⟩
   cases e;obtain⟨o,n,e,c,hd,_⟩:=pl;exact⟨o,e,hd⟩
  ·refine⟨⟨o,I.kIn p o hk,hc⟩,λa e=>?_⟩
   cases e;exact⟨o,I.kIn _ o hk,hd⟩
  ·have z: ∃o,s.heap.get? p=some o/\o.ExactDict:=by
    rcases hk with ⟨kvs,hk⟩|⟨kvs,hk⟩
    ·obtain⟨_,_,_,_,o,_,_,e,ex,_⟩:=I.hok p _ hk;exact⟨o,e,ex⟩
    ·obtain⟨_,_,_,_,o,_,_,e,ex,_⟩:=I.hok p _ hk;exact⟨o,e,ex⟩
   obtain⟨o,e,ex⟩:=z;refine⟨⟨o,e,ex.1⟩,λa e2=>?_⟩
   cases e2;exact⟨o,e,ex.2.1⟩
  ·obtain⟨o,_,_,_,e,ex,_⟩:=I.hok p _ hk;refine⟨⟨o,e,ex.1⟩,λa e2=>?_⟩
   cases e2;exact⟨o,e,ex.2.1⟩
 |_=>exact ax ty
def tBM(K:PySem.W.Frag)(T:String)(r:V->List V->Hp->VK->Prop)(to:TE)(t:TA):TE:=λσ H Q=>to σ H λx H1=>tyV K T x H1/\t σ H1 λxs H2=>r x xs H2 Q
variable {o e:Expr} {es:List Expr} {to:TE} {t:TA} {name:Str} {apos cpos:Pos} {T id:String} {r:V->List V->Hp->VK->Prop}
theorem aH1(pa:PlainAttrs T)(slot:Slot T name id)(hty:typeOf (.builtin id)=pure (.type "method_descriptor"))(hm:MtR X id r)(ho:PE X o to)(ha:PA X (e::es) t)
  (hbase:attributeBase o name X.env (eval o X.env)=eval o X.env:=by rfl)
  (hfew:((backTo cpos (starEach (e::es) X.env)).all (λx=> !x.1)&&(backToKw cpos (keywordEach [] X.env)).all (λx=>x.1.isSome)
   &&decide ((e::es).length+([]:List Keyword).length+(if([]:List Keyword).isEmpty then 0 else 1)<30))=true:=by rfl)
  (hline:(apos.endLine==cpos.line)=true:=by rfl) (hs:starEach (e::es) X.env=(false,eval e X.env)::starEach es X.env:=by rfl) (hplain:(backTo cpos (starEach es X.env)).any (·.1)=false:=by rfl):
  PE X (.Call (.Attribute o name apos) (e::es) [] cpos) (tBM X.K T r to t):=by
 intro bx s σ H Q I h;refine wpAny_Call_method_late hbase hfew hline rfl (thn (ho bx s σ H _ I h) λv s1 hz_=>?_)
 obtain⟨x,H1,I1,r1,ty,q1⟩:=hz_;obtain⟨h1,h2⟩:=aH0 I1 r1 ty;refine⟨T,id,pa,slot,hty,h1,h2,?_⟩;have hA:=ha cpos bx s1 σ H1 _ I1 q1;rw[hs]at hA ⊢;refine Calls.callWith_builtin (by show(false||(backTo cpos (starEach es X.env)).any (·.1))=false;rw[hplain]<;>rfl) (Calls.evalArgs_plain ?_)
 exact thn hA λus s2 ⟨vs,H2,I2,r2,q2⟩=>hm bx s2 σ H2 x vs v us Q I2 r1 r2 q2
end
def MtM(X:Cx)(id:String)(r:V->List V->Hp->VK->Prop):Prop:=
 ∀(bx:cc) (s:Shared) (σ:St) (H:Hp) (x:V) (xs:List V) (v:Value) (us:List Value) (Q:VK),Inv X bx σ H s->cD x v->bZ xs us->r x xs H Q->
  wpAny (model X.prog X.w) X.A (call (.builtin id) (v::us)) (EP X bx σ Q) X.xe s
theorem bZ.one: ∀{x:V} {us:List Value},bZ [x] us->∃u,us=[u]/\cD x u:=by
 intro x us h
 cases h with
 |cons r t=>
  cases t;exact⟨_,rfl,r⟩
theorem bZ.two: ∀{x y:V} {us:List Value},bZ [x,y] us->∃u v,us=[u,v]/\cD x u/\cD y v:=by
 intro x y us h
 cases h with
 |cons r t=>
  cases t with
  |cons q t=>
   cases t;exact⟨_,_,rfl,r,q⟩
theorem bZ.rep{xs:List V}{us:List Value}(h:bZ xs us): ∀k:Nat,bZ (ak k xs).flatten (ak k us).flatten
 |0=>.nil
 |k+1=>by
  rw[List.replicate_succ,List.replicate_succ,List.flatten_cons,List.flatten_cons];exact bZ.append h (bZ.rep h k)
theorem oQ(its:List Value): ∀(k:Nat) (acc:List Value),
  List.foldl (λx1 x2=>x1++x2) acc.toArray (ak k its.toArray)=(acc++(ak k its).flatten).toArray
 |0,acc=>by simp
 |k+1,acc=>by
  have e:acc.toArray++its.toArray=(acc++its).toArray:=by simp
  have e2:(acc++its)++(ak k its).flatten=acc++(ak (k+1) its).flatten:=by
   rw[List.replicate_succ,List.flatten_cons,List.append_assoc]
  rw[<-e2, <-oQ its k (acc++its), <-e,List.replicate_succ,List.foldl_cons]
section
variable {X:Cx} {bx:cc} {σ:St} {H:Hp} {s:Shared} {l b:Addr} {xs ys zs:List V}
theorem Inv.lset{its its':List Value}{n:Nat}{f:Array Value->Array Value}{t':Nat}(I:Inv X bx σ H s)(hH:H l=some (.lst xs))
  (e:s.heap.get? l=some {cls:=.type "list",data:=.seq its.toArray n}) (hf:f its.toArray=its'.toArray) (hv:bZ ys its') (hz:ys.length<=sizeLine):
  Inv X bx σ (upd H l (.lst ys)) {s with heap:=s.heap.update l (Obj.mapSeq f),toks:=t'}:=by
 have q:=PySem.IsL.update e f;rw[hf]at q;refine I.write (x:=l) (e:=l) (by rw[hH];exact trivial) (.inl rfl) (λb' u hb hu=>(Heap.get?_update_other s.heap (Obj.mapSeq f) (Ne.symm hb)).trans hu) ⟨_,q⟩ ?_
 exact⟨hz,its',_,hv,q⟩
theorem Inv.lnew{its:List Value}{t':Nat}(I:Inv X bx σ H s)(hv:bZ ys its)(hz:ys.length<=sizeLine):
  Inv X bx σ (upd H s.heap.objs.size (.lst ys)) {s with heap:=s.heap.push {cls:=.type "list",data:=.seq its.toArray},toks:=t'}:=
 I.laid (λ_ _ q=>af _ q) (aj _) ⟨hz,its,0,hv,ag _ rfl⟩
theorem Inv.fresh(I:Inv X bx σ H s):H s.heap.objs.size=none:=I.hok.fresh (aj _)
theorem Inv.lstM(I:Inv X bx σ H s)(hH:H l=some (.lst xs)):xs.length<=sizeLine/\∃(its:List Value) (n:Nat),bZ xs its/\xs.length=its.length/\s.heap.get? l=some {cls:=.type "list",data:=.seq its.toArray n}:=by
 obtain⟨z,its,n,r,e⟩:=I.hok l _ hH;exact⟨z,its,n,r,r.length,e⟩
theorem sL{n:Nat}(h:n<=sizeLine):Builtin.List.listTooLong n=false:=by
 unfold Builtin.List.listTooLong;exact decide_eq_false (by lia)
end
section
variable {X:Cx}
def aDn:V->List V->Hp->VK->Prop:=λx vs H Q=>∃l xs y,x= .ref l/\vs=[y]/\H l=some (.lst xs)/\xs.length<sizeLine/\Q .non (upd H l (.lst (xs++[y])))
theorem oR:MtM X "list.append" aDn:=by
 intro bx s σ H x vs v us Q I rx rv h;obtain⟨l,xs,y,rfl,rfl,hH,hz,q⟩:=h;cases rx;obtain⟨u,rfl,ru⟩:=rv.one;obtain⟨z,its,n,r,hl,e⟩:=I.lstM hH;refine call_meets F.slot_list_append ⟨_,e,rfl⟩ F.entry_list_append (F.args_list_append_2 _ _) (PySem.list_append l its.toArray n u (by rw[au];lia)) ⟨e,?_⟩
 refine⟨.non,_,I.lset (its':=its++[u]) hH e (by simp) (r.append (.cons ru .nil)) ?_,rfl,q⟩
 rw[bj,List.length_singleton]
 lia
theorem qV{α:Type}(xs:List α)(k:Nat):(ak k xs).flatten.length=k*xs.length:=by
 induction k with
 |zero=>simp
 |succ k ih=>rw[List.replicate_succ,List.flatten_cons,bj,ih,Nat.succ_mul,Nat.add_comm]
end
section
variable {prog:Program} {w:World} {A:Around} {E:cb} {s:Shared}
end
section
variable {X:Cx}
end
end L2
namespace Att
open PySem PySem.W PySem.Calls PyProof.Rows
theorem kC{P:Params}{h:Heap}: ∀(ns:List Int) (vs:List Value),WellAll P h vs (ns.map WData.int)->IntsAre vs ns:=by
 intro ns
 induction ns with
 |nil=>
  intro vs w;rw[List.map_nil]at w;cases w;exact .nil
 |cons n ns ih=>
  intro vs w;rw[List.map_cons]at w
  cases w with
  |cons a b=>
   cases a;exact .cons _ _ (ih _ b)
theorem vW{l:OpenLaw}{n:Nat}(hn:l.most=some n){P:Params}{h:Heap}{args:List WData}{vals:List Value}
  (hpre:l.row.toRowW.claim.pre args=true) (hwl:WellAll P h vals args):
  ∃a vs ns,vals=[Value.ref a]/\args=[WData.list (ns.map WData.int)]/\h.get? a=some {cls:=.type "list",data:=.seq vs.toArray}/\IntsAre vs ns/\ns.length<=n:=by
 have hsh:WShape.hasAll [] args [.list .int]=true:=(pre_splitW hpre).1
 have hc:l.pre.holds [] {args:=args}=true:=(pre_splitW hpre).2;obtain⟨d,r,rfl,h1,h2⟩:=hasAllW_cons hsh;obtain rfl:=hasAllW_nil h2;obtain⟨xs,rfl,h3⟩:=hasW_list h1;obtain⟨ns,rfl⟩:=items_int h3
 have hlen:ns.length<=n:=by
  unfold OpenLaw.pre at hc
  have h4:(WTm.not (.lt (.lit (.int (n:Int))) (.len (.arg 0)))).holds [] {args:=[.list (ns.map .int)]}=true:=by
   have h4:=(holds_andW hc).1;rw[hn]at h4;exact h4
  have h5:=condW_of h4 (w_not (w_lt w_lit (w_len_list (w_arg rfl))));rw[am]at h5;refine Nat.le_of_not_lt λq=>?_
  have q':(n:Int)<((ns.length:Nat):Int):=by lia
  first
   |(rw[decide_eq_true q']at h5;exact absurd h5 (by decide))
   |(simp at h5;lia)
 cases hwl with
 |cons w1 w2=>
  cases w2
  cases w1 with
  |list ho hall=>exact⟨_,_,ns,rfl,rfl,ho,kC ns _ hall,hlen⟩
theorem vX(l:OpenLaw)(args:List WData):l.row.toRowW.claim.post args (.bool true) args=true:=
 postW_of (r:=l.row.toRowW) (X:=(true==true))
  (show WShape.has [] (.bool true) .bool=true by first|rfl|decide|simp[WShape.has,WShape.arms,WShape.armsAll])
  (show(WTm.eq .res (.lit (.bool true))).value [] {args:=args,res:=some (.bool true),after:=args}=some (.bool (true==true)) from w_eq_bool (w_res rfl) w_lit) rfl
theorem attach_call{l:OpenLaw}{n:Nat}{q:Program}{loose:List Str}{XP:(Str->Option Value)->Heap->Prop}{YP:World->Heap->Prop}{d:DefRec}
  (hn:l.most=some n) (hdf:d.params.defaults=[])
  (call: ∀(w:World) (s₀ s₁:Shared) (mg mb:Str->Option Value) (fa:Addr) (o:Obj) (pm cd doc:Value) (a:Addr) (vs:List Value) (ns:List Int),
   Ground q loose [] XP w s₀ mg mb s₁.heap->YP w s₁.heap->
   s₁.heap.get? fa=some o->o.data= .func (docDef d.name d.params d.body d.scope pm cd doc)->s₁.heap.CodeRec cd d.name->mg d.name=some (.ref fa)->
   s₁.heap.get? a=some {cls:=.type "list",data:=.seq vs.toArray}->IntsAre vs ns->ns.length<=n->s₁.gens= #[]->
   codeAny (model l.prog w) callerA (.call (.ref fa) ⟨[.ref a],[]⟩) (λr s'=>r= .ok (.ret (.bool true))/\OldK s₁.heap s'.heap/\s'.os=s₁.os/\AllBare s'.gens) s₁):
  WalkO q loose XP YP l.row.toRowW d [] (λf vs=>PySem.call f vs):=by
 intro w s₀ s₁ mg mb G Y fa o pm cd doc dV kV ho hd hcd hD hmg hg args vals as hpre hlay hrd hwl hlo;obtain rfl:dV= .none:=Dflts.none hD hdf;obtain rfl:kV= .none:=Dflts.noKw hD;obtain⟨a,vs,ns,rfl,rfl,hobj,hints,hlen⟩:=vW hn hpre hwl;refine enter_call (codeAny_mono (call w s₀ s₁ mg mb fa o pm cd doc a vs ns G Y ho (fd_plain hd) hcd hmg hobj hints hlen hg) λr s' hq=>?_)
 obtain⟨rfl,h2,h3,h4⟩:=hq;exact⟨.inl ⟨.bool true,.bool true,[],rfl,λ_=>rfl,.bool true,vX l _,λ_=>⟨List.Pairwise.nil,λ_ hm=>(nomatch hm)⟩⟩,h2,h3,h4⟩
section
variable {prog:Program} {w:World} {A:Around} {E:cb} {s:Shared} {K:Frag}
noncomputable def aMy(h:Heap)(L d:Addr):cc:=(List.range h.objs.size).filterMap λa=>if a=L\/a=d then none else(h.get? a).map λo=>(a,o)
end
end Att
namespace L2
open PySem PySem.Spec PyProof.Rows
theorem oS: ∀{vs:List Value} {ns:List Int},IntsAre vs ns->bZ (ns.map V.int) vs
 |_,_,.nil=>.nil
 |_,_,.cons n t h=>.cons ⟨t,rfl⟩ (oS h)
def aLf(H:Hp):Prop:= ∀b,H b=none\/∃o xs,H b=some (.frz o (.lst xs))
theorem zU{P:Program}{w:World}{K:PySem.W.Frag}{mg mb:Str->Option Value}{CX:CXT}{k:Nat}{fa a:Addr}{fd:FuncData}{x:Str}{sp:Sp}{s₁:Shared}{vs:List Value}{ns:List Int}
  (KX:K.In s₁.heap) (hns:s₁.heap.Ns mainGlobals mg) (hb:s₁.heap.Ns builtinsNs mb) (hbb: ∀x:Str,x≠"__name__"->mb x=bootBuiltins x) (hlim:s₁.heap.NoLimit) (hg:s₁.gens= #[])
  (ha:s₁.heap.get? a=some {cls:=.type "list",data:=.seq vs.toArray}) (hi:IntsAre vs ns) (hl:ns.length<=sizeLine) (hr:Room k callerA)
  (F: ∀base:Heap,K.In base->base.Ns mainGlobals mg->FnOk P w K mg base CX k fa fd [x] sp) (hbind: ∀(s:Shared) (u:Value),BindsTo s fd ⟨[u],[]⟩ [(x,u)])
  (hsp: ∀H:Hp,aLf H->SqL K H a (ns.map V.int)->sp [.ref a] H (λv _=>v= .bl true) λ_ _ _=>False)
  (hCX: ∀H e s',CX [] H s₁ (λ_ _ _=>False) e s'->False):
  codeAny (model P w) callerA (.call (.ref fa) ⟨[.ref a],[]⟩) (λr s'=>r= .ok (.ret (.bool true))/\OldK s₁.heap s'.heap/\s'.os=s₁.os/\AllBare s'.gens) s₁:=by
 have rv:=oS hi;have lenV:=hi.length
 -- from an abstract heap in which nothing but the script may be tracked
 have core: ∀H:Hp,aLf H->SqL K H a (ns.map V.int)->HOk P w H s₁.heap->(∀b,H b≠none->b=a)->(H a≠none->K.lookup a=none)->
   codeAny (model P w) callerA (.call (.ref fa) ⟨[.ref a],[]⟩) (λr s'=>r= .ok (.ret (.bool true))/\OldK s₁.heap s'.heap/\s'.os=s₁.os/\AllBare s'.gens) s₁:=by
  intro H hO hS hok hA hK
  have base_of: ∀{b:Addr} {o:Obj},s₁.heap.get? b=some o->H b=none->(zK s₁.heap H).get? b=some o:=λe n=>zL e n
  have noA: ∀{b:Addr} {o:Obj} {es:Array DictEntry} {ep:Nat},s₁.heap.get? b=some o->o.data= .dict es ep->H b=none:=λ{b o es ep} e d=>by
   cases q:H b with
   |none=>rfl
   |some u=>
    have e':b=a:=hA b (by rw[q];simp)
    subst e';rw[ha]at e;cases e
    have d':Data.seq vs.toArray _=Data.dict es ep:=d
    cases d'
  have nsK: ∀{b:Addr} {m:Str->Option Value},s₁.heap.Ns b m->(zK s₁.heap H).Ns b m:=λ{b m} ⟨o,es,ep,e,d,r⟩=>⟨o,es,ep,base_of e (noA e d),d,r⟩
  have hKb:K.In (zK s₁.heap H):=λb o e=>base_of (KX b o e) (by
   cases q:H b with
   |none=>rfl
   |some u=>
    have e':b=a:=hA b (by rw[q];simp)
    subst e';rw[hK (by rw[q];simp)]at e;cases e)
  have hM:Mod K mg (zK s₁.heap H):=⟨hKb,nsK hns,⟨mb,nsK hb,hbb⟩,let ⟨mc,h1,h2⟩:=hlim;⟨mc,nsK h1,h2⟩⟩;have e0:Env0 P w K mg (zK s₁.heap H) callerA [] s₁ H:=⟨rfl,hM,λb o e=>aC8 e,Nat.le_of_eq (vN _ _),trivial,λb hb=>absurd (show b∈([]:List Addr) from hb) (by simp),hok,.of_eq hg⟩
  refine codeAny_mono ((F _ hKb (nsK hns)).run callerA [] s₁ H ⟨[.ref a],[]⟩ [.ref a] [.ref a] _ _ hr e0 (hbind s₁ (.ref a)) (.cons rfl .nil) (hsp H hO hS)) λr s' h=>?_
  cases r with
  |error e=>exact(hCX H e s' h).elim
  |ok fl=>
   cases fl with
   |next=>exact ax h
   |brk=>exact ax h
   |cont=>exact ax h
   |ret u=>
    obtain⟨v,H',os,bare,un,hok',r',q⟩:=h
    have q':v= .bl true:=q
    subst q';obtain rfl:u=Value.bool true:=r';refine⟨rfl,OldK.of_keep λb o e=>?_,os,bare⟩
    cases q:H b with
    |none=>exact un.keep b o e q (by intro z;exact absurd (show b∈([]:List Addr) from z) (by simp)) (by simp)
    |some u=>
     rcases hO b with z|⟨ob,xs,z⟩
     ·rw[q]at z;cases z
     ·have z2:=un.frzs b ob _ z;obtain⟨e1,_⟩:=hok b _ z;obtain⟨e2,_⟩:=hok' b _ z2;rw[e]at e1;cases e1;exact e2
 cases hk:K.lookup a with
 |some o=>
  -- the script is one of the module's own objects
  have e:=KX a o hk;rw[ha]at e;cases e;refine core (λ_=>none) (λ_=>.inl rfl) (.inr ⟨_,vs.toArray,_,hk,rfl,rfl,rfl,by rw[au,lenV];exact hl,by simpa using rv⟩) (λb u z=>by have z':(none:Option HO)=some u:=z;cases z') (λb z=>absurd rfl z) λz=>absurd rfl z
 |none=>
  refine core (λb=>if b=a then some (.frz {cls:=.type "list",data:=.seq vs.toArray} (.lst (ns.map V.int)))else none) (λb=>?_) (.inl (.inr ⟨{cls:=.type "list",data:=.seq vs.toArray},if_pos rfl⟩)) (λb u z=>?_) (λb z=>?_) λ_=>hk
  ·by_cases hb:b=a
   ·exact .inr ⟨_,_,if_pos hb⟩
   ·exact .inl (if_neg hb)
  ·by_cases hb:b=a
   ·have z':=(if_pos hb).symm.trans z;cases z';subst hb;exact⟨ha,by rw[am];exact hl,vs,_,rv,ha⟩
   ·have z':=(if_neg hb).symm.trans z;cases z'
  ·by_cases hb:b=a
   ·exact hb
   ·exact absurd (if_neg hb) z
abbrev KOf{K:PySem.W.Frag}{h:Heap}(_:K.In h):PySem.W.Frag:=K
theorem walk_of{l:PySem.W.OpenLaw}{n k:Nat}{q:Program}{loose:List Str}{XP:(Str->Option Value)->Heap->Prop}{YP:World->Heap->Prop}{d:DefRec}{K:Params->PySem.W.Frag}{CX:World->CXT}{sp:World->Sp}{x:Str}
  (hn:l.most=some n) (hn2:n<=sizeLine) (hdf:d.params.defaults=[]) (hr:Room k callerA)
  (hY: ∀(w:World) (h:Heap),YP w h->(K w.params).In h)
  (F: ∀(w:World) (mg:Str->Option Value) (fa:Addr) (h:Heap),(K w.params).In h->h.Ns mainGlobals mg->mg d.name=some (.ref fa)->
   ∃fd:FuncData,(∀(s:Shared) (u:Value),BindsTo s fd ⟨[u],[]⟩ [(x,u)])/\
    ∀base:Heap,(K w.params).In base->base.Ns mainGlobals mg->FnOk l.prog w (K w.params) mg base (CX w) k fa fd [x] (sp w))
  (hsp: ∀(w:World) (H:Hp) (a:Addr) (ns:List Int),ns.length<=n->aLf H->SqL (K w.params) H a (ns.map V.int)->sp w [.ref a] H (λv _=>v= .bl true) λ_ _ _=>False)
  (hCX: ∀(w:World) (H:Hp) (s:Shared) (e:Value) (s':Shared),CX w [] H s (λ_ _ _=>False) e s'->False):
  PySem.W.WalkO q loose XP YP l.row.toRowW d [] (λf vs=>PySem.call f vs):=by
 refine Att.attach_call hn hdf λw s₀ s₁ mg mb fa o pm cd doc a vs ns G Y ho hd hcd hmg hobj hints hlen hg=>?_
 have KX:=hY w _ Y;obtain⟨fd,hb,hF⟩:=F w mg fa _ KX G.T.g hmg;exact zU KX G.T.g G.T.b G.T.builtins G.T.nolimit hg hobj hints (Nat.le_trans hlen hn2) hr hF hb (λH hO hS=>hsp w H a ns hlen hO hS) λH e s'=>hCX w H s₁ e s'
structure Fun(K:PySem.W.Frag)(x qual:Str)(st:Stmt)(f:Addr)(fd:FuncData):Prop where
 ex: ∃(oc:Value) (od:Option Addr) (kV doc pm:Value) (an:Option Addr) (cdv ct:Value) (osl:Array (Option Value)),
  fd=PySem.W.fnOf x qual (defArgs st) (defBody st) (defScope st) .none kV doc pm an cdv ct/\K.lookup f=some ⟨oc,od,.func fd,osl⟩/\PySem.W.codeIn K cdv qual=true
 kp:PySem.W.keepIn K (.ref f)=true
section
variable {P:Program} {w:World} {K:PySem.W.Frag} {mg:Str->Option Value} {base:Heap}
theorem Fun.binds{x qual:Str}{st:Stmt}{f:Addr}{fd:FuncData}{ps:List Str}(F:Fun K x qual st f fd)
  (h: ∀(kV doc pm:Value) (an:Option Addr) (cdv ct:Value) (us:List Value),us.length=ps.length->bindArgs (PySem.W.fnOf x qual (defArgs st) (defBody st) (defScope st) .none kV doc pm an cdv ct) ⟨us,[]⟩=pure (ps.zip us)):kA K fd ps []:=by
 obtain⟨oc,od,kV,doc,pm,an,cdv,ct,osl,rfl,lk,hcd⟩:=F.ex;exact .all (h kV doc pm an cdv ct)
theorem vY{x qual:Str}{st:Stmt}{f:Addr}{oc:Value}{od an:Option Addr}{osl:Array (Option Value)}{kV doc pm cdv ct:Value}(l:K.lookup f=some ⟨oc,od,.func (PySem.W.fnOf x qual (defArgs st) (defBody st) (defScope st) .none kV doc pm an cdv ct),osl⟩)
  (c:PySem.W.codeIn K cdv qual=true) (k:PySem.W.keepIn K (.ref f)=true):Fun K x qual st f (PySem.W.fnOf x qual (defArgs st) (defBody st) (defScope st) .none kV doc pm an cdv ct):=⟨⟨oc,od,kV,doc,pm,an,cdv,ct,osl,rfl,l,c⟩,k⟩
end
section
variable {X:Cx}
end
theorem aDo{A B:Prop}(h:B):if false=true then A else B:=by
 rw[if_neg ba];exact h
theorem aB4{A B:Prop}(h:A):if true=true then A else B:=by
 rw[if_pos rfl];exact h
def Same(H H':Hp):Prop:= ∀b o,H b=some o->H' b=some o
theorem Same.refl(H:Hp):Same H H:=λ_ _ h=>h
theorem Same.trans{H H1 H2:Hp}(a:Same H H1)(b:Same H1 H2):Same H H2:=λc o h=>b c o (a c o h)
theorem Same.free{H H':Hp}(e:Same H H'){l:Addr}(h:H' l=Option.none):H l=Option.none:=by
 cases q:H l with
 |none=>rfl
 |some o=>
  rw[e l o q]at h;cases h
theorem Same.seq{K:PySem.W.Frag}{H H':Hp}{a:Addr}{xs:List V}(e:Same H H')(h:SqL K H a xs):SqL K H' a xs:=by
 rcases h with (h|⟨o,h⟩)|h
 ·exact .inl (.inl (e _ _ h))
 ·exact .inl (.inr ⟨o,e _ _ h⟩)
 ·exact .inr h
end L2
namespace SK
open PySem PySem.Spec PyProof.Rows L2
open PySem.AutoSeq1 (wpAny_loadPart' idx_int)
theorem oT(l:Addr)(items:Array Value)(n:Nat)(b:Addr)(items2:Array Value)(n2:Nat)(dd2:Option Addr)(sl2:Array (Option Value))(hc0: ¬(!items.isEmpty&&Builtin.List.listTooLong (items.size+items2.size))=true)(hc1:items.size<=sizeLine)(hs2:items.size+items2.size<=sizeLine+1):
  Meets (Builtin.«list.extend» ⟨[.ref l,.ref b],[]⟩) (λ_ R s=>s.heap.get? l=some {cls:=.type "list",dict:=none,data:=.seq items n,slots:= #[]}/\s.heap.get? b=some {cls:=.type "list",dict:=dd2,data:=.seq items2 n2,slots:=sl2}/\R (.ok (.ret Value.none)) {s with heap:=s.heap.update l (Obj.mapSeq λx=>x++items2),toks:=s.toks}):=
 .of_wp λprog w A R s h=>by
  obtain⟨hp,g,d,tk,os⟩:=s;obtain⟨hl,hb,h⟩:=h;have f1:=idx_int;have f2:=AutoSeq1.sub_tuple_tuple;have f3:=AutoSeq1.sub_list_list;have f4:=AutoSeq1.sub_tuple_list;have f5:=AutoSeq1.sub_list_tuple;
  have hz':(items++items2).size<=sizeLine+1:=by rw[Array.size_append];exact hs2
  wp_walk using (wpAny_updateSeq hl rfl (hz:=hc1) (_hz':=hz')),wpAny_loadPart' hl,wpAny_loadPart' hb;exact⟨_,rfl,h⟩
theorem gQ(a:Int)(t:Tok)(l:Addr)(items:Array Value)(n:Nat)(T:String)(dd:Option Addr)(sl:Array (Option Value))(hT:T="list"\/T="tuple"):
  Meets (Builtin.«int.__rmul__» ⟨[.int a t,.ref l],[]⟩) (λ_ R s=>s.heap.get? l=some {cls:=.type T,dict:=dd,data:=.seq items n,slots:=sl}/\R (.ok (.ret Value.notImplemented)) s):=
 .of_wp λprog w A R s h=>by
  obtain⟨hp,g,d,tk,os⟩:=s;obtain⟨hl,h⟩:=h;rcases hT with rfl|rfl<;>(wp_walk using wpAny_loadPart' hl;exact⟨_,rfl,h⟩)
theorem vZ(l:Addr)(items:Array Value)(n:Nat)(x:Int)(u:Tok)(dd:Option Addr)(sl:Array (Option Value))(hc0: ¬(!Builtin.List.listFitsIndex x)=true)(hc1: ¬items.size*x.toNat > (2^63-1)/8)(hc2: ¬Builtin.List.listTooLong (items.size*x.toNat)=true):
  Meets (Builtin.«list.__mul__» ⟨[.ref l,.int x u],[]⟩) (λ_ R s=>s.heap.get? l=some {cls:=.type "list",dict:=dd,data:=.seq items n,slots:=sl}/\R (.ok (.ret (Value.ref s.heap.objs.size))) {s with heap:=s.heap.push {cls:=Value.type "list",data:=Data.seq (List.foldl (λx1 x2=>x1++x2) #[] (ak (if items.isEmpty=true then 0 else x.toNat) items))},toks:=s.toks}):=
 .of_wp λprog w A R s h=>by
  obtain⟨hp,g,d,tk,os⟩:=s;obtain⟨hl,h⟩:=h;have hsz:=AutoListH.joined_fits hc2
  wp_walk using wpAny_loadPart' hl;refine wpAny_ite_false (decide_eq_false (Nat.not_lt.mpr hsz)) ?_;wp_walk;exact⟨_,rfl,h⟩
open PySem.AutoSeq1 (wpAny_loadPart' idx_int)
theorem qW(l:Addr)(items:Array Value)(n:Nat)(x:Int)(u:Tok)(dd:Option Addr)(sl:Array (Option Value))(h0:(decide (x< -(2^63))||decide (x≥2^63))=false)(hc:(items.isEmpty||x==1)=true):
  Meets (Builtin.«tuple.__mul__» ⟨[.ref l,.int x u],[]⟩) (λ_ R s=>s.heap.get? l=some {cls:=.type "tuple",dict:=dd,data:=.seq items n,slots:=sl}/\R (.ok (.ret (Value.ref l))) s):=
 .of_wp λprog w A R s h=>by
  obtain⟨hp,g,d,tk,os⟩:=s;obtain⟨hl,h⟩:=h;have f1:=idx_int
  wp_walk;refine wpAny_ite_false (by rw[h0];rfl) ?_;wp_walk using wpAny_loadPart' hl;exact⟨_,rfl,h⟩
theorem qX(l:Addr)(items:Array Value)(n:Nat)(x:Int)(u:Tok)(dd:Option Addr)(sl:Array (Option Value))(h0:(decide (x< -(2^63))||decide (x≥2^63))=false)(hc: ¬(items.isEmpty||x==1)=true)(hc1:(x<=0||items.isEmpty)=true):
  Meets (Builtin.«tuple.__mul__» ⟨[.ref l,.int x u],[]⟩) (λ_ R s=>s.heap.get? l=some {cls:=.type "tuple",dict:=dd,data:=.seq items n,slots:=sl}/\R (.ok (.ret (Value.ref s.heap.objs.size))) {s with heap:=s.heap.push {cls:=Value.type "tuple",data:=Data.seq #[]},toks:=s.toks}):=
 .of_wp λprog w A R s h=>by
  obtain⟨hp,g,d,tk,os⟩:=s;obtain⟨hl,h⟩:=h;have f1:=idx_int
  wp_walk;refine wpAny_ite_false (by rw[h0];rfl) ?_;wp_walk using wpAny_loadPart' hl;exact⟨_,rfl,h⟩
theorem qY(l:Addr)(items:Array Value)(n:Nat)(x:Int)(u:Tok)(dd:Option Addr)(sl:Array (Option Value))(h0:(decide (x< -(2^63))||decide (x≥2^63))=false)(hc: ¬(items.isEmpty||x==1)=true)(hc1: ¬(x<=0||items.isEmpty)=true)
  (hc2: ¬(items.size:Int)*x > (2^63-1)/8) (hc3: ¬Builtin.Tuple.tupleTooMany (items.size*x)=true) (hsz:(List.foldl (λx1 x2=>x1++x2) #[] (ak x.toNat items)).size<=sizeLine):
  Meets (Builtin.«tuple.__mul__» ⟨[.ref l,.int x u],[]⟩) (λ_ R s=>s.heap.get? l=some {cls:=.type "tuple",dict:=dd,data:=.seq items n,slots:=sl}/\R (.ok (.ret (Value.ref s.heap.objs.size))) {s with heap:=s.heap.push {cls:=Value.type "tuple",data:=Data.seq (List.foldl (λx1 x2=>x1++x2) #[] (ak x.toNat items))},toks:=s.toks}):=
 .of_wp λprog w A R s h=>by
  obtain⟨hp,g,d,tk,os⟩:=s;obtain⟨hl,h⟩:=h;have f1:=idx_int
  wp_walk;refine wpAny_ite_false (by rw[h0];rfl) ?_;wp_walk using wpAny_loadPart' hl;refine wpAny_ite_false (decide_eq_false hc2) ?_;wp_walk;exact⟨_,rfl,h⟩
theorem jO:fillsNumberSlot (.type "tuple") "mul"=pure false:=
 PySem.fillsNumberSlot_seq (id:="tuple.__mul__") (r:=some (.builtin "tuple.__rmul__")) F.slot_tuple_mul.lookup (by decide+kernel) F.slot_tuple_rmul.lookup (by decide+kernel)
theorem oU:seqRepeat? (.type "tuple")=pure (some (.builtin "tuple.__mul__")):=by
 unfold seqRepeat?;rw[PySem.seqSlot_of (T:="tuple") (name:="__mul__") (id:="tuple.__mul__") F.slot_tuple_mul.lookup (by decide+kernel),PySem.seqSlot_of (T:="tuple") (name:="__rmul__") (id:="tuple.__rmul__") F.slot_tuple_rmul.lookup (by decide+kernel)]
 rfl
inductive D where
 |non|bl (b:Bool)|int (i:Int)|str (x:Str)
 |tup (xs:List D)|lst (xs:List D)
 |exc (c:Nat)|fn (f:Nat)
 deriving Inhabited
noncomputable def b2i(b:Bool):Int:=if b then 1 else 0
mutual
def deq:D->D->Bool
 |.non,.non=>true
 |.bl a,.bl b=>a==b
 |.bl a,.int j=>b2i a==j
 |.int i,.bl b=>i==b2i b
 |.int i,.int j=>i==j
 |.str x,.str y=>x==y
 |.tup xs,.tup ys=>qZ xs ys
 |.lst xs,.lst ys=>qZ xs ys
 |_,_=>false
def qZ:List D->List D->Bool
 |[],[]=>true
 |x::xs,y::ys=>deq x y&&qZ xs ys
 |_,_=>false
end
mutual
noncomputable def plain:D->Bool
 |.non=>true
 |.bl _=>true
 |.int _=>true
 |.str x=>x.cps.all (· <0x110000)
 |.tup xs=>aK xs
 |.lst xs=>aK xs
 |.exc _=>false
 |.fn _=>false
noncomputable def aK:List D->Bool
 |[]=>true
 |x::xs=>plain x&&aK xs
end
mutual
def dep:D->Nat
 |.tup xs=>mV xs+1
 |.lst xs=>mV xs+1
 |_=>0
def mV:List D->Nat
 |[]=>0
 |x::xs=>max (dep x) (mV xs)
end
def rB(x y:D):Bool:=plain x&&plain y&&decide (min (dep x) (dep y)<=60)
inductive R where
 |ok (d:D)|ow (xs:List D)|ex (c:Nat)|bad
noncomputable def R.bind(r:R)(k:D->R):R:=match r with
 |.ok d=>k d
 |.ow xs=>k (.lst xs)
 |.ex c=>.ex c
 |.bad=>.bad
inductive Slot where
 |no|sh (d:D)|ow (xs:List D)
def Slot.owns:Slot->Bool
 |.ow _=>true
 |_=>false
abbrev Rho:=List Slot
abbrev F:=Rho->R
inductive Out where
 |nx (ρ:Rho)|rt (r:R)|bk (ρ:Rho)|ct (ρ:Rho)|ex (c:Nat) (ρ:Rho)
abbrev FS:=Rho->Out
abbrev Fn:=List D->R
def LIM:Nat:=100000
def num:D->Option Int
 |.int i=>some i
 |.bl b=>some (b2i b)
 |_=>none
noncomputable def sml(i:Int):Bool:=decide (-18446744073709551616<i)&&decide (i<18446744073709551616)
def eL(op:Operator)(i j:Int):R:=match op with
 |.Add=>.ok (.int (i+j))
 |.Sub=>.ok (.int (i-j))
 |.Mult=>if sml i||sml j then .ok (.int (i*j))else .bad
 |.FloorDiv=>if 0<j/\j<1073741824 then .ok (.int (i/j))else .bad
 |.Mod=>if 0<j then .ok (.int (i % j))else .bad
 |.LShift=>if 0<=j/\j<=1000/\sml i=true then .ok (.int (i*2^j.toNat))else .bad
 |.RShift=>if 0<=j then .ok (.int (i/2^j.toNat))else .bad
 |.Pow=>if i=10/\j=9 then .ok (.int 1000000000)else .bad
 |_=>.bad
noncomputable def aKm(xs:List D)(k:Int):List D:=(ak k.toNat xs).flatten
def jI(op:Operator)(x y:D):R:=match x,y with
 |.int i,.int j=>(match op with
  |.BitAnd=>.ok (.int (Builtin.bitAnd i j))
  |.BitOr=>.ok (.int (Builtin.bitOr i j))
  |.BitXor=>.ok (.int (Builtin.bitXor i j))
  |op=>eL op i j)
 |.int i,.bl b=>(match op with
  |.Sub=>.ok (.int (i-b2i b))
  |.Add=>.ok (.int (i+b2i b))
  |_=>.bad)
 |.tup xs,.tup ys=>(match op with
  |.Add=>if xs.length+ys.length<=LIM then .ok (.tup (xs++ys))else .bad
  |_=>.bad)
 |.lst xs,.lst ys=>(match op with
  |.Add=>if xs.length+ys.length<=LIM then .ow (xs++ys)else .bad
  |_=>.bad)
 |.tup xs,.int k=>(match op with
  |.Mult=>if -1000000<k/\k<1000000/\xs.length*k.toNat<=LIM then .ok (.tup (aKm xs k))else .bad
  |_=>.bad)
 |.str x,.str y=>(match op with
  |.Add=>if x.length<=LIM/\y.length<=LIM then .ok (.str (x++y))else .bad
  |_=>.bad)
 |.str x,.int k=>(match op with
  |.Mult=>if x.length<=16/\0<=k/\k<=1000 then .ok (.str (Txt.mul x k))else .bad
  |_=>.bad)
 |.lst xs,.int k=>(match op with
  |.Mult=>if -1000000<k/\k<1000000/\xs.length*k.toNat<=LIM then .ow (aKm xs k)else .bad
  |_=>.bad)
 |_,_=>.bad
def items:D->Option (List D)
 |.tup xs=>some xs
 |.lst xs=>some xs
 |_=>none
def iC:D->Option (List D)
 |.tup xs=>some xs
 |.lst xs=>some xs
 |_=>none
def aDp:D->Bool
 |.non=>true
 |_=>false
noncomputable def aLg(b:Bool):D->Bool
 |.bl a=>a==b
 |_=>false
def lU(x:D)(ys:List D):Bool:=ys.all λy=>rB y x
def inS(x y:D)(neg:Bool):R:=match x,y with
 |.str a,.str b=>.ok (.bl (cond neg (!Txt.contains b a) (Txt.contains b a)))
 |_,_=>.bad
def gC(op:CmpOp)(x y:D):R:=match op with
 |.Eq=>if rB x y then .ok (.bl (deq x y))else .bad
 |.NotEq=>if rB x y then .ok (.bl (!deq x y))else .bad
 |.Lt=>(match x,y with|.int i,.int j=>.ok (.bl (decide (i<j)))|_,_=>.bad)
 |.LtE=>(match x,y with|.int i,.int j=>.ok (.bl (decide (i<=j)))|.str i,.str j=>.ok (.bl (!decide (j.cps.toList<i.cps.toList)))|_,_=>.bad)
 |.Gt=>(match x,y with|.int i,.int j=>.ok (.bl (decide (j<i)))|_,_=>.bad)
 |.GtE=>(match x,y with|.int i,.int j=>.ok (.bl (decide (j<=i)))|_,_=>.bad)
 |.Is=>(match y with
  |.non=>.ok (.bl (aDp x))
  |.bl b=>.ok (.bl (aLg b x))
  |_=>.bad)
 |.IsNot=>(match y with
  |.non=>.ok (.bl (!aDp x))
  |.bl b=>.ok (.bl (!aLg b x))
  |_=>.bad)
 |.In=>(match items y with|some ys=>if lU x ys then .ok (.bl (ys.any λy=>deq y x))else .bad|none=>inS x y false)
 |.NotIn=>(match items y with|some ys=>if lU x ys then .ok (.bl (!ys.any λy=>deq y x))else .bad|none=>inS x y true)
noncomputable def ixD(n:Nat)(i:Int):Option Nat:=if 0<=i then(if i<n then some i.toNat else none)else if -(n:Int)<=i then some (i+n).toNat else none
def ixS(x y:D):R:=match x,y with
 |.str z,.int i=>if z.length<=LIM then(match(ixD z.cps.toList.length i).bind λj=>z.cps.toList[j]? with|some c=>.ok (.str ⟨#[c]⟩)|none=>.bad)else .bad
 |_,_=>.bad
def dIx(x y:D):R:=match items x,y with
 |some xs,.int i=>(match(ixD xs.length i).bind λj=>xs[j]? with|some d=>.ok d|none=>.bad)
 |some _,_=>.bad
 |none,_=>ixS x y
def cV(n d:Nat):Option Int->Nat
 |none=>d
 |some v=>if v<0 then(v+n).toNat else min v.toNat n
def uS(xs:List D)(lo hi:Option Int):List D:=(xs.drop (cV xs.length 0 lo)).take (cV xs.length xs.length hi-cV xs.length 0 lo)
def zV(xs:List Nat)(lo hi:Option Int):List Nat:=(xs.drop (cV xs.length 0 lo)).take (cV xs.length xs.length hi-cV xs.length 0 lo)
def zW(x:D)(lo hi:Option Int):R:=match x with
 |.tup xs=>.ok (.tup (uS xs lo hi))
 |.lst xs=>.ow (uS xs lo hi)
 |.str z=>if z.length<=LIM then .ok (.str ⟨(zV z.cps.toList lo hi).toArray⟩)else .bad
 |_=>.bad
def aB5:D->(Int->R)->R
 |.int i,k=>k i
 |_,_=>.bad
def aA(i:Nat):F:=λρ=>match ρ[i]? with|some (.sh d)=>.ok d|_=>.bad
def aF(i:Nat):F:=λρ=>match ρ[i]? with|some (.sh d)=>.ok d|some (.ow xs)=>.ok (.lst xs)|_=>.bad
def zX(i:Nat):F:=λρ=>match ρ[i]? with|some (.sh d)=>.ok d|some (.ow xs)=>.ow xs|_=>.bad
def rK(d:D):F:=λ_=>.ok d
def aI(op:Operator)(a b:F):F:=λρ=>(a ρ).bind λx=>(b ρ).bind λy=>jI op x y
def vK(a:F):F:=λρ=>(a ρ).bind λx=>match x with|.int i=>.ok (.int (-i))|_=>.bad
def gR(a:F):F:=λρ=>(a ρ).bind λx=>match x with|.bl b=>.ok (.bl (!b))|_=>.bad
def fR(a b:F):F:=λρ=>(a ρ).bind λx=>match x with|.bl true=>b ρ|.bl false=>.ok (.bl false)|_=>.bad
def rOr(a b:F):F:=λρ=>(a ρ).bind λx=>match x with|.bl true=>.ok (.bl true)|.bl false=>b ρ|_=>.bad
def rIf(c a b:F):F:=λρ=>(c ρ).bind λx=>match x with|.bl true=>a ρ|.bl false=>b ρ|_=>.bad
def aU(op:CmpOp)(a b:F):F:=λρ=>(a ρ).bind λx=>(b ρ).bind λy=>gC op x y
def dS(op op':CmpOp)(a b c:F):F:=λρ=>(a ρ).bind λx=>(b ρ).bind λy=>(gC op x y).bind λz=>match z with
 |.bl true=>(c ρ).bind λw=>gC op' y w
 |.bl false=>.ok (.bl false)
 |_=>.bad
inductive RA where
 |ok (ds:List D)|ex (c:Nat)|bad
noncomputable def RA.cons(x:D):RA->RA
 |.ok ds=>.ok (x::ds)
 |.ex c=>.ex c
 |.bad=>.bad
def RA.then(r:RA)(k:List D->R):R:=match r with
 |.ok ds=>k ds
 |.ex c=>.ex c
 |.bad=>.bad
def args:List F->Rho->RA
 |[],_=>.ok []
 |f::fs,ρ=>match f ρ with
  |.ok x=>(args fs ρ).cons x
  |.ow xs=>(args fs ρ).cons (.lst xs)
  |.ex c=>.ex c
  |.bad=>.bad
def lK(fs:List F)(ρ:Rho)(k:List D->R):R:=(args fs ρ).then k
def b9(fs:List F):F:=λρ=>lK fs ρ λxs=>.ok (.tup xs)
def cN(fs:List F):F:=λρ=>lK fs ρ λxs=>.ow xs
def rIx(a b:F):F:=λρ=>(a ρ).bind λx=>(b ρ).bind λy=>dIx x y
def gT(a:F)(lo hi:Option F):F:=λρ=>(a ρ).bind λx=>match lo,hi with
 |none,none=>zW x none none
 |some l,none=>(l ρ).bind λy=>aB5 y λi=>zW x (some i) none
 |none,some h=>(h ρ).bind λz=>aB5 z λj=>zW x none (some j)
 |some l,some h=>(l ρ).bind λy=>aB5 y λi=>(h ρ).bind λz=>aB5 z λj=>zW x (some i) (some j)
def aB(f:Fn)(fs:List F):F:=λρ=>lK fs ρ f
def iD(tab:List (Nat×Fn))(g:F)(fs:List F):F:=λρ=>(g ρ).bind λx=>match x with
 |.fn k=>(match tab[k]? with|some (n,f)=>if n=fs.length then lK fs ρ f else .bad|none=>.bad)
 |_=>.bad
def rC(r:Fn)(a b:F):F:=λρ=>(a ρ).bind λx=>match x with|.lst ds=>(b ρ).bind λy=>r [.lst ds,y]|_=>.bad
def rIs(p:D->Option Bool)(a:F):F:=λρ=>(a ρ).bind λx=>match p x with|some b=>.ok (.bl b)|none=>.bad
def bL(f:D->Option (Option D)):List D->Option (List D)
 |[]=>some []
 |d::r=>match f d with
  |none=>none
  |some none=>bL f r
  |some (some x)=>(bL f r).map (x:: ·)
def tgt(n:Nat)(d:D):Option (List Slot):=match n with
 |0=>some [.sh d]
 |n=>match d with
  |.tup ds=>if ds.length=n then some (ds.map Slot.sh)else none
  |_=>none
noncomputable def iT(cs:List Nat)(ρ:Rho):List Slot:=cs.map λi=>(ρ[i]?).getD .no
def cW(n:Nat)(cs:List Slot)(c:Option F)(e:F)(d:D):Option (Option D):=match tgt n d with
 |none=>none
 |some ts=>match c with
  |none=>(match e (ts++cs)with|.ok x=>some (some x)|.ow xs=>some (some (.lst xs))|_=>none)
  |some c=>match c (ts++cs)with
   |.ok (.bl true)=>(match e (ts++cs)with|.ok x=>some (some x)|.ow xs=>some (some (.lst xs))|_=>none)
   |.ok (.bl false)=>some none
   |_=>none
def aL(n:Nat)(cs:List Nat)(it:F)(c:Option F)(e:F):F:=λρ=>(it ρ).bind λx=>match iC x with
 |some ds=>(match bL (cW n (iT cs ρ) c e) ds with|some xs=>.ow xs|none=>.bad)
 |none=>.bad
noncomputable def n9(n:Nat):List D:=(List.range n).map λ(i:Nat)=>D.int (i:Int)
def aV(a:F):F:=λρ=>(a ρ).bind λx=>aB5 x λi=>if -100000<=i/\i<=100000 then .ok (.lst (n9 i.toNat))else .bad
def oV(a:F):F:=λρ=>(a ρ).bind λx=>match items x with
 |some xs=>.ok (.lst (xs.zipIdx.map λp=>D.tup [.int (p.2:Nat),p.1]))
 |none=>.bad
def mW(a b:F):F:=λρ=>(a ρ).bind λx=>(b ρ).bind λy=>match x,y with
 |.tup xs,.tup ys=>.ok (.lst ((xs.zip ys).map λp=>D.tup [p.1,p.2]))
 |.lst xs,.lst ys=>.ok (.lst ((xs.zip ys).map λp=>D.tup [p.1,p.2]))
 |.lst xs,.tup ys=>.ok (.lst ((xs.zip ys).map λp=>D.tup [p.1,p.2]))
 |.tup xs,.lst ys=>.ok (.lst ((xs.zip ys).map λp=>D.tup [p.1,p.2]))
 |_,_=>.bad
def aMz:D->R|.str z=>if z.length<=100000 then .ok (.int z.length)else .bad|_=>.bad
def iE:Fn|[x]=>(match items x with|some xs=>.ok (.int xs.length)|none=>aMz x)|_=>.bad
def aB6:Fn|[.int i]=>.ok (.int i)|[.bl b]=>.ok (.int (b2i b))|[.str x]=>(match x.cps.toList with|[c]=>if 48<=c/\c<58 then .ok (.int ((c-48:Nat):Int))else .bad|_=>.bad)|_=>.bad
def dG:Fn|[x]=>(match items x with|some xs=>.ok (.tup xs)|none=>.bad)|_=>.bad
def rD:Fn|[x]=>(match items x with|some xs=>.ow xs|none=>.bad)|_=>.bad
def eF:List D->Option (List Int)
 |[]=>some []
 |.int i::r=>(eF r).map (i:: ·)
 |_::_=>none
def eM:List D->Option (List Bool)
 |[]=>some []
 |.bl b::r=>(eM r).map (b:: ·)
 |_::_=>none
def v0:Fn|[x]=>(match(items x).bind eF with|some xs=>.ok (.int xs.sum)|none=>.bad)|_=>.bad
def aH2:Fn|[x]=>(match(items x).bind eM with|some xs=>.ok (.bl (xs.all id))|none=>.bad)|_=>.bad
def aOj:Fn|[x]=>(match(items x).bind eM with|some xs=>.ok (.bl (xs.any id))|none=>.bad)|_=>.bad
def aOk:Fn|[.int i,.int j]=>.ok (.int (if j > i then j else i))|_=>.bad
def aOl:Fn|[.int i,.int j]=>.ok (.int (if j<i then j else i))|_=>.bad
noncomputable def aM0:Int->List Int->Int
 |m,[]=>m
 |m,i::r=>aM0 (if m<i then i else m) r
def aM1:Int->List Int->Int
 |m,[]=>m
 |m,i::r=>aM1 (if i<m then i else m) r
def aNz:Fn|[x]=>(match(items x).bind eF with|some (n::ns)=>.ok (.int (aM0 n ns))|_=>.bad)|_=>.bad
def aOm:Fn|[.int i]=>.ok (.int (if i<0 then -i else i))|_=>.bad
noncomputable def aM2(i:Int):List Int->List Int
 |[]=>[i]
 |j::r=>if i<=j then i::j::r else j::aM2 i r
def aH3:List Int->List Int
 |[]=>[]
 |i::r=>aM2 i (aH3 r)
noncomputable def eN:List Int->List Int->Bool
 |[],[]=>false
 |[],_::_=>true
 |_::_,[]=>false
 |a::r,b::t=>if a=b then eN r t else decide (a<b)
mutual
def same:D->D->Bool
 |.int _,.int _=>true
 |.tup xs,.tup ys=>bK xs ys
 |_,_=>false
def bK:List D->List D->Bool
 |[],[]=>true
 |x::xs,y::ys=>same x y&&bK xs ys
 |_,_=>false
end
mutual
def cO:D->List Int
 |.int i=>[i]
 |.tup xs=>dM xs
 |_=>[]
def dM:List D->List Int
 |[]=>[]
 |x::xs=>cO x++dM xs
end
def ltD(x y:D):Bool:=eN (cO x) (cO y)
def aGp(a:D):List D->List D
 |[]=>[a]
 |b::r=>if ltD b a then b::aGp a r else a::b::r
def mX:List D->List D
 |[]=>[]
 |a::r=>aGp a (mX r)
def aM3(d:D):List D->D
 |[]=>d
 |e::r=>aM3 (if ltD e d then e else d) r
def gU:D->Bool
 |.tup (_::_)=>true
 |_=>false
def kF:D->Bool
 |.tup _=>true
 |_=>false
def iU:List D->Bool
 |[]=>false
 |d::r=>kF d&&(r.isEmpty||gU d)&&decide (dep d<=8)&&same d d&&r.all (same d)
def lL(acc:List D)(d:D):List D:=if acc.any (λe=>deq e d)then acc else acc++[d]
def ddD(ds:List D):List D:=ds.foldl lL []
def aLh(ds:List D):R:=if iU ds then(match ds with|d::r=>.ok (aM3 d r)|[]=>.bad)else .bad
def aLi(ds:List D):R:=match eF ds with
 |some ns=>(match ns with|n::r=>.ok (.int (aM1 n r))|[]=>.bad)
 |none=>aLh ds
def aN0:Fn|[x]=>(match items x with|some ds=>aLi ds|none=>.bad)|_=>.bad
def zY(ds:List D):R:=match eF ds with
 |some ns=>if ns.length<64 then .ow ((aH3 ns).map D.int)else .bad
 |none=>.bad
def aLj:Fn|[x]=>(match items x with|some ds=>zY ds|none=>.bad)|_=>.bad
noncomputable def aN1(ns:List Int):List Int:=((List.range 17).filter λ(k:Nat)=>ns.contains (k:Int)).map λ(k:Nat)=>(k:Int)
noncomputable def aN2(ns:List Int):Bool:=ns.all λn=>decide (0<=n/\n<17)
def aKn(ds:List D):R:=if iU ds&&decide ((ddD ds).length<300)then .ow (mX (ddD ds))else .bad
def aN3(ds:List D):R:=match eF ds with|some _=>.bad|none=>aKn ds
def dSS:Fn|[x]=>(match x with|.lst ds=>aN3 ds|_=>.bad)|_=>.bad
def aN4(ds:List D):R:=match eF ds with|some ns=>if aN2 ns then .ok (.int ((aN1 ns).length:Nat))else .bad|none=>.bad
def dLS:Fn|[x]=>(match x with|.lst ds=>aN4 ds|_=>.bad)|_=>.bad
def sM:Fn|[.lst ys,x]=>if lU x ys then .ok (.int ((ys.countP λy=>deq y x):Nat))else .bad|_=>.bad
def sN:Fn|[.lst ys,x]=>if lU x ys then(match ys.findIdx? λy=>deq y x with|some k=>.ok (.int (k:Nat))|none=>.bad)else .bad|_=>.bad
def aN5(x:D):R:=match x with|.lst xs=>.ow xs.reverse|.tup xs=>.ok (.tup xs.reverse)|_=>.bad
def aH4:Fn|[x]=>(match x with|.int i=>.ok (.int (Builtin.Int.intBits i))|_=>.bad)|_=>.bad
def aOn(a:F):F:=λρ=>(a ρ).bind aN5
noncomputable def aLk{α:Type}(xs:List α)(lo:Nat):List α:=(List.range ((xs.length-lo+1)/2)).filterMap λk=>xs[lo+2*k]?
def aLl(x y:D):R:=match x with|.tup xs=>(match y with|.int i=>if 0<=i then .ok (.tup (aLk xs i.toNat))else .bad|_=>.bad)|_=>.bad
def aN6(a b:F):F:=λρ=>(a ρ).bind λx=>(b ρ).bind λy=>aLl x y
def aDq(a:F):F:=λρ=>(a ρ).bind λx=>match x with|.bl b=>.ok (.bl b)|.lst xs=>.ok (.bl (!xs.isEmpty))|_=>.bad
def aOo(a b:F):F:=λρ=>(a ρ).bind λx=>match x with|.tup ds=>(b ρ).bind λy=>sN [.lst ds,y]|_=>.bad
def aOp(a b:F):F:=λρ=>(a ρ).bind λx=>match items x with|some ds=>(b ρ).bind λy=>sM [.lst ds,y]|none=>.bad
def orP(p q:D->Option Bool):D->Option Bool:=λd=>match p d,q d with|some a,some b=>some (a||b)|_,_=>none
mutual
def hkD:D->Bool
 |.non=>true
 |.int _=>true
 |.tup xs=>aM4 xs
 |_=>false
def aM4:List D->Bool
 |[]=>true
 |x::xs=>hkD x&&aM4 xs
end
def put(ρ:Rho)(i:Nat)(s:Slot):Rho:=ρ.set i s
def frz1(i:Nat)(ρ:Rho):Rho:=match ρ[i]? with|some (.ow xs)=>ρ.set i (.sh (.lst xs))|_=>ρ
def frz(is:List Nat)(ρ:Rho):Rho:=is.foldl (λρ i=>frz1 i ρ) ρ
def aLm(is:List Nat)(s:FS):FS:=λρ=>s (frz is ρ)
def iA(ρ:Rho)(r:R)(k:D->Out):Out:=match r with
 |.ok d=>k d
 |.ow xs=>k (.lst xs)
 |.ex c=>.ex c ρ
 |.bad=>.rt .bad
def cY(i:Nat)(e:F):FS:=λρ=>iA ρ (e ρ) λd=>.nx (ρ.set i (.sh d))
def oW(i:Nat)(e:F):FS:=λρ=>match e ρ with
 |.ok d=>.nx (ρ.set i (.sh d))
 |.ow xs=>.nx (ρ.set i (.ow xs))
 |.ex c=>.ex c ρ
 |.bad=>.rt .bad
mutual
def noL:D->Bool
 |.non=>true
 |.bl _=>true
 |.int _=>true
 |.str _=>true
 |.tup xs=>aKo xs
 |_=>false
def aKo:List D->Bool
 |[]=>true
 |x::xs=>noL x&&aKo xs
end
def setN:List Nat->List D->Rho->Rho
 |i::is,d::ds,ρ=>setN is ds (ρ.set i (.sh d))
 |_,_,ρ=>ρ
def kG(is:List Nat)(e:F):FS:=λρ=>iA ρ (e ρ) λd=>match d with
 |.tup ds=>if ds.length=is.length then .nx (setN is ds ρ)else .rt .bad
 |.lst ds=>if ds.length=is.length then .nx (setN is ds ρ)else .rt .bad
 |_=>.rt .bad
def aOq(i:Nat)(op:Operator)(e:F):FS:=λρ=>match ρ[i]? with
 |some (.sh (.int a))=>iA ρ (e ρ) λd=>(match d,op with
  |.int b,.Add=>.nx (ρ.set i (.sh (.int (a+b))))
  |.int b,.Sub=>.nx (ρ.set i (.sh (.int (a-b))))
  |_,_=>.rt .bad)
 |_=>.rt .bad
def fO(e:F):FS:=λρ=>iA ρ (e ρ) λ_=>.nx ρ
def bV(e:F):FS:=λρ=>match e ρ with
 |.ok d=>.rt (.ok d)
 |.ow xs=>.rt (.ow xs)
 |.ex c=>.ex c ρ
 |.bad=>.rt .bad
def aH5:FS:=λ_=>.rt (.ok .non)
def bF:FS:=λρ=>.nx ρ
def aM5:FS:=λρ=>.bk ρ
def aH6:FS:=λρ=>.ct ρ
def bA(a b:FS):FS:=λρ=>match a ρ with|.nx ρ'=>b ρ'|o=>o
def sIf(c:F)(a b:FS):FS:=λρ=>match c ρ with
 |.ok (.bl true)=>a ρ
 |.ok (.bl false)=>b ρ
 |.ex c=>.ex c ρ
 |_=>.rt .bad
def gW(c:Nat):FS:=λρ=>.ex c ρ
def aB7(i:Nat)(e:F):FS:=λρ=>match ρ[i]? with
 |some (.ow xs)=>iA ρ (e ρ) λd=>if xs.length<LIM then .nx (ρ.set i (.ow (xs++[d])))else .rt .bad
 |_=>.rt .bad
def aB8(i:Nat)(e:F):FS:=λρ=>match ρ[i]? with
 |some (.ow xs)=>iA ρ (e ρ) λd=>(match d with
  |.lst ys=>if xs.length+ys.length<=LIM then .nx (ρ.set i (.ow (xs++ys)))else .rt .bad
  |_=>.rt .bad)
 |_=>.rt .bad
def aDr(i:Nat)(k e:F):FS:=λρ=>iA ρ (e ρ) λd=>match ρ[i]? with
 |some (.ow xs)=>iA ρ (k ρ) λy=>(match y with
  |.int j=>(match ixD xs.length j with|some m=>.nx (ρ.set i (.ow (xs.set m d)))|none=>.rt .bad)
  |_=>.rt .bad)
 |_=>.rt .bad
def aN7:List D->Option (D×D)
 |[a,b]=>some (a,b)
 |_=>none
def aN8:D->Option (D×D)
 |.tup ds=>aN7 ds
 |_=>none
def aN9(i:Nat)(k l e:F):FS:=λρ=>iA ρ (e ρ) λd=>(match aN8 d with
 |some (d1,d2)=>(match ρ[i]? with
  |some (.ow xs)=>iA ρ (k ρ) λy=>(match y with
   |.int j=>(match ixD xs.length j with
    |some m=>iA (ρ.set i (.ow (xs.set m d1))) (l (ρ.set i (.ow (xs.set m d1)))) λz=>(match z with
     |.int j2=>(match ixD (xs.set m d1).length j2 with
      |some m2=>.nx ((ρ.set i (.ow (xs.set m d1))).set i (.ow ((xs.set m d1).set m2 d2)))
      |none=>.rt .bad)
     |_=>.rt .bad)
    |none=>.rt .bad)
   |_=>.rt .bad)
  |_=>.rt .bad)
 |none=>.rt .bad)
def aOa(i:Nat)(k e:F):FS:=λρ=>match ρ[i]? with
 |some (.ow xs)=>iA ρ (k ρ) λy=>(match y with
  |.int j=>(match ixD xs.length j with
   |some m=>(match xs[m]? with
    |some (.int a)=>iA ρ (e ρ) λd=>(match d with
     |.int b=>.nx (ρ.set i (.ow (xs.set m (.int (a+b)))))
     |_=>.rt .bad)
    |_=>.rt .bad)
   |none=>.rt .bad)
  |_=>.rt .bad)
 |_=>.rt .bad
def qO(is:List Nat)(one:Bool)(d:D)(ρ:Rho):Option Rho:=match one,is with
 |true,[i]=>some (ρ.set i (.sh d))
 |false,is=>(match d with
  |.tup ds=>if ds.length=is.length then some (setN is ds ρ)else none
  |_=>none)
 |_,_=>none
noncomputable def gZ(t:D->Rho->Option Rho)(b:FS):List D->Rho->Out
 |[],ρ=>.nx ρ
 |d::r,ρ=>match t d ρ with
  |none=>.rt .bad
  |some ρ1=>match b ρ1 with
   |.nx ρ2=>gZ t b r ρ2
   |.ct ρ2=>gZ t b r ρ2
   |.bk ρ2=>.nx ρ2
   |.rt r=>.rt r
   |.ex c ρ2=>.ex c ρ2
def zZ(is:List Nat)(one:Bool)(it:F)(b:FS):FS:=λρ=>iA ρ (it ρ) λx=>match items x with
 |some ds=>gZ (qO is one) b ds ρ
 |none=>.rt .bad
def aKp:FS:=λ_=>.rt .bad
noncomputable def aB9(i j:Nat)(hit:Nat->Bool)(b:FS):FS:=λρ=>match b ρ with
 |.ex c ρ'=>if hit c then .nx ((ρ'.set i .no).set j (.sh (.exc c)))else .ex c ρ'
 |o=>o
def fnOf(n:Nat)(b:FS):Fn:=λds=>match b (ds.map Slot.sh++ak (n-ds.length) .no)with
 |.rt (.ok d)=>.ok d
 |.rt (.ow xs)=>.ow xs
 |.rt _=>.bad
 |.nx _=>.ok .non
 |.ex c _=>.ex c
 |_=>.bad
inductive Py where
 |len|range|enum|zip|isin|int|bool|str|tuple|list|sum|all|any|sorted|min|max|abs|set
 deriving DecidableEq
inductive Gl where
 |fn (k n:Nat) (f:Fn)|exc (c:Nat)|verr|val (d:D)|py (p:Py)|tbl (kvs:List (Str×D))
noncomputable def hit(c e:Nat):Bool:=c==e||c==0||c==100
structure Ctx where
 tab:List (Str×Gl)
 fns:List (Nat×Fn)
 sc:Scope
 N:List Str
 bs:List Str
noncomputable def idx(x:Str):List Str->Option Nat
 |[]=>none
 |y::r=>if x=y then some 0 else(idx x r).map (· +1)
def loc(C:Ctx)(x:Str):Option Nat:=match C.sc.names.lookup x with
 |some .local=>idx x C.N
 |some .cell=>idx x C.N
 |some .free=>idx x C.N
 |_=>none
def fL(C:Ctx)(x:Str):Option Nat:=match C.sc.names.lookup x with
 |some .cell=>idx x C.N
 |some .free=>idx x C.N
 |_=>none
def glo(C:Ctx)(x:Str):Option Gl:=match C.sc.names.lookup x with
 |some .globalImplicit=>C.tab.lookup x
 |_=>none
def isP:Gl->Option (D->Option Bool)
 |.py .int=>some λd=>match d with|.int _=>some true|.bl _=>some true|.exc _=>none|.fn _=>none|_=>some false
 |.py .bool=>some λd=>match d with|.bl _=>some true|.exc _=>none|.fn _=>none|_=>some false
 |.py .tuple=>some λd=>match d with|.tup _=>some true|.exc _=>none|.fn _=>none|_=>some false
 |.py .list=>some λd=>match d with|.lst _=>some true|.exc _=>none|.fn _=>none|_=>some false
 |.py .str=>some λd=>match d with|.str _=>some true|.exc _=>none|.fn _=>none|_=>some false
 |.exc c=>some λd=>match d with|.exc e=>some (hit c e)|_=>none
 |.verr=>some λd=>match d with|.exc e=>some (hit 100 e)|_=>none
 |_=>none
noncomputable def kD:Const->Option D
 |.int i=>some (.int i)
 |.bool b=>some (.bl b)
 |.none=>some .non
 |.str x=>some (.str x)
 |_=>none
noncomputable def gE{α β:Type}(f:α->Option β):List α->Option (List β)
 |[]=>some []
 |x::r=>match f x with
  |none=>none
  |some y=>(gE f r).map (y:: ·)
def cE:Expr->Option (List Str×Nat)
 |.Name x _=>some ([x],0)
 |.Tuple es _ _=>(gE (λ(e:Expr)=>match e with|.Name x _=>some x|_=>none) es).bind λxs=>if 2<=xs.length then some (xs,xs.length)else none
 |_=>none
def bM(sc:Scope):List Str:=(sc.names.filter λp=>p.2== .free).map (·.1)
noncomputable def oX(sc:Scope):List Str:=(sc.names.filter λp=>p.2== .cell).map (·.1)
def kH(sc:Scope)(xs:List Str):Bool:=
 sc.kind== .function&&((oX sc).isEmpty||(decide (oX sc=xs)&&decide (xs.length=1)))&&xs.all (λx=>sc.names.lookup x==some (if(oX sc).isEmpty then .local else .cell))&&
  sc.names.all (λp=>p.2 != .local||sc.names.lookup p.1==some .local)&&decide (xs++bM sc).Nodup&&(xs++bM sc).all (λx=>x != "__debug__"&&x != "__classdict__")&&(bM sc).all (λx=>sc.names.lookup x==some .free)
def aCa:Expr->Bool
 |.Name _ _=>true
 |.Subscript _ _ _=>true
 |.List _ _=>true
 |_=>false
def one:List Expr->Option Expr
 |[a]=>some a
 |_=>none
def two:List Expr->Option (Expr×Expr)
 |[a,b]=>some (a,b)
 |_=>none
def eO:Expr->Option (Str×Pos)
 |.Name x p=>some (x,p)
 |_=>none
noncomputable def aH7:Expr->Option (List Expr×Nat×Pos)
 |.Tuple es k p=>some (es,k,p)
 |_=>none
noncomputable def aCb:Expr->Option (Option Expr×Option Expr)
 |.Slice lo hi st _=>(match st with|none=>some (lo,hi)|some _=>none)
 |_=>none
noncomputable def aLn:Expr->Bool
 |.Constant c _ _=>(match c with|.int i=>i==1|_=>false)
 |_=>false
def aOb:Expr->Bool
 |.UnaryOp op e _=>(match op with|.USub=>aLn e|_=>false)
 |_=>false
def z9:Expr->Bool
 |.Name _ _=>true
 |_=>false
def aM6:Expr->Bool
 |.Subscript _ _ _=>true
 |_=>false
def aLo:Expr->Bool
 |.Constant c _ _=>(match c with|.none=>true|_=>false)
 |_=>false
def aLp:Expr->Bool
 |.Constant c _ _=>(match c with|.int i=>i==2|_=>false)
 |_=>false
def aOc:Expr->Option Expr
 |.Slice lo hi st _=>if hi.isNone&&(match st with|none=>false|some e=>aLp e)then lo else none
 |_=>none
def aOr:Expr->Bool
 |.Slice lo hi st _=>lo.isNone&&hi.isNone&&(match st with|none=>false|some e=>aOb e)
 |_=>false
def aOd(e:Expr):Option (Str×Str):=(aH7 e).bind λ(es,_)=>(two es).bind λ(u,v)=>(eO u).bind λ(x,_)=>(eO v).map λ(y,_)=>(x,y)
def aH8:Expr->Bool
 |.Constant c _ _=>(match c with|.str _=>true|_=>false)
 |_=>false
def aH9(dE:Expr->Option F)(C:Ctx)(a:Expr):Option F:=match a with
 |.Call f as kws _=>if kws.isEmpty then(eO f).bind λ(x,_)=>(one as).bind λb=>(match loc C x,glo C x with
  |none,some (.py .range)=>dE b
  |_,_=>none)else none
 |_=>none
def aDs(dE:Expr->Option F)(C:Ctx)(a:Expr):Option F:=match a with
 |.Call f as kws _=>if kws.isEmpty then(eO f).bind λ(x,_)=>(two as).bind λ(b,c)=>(match loc C x,glo C x with
  |none,some (.py .zip)=>(dE b).bind λf=>(dE c).map λg=>mW f g
  |_,_=>none)else none
 |_=>none
def aDt(dL:Expr->Option F)(C:Ctx)(a:Expr):Option F:=match a with
 |.Call f as kws _=>if kws.isEmpty then(eO f).bind λ(x,_)=>(one as).bind λb=>(match loc C x,glo C x with
  |none,some (.py .set)=>dL b
  |_,_=>none)else none
 |_=>none
def bsN(C:Ctx)(e:Expr):Bool:=match e with|.Name x _=>C.bs.contains x|_=>false
def aDu(dE dL:Expr->Option F)(C:Ctx)(p:Py)(as:List Expr):Option F:=match p with
 |.len=>(one as).bind λa=>(dL a).map λf=>aB iE [f]
 |.int=>(one as).bind λa=>(dL a).map λf=>aB aB6 [f]
 |.tuple=>(one as).bind λa=>(dL a).map λf=>aB dG [f]
 |.list=>(one as).bind λa=>(match dL a with
  |some f=>some (aB rD [f])
  |none=>(aDs dE C a).map λf=>aB rD [f])
 |.sum=>(one as).bind λa=>(dL a).map λf=>aB v0 [f]
 |.all=>(one as).bind λa=>(dL a).map λf=>aB aH2 [f]
 |.any=>none
 |.abs=>none
 |.sorted=>(one as).bind λa=>(aDt dL C a).map λf=>aB dSS [f]
 |.min=>none
 |.max=>none
 |.isin=>(two as).bind λ(a,b)=>(eO b).bind λ(t,_)=>(if bsN C a then dL a else dE a).bind λf=>(glo C t).bind λg=>(isP g).map λP=>rIs P f
 |_=>none
def v5(dE:Expr->Option F)(C:Ctx)(tt:Bool)(x:Str)(as:List Expr):Option F:=match glo C x,as with
 |some (.py .range),[a]=>(dE a).map aV
 |some (.py .zip),[a,b]=>if tt then(dE a).bind λf=>(dE b).map λg=>mW f g else none
 |some (.py .enum),[a]=>if tt then(dE a).map oV else none
 |_,_=>none
def aCc(x:Str):Str:=x++"{}"
mutual
def cR:Nat->Ctx->Expr->Option F
 |0,_,_=>none
 |n+1,C,e=>match e with
  |.Name x _=>(match loc C x with
   |some i=>some (aA i)
   |none=>match glo C x with
    |some (.val d)=>some (rK d)
    |some (.fn k _ _)=>some (rK (.fn k))
    |_=>none)
  |.Constant c _ _=>(kD c).map rK
  |.BinOp a op b _=>(cR n C a).bind λf=>(cR n C b).map λg=>aI op f g
  |.UnaryOp op a _=>(cR n C a).bind λf=>(match op with|.Not=>some (gR f)|.USub=>some (vK f)|_=>none)
  |.BoolOp op es p=>(match es with
   |[a,b]=>(cR n C a).bind λf=>(cR n C b).map λg=>(match op with|.And=>fR f g|.Or=>rOr f g)
   |a::b::c::r=>(cR n C a).bind λf=>(cR n C (.BoolOp op (b::c::r) p)).map λg=>(match op with|.And=>fR f g|.Or=>rOr f g)
   |_=>none)
  |.Compare a ops cs q=>(match ops with
   |[op]=>(one cs).bind λb=>(cR n C a).bind λf=>(cR n C b).map λg=>aU op f g
   |[op,op']=>(two cs).bind λ(b,c)=>(cR n C a).bind λf=>(cR n C b).bind λg=>(cR n C c).map λh=>dS op op' f g h
   |_=>none)
  |.IfExp c a b _=>(cR n C c).bind λh=>(cR n C a).bind λf=>(cR n C b).map λg=>rIf (if z9 c then aDq h else h) f g
  |.Tuple es _ _=>if es.length<=1000 then(gE (cR n C) es).map b9 else none
  |.List es _=>if es.length<=1000 then(gE (cR n C) es).map cN else none
  |.Subscript a b q=>((v6 n C a).bind λf=>(match aCb b with
   |some (lo,hi)=>(match lo with
    |none=>some none
    |some l=>(cR n C l).map some).bind λl=>(match hi with
    |none=>some none
    |some h=>(cR n C h).map some).map λh=>gT f l h
   |none=>(cR n C b).map λg=>rIx f g))
  |.ListComp elt gens sc _=>(match gens with
   |[⟨tg,it,ifs,as⟩]=>if as=0 then(cE tg).bind λ(xs,k)=>(aDv n C (k != 0) it).bind λfi=>if kH sc xs then
     (gE (λx=>fL C x) (bM sc)).bind λcs=>(match ifs with
     |[]=>some none
     |[c]=>(cR n {C with sc:=sc,N:=xs++bM sc} c).map some
     |_=>none).bind λc=>(cR n {C with sc:=sc,N:=xs++bM sc} elt).map λe=>aL k cs fi c e
    else none else none
   |_=>none)
  |.Call f as kws cp=>((if kws.isEmpty then(match f with
   |.Name x _=>(match loc C x with
    |some i=>if as.isEmpty then none else(gE (cR n C) as).map λfs=>iD C.fns (aA i) fs
    |none=>(match glo C x with
     |some (.fn _ k f)=>if as.isEmpty then none else(gE (cR n C) as).bind λfs=>if fs.length=k then some (aB f fs)else none
     |some (.py p)=>aDu (cR n C) (v6 n C) C p as
     |_=>none))
   |.Subscript a b sp=>if as.isEmpty then none else(cR n C (.Subscript a b sp)).bind λg=>(gE (cR n C) as).map λfs=>iD C.fns g fs
   |.Attribute o m ap=>(if as.isEmpty then(if m="bit_length"/\aCa o=true/\(ap.endLine==cp.line)=true then(cR n C o).map λf=>aB aH4 [f]else none)else(one as).bind λa=>if aCa o&&ap.endLine==cp.line then(v6 n C o).bind λf=>(cR n C a).bind λg=>
     if m="count" then some (rC sM f g)else if m="index" then some (rC sN f g)else none else none)
   |_=>none)else none))
  |_=>none
def v6:Nat->Ctx->Expr->Option F
 |0,_,_=>none
 |n+1,C,e=>match e with
  |.Name x p=>(match loc C x with
   |some i=>some (aF i)
   |none=>cR n C (.Name x p))
  |e=>cR n C e
def aDv:Nat->Ctx->Bool->Expr->Option F
 |0,_,_,_=>none
 |n+1,C,tt,e=>match e with
  |.Call f as kws q=>(match f with
   |.Name x p=>(match loc C x,glo C x,kws with
    |none,some (.py .range),[]=>v5 (cR n C) C tt x as
    |none,some (.py .zip),[]=>v5 (cR n C) C tt x as
    |none,some (.py .enum),[]=>v5 (cR n C) C tt x as
    |_,_,_=>cR n C (.Call (.Name x p) as kws q))
   |f=>cR n C (.Call f as kws q))
  |e=>v6 n C e
end
def gv:Nat->Expr->List Str
 |0,_=>[]
 |n+1,e=>match e with
  |.Name x _=>[x]
  |.BinOp a _ b _=>gv n a++gv n b
  |.UnaryOp _ a _=>gv n a
  |.BoolOp _ as _=>as.flatMap (gv n)
  |.Compare a [_] [b] _=>(if z9 a then []else gv n a)++(if z9 b then []else gv n b)
  |.Compare a _ bs _=>gv n a++bs.flatMap (gv n)
  |.IfExp a b c _=>gv n a++gv n b++gv n c
  |.Tuple es _ _=>es.flatMap (gv n)
  |.List es _=>es.flatMap (gv n)
  |.Slice lo hi _ _=>(lo.map (gv n)).getD []++(hi.map (gv n)).getD []
  |.Subscript (.Name _ _) b _=>gv n b
  |.Subscript a b _=>gv n a++gv n b
  |.ListComp elt [⟨_,.Name _ _,ifs,_⟩] _ _=>ifs.flatMap (gv n)++gv n elt
  |.ListComp elt [⟨_,it,ifs,_⟩] _ _=>gv n it++ifs.flatMap (gv n)++gv n elt
  |.Call (.Name x _) as _ _=>if x="len"\/x="tuple"\/x="list"\/x="sum"\/x="sorted"\/x="all"\/x="any"\/x="isinstance" then
    as.flatMap λa=>match a with|.Name _ _=>[]|a=>gv n a else x::as.flatMap (gv n)
  |.Call (.Attribute (.Name _ _) _ _) as _ _=>as.flatMap (gv n)
  |.Call (.Attribute o _ _) as _ _=>gv n o++as.flatMap (gv n)
  |.Call f as _ _=>gv n f++as.flatMap (gv n)
  |_=>[]
def jP(C:Ctx)(e:Expr):List Nat:=match C.bs with
 |[]=>[]
 |_=>((gv 50 e).filter λx=>C.bs.contains x).filterMap λx=>loc C x
def dX(is:List Nat)(s:FS):FS:=match is with
 |[]=>s
 |is=>aLm is s
def aAa:Nat->List Stmt->List Str
 |0,_=>[]
 |n+1,ss=>ss.flatMap λs=>match s with
  |.Assign [.Subscript (.Name x _) _ _] _ _=>[x]
  |.Assign [.Name x _] (.Dict [] [] _) _=>[aCc x]
  |.Assign [.Tuple [_,.Name x _] _ _] (.Tuple [_,.Dict [] [] _] _ _) _=>[aCc x]
  |.AugAssign (.Subscript (.Name x _) _ _) _ _ _=>[x]
  |.Assign [.Tuple [.Subscript (.Name x _) _ _,_] _ _] _ _=>[x]
  |.Expr (.Call (.Attribute (.Name x _) m _) _ _ _) _=>if m="append"\/m="extend"\/m="remove" then [x]else []
  |.If _ a b _=>aAa n a++aAa n b
  |.For _ _ b _ _=>aAa n b
  |.While _ b _ _=>aAa n b
  |.Return (some (.Name x _)) _=>if x="numbers" then [x]else []
  |_=>[]
def v7:Expr->Bool
 |.Call _ _ _ _=>true
 |.Name _ _=>true
 |.Subscript _ _ _=>true
 |.ListComp _ _ _ _=>true
 |_=>false
noncomputable def aDw(C:Ctx)(x y:Str)(px py:Pos)(a b:Expr):Bool:=
 C.sc.names.lookup x==some .local&&C.sc.names.lookup y==some .local&&x != y&&px.line==py.line&& !([a,b].all (foldedForSure 8))&& !([a,b].all (constantsAlone 8))&& !C.bs.contains x&& !C.bs.contains y
noncomputable def v8(C:Ctx)(x y:Str):Bool:=(C.sc.names.lookup x==some .cell||C.sc.names.lookup y==some .cell)&& !C.bs.contains x&& !C.bs.contains y
def aOs:Operator->Bool
 |.Add=>true
 |_=>false
def aM7:Operator->Bool
 |.Add=>true
 |.Sub=>true
 |_=>false
def aM8(C:Ctx)(tt:Bool)(it:Expr):Option F:=match it with
 |.Name x p=>cR 50 C (.Name x p)
 |it=>aDv 50 C tt it
structure Par where
 x:Str
 px:Pos
 y:Str
 py:Pos
 a:Expr
 b:Expr
def aLq(es:List Expr)(e:Expr):Option Par:=(two es).bind λ(u,v)=>(eO u).bind λ(x,px)=>(eO v).bind λ(y,py)=>(aH7 e).bind λ(vs,_)=>(two vs).map λ(a,b)=>⟨x,px,y,py,a,b⟩
structure Par3 where
 x:Str
 px:Pos
 y:Str
 py:Pos
 z:Str
 pz:Pos
 a:Expr
 b:Expr
 c:Expr
def uT:List Expr->Option (Expr×Expr×Expr)
 |[a,b,c]=>some (a,b,c)
 |_=>none
def aOt(es:List Expr)(e:Expr):Option Par3:=(uT es).bind λ(u,v,w)=>(eO u).bind λ(x,px)=>(eO v).bind λ(y,py)=>(eO w).bind λ(z,pz)=>(aH7 e).bind λ(vs,_)=>(uT vs).map λ(a,b,c)=>⟨x,px,y,py,z,pz,a,b,c⟩
noncomputable def aM9(C:Ctx)(q:Par3):Bool:=
 C.sc.names.lookup q.x==some .local&&C.sc.names.lookup q.y==some .local&&C.sc.names.lookup q.z==some .local&&q.x != q.y&&q.x != q.z&&q.y != q.z&&q.px.line==q.py.line&&q.px.line==q.pz.line&& !([q.a,q.b,q.c].all (foldedForSure 8))&& !([q.a,q.b,q.c].all (constantsAlone 8))&& !C.bs.contains q.x&& !C.bs.contains q.y&& !C.bs.contains q.z
def aNa:Expr->Option (Str×Expr)
 |.Subscript o k _=>(eO o).map λ(x,_)=>(x,k)
 |_=>none
def aOu(es:List Expr)(e:Expr):Option (Str×Expr×Expr):=(two es).bind λ(u,v)=>(aNa u).bind λ(x,k)=>(aNa v).bind λ(y,l)=>(aH7 e).bind λ(vs,_)=>(two vs).bind λ_=>if x=y then some (x,k,l)else none
def aNb:List Stmt->Option Stmt
 |[s]=>some s
 |_=>none
def aNc:Stmt->Option (Str×Str)
 |.Assign ts e _=>(one ts).bind λt=>(eO t).bind λ(x,_)=>(eO e).map λ(y,_)=>(x,y)
 |_=>none
def aLr(C:Ctx)(hs:List ExceptHandler):Option (Nat×Nat):=match hs with
 |[.ExceptHandler ty nm b _]=>ty.bind λte=>nm.bind λe=>(eO te).bind λ(cx,_)=>(aNb b).bind λs=>(aNc s).bind λ(x,e')=>(match loc C cx,glo C cx with
  |none,some (.exc c)=>if c=0/\e=e' then(loc C e).bind λi=>(loc C x).bind λj=>if C.sc.names.lookup e==some .local&&i != j&&C.bs.isEmpty then some (i,j)else none else none
  |_,_=>none)
 |_=>none
mutual
def aDx:Nat->Bool->Ctx->Stmt->Option FS
 |0,_,_,_=>none
 |n+1,t,C,s=>match s with
  |.Pass _=>some bF
  |.Break _=>some aM5
  |.Continue _=>some aH6
  |.Return v _=>(match v with
   |none=>some aH5
   |some e=>(match eO e with
    |some (x,_)=>(match loc C x with
     |some i=>if C.bs.contains x then some (bV (zX i))else some (bV (aA i))
     |none=>(cR 50 C e).map bV)
    |none=>(cR 50 C e).map λf=>dX (jP C e) (bV f)))
  |.Assign ts e _=>(one ts).bind λtg=>(match tg with
   |.Name x _=>(loc C x).bind λi=>(cR 50 C e).map λf=>dX (jP C e) (if C.bs.contains x then oW i f else cY i f)
   |.Tuple es a b=>(match aLq es e with
    |some ⟨x,px,y,py,a,b⟩=>if aDw C x y px py a b then(loc C x).bind λi=>(loc C y).bind λj=>(cR 50 C a).bind λf=>(cR 50 C b).map λg=>dX (jP C e) (kG [i,j] (b9 [f,g]))else if v8 C x y then(loc C x).bind λi=>(loc C y).bind λj=>(cR 50 C e).map λf=>dX (jP C e) (kG [i,j] f)else none
    |none=>(if v7 e then some ()else none).bind λ_=>(cE (.Tuple es a b)).bind λ(xs,_)=>(gE (λx=>loc C x) xs).bind λis=>if xs.all (λx=> !C.bs.contains x)then
     (cR 50 C e).map λf=>dX (jP C e) (kG is f)else none)
   |.Subscript o k _=>(eO o).bind λ(x,_)=>(loc C x).bind λi=>if C.bs.contains x then(cR 50 C e).bind λf=>(cR 50 C k).map λg=>dX (jP C e++jP C k) (aDr i g f)else none
   |_=>none)
  |.Expr e _=>(match e with
   |.Call f as kws cp=>if kws.isEmpty then(match f with
    |.Attribute o m ap=>(eO o).bind λ(x,_)=>(one as).bind λe=>(loc C x).bind λi=>if C.bs.contains x&&ap.endLine==cp.line then(cR 50 C e).bind λf=>
      if m="append" then some (dX (jP C e) (aB7 i f))else if m="extend" then some (dX (jP C e) (aB8 i f))else none else none
    |.Name x p=>(cR 50 C (.Call (.Name x p) as [] cp)).map λf=>dX (jP C (.Call (.Name x p) as [] cp)) (fO f)
    |_=>none)else none
   |_=>none)
  |.If c a b _=>(cR 50 C c).bind λf=>(kJ n t C a).bind λg=>(kJ n t C b).map λh=>dX (jP C c) (sIf f g h)
  |.For tg it b els _=>if t|| !els.isEmpty then none else((cE tg).bind λ(xs,k)=>(aM8 C (k != 0) it).bind λf=>(gE (λx=>loc C x) xs).bind λis=>if xs.all (λx=> !C.bs.contains x)then
    (kJ n t C b).map λg=>dX (jP C it) (zZ is (k==0) f g)else none)
  |.Raise x c _=>if t||c.isSome then none else x.bind λe=>(match e with
   |.Call f as kws _=>if kws.isEmpty then(eO f).bind λ(x,_)=>(one as).bind λa=>if aH8 a then(match loc C x,glo C x with
    |none,some (.exc c)=>some (gW c)
    |_,_=>none)else none else none
   |_=>none)
  |.Try b hs els fin _=>if t|| !els.isEmpty|| !fin.isEmpty then none else(aLr C hs).bind λ(i,j)=>(kJ n true C b).map λg=>aB9 i j (λ_=>true) g
  |_=>none
def kJ:Nat->Bool->Ctx->List Stmt->Option FS
 |0,_,_,_=>none
 |n+1,t,C,ss=>match ss with
  |[]=>some bF
  |[a]=>some ((aDx n t C a).getD aKp)
  |a::r=>(kJ n t C r).map λg=>bA ((aDx n t C a).getD aKp) g
end
noncomputable def jJ(a:Arguments):Option (List Str):=if a.posonlyargs.isEmpty&&a.vararg.isNone&&a.kwonlyargs.isEmpty&&a.kwarg.isNone&&a.defaults.isEmpty then some (a.args.map (·.arg))else none
noncomputable def bG(sc:Scope):List Str:=(sc.names.filter λp=>p.2== .local||p.2== .cell).map (·.1)
noncomputable def g0(N P:List Str)(sc:Scope):Bool:=
 sc.kind== .function&& !sc.isCoroutine&& !sc.isGenerator&&decide N.Nodup&&decide (N.take P.length=P)&&
  P.all (λx=>sc.names.lookup x==some .local||sc.names.lookup x==some .cell)&&sc.names.all (λp=>p.2 != .free)&&N.all (λx=>x != "__debug__"&&x != "__classdict__")
def v9(tab:List (Str×Gl))(fns:List (Nat×Fn))(s:Stmt):Option (Nat×Fn):=match s with
 |.FunctionDef _ as b _ _ _ sc _ _ _=>(jJ as).bind λP=>if g0 (bG sc) P sc then
   (kJ 100 false ⟨tab,fns,sc,bG sc,aAa 50 b⟩ b).map λg=>(P.length,fnOf (bG sc).length g)else none
 |_=>none
def aGq(g:Gl):D->Option Bool:=(isP g).getD λ_=>none
def kM:D->Option Bool:=aGq (.py .int)
def rE:D->Option Bool:=aGq (.py .bool)
def dH:D->Option Bool:=aGq (.py .tuple)
def aDy:D->Option Bool:=aGq (.py .list)
def rF:Nat->D->Option Bool
 |100=>aGq .verr
 |c=>aGq (.exc c)
noncomputable def qP(m:Fn->Fn):Nat->Fn
 |0=>λ_=>.bad
 |n+1=>m (qP m n)
mutual
def bU:D->PyData
 |.non=>.none
 |.bl b=>.bool b
 |.int i=>.int i
 |.str x=>.str x
 |.tup xs=>.tuple (aZ xs)
 |.lst xs=>.list (aZ xs)
 |.exc _=>.none
 |.fn _=>.none
def aZ:List D->List PyData
 |[]=>[]
 |x::xs=>bU x::aZ xs
end
mutual
theorem fM: ∀{d:D},plain d=true->(bU d).canLay0=true
 |.non,_=>by simp[bU,PyData.canLay0]
 |.bl _,_=>by simp[bU,PyData.canLay0]
 |.int _,_=>by simp[bU,PyData.canLay0]
 |.str x,h=>by
  unfold plain at h;simp only[bU,PyData.canLay0];exact h
 |.tup xs,h=>by
  simp only[bU,PyData.canLay0];exact rG (by simpa[plain]using h)
 |.lst xs,h=>by
  simp only[bU,PyData.canLay0];exact rG (by simpa[plain]using h)
 |.exc _,h=>by simp[plain]at h
 |.fn _,h=>by simp[plain]at h
theorem rG: ∀{ds:List D},aK ds=true->PyData.canLayAll0 (aZ ds)=true
 |[],_=>by simp[aZ,PyData.canLayAll0]
 |d::ds,h=>by
  have h':plain d=true/\aK ds=true:=by simpa[aK]using h
  simp only[aZ,PyData.canLayAll0,fM h'.1,rG h'.2,Bool.and_self]
end
mutual
theorem fN: ∀(d:D),(bU d).depth=dep d
 |.non=>by simp[bU,PyData.depth,dep]
 |.bl _=>by simp[bU,PyData.depth,dep]
 |.int _=>by simp[bU,PyData.depth,dep]
 |.str x=>by simp[bU,PyData.depth,dep]
 |.tup xs=>by simp[bU,PyData.depth,dep,rH xs]
 |.lst xs=>by simp[bU,PyData.depth,dep,rH xs]
 |.exc _=>by simp[bU,PyData.depth,dep]
 |.fn _=>by simp[bU,PyData.depth,dep]
theorem rH: ∀(ds:List D),PyData.depthAll (aZ ds)=mV ds
 |[]=>by simp[aZ,PyData.depthAll,mV]
 |d::ds=>by simp[aZ,PyData.depthAll,mV,fN d,rH ds]
end
theorem aCd(b:Bool):b2i b=if b then 1 else 0:=rfl
mutual
theorem eG: ∀(x y:D),plain x=true->plain y=true->PyData.eqv (bU x) (bU y)=deq x y
 |.non,y,_,h=>by cases y<;>simp[plain]at h<;>simp[bU,PyData.eqv,deq]
 |.bl a,y,_,h=>by cases y<;>simp[plain]at h<;>simp[bU,PyData.eqv,deq,aCd]
 |.int a,y,_,h=>by cases y<;>simp[plain]at h<;>simp[bU,PyData.eqv,deq,aCd]
 |.str a,y,_,h=>by cases y<;>simp[plain]at h<;>simp[bU,PyData.eqv,deq]
 |.tup xs,y,g,h=>by
  cases y with
  |tup ys=>simpa[bU,PyData.eqv,deq]using mY xs ys (by simpa[plain]using g) (by simpa[plain]using h)
  |_=>simp[plain]at h<;>simp[bU,PyData.eqv,deq]
 |.lst xs,y,g,h=>by
  cases y with
  |lst ys=>simpa[bU,PyData.eqv,deq]using mY xs ys (by simpa[plain]using g) (by simpa[plain]using h)
  |_=>simp[plain]at h<;>simp[bU,PyData.eqv,deq]
 |.exc _,_,g,_=>by simp[plain]at g
 |.fn _,_,g,_=>by simp[plain]at g
theorem mY: ∀(xs ys:List D),aK xs=true->aK ys=true->PyData.eqvAll (aZ xs) (aZ ys)=qZ xs ys
 |[],[],_,_=>by simp[aZ,PyData.eqvAll,qZ]
 |[],_::_,_,_=>by simp[aZ,PyData.eqvAll,qZ]
 |_::_,[],_,_=>by simp[aZ,PyData.eqvAll,qZ]
 |x::xs,y::ys,g,h=>by
  have g':plain x=true/\aK xs=true:=by simpa[aK]using g
  have h':plain y=true/\aK ys=true:=by simpa[aK]using h
  simp only[aZ,PyData.eqvAll,qZ,eG x y g'.1 h'.1,mY xs ys g'.2 h'.2]
end
abbrev St:=L2.St
structure Ad where
 cls:Nat->Addr
 fnA:Nat->Addr
 nb:Nat
def mZ(h:Heap)(x C:Addr):Prop:= ∃o vs,h.get? x=some o/\o.cls= .ref C/\o.data= .fields vs
def aGr(C a:Addr):HO:=.ext λh=>mZ h a C
section
variable (K:PySem.W.Frag) (ad:Ad)
mutual
def Rep(G:Hp):D->V->Prop
 |.non,v=>v= .non
 |.bl b,v=>v= .bl b
 |.int i,v=>v= .int i
 |.str x,v=>v= .str x
 |.tup ds,v=>∃a vs,v= .ref a/\SqT K G a vs/\aH G ds vs
 |.lst ds,v=>∃a vs,v= .ref a/\SqL K G a vs/\aH G ds vs
 |.exc c,v=>∃a,v= .ref a/\G a=some (aGr (ad.cls c) a)
 |.fn k,v=>v= .ref (ad.fnA k)
def aH(G:Hp):List D->List V->Prop
 |[],vs=>vs=[]
 |d::ds,vs=>∃v r,vs=v::r/\Rep G d v/\aH G ds r
end
end
section
variable {K:PySem.W.Frag} {ad:Ad} {G G' H H':Hp}
theorem _root_.L2.Same.seqT{K:PySem.W.Frag}{H H':Hp}{a:Addr}{xs:List V}(e:Same H H')(h:SqT K H a xs):SqT K H' a xs:=by
 rcases h with (h|⟨o,h⟩)|h
 ·exact .inl (.inl (e _ _ h))
 ·exact .inl (.inr ⟨o,e _ _ h⟩)
 ·exact .inr h
mutual
theorem Rep.mono(e:Same G G'): ∀{d:D} {v:V},Rep K ad G d v->Rep K ad G' d v
 |.non,_,h=>h
 |.bl _,_,h=>h
 |.int _,_,h=>h
 |.str _,_,h=>h
 |.tup ds,v,h=>by
  unfold Rep at h ⊢;obtain⟨a,vs,h1,h2,h3⟩:=h;exact⟨a,vs,h1,e.seqT h2,aH.mono e h3⟩
 |.lst ds,v,h=>by
  unfold Rep at h ⊢;obtain⟨a,vs,h1,h2,h3⟩:=h;exact⟨a,vs,h1,e.seq h2,aH.mono e h3⟩
 |.exc _,_,h=>by
  unfold Rep at h ⊢;obtain⟨a,h1,h2⟩:=h;exact⟨a,h1,e _ _ h2⟩
 |.fn _,_,h=>h
theorem aH.mono(e:Same G G'): ∀{ds:List D} {vs:List V},aH K ad G ds vs->aH K ad G' ds vs
 |[],_,h=>h
 |d::ds,vs,h=>by
  unfold aH at h ⊢;obtain⟨v,r,h1,h2,h3⟩:=h;exact⟨v,r,h1,Rep.mono e h2,aH.mono e h3⟩
end
theorem aH.length: ∀{ds:List D} {vs:List V},aH K ad G ds vs->vs.length=ds.length
 |[],_,h=>by
  unfold aH at h;subst h;rfl
 |d::ds,vs,h=>by
  unfold aH at h;obtain⟨v,r,rfl,_,h3⟩:=h;simp[aH.length h3]
theorem aH.nil:aH K ad G [] []:=by unfold aH;rfl
theorem aH.cons{d:D}{v:V}{ds:List D}{vs:List V}(h:Rep K ad G d v)(t:aH K ad G ds vs):aH K ad G (d::ds) (v::vs):=by
 unfold aH;exact⟨v,vs,rfl,h,t⟩
theorem aH.get: ∀{ds:List D} {vs:List V} {i:Nat} {d:D},aH K ad G ds vs->ds[i]? =some d->∃v,vs[i]? =some v/\Rep K ad G d v
 |[],_,_,_,_,e=>by simp at e
 |d::ds,vs,i,d',h,e=>by
  unfold aH at h;obtain⟨v,r,rfl,h2,h3⟩:=h
  cases i with
  |zero=>
   simp at e
   subst e;exact⟨v,rfl,h2⟩
  |succ i=>
   obtain⟨w,a,b⟩:=aH.get (i:=i) (d:=d') h3 (by simpa using e)
   exact⟨w,by simpa using a,b⟩
theorem aH.append: ∀{ds es:List D} {vs ws:List V},aH K ad G ds vs->aH K ad G es ws->aH K ad G (ds++es) (vs++ws)
 |[],_,_,_,h,t=>by
  unfold aH at h;subst h;exact t
 |d::ds,es,vs,ws,h,t=>by
  unfold aH at h;obtain⟨v,r,rfl,h2,h3⟩:=h;exact aH.cons h2 (aH.append h3 t)
theorem aH.drop: ∀(n:Nat) {ds:List D} {vs:List V},aH K ad G ds vs->aH K ad G (ds.drop n) (vs.drop n)
 |0,_,_,h=>h
 |n+1,[],_,h=>by
  unfold aH at h;subst h;exact aH.nil
 |n+1,d::ds,vs,h=>by
  unfold aH at h;obtain⟨v,r,rfl,h2,h3⟩:=h;exact aH.drop n h3
theorem aH.take: ∀(n:Nat) {ds:List D} {vs:List V},aH K ad G ds vs->aH K ad G (ds.take n) (vs.take n)
 |0,_,_,_=>aH.nil
 |n+1,[],_,h=>by
  unfold aH at h;subst h;exact aH.nil
 |n+1,d::ds,vs,h=>by
  unfold aH at h;obtain⟨v,r,rfl,h2,h3⟩:=h;exact aH.cons h2 (aH.take n h3)
theorem aH.set{d:D}{v:V}(q:Rep K ad G d v): ∀(n:Nat) {ds:List D} {vs:List V},aH K ad G ds vs->aH K ad G (ds.set n d) (vs.set n v)
 |_,[],_,h=>by
  unfold aH at h;subst h;exact aH.nil
 |0,_::ds,vs,h=>by
  unfold aH at h;obtain⟨w,r,rfl,h2,h3⟩:=h;exact aH.cons q h3
 |n+1,e::ds,vs,h=>by
  unfold aH at h;obtain⟨w,r,rfl,h2,h3⟩:=h;exact aH.cons h2 (aH.set q n h3)
theorem aH.rep{ds:List D}{vs:List V}(h:aH K ad G ds vs): ∀k:Nat,aH K ad G (ak k ds).flatten (ak k vs).flatten
 |0=>aH.nil
 |k+1=>by
  simp only[List.replicate_succ,List.flatten_cons];exact aH.append h (aH.rep h k)
theorem aH.map_int: ∀{ns:List Int},aH K ad G (ns.map D.int) (ns.map V.int)
 |[]=>aH.nil
 |_::_=>aH.cons (by unfold Rep;rfl) aH.map_int
structure Step(G H G' H':Hp):Prop where
 sg:Same G G'
 gh:Same G' H'
 sh:Same H H'
 nw: ∀b,G b=none->G' b≠none->H b=none
theorem oY(e:Same H H'){b:Addr}(h:H' b=none):H b=none:=e.free h
theorem Step.refl(h:Same G H):Step G H G H:=⟨Same.refl _,h,Same.refl _,λb h1 h2=>absurd h1 h2⟩
theorem Step.trans{G1 H1 G2 H2:Hp}(a:Step G H G1 H1)(b:Step G1 H1 G2 H2):Step G H G2 H2:=
 ⟨a.sg.trans b.sg,b.gh,a.sh.trans b.sh,λx h1 h2=>by
  cases q:G1 x with
  |none=>exact a.sh.free (b.nw x q h2)
  |some o=>exact a.nw x h1 (by rw[q];exact λz=>nomatch z)⟩
theorem Same.upd_new{p:Addr}{o:HO}(h:H p=none):Same H (upd H p o):=λb u e=>by rw[aO (bJ e h)];exact e
theorem Step.new{p:Addr}{o:HO}(h:Same G H)(n:H p=none):Step G H (upd G p o) (upd H p o):=by
 have gn:G p=none:=h.free n
 refine⟨Same.upd_new gn,λb u e=>?_,Same.upd_new n,λb h1 h2=>?_⟩
 ·by_cases q:b=p
  ·subst q;rw[a9]at e ⊢;exact e
  ·rw[aO q]at e ⊢;exact h b u e
 ·by_cases q:b=p
  ·subst q;exact n
  ·rw[aO q]at h2;exact absurd h1 h2
theorem Step.own{p:Addr}{o:HO}(h:Same G H)(n:H p=none):Step G H G (upd H p o):=
 ⟨Same.refl _,h.trans (Same.upd_new n),Same.upd_new n,λb h1 h2=>absurd h1 h2⟩
theorem Step.shareO{p:Addr}{o:HO}(s:Step G H G' H')(n:H p=none)(m:G' p=none)(e:H' p=some o):Step G H (upd G' p o) H':=by
 refine⟨s.sg.trans (Same.upd_new m),λb u q=>?_,s.sh,λb h1 h2=>?_⟩
 ·by_cases z:b=p
  ·subst z;rw[a9]at q;rw[e];exact q
  ·rw[aO z]at q;exact s.gh b u q
 ·by_cases z:b=p
  ·subst z;exact n
  ·rw[aO z]at h2;exact s.nw b h1 h2
theorem Step.share{p:Addr}{vs:List V}(s:Step G H G' H')(n:H p=none)(m:G' p=none)(e:H' p=some (.lst vs)):Step G H (upd G' p (.lst vs)) H':=s.shareO n m e
mutual
def hD:D->Int
 |.non=>0xFCA86420
 |.int i=>hashInt i
 |.tup xs=>reduceHash (Builtin.Tuple.tupleHashOf (hDs xs))
 |_=>0
def hDs:List D->List Int
 |[]=>[]
 |x::xs=>hD x::hDs xs
end
def SLi(K:PySem.W.Frag)(ad:Ad)(G H:Hp):Slot->Option V->Prop
 |.no,_=>True
 |.sh d,ov=>∃v,ov=some v/\Rep K ad G d v
 |.ow xs,ov=>∃a vs,ov=some (.ref a)/\G a=none/\H a=some (.lst vs)/\aH K ad G xs vs
structure SL(K:PySem.W.Frag)(ad:Ad)(G H:Hp)(ρ:Rho)(σ:St):Prop where
 len:ρ.length=σ.length
 at_: ∀(i:Nat) (s:Slot),ρ[i]? =some s->∃ov,σ[i]? =some ov/\SLi K ad G H s ov
theorem SLi.step(st:Step G H G' H'): ∀{s:Slot} {ov:Option V},SLi K ad G H s ov->SLi K ad G' H' s ov
 |.no,_,_=>trivial
 |.sh d,_,⟨v,h1,h2⟩=>⟨v,h1,h2.mono st.sg⟩
 |.ow xs,_,⟨a,vs,h1,h2,h3,h4⟩=>by
  refine⟨a,vs,h1,?_,st.sh _ _ h3,h4.mono st.sg⟩
  cases q:G' a with
  |none=>rfl
  |some o=>
   have:=st.nw a h2 (by rw[q];exact λz=>nomatch z)
   rw[h3]at this;cases this
theorem SL.step{ρ:Rho}{σ:St}(h:SL K ad G H ρ σ)(st:Step G H G' H'):SL K ad G' H' ρ σ:=
 ⟨h.len,λi s e=>let ⟨ov,h1,h2⟩:=h.at_ i s e;⟨ov,h1,h2.step st⟩⟩
theorem SL.sh{ρ:Rho}{σ:St}{i:Nat}{d:D}(h:SL K ad G H ρ σ)(e:ρ[i]? =some (.sh d)): ∃v,σ[i]? =some (some v)/\Rep K ad G d v:=by
 obtain⟨ov,h1,v,rfl,h3⟩:=h.at_ i _ e;exact⟨v,h1,h3⟩
theorem SL.ow{ρ:Rho}{σ:St}{i:Nat}{xs:List D}(h:SL K ad G H ρ σ)(e:ρ[i]? =some (.ow xs)): ∃a vs,σ[i]? =some (some (.ref a))/\G a=none/\H a=some (.lst vs)/\aH K ad G xs vs:=by
 obtain⟨ov,h1,a,vs,rfl,h3⟩:=h.at_ i _ e;exact⟨a,vs,h1,h3⟩
def RK(K:PySem.W.Frag)(ad:Ad)(G H:Hp)(r:R)(Q:VK)(E:Nat->Hp->Prop):Prop:=match r with
 |.ok d=>∀v G' H',Step G H G' H'->Rep K ad G' d v->Q v H'
 |.ow xs=>∀p vs G' H',Step G H G' H'->H p=none->G' p=none->H' p=some (.lst vs)->aH K ad G' xs vs->Q (.ref p) H'
 |.ex c=>∀G' H',Step G H G' H'->E c H'
 |.bad=>False
theorem RK.step{r:R}{Q:VK}{E:Nat->Hp->Prop}(h:RK K ad G H r Q E)(st:Step G H G' H'):RK K ad G' H' r Q E:=by
 cases r with
 |ok d=>exact λv G2 H2 s2 q=>h v G2 H2 (st.trans s2) q
 |ow xs=>exact λp vs G2 H2 s2 n m e q=>h p vs G2 H2 (st.trans s2) (st.sh.free n) m e q
 |ex c=>exact λG2 H2 s2=>h G2 H2 (st.trans s2)
 |bad=>exact h
theorem RK.ok_now{d:D}{v:V}{Q:VK}{E:Nat->Hp->Prop}(h:RK K ad G H (.ok d) Q E)(e:Same G H)(q:Rep K ad G d v):Q v H:=h v G H (Step.refl e) q
theorem RK.ow_new{xs:List D}{vs:List V}{p:Addr}{Q:VK}{E:Nat->Hp->Prop}(h:RK K ad G H (.ow xs) Q E)(e:Same G H)(q:aH K ad G xs vs)(n:H p=none):Q (.ref p) (upd H p (.lst vs)):=
 h p vs G (upd H p (.lst vs)) (Step.own e n) n (e.free n) a9 q
theorem RK.tup_new{xs:List D}{vs:List V}{p:Addr}{Q:VK}{E:Nat->Hp->Prop}(h:RK K ad G H (.ok (.tup xs)) Q E)(e:Same G H)(q:aH K ad G xs vs)(n:H p=none):Q (.ref p) (upd H p (.tup vs)):=by
 refine h (.ref p) (upd G p (.tup vs)) (upd H p (.tup vs)) (Step.new e n) ?_;unfold Rep;exact⟨p,vs,rfl,SqT.of a9,q.mono (Same.upd_new (e.free n))⟩
end
def CXe(P:Program)(w:World):CXT:=λouter H s E e s'=>
 ∃(ea:Addr) (cls a0:Value) (H':Hp) (B:Heap),e= .ref ea/\s'.os=s.os/\AllBare s'.gens/\Heap.FlyingW B outer ea cls a0 s'.heap/\Un (frs outer) [] H H' s.heap s'.heap/\
  HOk P w H' s'.heap/\H' ea=none/\(∀b o,s.heap.get? b=some o->b∉frs outer->∃o',B.get? b=some o')/\(∀b o,H' b=some o->∃o',B.get? b=some o')/\E cls none H'
def xk(ad:Ad)(E:Nat->Hp->Prop):XK:=λcls _ H'=>∃c,cls= .ref (ad.cls c)/\E c H'
def XP(X:Cx)(ad:Ad)(σ:St)(E:Nat->Hp->Prop):Prop:=
 ∀(bx:cc) (H:Hp) (s:Shared) (e:Value) (s':Shared),Inv X bx σ H s->CXe X.prog X.w X.stack H s (xk ad E) e s'->X.xe e s'
def tE(X:Cx)(ad:Ad)(f:F):TE:=λσ H Q=>∃G ρ E,Same G H/\SL X.K ad G H ρ σ/\XP X ad σ E/\RK X.K ad G H (f ρ) Q E
abbrev ME(X:Cx)(ad:Ad)(e:Expr)(f:F):Prop:=PE X e (tE X ad f)
def kN(r:R):Prop:=(∃b,r= .ok (.bl b))\/∃c,r= .ex c
def tT(X:Cx)(ad:Ad)(f:F):TT:=λσ H Q=>∃G ρ E,Same G H/\SL X.K ad G H ρ σ/\XP X ad σ E/\kN (f ρ)/\RK X.K ad G H (f ρ) (λv H'=>∃b,v= .bl b/\Q b H') E
theorem tE.el{X:Cx}{ad:Ad}{f:F}{σ:St}{H:Hp}{Q:VK}{P:Prop}(h:tE X ad f σ H Q)(k: ∀G ρ E,Same G H->SL X.K ad G H ρ σ->XP X ad σ E->RK X.K ad G H (f ρ) Q E->P):P:=by
 obtain⟨G,ρ,E,h1,h2,h3,h4⟩:=h;exact k G ρ E h1 h2 h3 h4
theorem tT.el{X:Cx}{ad:Ad}{f:F}{σ:St}{H:Hp}{Q:Bool->Hp->Prop}{P:Prop}(h:tT X ad f σ H Q)(k: ∀G ρ E,Same G H->SL X.K ad G H ρ σ->XP X ad σ E->kN (f ρ)->RK X.K ad G H (f ρ) (λv H'=>∃b,v= .bl b/\Q b H') E->P):P:=by
 obtain⟨G,ρ,E,h1,h2,h3,h4,h5⟩:=h;exact k G ρ E h1 h2 h3 h4 h5
abbrev MT(X:Cx)(ad:Ad)(e:Expr)(f:F):Prop:=PT X e (tT X ad f)
abbrev MW(X:Cx)(ad:Ad)(e:Expr)(f:F):Prop:=PW X e (tT X ad f)
def AK(K:PySem.W.Frag)(ad:Ad)(G H:Hp)(r:RA)(Q:List V->Hp->Prop)(E:Nat->Hp->Prop):Prop:=match r with
 |.ok ds=>∀vs G' H',Step G H G' H'->aH K ad G' ds vs->Q vs H'
 |.ex c=>∀G' H',Step G H G' H'->E c H'
 |.bad=>False
def tA(X:Cx)(ad:Ad)(fs:List F):TA:=λσ H Q=>∃G ρ E,Same G H/\SL X.K ad G H ρ σ/\XP X ad σ E/\AK X.K ad G H (args fs ρ) Q E
abbrev MA(X:Cx)(ad:Ad)(es:List Expr)(fs:List F):Prop:=PA X es (tA X ad fs)
section
variable {X:Cx} {ad:Ad} {bx:cc} {s:Shared} {σ:St} {H G:Hp} {ρ:Rho} {Q:VK} {E:Nat->Hp->Prop} {pos:Pos} {a b c:Expr} {f g h:F}
theorem dQ{xs:List D}{p:Addr}{vs:List V}{G1 H1:Hp}(st:Step G H G1 H1)(n:H p=none)(m:G1 p=none)(e:H1 p=some (.lst vs))(q:aH X.K ad G1 xs vs):
  ∃G2,Step G H G2 H1/\Rep X.K ad G2 (.lst xs) (.ref p):=by
 refine⟨upd G1 p (.lst vs),st.share n m e,?_⟩;unfold Rep;exact⟨p,vs,rfl,SqL.of a9,q.mono (Same.upd_new m)⟩
theorem ME.thn{k:D->R}(ha:ME X ad a f)(I:Inv X bx σ H s)(hG:Same G H)(hS:SL X.K ad G H ρ σ)(hx:XP X ad σ E)(hr:RK X.K ad G H ((f ρ).bind k) Q E):
  wpAny (model X.prog X.w) X.A (eval a X.env) (λu s1=>∃v d G1 H1,Inv X bx σ H1 s1/\cD v u/\Step G H G1 H1/\Rep X.K ad G1 d v/\RK X.K ad G1 H1 (k d) Q E) X.xe s:=by
 cases e:f ρ with
 |ok d=>
  rw[e]at hr;refine L2.thn (ha bx s σ H (λv H1=>∃G1,Step G H G1 H1/\Rep X.K ad G1 d v) I ⟨G,ρ,E,hG,hS,hx,by rw[e];exact λv G1 H1 st q=>⟨G1,st,q⟩⟩) λu s1 ⟨v,H1,I1,r1,G1,st,q⟩=>?_
  exact⟨v,d,G1,H1,I1,r1,st,q,RK.step hr st⟩
 |ow xs=>
  rw[e]at hr;refine L2.thn (ha bx s σ H (λv H1=>∃G1,Step G H G1 H1/\Rep X.K ad G1 (.lst xs) v) I ⟨G,ρ,E,hG,hS,hx,by rw[e];exact λp vs G1 H1 st n m e' q=>dQ st n m e' q⟩) λu s1 ⟨v,H1,I1,r1,G1,st,q⟩=>?_
  exact⟨v,.lst xs,G1,H1,I1,r1,st,q,RK.step hr st⟩
 |ex c=>
  rw[e]at hr;refine L2.thn (ha bx s σ H (λv H1=>False) I ⟨G,ρ,E,hG,hS,hx,by rw[e];exact hr⟩) λu s1 ⟨v,H1,I1,r1,q⟩=>q.elim
 |bad=>
  rw[e]at hr;exact ax hr
theorem a8{i:Int}:Rep X.K ad G (.int i) (.int i):=by unfold Rep;rfl
theorem bP{i:Bool}:Rep X.K ad G (.bl i) (.bl i):=by unfold Rep;rfl
theorem aDz:Rep X.K ad G .non .non:=by unfold Rep;rfl
theorem kO{i:Str}:Rep X.K ad G (.str i) (.str i):=by unfold Rep;rfl
theorem wA{i:Nat}{x:Str}(hN:X.N[i]? =some x)(hv:Vis X.env.scope x)(hd:(x==("__debug__":Str))=false)(hcd:(x==("__classdict__":Str))=false):ME X ad (.Name x pos) (aA i):=by
 refine λbx s σ H Q I h9=>h9.el λG ρ E hG hS hx hr=>?_
 unfold aA at hr
 cases e:ρ[i]? with
 |none=>
  rw[e]at hr;exact hr.elim
 |some sl=>
  rw[e]at hr
  cases sl with
  |no=>exact hr.elim
  |ow xs=>exact hr.elim
  |sh d=>
   obtain⟨v,h1,h2⟩:=hS.sh e;exact j7 hN hv hd hcd bx s σ H Q I ⟨v,h1,hr.ok_now hG h2⟩
def MLk(X:Cx)(ad:Ad)(e:Expr)(f:F):Prop:=
 ∀(bx:cc) (s:Shared) (σ:St) (H G:Hp) (ρ:Rho) (k:D->R) (Q:VK) (E:Nat->Hp->Prop),Inv X bx σ H s->Same G H->SL X.K ad G H ρ σ->XP X ad σ E->RK X.K ad G H ((f ρ).bind k) Q E->
  wpAny (model X.prog X.w) X.A (eval e X.env) (λu s1=>∃v d G1 H1,Inv X bx σ H1 s1/\cD v u/\Step G H G1 H1/\(Rep X.K ad G1 d v\/∃a vs ds,d= .lst ds/\v= .ref a/\G1 a=none/\H1 a=some (.lst vs)/\aH X.K ad G1 ds vs)/\RK X.K ad G1 H1 (k d) Q E) X.xe s
theorem aAb{k:Const}{j:Nat}{d:D}(e:kD k=some d):ME X ad (.Constant k j pos) (rK d):=by
 refine λbx s σ H Q I h9=>h9.el λG ρ E hG hS hx hr=>?_
 cases k with
 |int i=>cases e;exact aG2 bx s σ H Q I (hr.ok_now hG a8)
 |bool i=>cases e;exact aKv bx s σ H Q I (hr.ok_now hG bP)
 |none=>cases e;exact aG3 bx s σ H Q I (hr.ok_now hG aDz)
 |str i=>cases e;exact aG4 bx s σ H Q I (hr.ok_now hG kO)
 |float _=>cases e
 |complex _ _=>cases e
 |bytes _=>cases e
 |ellipsis=>cases e
theorem wB{x:Str}{d:D}{u:Value}{v:V}(hg:L2.Gl X x)(hm:X.mg x=some u)(r:cD v u)(q: ∀G,Rep X.K ad G d v)(hd:(x==("__debug__":Str))=false):ME X ad (.Name x pos) (rK d):=by
 refine λbx s σ H Q I h9=>h9.el λG ρ E hG hS hx hr=>?_
 exact aDa hg hm r hd bx s σ H Q I (hr.ok_now hG (q G))
def DOp(X:Cx)(ad:Ad)(t:Value->Value->Sem Value)(r:D->D->R):Prop:=
 ∀(bx:cc) (s:Shared) (σ:St) (H G:Hp) (x y:D) (v w:V) (u z:Value) (Q:VK) (E:Nat->Hp->Prop),Inv X bx σ H s->Same G H->Rep X.K ad G x v->Rep X.K ad G y w->cD v u->cD w z->
  RK X.K ad G H (r x y) Q E->wpAny (model X.prog X.w) X.A (t u z) (EP X bx σ Q) X.xe s
theorem wC{t:Value->Value->Sem Value}{r:D->D->R}(ho:DOp X ad t r)(ha:ME X ad a f)(hb:ME X ad b g)(I:Inv X bx σ H s)(hG:Same G H)(hS:SL X.K ad G H ρ σ)(hx:XP X ad σ E)
  (hr:RK X.K ad G H ((f ρ).bind λx=>(g ρ).bind λy=>r x y) Q E):
  wpAny (model X.prog X.w) X.A (eval a X.env) (λv s₁=>wpAny (model X.prog X.w) X.A (eval b X.env) (λu s₂=>wpAny (model X.prog X.w) X.A (t v u) (EP X bx σ Q) X.xe s₂) X.xe s₁) X.xe s:=by
 refine L2.thn (ha.thn I hG hS hx hr) λu s1 hz_=>?_
 obtain⟨v,d,G1,H1,I1,r1,st1,q1,hr1⟩:=hz_;refine L2.thn (hb.thn I1 st1.gh (hS.step st1) hx hr1) λz s2 hz_=>?_
 obtain⟨w,e,G2,H2,I2,r2,st2,q2,hr2⟩:=hz_;exact ho bx s2 σ H2 G2 d e v w u z Q E I2 st2.gh (q1.mono st2.sg) q2 r1 r2 hr2
end
section
variable {X:Cx} {ad:Ad} {bx:cc} {s:Shared} {σ:St} {H G:Hp} {ρ:Rho} {Q:VK} {E:Nat->Hp->Prop} {pos:Pos} {a b c:Expr} {f g h:F}
theorem sO{n:Nat}(h:n<=LIM):n<=sizeLine:=Nat.le_trans h (by decide)
theorem rJ{i:Int}(h:sml i=true): -(2^64)<i/\i<2^64:=by
 unfold sml at h;rw[ar]at h;exact⟨of_decide_eq_true h.1,of_decide_eq_true h.2⟩
theorem m6{i:Int}(h:sml i=true):i.natAbs<2^64:=by
 obtain⟨h1,h2⟩:=rJ h
 lia
theorem sub_int_bool{prog:Program}{w:World}{A:Around}{Ex:cb}{s:Shared}{i:Int}{t:Tok}{k:Bool}{Q:cb}(h:Q (.int (i-SK.b2i k) s.toks) {s with toks:=s.toks+1}):
  wpAny (model prog w) A (binaryOp .Sub (.int i t) (.bool k)) Q Ex s:=PySem.IntBool.sub_int_bool h
theorem add_int_bool{prog:Program}{w:World}{A:Around}{Ex:cb}{s:Shared}{i:Int}{t:Tok}{k:Bool}{Q:cb}(h:Q (.int (i+SK.b2i k) s.toks) {s with toks:=s.toks+1}):
  wpAny (model prog w) A (binaryOp .Add (.int i t) (.bool k)) Q Ex s:=PySem.add_int_bool h
theorem aD0{prog:Program}{w:World}{A:Around}{Ex:cb}{s:Shared}{t b:Addr}{ws:List Value}{Q:cb}(ht:IsTup s.heap t #[])(hb:IsTup s.heap b ws.toArray)(h:Q (.ref b) s):
  wpAny (model prog w) A (binaryOp .Add (.ref t) (.ref b)) Q Ex s:=by
 obtain⟨⟨cls,dd,data,sl⟩,ho,hc,n,hd⟩:=id ht;obtain⟨⟨cls2,dd2,data2,sl2⟩,ho2,hc2,n2,hd2⟩:=id hb
 simp only at hc hd hc2 hd2
 subst hc hd hc2 hd2
 exact concat_meets ⟨_,ho,rfl⟩ ⟨_,ho2,rfl⟩ noFill_tuple_add seq_tuple_add PySem.F.slot_tuple_add PySem.F.entry_tuple_add (PySem.F.args_tuple_add_2 _ _)
   (tuple_addW0 t b #[] ws.toArray n n2 dd dd2 sl sl2 rfl) ⟨ho,ho2,h⟩
theorem iV(its:List Value)(m:Nat):List.foldl (λx1 x2=>x1++x2) #[] (ak m its.toArray)=(ak m its).flatten.toArray:=by
 have:=oQ its m []
 rw[List.nil_append]at this;exact this
theorem aD1{t:Addr}{k:Int}{u:Tok}{xs:List V}{its:List Value}(I:Inv X bx σ H s)(ht:IsTup s.heap t its.toArray)(r:bZ xs its)(h0: -1000000<k)(h1:k<1000000)(hz:xs.length*k.toNat<=sizeLine)
  (q: ∀p,(p=t/\(ak k.toNat xs).flatten=xs->Q (.ref p) H)/\(H p=none->Q (.ref p) (upd H p (.tup (ak k.toNat xs).flatten)))):
  wpAny (model X.prog X.w) X.A (binaryOp .Mult (.ref t) (.int k u)) (EP X bx σ Q) X.xe s:=by
 obtain⟨⟨cls,dd,data,sl⟩,e,hc,n,hd⟩:=id ht
 simp only at hc hd
 subst hc hd
 have hov:(decide (k< -(2^63))||decide (k≥2^63))=false:=by
  rw[Bool.or_eq_false_iff];exact⟨decide_eq_false (by lia),decide_eq_false (by lia)⟩
 have hlen:its.length*k.toNat<=sizeLine:=by rw[<-r.length];exact hz
 have lrep:(ak k.toNat xs).flatten.length<=sizeLine:=by rw[qV,Nat.mul_comm];exact hz
 refine wpAny_binaryOp_repeat_ref (T:="tuple") (U:="int") (by decide) ⟨_,e,rfl⟩ (λs'=>typeIs_int s' k u) jO F.fills_int_mul F.slot_int_rmul oU F.slot_int_index.lookup
  (call_meets F.slot_int_rmul (typeIs_int s k u) F.entry_int_rmul (F.args_int_rmul_2 _ _) (gQ k u t its.toArray n "tuple" dd sl (.inr rfl))
   ⟨e,rfl,⟨_,e,rfl⟩,?_⟩)
 by_cases c0:(its.toArray.isEmpty||k==1)=true
 ·refine call_meets F.slot_tuple_mul ⟨_,e,rfl⟩ F.entry_tuple_mul (F.args_tuple_mul_2 _ _) (qW t its.toArray n k u dd sl hov c0) ⟨e,?_⟩;refine⟨.ref t,H,I,rfl,(q t).1 ⟨rfl,?_⟩⟩;rcases(Bool.or_eq_true _ _).mp c0 with z|z
  ·have:its=[]:=by simpa using z
   have:xs=[]:=r.nil_iff.mp this
   subst this;simp
  ·have:k=1:=by simpa using z
   subst this;simp
 ·by_cases c1:(decide (k<=0)||its.toArray.isEmpty)=true
  ·refine call_meets F.slot_tuple_mul ⟨_,e,rfl⟩ F.entry_tuple_mul (F.args_tuple_mul_2 _ _) (qX t its.toArray n k u dd sl hov c0 c1) ⟨e,?_⟩
   have k0:k.toNat=0:=by
    rcases(Bool.or_eq_true _ _).mp c1 with z|z
    ·have:=of_decide_eq_true z
     lia
    ·exact absurd (by rw[z];rfl) c0
   have q2:=(q s.heap.objs.size).2 (I.hok.fresh (aj _));rw[k0]at q2;refine⟨.ref s.heap.objs.size,_,I.laid (t':=s.toks) (o:=.tup []) (λb ob q=>af _ q) (aj _) ?_,rfl,q2⟩
   exact⟨bq _,[],.nil,IsTup.new _ _,⟨_,ag _ rfl,rfl⟩⟩
  ·have kp:0<k:=by
    rw[Bool.or_eq_true,not_or]at c1
    have:=c1.1
    rw[decide_eq_true_iff]at this
    lia
   have kk:(k.toNat:Int)=k:=by lia
   have hm:(its.toArray.size:Int)*k=((its.length*k.toNat:Nat):Int):=by rw[Int.natCast_mul,kk,au]
   have hs:(sizeLine:Nat)<=(2^63-1)/8:=by decide
   refine call_meets F.slot_tuple_mul ⟨_,e,rfl⟩ F.entry_tuple_mul (F.args_tuple_mul_2 _ _) (qY t its.toArray n k u dd sl hov c0 c1 ?_ ?_ ?_) ⟨e,?_⟩
   ·rw[hm]
    have:((its.length*k.toNat:Nat):Int)<=((2^63-1)/8:Int):=by
     have:=Nat.le_trans hlen hs
     lia
    lia
   ·rw[hm];unfold Builtin.Tuple.tupleTooMany;simp only[decide_eq_true_eq,gt_iff_lt,Int.not_lt];exact Int.ofNat_le.mpr hlen
   ·rw[iV,au,qV,Nat.mul_comm];exact hlen
   ·rw[iV];refine⟨.ref s.heap.objs.size,_,I.laid (t':=s.toks) (o:=.tup (ak k.toNat xs).flatten) (λb ob q=>af _ q) (aj _) ?_,rfl,(q _).2 (I.hok.fresh (aj _))⟩
    exact⟨lrep,_,r.rep k.toNat,IsTup.new _ _,⟨_,ag _ rfl,rfl⟩⟩
theorem aD2{l b:Addr}{xs ys:List V}(I:Inv X bx σ H s)(hl:SqL X.K H l xs)(hb:SqL X.K H b ys)(hz:xs.length+ys.length<=sizeLine)(q: ∀p,H p=none->Q (.ref p) (upd H p (.lst (xs++ys)))):
  wpAny (model X.prog X.w) X.A (binaryOp .Add (.ref l) (.ref b)) (EP X bx σ Q) X.xe s:=by
 obtain⟨its,r1,⟨⟨cls,dd,data,sl⟩,n,ho,hc,hdd,hd⟩,_⟩:=I.list hl;obtain⟨its2,r2,⟨⟨cls2,dd2,data2,sl2⟩,n2,ho2,hc2,hdd2,hd2⟩,_⟩:=I.list hb
 simp only at hc hd hc2 hd2 hdd hdd2
 subst hc hd hc2 hd2
 have e:its.toArray++its2.toArray=(its++its2).toArray:=by simp
 refine concat_meets ⟨_,ho,rfl⟩ ⟨_,ho2,rfl⟩ noFill_list_add seq_list_add PySem.F.slot_list_add PySem.F.entry_list_add (PySem.F.args_list_add_2 _ _)
   (list_addW l b its.toArray its2.toArray n n2 dd dd2 sl sl2 (by rw[au,au, <-r1.length, <-r2.length];exact hz)) ⟨ho,ho2,?_⟩
 rw[e];exact⟨.ref _,_,I.lnew (t':=s.toks) (r1.append r2) (by rw[bj];exact hz),rfl,q _ I.fresh⟩
theorem aD3{l:Addr}{k:Int}{u:Tok}{xs:List V}(I:Inv X bx σ H s)(hl:SqL X.K H l xs)(h0: -1000000<k)(h1:k<1000000)(hz:xs.length*k.toNat<=sizeLine)(q: ∀p,H p=none->Q (.ref p) (upd H p (.lst (ak k.toNat xs).flatten))):
  wpAny (model X.prog X.w) X.A (binaryOp .Mult (.ref l) (.int k u)) (EP X bx σ Q) X.xe s:=by
 obtain⟨its,r,⟨⟨cls,dd,data,sl⟩,n,e,hc,hdd,hd⟩,_⟩:=I.list hl
 simp only at hc hd hdd
 subst hc hd
 have hlen:its.toArray.size*k.toNat<=sizeLine:=by rw[au, <-r.length];exact hz
 have hcap: ¬its.toArray.size*k.toNat > (2^63-1)/8:=by
  have:(sizeLine:Nat)<=(2^63-1)/8:=by decide
  lia
 have hfit: ¬(!Builtin.List.listFitsIndex k)=true:=by
  rw[fitsIndex_both (by lia) (by lia)]
  exact ba
 have hlong: ¬Builtin.List.listTooLong (its.toArray.size*k.toNat)=true:=by
  rw[sL hlen];exact ba
 have hnew:List.foldl (λx1 x2=>x1++x2) #[] (ak (if its.toArray.isEmpty=true then 0 else k.toNat) its.toArray)=(ak k.toNat its).flatten.toArray:=by
  rw[iV]
  cases its with
  |nil=>simp
  |cons a r'=>rw[if_neg (by simp)]
 refine wpAny_binaryOp_repeat_ref (T:="list") (U:="int") (by decide) ⟨_,e,rfl⟩ (λs'=>typeIs_int s' k u) noFill_list_mul F.fills_int_mul F.slot_int_rmul repeat_list F.slot_int_index.lookup
  (call_meets F.slot_int_rmul (typeIs_int s k u) F.entry_int_rmul (F.args_int_rmul_2 _ _) (gQ k u l its.toArray n "list" dd sl (.inl rfl))
   ⟨e,rfl,⟨_,e,rfl⟩,call_meets F.slot_list_mul ⟨_,e,rfl⟩ F.entry_list_mul (F.args_list_mul_2 _ _) (vZ l its.toArray n k u dd sl hfit hcap hlong) ⟨e,?_⟩⟩)
 rw[hnew];exact⟨.ref _,_,I.lnew (t':=s.toks) (r.rep k.toNat) (by rw[qV,Nat.mul_comm];exact hz),rfl,q _ I.fresh⟩
theorem aD4(op:Operator):DOp X ad (binaryOp op) (jI op):=by
 intro bx s σ H G x y v w u z Q E I hG rx ry ru rz hr
 cases x with
 |int i=>
  unfold Rep at rx;subst rx
  cases y with
  |int j=>
   unfold Rep at ry;subst ry
   cases op with
   |Add=>exact aHi bx s σ H _ _ u z Q I ru rz ⟨i,j,rfl,rfl,hr.ok_now hG a8⟩
   |Sub=>exact aHj bx s σ H _ _ u z Q I ru rz ⟨i,j,rfl,rfl,hr.ok_now hG a8⟩
   |Mult=>
    have hr':RK X.K ad G H (if sml i||sml j then R.ok (.int (i*j))else .bad) Q E:=hr
    by_cases hc:(sml i||sml j)=true
    ·rw[if_pos hc]at hr';refine aHk bx s σ H _ _ u z Q I ru rz ⟨i,j,rfl,rfl,?_,hr'.ok_now hG a8⟩;rcases(Bool.or_eq_true _ _).mp hc with h|h
     ·exact .inl (rJ h)
     ·exact .inr (rJ h)
    ·rw[if_neg hc]at hr';exact hr'.elim
   |FloorDiv=>
    have hr':RK X.K ad G H (if 0<j/\j<1073741824 then R.ok (.int (i/j))else .bad) Q E:=hr
    by_cases hc:0<j/\j<1073741824
    ·rw[if_pos hc]at hr';exact aDi bx s σ H _ _ u z Q I ru rz ⟨i,j,rfl,rfl,hc,hr'.ok_now hG a8⟩
    ·rw[if_neg hc]at hr';exact hr'.elim
   |Mod=>
    have hr':RK X.K ad G H (if 0<j then R.ok (.int (i % j))else .bad) Q E:=hr
    by_cases hc:0<j
    ·rw[if_pos hc]at hr';exact aHl bx s σ H _ _ u z Q I ru rz ⟨i,j,rfl,rfl,hc,hr'.ok_now hG a8⟩
    ·rw[if_neg hc]at hr';exact hr'.elim
   |LShift=>
    have hr':RK X.K ad G H (if 0<=j/\j<=1000/\sml i=true then R.ok (.int (i*2^j.toNat))else .bad) Q E:=hr
    by_cases hc:0<=j/\j<=1000/\sml i=true
    ·rw[if_pos hc]at hr';exact aHm bx s σ H _ _ u z Q I ru rz ⟨i,j,rfl,rfl,⟨hc.1,by lia,m6 hc.2.2⟩,hr'.ok_now hG a8⟩
    ·rw[if_neg hc]at hr';exact hr'.elim
   |RShift=>
    have hr':RK X.K ad G H (if 0<=j then R.ok (.int (i/2^j.toNat))else .bad) Q E:=hr
    by_cases hc:0<=j
    ·rw[if_pos hc]at hr';exact aHn bx s σ H _ _ u z Q I ru rz ⟨i,j,rfl,rfl,hc,hr'.ok_now hG a8⟩
    ·rw[if_neg hc]at hr';exact hr'.elim
   |BitAnd=>exact aHo bx s σ H _ _ u z Q I ru rz ⟨i,j,rfl,rfl,hr.ok_now hG a8⟩
   |BitOr=>exact aK7 bx s σ H _ _ u z Q I ru rz ⟨i,j,rfl,rfl,hr.ok_now hG a8⟩
   |BitXor=>exact aHp bx s σ H _ _ u z Q I ru rz ⟨i,j,rfl,rfl,hr.ok_now hG a8⟩
   |MatMult=>exact ax hr
   |Div=>exact ax hr
   |Pow=>
    have hr':RK X.K ad G H (if i=10/\j=9 then R.ok (.int 1000000000)else .bad) Q E:=hr
    by_cases hc:i=10/\j=9
    ·rw[if_pos hc]at hr';obtain⟨rfl,rfl⟩:=hc;obtain⟨t,rfl⟩:=ru;obtain⟨t',rfl⟩:=rz;exact PySem.AutoIntOps.pow_4 (by decide) (by decide) (by decide) (by decide) (by decide+kernel) (show EP X bx σ Q (.int 1000000000 _) _ from⟨.int _,H,I.tok _,⟨_,rfl⟩,hr'.ok_now hG a8⟩)
    ·rw[if_neg hc]at hr';exact hr'.elim
  |bl k=>
   unfold Rep at ry;subst ry;obtain⟨t,rfl⟩:=ru
   cases (show z=Value.bool k from rz)
   cases op with
   |Sub=>exact sub_int_bool ⟨.int _,H,I.tok _,⟨_,rfl⟩,hr.ok_now hG a8⟩
   |Add=>exact add_int_bool ⟨.int _,H,I.tok _,⟨_,rfl⟩,hr.ok_now hG a8⟩
   |_=>exact ax hr
  |_=>cases op<;>exact ax hr
 |tup xs=>
  unfold Rep at rx;obtain⟨p,vs,rfl,hp,rp⟩:=rx
  cases y with
  |tup ys=>
   unfold Rep at ry;obtain⟨q,ws,rfl,hq,rq⟩:=ry
   cases op with
   |Add=>
    have hr':RK X.K ad G H (if xs.length+ys.length<=LIM then R.ok (.tup (xs++ys))else .bad) Q E:=hr
    by_cases hc:xs.length+ys.length<=LIM
    ·rw[if_pos hc]at hr';have l1:=rp.length;have l2:=rq.length
     by_cases hv:vs=[]
     ·subst hv
      cases (show u=Value.ref p from ru)
      cases (show z=Value.ref q from rz)
      obtain⟨its,r1,p1,_⟩:=I.tuple (hG.seqT hp);obtain⟨its2,r2,p2,_⟩:=I.tuple (hG.seqT hq);cases r1;refine aD0 p1 p2 ⟨.ref q,H,I,rfl,hr'.ok_now hG ?_⟩
      have:xs=[]:=by simpa using l1.symm
      subst this;unfold Rep;exact⟨q,ws,rfl,hq,rq⟩
     ·refine aDk bx s σ H _ _ u z Q I ru rz ⟨p,q,vs,ws,rfl,rfl,hG.seqT hp,hG.seqT hq,hv,by rw[l1,l2];exact sO hc,λhw=>?_,λhw a ha=>?_⟩
      ·subst hw
       have:ys=[]:=by simpa using l2.symm
       subst this;refine hr'.ok_now hG ?_;unfold Rep;exact⟨p,vs,rfl,hp,by rw[List.append_nil];exact rp⟩
      ·exact hr'.tup_new hG (rp.append rq) ha
    ·rw[if_neg hc]at hr';exact hr'.elim
   |_=>exact ax hr
  |int k=>
   unfold Rep at ry;subst ry
   cases op with
   |Mult=>
    have hr':RK X.K ad G H (if -1000000<k/\k<1000000/\xs.length*k.toNat<=LIM then R.ok (.tup (aKm xs k))else .bad) Q E:=hr
    by_cases hc: -1000000<k/\k<1000000/\xs.length*k.toNat<=LIM
    ·rw[if_pos hc]at hr'
     cases (show u=Value.ref p from ru)
     obtain⟨t,rfl⟩:=rz;obtain⟨its,r1,p1,_⟩:=I.tuple (hG.seqT hp);refine aD1 I p1 r1 hc.1 hc.2.1 (by rw[rp.length];exact sO hc.2.2) λa=>⟨λ⟨e1,e2⟩=>?_,λha=>?_⟩
     ·subst e1;refine hr'.ok_now hG ?_;unfold Rep;exact⟨a,vs,rfl,hp,by rw[<-e2];exact rp.rep k.toNat⟩
     ·exact hr'.tup_new hG (rp.rep k.toNat) ha
    ·rw[if_neg hc]at hr';exact hr'.elim
   |_=>exact ax hr
  |_=>cases op<;>exact ax hr
 |lst xs=>
  unfold Rep at rx;obtain⟨p,vs,rfl,hp,rp⟩:=rx
  cases y with
  |lst ys=>
   unfold Rep at ry;obtain⟨q,ws,rfl,hq,rq⟩:=ry
   cases op with
   |Add=>
    have hr':RK X.K ad G H (if xs.length+ys.length<=LIM then R.ow (xs++ys)else .bad) Q E:=hr
    by_cases hc:xs.length+ys.length<=LIM
    ·rw[if_pos hc]at hr'
     cases (show u=Value.ref p from ru)
     cases (show z=Value.ref q from rz)
     exact aD2 I (hG.seq hp) (hG.seq hq) (by rw[rp.length,rq.length];exact sO hc) λa ha=>hr'.ow_new hG (rp.append rq) ha
    ·rw[if_neg hc]at hr';exact hr'.elim
   |_=>exact ax hr
  |int k=>
   unfold Rep at ry;subst ry
   cases op with
   |Mult=>
    have hr':RK X.K ad G H (if -1000000<k/\k<1000000/\xs.length*k.toNat<=LIM then R.ow (aKm xs k)else .bad) Q E:=hr
    by_cases hc: -1000000<k/\k<1000000/\xs.length*k.toNat<=LIM
    ·rw[if_pos hc]at hr'
     cases (show u=Value.ref p from ru)
     obtain⟨t,rfl⟩:=rz;exact aD3 I (hG.seq hp) hc.1 hc.2.1 (by rw[rp.length];exact sO hc.2.2) λa ha=>hr'.ow_new hG (rp.rep k.toNat) ha
    ·rw[if_neg hc]at hr';exact hr'.elim
   |_=>exact ax hr
  |_=>cases op<;>exact ax hr
 |str x=>
  unfold Rep at rx;subst rx
  cases y with
  |str y=>
   unfold Rep at ry;subst ry
   cases op with
   |Add=>
    have hr':RK X.K ad G H (if x.length<=LIM/\y.length<=LIM then R.ok (.str (x++y))else .bad) Q E:=hr
    by_cases hc:x.length<=LIM/\y.length<=LIM
    ·rw[if_pos hc]at hr';exact uO bx s σ H _ _ u z Q I ru rz ⟨x,y,rfl,rfl,Nat.le_trans (Nat.add_le_add hc.1 hc.2) (by decide),hr'.ok_now hG kO⟩
    ·rw[if_neg hc]at hr';exact hr'.elim
   |_=>exact ax hr
  |int k=>
   unfold Rep at ry;subst ry
   cases op with
   |Mult=>
    have hr':RK X.K ad G H (if x.length<=16/\0<=k/\k<=1000 then R.ok (.str (Txt.mul x k))else .bad) Q E:=hr
    by_cases hc:x.length<=16/\0<=k/\k<=1000
    ·rw[if_pos hc]at hr';obtain⟨t,rfl⟩:=(show ∃t,u=Value.str x t from ru)
     obtain⟨t',rfl⟩:=(show ∃t,z=Value.int k t from rz)
     exact PySem.W.KXi.mul (n:=x.length) rfl hc.1 (by lia) (by lia) λt' k' _ _=>⟨.str _,H,I.tok k',⟨t',rfl⟩,hr'.ok_now hG kO⟩
    ·rw[if_neg hc]at hr';exact hr'.elim
   |_=>exact ax hr
  |_=>cases op<;>exact ax hr
 |_=>cases y<;>cases op<;>exact ax hr
theorem aIa{op:Operator}(ha:ME X ad a f)(hb:ME X ad b g):ME X ad (.BinOp a op b pos) (aI op f g):=by
 refine λbx s σ H Q I h9=>h9.el λG ρ E hG hS hx hr=>?_
 exact wpAny_BinOp (wC (aD4 op) ha hb I hG hS hx hr)
end
section
variable {X:Cx} {ad:Ad} {bx:cc} {s:Shared} {σ:St} {H G:Hp} {ρ:Rho} {Q:VK} {E:Nat->Hp->Prop} {pos:Pos} {a b c:Expr} {f g h:F}
mutual
theorem eB(I:Inv X bx σ H s)(hG:Same G H): ∀{d:D} {v:V} {u:Value},plain d=true->Rep X.K ad G d v->cD v u->∃as,Reads s.heap u (bU d) as
 |.non,v,u,_,h,r=>by
  unfold Rep at h;subst h;cases r;unfold bU;exact⟨_,.none⟩
 |.bl b,v,u,_,h,r=>by
  unfold Rep at h;subst h;cases r;unfold bU;exact⟨_,.bool b⟩
 |.int i,v,u,_,h,r=>by
  unfold Rep at h;subst h;obtain⟨t,rfl⟩:=r;unfold bU;exact⟨_,.int i t⟩
 |.str x,v,u,_,h,r=>by
  unfold Rep at h;subst h;obtain⟨t,rfl⟩:=r;unfold bU;exact⟨_,.str x t⟩
 |.tup ds,v,u,p,h,r=>by
  unfold Rep at h;obtain⟨a,vs,rfl,h2,h3⟩:=h;cases r;obtain⟨its,rv,⟨o,ho,hc,n,hd⟩,_⟩:=I.tuple (hG.seqT h2);obtain⟨as,ra⟩:=eY I hG (by simpa[plain]using p) h3 rv
  unfold bU;exact⟨_,.tuple ho hc hd (by simpa using ra)⟩
 |.lst ds,v,u,p,h,r=>by
  unfold Rep at h;obtain⟨a,vs,rfl,h2,h3⟩:=h;cases r;obtain⟨its,rv,⟨o,n,ho,hc,_,hd⟩,_⟩:=I.list (hG.seq h2);obtain⟨as,ra⟩:=eY I hG (by simpa[plain]using p) h3 rv
  unfold bU;exact⟨_,.list ho hc hd (by simpa using ra)⟩
 |.exc _,_,_,p,_,_=>by simp[plain]at p
 |.fn _,_,_,p,_,_=>by simp[plain]at p
theorem eY(I:Inv X bx σ H s)(hG:Same G H): ∀{ds:List D} {vs:List V} {us:List Value},aK ds=true->aH X.K ad G ds vs->bZ vs us->∃as,ReadsAll s.heap us (aZ ds) as
 |[],vs,us,_,h,r=>by
  unfold aH at h;subst h;cases r;unfold aZ;exact⟨_,.nil⟩
 |d::ds,vs,us,p,h,r=>by
  unfold aH at h;obtain⟨v,r',rfl,h2,h3⟩:=h
  have p':plain d=true/\aK ds=true:=by simpa[aK]using p
  cases r with
  |cons r1 r2=>
   obtain⟨as,q1⟩:=eB I hG p'.1 h2 r1;obtain⟨bs,q2⟩:=eY I hG p'.2 h3 r2;unfold aZ;exact⟨_,.cons q1 q2⟩
end
theorem jS{x y:D}(h:rB x y=true):plain x=true/\plain y=true/\min (dep x) (dep y)<=60:=by
 unfold rB at h;rw[ar,ar]at h;exact⟨h.1.1,h.1.2,of_decide_eq_true h.2⟩
theorem aD5{A:Around}{x y:D}{v w:V}{u z:Value}(hu:A.units+61<cLine)(I:Inv X bx σ H s)(hG:Same G H)(h:rB x y=true)(rx:Rep X.K ad G x v)(ry:Rep X.K ad G y w)(ru:cD v u)(rz:cD w z):
  SeqAt.EqAt A s u z (deq x y):=by
 obtain⟨p1,p2,p3⟩:=jS h;obtain⟨as,q1⟩:=eB I hG p1 rx ru;obtain⟨bs,q2⟩:=eB I hG p2 ry rz;rw[<-eG x y p1 p2];exact SeqAt.eqAt_reads (bU x) (bU y) A s u z as bs q1 q2 (fM p1) (fM p2) (by rw[fN,fN];lia)
theorem rL{M:Model}{A:Around}{Ex:cb}{s:Shared}{Q:cb}{v:V}{u:Value}{b:Bool}(r:cD v u)(h:Q (.bool (decide (v= .bl b))) s):wpAny M A (compareOp .Is u (.bool b)) Q Ex s:=by
 cases v with
 |bl a=>
  cases (show u=Value.bool a from r)
  refine ae (show Q (.bool (Value.bool a==Value.bool b)) s from ?_)
  have e:(Value.bool a==Value.bool b)=decide (V.bl a=V.bl b):=by cases a<;>cases b<;>rfl
  rw[e];exact h
 |non=>cases (show u=Value.none from r);exact ae h
 |int i=>obtain⟨t,rfl⟩:=r;exact ae h
 |str i=>obtain⟨t,rfl⟩:=r;exact ae h
 |byt i=>obtain⟨t,rfl⟩:=r;exact ae h
 |flt i=>obtain⟨t,rfl⟩:=r;exact ae h
 |ref p=>cases (show u=Value.ref p from r);exact ae h
 |ty p=>cases (show u=Value.type p from r);exact ae h
theorem lN{M:Model}{A:Around}{Ex:cb}{s:Shared}{Q:cb}{v:V}{u:Value}{b:Bool}(r:cD v u)(h:Q (.bool (!decide (v= .bl b))) s):wpAny M A (compareOp .IsNot u (.bool b)) Q Ex s:=by
 cases v with
 |bl a=>
  cases (show u=Value.bool a from r)
  refine ae (show Q (.bool (!(Value.bool a==Value.bool b))) s from ?_)
  have e:(Value.bool a==Value.bool b)=decide (V.bl a=V.bl b):=by cases a<;>cases b<;>rfl
  rw[e];exact h
 |non=>cases (show u=Value.none from r);exact ae h
 |int i=>obtain⟨t,rfl⟩:=r;exact ae h
 |str i=>obtain⟨t,rfl⟩:=r;exact ae h
 |byt i=>obtain⟨t,rfl⟩:=r;exact ae h
 |flt i=>obtain⟨t,rfl⟩:=r;exact ae h
 |ref p=>cases (show u=Value.ref p from r);exact ae h
 |ty p=>cases (show u=Value.type p from r);exact ae h
theorem oZ{x:D}{v:V}{b:Bool}(r:Rep X.K ad G x v):decide (v= .bl b)=aLg b x:=by
 cases x with
 |bl a=>unfold Rep at r;subst r;cases a<;>cases b<;>rfl
 |non=>unfold Rep at r;subst r;rfl
 |int _=>unfold Rep at r;subst r;rfl
 |str _=>unfold Rep at r;subst r;rfl
 |tup _=>unfold Rep at r;obtain⟨p,_,rfl,_⟩:=r;rfl
 |lst _=>unfold Rep at r;obtain⟨p,_,rfl,_⟩:=r;rfl
 |exc _=>unfold Rep at r;obtain⟨p,rfl,_⟩:=r;rfl
 |fn _=>unfold Rep at r;subst r;rfl
theorem lV{x:D}{v:V}(r:Rep X.K ad G x v):decide (v= .non)=aDp x:=by
 cases x with
 |bl a=>unfold Rep at r;subst r;rfl
 |non=>unfold Rep at r;subst r;rfl
 |int _=>unfold Rep at r;subst r;rfl
 |str _=>unfold Rep at r;subst r;rfl
 |tup _=>unfold Rep at r;obtain⟨p,_,rfl,_⟩:=r;rfl
 |lst _=>unfold Rep at r;obtain⟨p,_,rfl,_⟩:=r;rfl
 |exc _=>unfold Rep at r;obtain⟨p,rfl,_⟩:=r;rfl
 |fn _=>unfold Rep at r;subst r;rfl
theorem kP{y:D}{ys:List D}{w:V}(e:items y=some ys)(r:Rep X.K ad G y w): ∃a vs,w= .ref a/\(SqT X.K G a vs\/SqL X.K G a vs)/\aH X.K ad G ys vs:=by
 cases y with
 |tup _=>cases e;unfold Rep at r;obtain⟨a,vs,h1,h2,h3⟩:=r;exact⟨a,vs,h1,.inl h2,h3⟩
 |lst _=>cases e;unfold Rep at r;obtain⟨a,vs,h1,h2,h3⟩:=r;exact⟨a,vs,h1,.inr h2,h3⟩
 |_=>cases e
theorem sP: ∀{ys:List D} {vs:List V} {us:List Value},aH X.K ad G ys vs->bZ vs us->∀u∈us, ∃d∈ys, ∃v,Rep X.K ad G d v/\cD v u
 |[],vs,us,h,r,u,hu=>by
  unfold aH at h;subst h;cases r;cases hu
 |d::ds,vs,us,h,r,u,hu=>by
  unfold aH at h;obtain⟨v,r',rfl,h2,h3⟩:=h
  cases r with
  |cons r1 r2=>
   rcases aq.mp hu with rfl|hu
   ·exact⟨d,.head _,v,h2,r1⟩
   ·obtain⟨d',hd,v',q⟩:=sP h3 r2 u hu;exact⟨d',.tail _ hd,v',q⟩
theorem sQ(p:D->Bool)(q:Value->Bool): ∀{ys:List D} {vs:List V} {us:List Value},aH X.K ad G ys vs->bZ vs us->(∀d∈ys, ∀v u,Rep X.K ad G d v->cD v u->q u=p d)->us.any q=ys.any p
 |[],vs,us,h,r,_=>by
  unfold aH at h;subst h;cases r;rfl
 |d::ds,vs,us,h,r,k=>by
  unfold aH at h;obtain⟨v,r',rfl,h2,h3⟩:=h
  cases r with
  |cons r1 r2=>
   rw[List.any_cons,List.any_cons,k d (.head _) v _ h2 r1,sQ p q h3 r2 λd' hd=>k d' (.tail _ hd)]
theorem lW(p:D->Bool)(q:Value->Bool): ∀{ys:List D} {vs:List V} {us:List Value},aH X.K ad G ys vs->bZ vs us->(∀d∈ys, ∀v u,Rep X.K ad G d v->cD v u->q u=p d)->us.countP q=ys.countP p
 |[],vs,us,h,r,_=>by
  unfold aH at h;subst h;cases r;rfl
 |d::ds,vs,us,h,r,k=>by
  unfold aH at h;obtain⟨v,r',rfl,h2,h3⟩:=h
  cases r with
  |cons r1 r2=>
   rw[List.countP_cons,List.countP_cons,k d (.head _) v _ h2 r1,lW p q h3 r2 λd' hd=>k d' (.tail _ hd)]
theorem o0(p:D->Bool)(q:Value->Bool): ∀{ys:List D} {vs:List V} {us:List Value},aH X.K ad G ys vs->bZ vs us->(∀d∈ys, ∀v u,Rep X.K ad G d v->cD v u->q u=p d)->us.findIdx? q=ys.findIdx? p
 |[],vs,us,h,r,_=>by
  unfold aH at h;subst h;cases r;rfl
 |d::ds,vs,us,h,r,k=>by
  unfold aH at h;obtain⟨v,r',rfl,h2,h3⟩:=h
  cases r with
  |cons r1 r2=>
   rw[List.findIdx?_cons,List.findIdx?_cons,k d (.head _) v _ h2 r1,o0 p q h3 r2 λd' hd=>k d' (.tail _ hd)]
open Classical in
theorem lX{x:D}{ys:List D}{v:V}{u:Value}{vs:List V}{its:List Value}(hu:X.A.units+62<cLine)(I:Inv X bx σ H s)(hG:Same G H)(h:lU x ys=true)(rx:Rep X.K ad G x v)(ru:cD v u)(r:aH X.K ad G ys vs)(rv:bZ vs its):
  ∃e:Value->Bool,(∀y,y∈its.toArray->SeqAt.EqAt X.A.in1 s y u (e y))/\its.toArray.any e=(ys.any λy=>deq y x)/\its.countP e=(ys.countP λy=>deq y x)/\its.findIdx? e=ys.findIdx? λy=>deq y x:=by
 have ok: ∀d∈ys,rB d x=true:=λd hd=>zAd h d hd
 have key: ∀d∈ys, ∀v' u',Rep X.K ad G d v'->cD v' u'->(decide (∃d' as,plain d'=true/\Reads s.heap u' (bU d') as/\PyData.eqv (bU d') (bU x)=true))=deq d x:=λd hd v' u' r1 r2=>by
  obtain⟨p1,p2,_⟩:=jS (ok d hd);obtain⟨as,q1⟩:=eB I hG p1 r1 r2;rw[<-eG d x p1 p2]
  by_cases z:PyData.eqv (bU d) (bU x)=true
  ·rw[z];exact decide_eq_true ⟨d,as,p1,q1,z⟩
  ·rw[Bool.not_eq_true]at z;rw[z];refine decide_eq_false ?_;rintro⟨d',as',p',q',z'⟩
   have:=SeqAt.Reads.unique (bU d) (bU d') u' as as' (fM p1) q1 q'
   rw[<-this,z]at z';cases z'
 refine⟨λu'=>decide (∃d' as,plain d'=true/\Reads s.heap u' (bU d') as/\PyData.eqv (bU d') (bU x)=true),λy hy=>?_,?_,lW _ _ r rv key,o0 _ _ r rv key⟩
 ·obtain⟨d,hd,v',r1,r2⟩:=sP r rv y (by simpa using hy)
  have:=aD5 (A:=X.A.in1) (by show X.A.units+1+61<_;lia) I hG (ok d hd) r1 rx r2 ru
  rw[<-key d hd v' y r1 r2]at this;exact this
 ·rw[List.any_toArray];exact sQ _ _ r rv key
theorem kQ(op:CmpOp)(hu:X.A.units+62<cLine):DOp X ad (compareOp op) (gC op):=by
 intro bx s σ H G x y v w u z Q E I hG rx ry ru rz hr
 cases op with
 |Eq=>
  have hr':RK X.K ad G H (if rB x y then R.ok (.bl (deq x y))else .bad) Q E:=hr
  by_cases hc:rB x y=true
  ·rw[if_pos hc]at hr';obtain⟨p1,p2,p3⟩:=jS hc;obtain⟨as,q1⟩:=eB I hG p1 rx ru;obtain⟨bs,q2⟩:=eB I hG p2 ry rz;exact SeqAt.compareEq_reads q1 q2 (fM p1) (fM p2) (by rw[fN,fN];lia) (by rw[eG x y p1 p2];exact⟨.bl _,H,I,rfl,hr'.ok_now hG bP⟩)
  ·rw[if_neg hc]at hr';exact hr'.elim
 |NotEq=>
  have hr':RK X.K ad G H (if rB x y then R.ok (.bl (!deq x y))else .bad) Q E:=hr
  by_cases hc:rB x y=true
  ·rw[if_pos hc]at hr';obtain⟨p1,p2,p3⟩:=jS hc;obtain⟨as,q1⟩:=eB I hG p1 rx ru;obtain⟨bs,q2⟩:=eB I hG p2 ry rz;exact SeqAt.neOverData X.prog X.w X.A X.xe s u z (bU x) (bU y) as bs _ q1 q2 (fM p1) (fM p2) (by rw[fN,fN];lia) (by rw[eG x y p1 p2];exact⟨.bl _,H,I,rfl,hr'.ok_now hG bP⟩)
  ·rw[if_neg hc]at hr';exact hr'.elim
 |Lt=>
  cases x<;>cases y<;>try exact ax hr
  unfold Rep at rx ry;subst rx;subst ry;exact aK8 bx s σ H _ _ u z Q I ru rz ⟨_,_,rfl,rfl,hr.ok_now hG bP⟩
 |LtE=>
  cases x<;>cases y<;>try exact ax hr
  ·unfold Rep at rx ry;subst rx;subst ry;exact aK9 bx s σ H _ _ u z Q I ru rz ⟨_,_,rfl,rfl,hr.ok_now hG bP⟩
  ·rename_i i j;unfold Rep at rx ry;subst rx;subst ry;obtain⟨t,rfl⟩:=(show ∃t,u=Value.str i t from ru)
   obtain⟨t',rfl⟩:=(show ∃t,z=Value.str j t from rz)
   exact PySem.P.le_str ⟨.bl _,H,I,rfl,hr.ok_now hG bP⟩
 |Gt=>
  cases x<;>cases y<;>try exact ax hr
  unfold Rep at rx ry;subst rx;subst ry;exact aLa bx s σ H _ _ u z Q I ru rz ⟨_,_,rfl,rfl,hr.ok_now hG bP⟩
 |GtE=>
  cases x<;>cases y<;>try exact ax hr
  unfold Rep at rx ry;subst rx;subst ry;exact aLb bx s σ H _ _ u z Q I ru rz ⟨_,_,rfl,rfl,hr.ok_now hG bP⟩
 |Is=>
  cases y<;>try exact ax hr
  ·unfold Rep at ry;subst ry;exact aHr bx s σ H _ _ u z Q I ru rz ⟨rfl,by rw[lV rx];exact hr.ok_now hG bP⟩
  ·unfold Rep at ry;subst ry;rename_i k
   cases (show z=Value.bool k from rz)
   exact rL ru ⟨.bl _,H,I,rfl,by rw[oZ rx];exact hr.ok_now hG bP⟩
 |IsNot=>
  cases y<;>try exact ax hr
  ·unfold Rep at ry;subst ry;exact aDj bx s σ H _ _ u z Q I ru rz ⟨rfl,by rw[lV rx];exact hr.ok_now hG bP⟩
  ·unfold Rep at ry;subst ry;rename_i k
   cases (show z=Value.bool k from rz)
   exact lN ru ⟨.bl _,H,I,rfl,by rw[oZ rx];exact hr.ok_now hG bP⟩
 |In=>
  have hr':RK X.K ad G H (match items y with|some ys=>if lU x ys then R.ok (.bl (ys.any λy=>deq y x))else .bad|none=>inS x y false) Q E:=hr
  cases e:items y with
  |none=>
   rw[e]at hr';have hr2:RK X.K ad G H (inS x y false) Q E:=hr'
   cases x<;>try exact ax hr2
   cases y<;>try exact ax hr2
   unfold Rep at rx ry;subst rx;subst ry;exact vQ bx s σ H _ _ u z Q I ru rz ⟨_,_,rfl,rfl,hr2.ok_now hG bP⟩
  |some ys=>
   rw[e]at hr'
   by_cases hc:lU x ys=true
   ·have hr2:RK X.K ad G H (if lU x ys then R.ok (.bl (ys.any λy=>deq y x))else .bad) Q E:=hr'
    rw[if_pos hc]at hr2;obtain⟨p,vs,rfl,hq,rq⟩:=kP e ry
    cases (show z=Value.ref p from rz)
    rcases hq with hq|hq
    ·obtain⟨its,rv,pt,_⟩:=I.tuple (hG.seqT hq);obtain⟨e1,e2,e3,_⟩:=lX hu I hG hc rx ru rq rv;exact SeqAt.in_tupleAt e1 (show s.heap.IsTuple p its.toArray from pt) e2 (by rw[e3];exact⟨.bl _,H,I,rfl,hr2.ok_now hG bP⟩)
    ·obtain⟨its,rv,pt,_⟩:=I.list (hG.seq hq);obtain⟨e1,e2,e3,_⟩:=lX hu I hG hc rx ru rq rv;exact SeqAt.in_listAt e1 pt.isList e2 (by rw[e3];exact⟨.bl _,H,I,rfl,hr2.ok_now hG bP⟩)
   ·have hr2:RK X.K ad G H (if lU x ys then R.ok (.bl (ys.any λy=>deq y x))else .bad) Q E:=hr'
    rw[if_neg hc]at hr2;exact hr2.elim
 |NotIn=>
  have hr':RK X.K ad G H (match items y with|some ys=>if lU x ys then R.ok (.bl (!ys.any λy=>deq y x))else .bad|none=>inS x y true) Q E:=hr
  cases e:items y with
  |none=>
   rw[e]at hr';have hr2:RK X.K ad G H (inS x y true) Q E:=hr'
   cases x<;>try exact ax hr2
   cases y<;>try exact ax hr2
   unfold Rep at rx ry;subst rx;subst ry;exact oF bx s σ H _ _ u z Q I ru rz ⟨_,_,rfl,rfl,hr2.ok_now hG bP⟩
  |some ys=>
   rw[e]at hr'
   have hr2:RK X.K ad G H (if lU x ys then R.ok (.bl (!ys.any λy=>deq y x))else .bad) Q E:=hr'
   by_cases hc:lU x ys=true
   ·rw[if_pos hc]at hr2;obtain⟨p,vs,rfl,hq,rq⟩:=kP e ry
    cases (show z=Value.ref p from rz)
    rcases hq with hq|hq
    ·obtain⟨its,rv,pt,_⟩:=I.tuple (hG.seqT hq);obtain⟨e1,e2,e3,_⟩:=lX hu I hG hc rx ru rq rv;exact SeqAt.notIn_tupleAt e1 (show s.heap.IsTuple p its.toArray from pt) e2 (by rw[e3];exact⟨.bl _,H,I,rfl,hr2.ok_now hG bP⟩)
    ·obtain⟨its,rv,pt,_⟩:=I.list (hG.seq hq);obtain⟨e1,e2,e3,_⟩:=lX hu I hG hc rx ru rq rv;exact SeqAt.notIn_listAt e1 pt.isList e2 (by rw[e3];exact⟨.bl _,H,I,rfl,hr2.ok_now hG bP⟩)
   ·rw[if_neg hc]at hr2;exact hr2.elim
end
theorem PE.imp{X:Cx}{e:Expr}{t t':TE}(h:PE X e t)(k: ∀σ H Q,t' σ H Q->t σ H Q):PE X e t':=λbx s σ H Q I w=>h bx s σ H Q I (k σ H Q w)
theorem PT.imp{X:Cx}{e:Expr}{t t':TT}(h:PT X e t)(k: ∀σ H Q,t' σ H Q->t σ H Q):PT X e t':=λbx s σ H Q I w=>h bx s σ H Q I (k σ H Q w)
theorem PW.imp{X:Cx}{e:Expr}{t t':TT}(h:PW X e t)(k: ∀σ H Q,t' σ H Q->t σ H Q):PW X e t':=λwh bx s σ H Q I w=>h wh bx s σ H Q I (k σ H Q w)
theorem PS.imp{X:Cx}{e:Stmt}{t t':TS}(h:PS X e t)(k: ∀D σ H,t' D σ H->t D σ H):PS X e t':=λbx s σ H D I w=>h bx s σ H D I (k D σ H w)
theorem PSs.imp{X:Cx}{e:List Stmt}{t t':TS}(h:PSs X e t)(k: ∀D σ H,t' D σ H->t D σ H):PSs X e t':=λbx s σ H D I w=>h bx s σ H D I (k D σ H w)
theorem PA.imp{X:Cx}{es:List Expr}{t t':TA}(h:PA X es t)(k: ∀σ H Q,t' σ H Q->t σ H Q):PA X es t':=λp bx s σ H Q I w=>h p bx s σ H Q I (k σ H Q w)
section
variable {X:Cx} {ad:Ad} {bx:cc} {s:Shared} {σ:St} {H G:Hp} {ρ:Rho} {Q:VK} {E:Nat->Hp->Prop} {pos:Pos} {a b c:Expr} {f g h:F}
theorem m7{k:D->R}{σ:St}{H:Hp}{Q Q':VK}(hG:Same G H)(hS:SL X.K ad G H ρ σ)(hx:XP X ad σ E)(hr:RK X.K ad G H ((f ρ).bind k) Q E)
  (q: ∀v d G1 H1,Step G H G1 H1->Rep X.K ad G1 d v->RK X.K ad G1 H1 (k d) Q E->Q' v H1):tE X ad f σ H Q':=by
 refine⟨G,ρ,E,hG,hS,hx,?_⟩
 cases e:f ρ with
 |ok d=>
  rw[e]at hr;exact λv G1 H1 st r=>q v d G1 H1 st r (RK.step hr st)
 |ow xs=>
  rw[e]at hr;intro p vs G1 H1 st n m e' r;obtain⟨G2,st2,r2⟩:=dQ (X:=X) (ad:=ad) st n m e' r;exact q _ _ G2 H1 st2 r2 (RK.step hr st2)
 |ex c=>
  rw[e]at hr;exact hr
 |bad=>
  rw[e]at hr;exact hr
theorem m8(hx:XP X ad σ E){G1 H1:Hp}(st:Step G H G1 H1)(hS:SL X.K ad G H ρ σ){Q:VK}(hr:RK X.K ad G1 H1 (f ρ) Q E):tE X ad f σ H1 Q:=⟨G1,ρ,E,st.gh,hS.step st,hx,hr⟩
theorem aIb(ha:ME X ad a f):ME X ad (.UnaryOp .Not a pos) (gR f):=by
 refine PE.imp (aHa ha) ?_;rintro σ H Q ⟨G,ρ,E,hG,hS,hx,hr⟩;refine m7 hG hS hx hr λv d G1 H1 st r k=>?_
 cases d<;>try exact ax k
 unfold Rep at r;subst r;exact⟨_,rfl,k.ok_now st.gh bP⟩
theorem aIc(ha:ME X ad a f):ME X ad (.UnaryOp .USub a pos) (vK f):=by
 refine PE.imp (aK5 aHq ha) ?_;rintro σ H Q ⟨G,ρ,E,hG,hS,hx,hr⟩;refine m7 hG hS hx hr λv d G1 H1 st r k=>?_
 cases d<;>try exact ax k
 unfold Rep at r;subst r;exact⟨_,rfl,k.ok_now st.gh a8⟩
theorem aId{σ:St}{H:Hp}{Q:VK}(h:tE X ad (fR f g) σ H Q):aG7 (tE X ad f) (tE X ad g) σ H Q:=by
 obtain⟨G,ρ,E,hG,hS,hx,hr⟩:=h;refine m7 hG hS hx hr λv d G1 H1 st r k=>?_
 cases d<;>try exact ax k
 rename_i b;unfold Rep at r;subst r;refine⟨b,rfl,?_⟩
 cases b with
 |true=>exact aB4 (m8 hx st hS k)
 |false=>exact aDo (k.ok_now st.gh bP)
theorem aLs{σ:St}{H:Hp}{Q:VK}(h:tE X ad (rOr f g) σ H Q):aMt (tE X ad f) (tE X ad g) σ H Q:=by
 obtain⟨G,ρ,E,hG,hS,hx,hr⟩:=h;refine m7 hG hS hx hr λv d G1 H1 st r k=>?_
 cases d<;>try exact ax k
 rename_i b;unfold Rep at r;subst r;refine⟨b,rfl,?_⟩
 cases b with
 |true=>exact aB4 (k.ok_now st.gh bP)
 |false=>exact aDo (m8 hx st hS k)
theorem aCe{r:List Expr}(ha:ME X ad a f)(hb:ME X ad (.BoolOp .And (b::r) pos) g):ME X ad (.BoolOp .And (a::b::r) pos) (fR f g):=PE.imp (aG9 ha hb) λ_ _ _ h=>aId h
theorem aIe{r:List Expr}(ha:ME X ad a f)(hb:ME X ad (.BoolOp .Or (b::r) pos) g):ME X ad (.BoolOp .Or (a::b::r) pos) (rOr f g):=PE.imp (aKx ha hb) λ_ _ _ h=>aLs h
theorem aCf{op:BoolOp}(hb:ME X ad b g):ME X ad (.BoolOp op [b] pos) g:=aG8 hb
theorem aLt{σ:St}{H:Hp}{Q:Bool->Hp->Prop}(h:tT X ad f σ H Q):tE X ad f σ H λx H1=>∃k,x= .bl k/\Q k H1:=by
 obtain⟨G,ρ,E,hG,hS,hx,ht,hr⟩:=h;exact⟨G,ρ,E,hG,hS,hx,hr⟩
theorem aIf(ha:ME X ad a f)(he: ∀whole,isTrue a X.env whole=(do let v<-whole;standAt a.pos;holding [v] (truthy v))):MT X ad a f:=PT.imp (aG5 ha he) λ_ _ _ h=>aLt h
theorem eZ{r:R}{k:D->R}(h:kN (r.bind k)):(∃d,r= .ok d/\kN (k d))\/(∃xs,r= .ow xs/\kN (k (.lst xs)))\/∃c,r= .ex c:=by
 cases r with
 |ok d=>exact .inl ⟨d,rfl,h⟩
 |ow xs=>exact .inr (.inl ⟨xs,rfl,h⟩)
 |ex c=>exact .inr (.inr ⟨c,rfl⟩)
 |bad=>
  rcases h with ⟨_,h⟩|⟨_,h⟩<;>cases h
theorem bW: ¬kN .bad:=by
 rintro(⟨_,h⟩|⟨_,h⟩)<;>cases h
theorem aIg{σ:St}{H:Hp}{Q:Bool->Hp->Prop}(h:tT X ad (gR f) σ H Q):aMs (tT X ad f) σ H Q:=by
 obtain⟨G,ρ,E,hG,hS,hx,ht,hr⟩:=h;rcases eZ ht with ⟨d,e,ht⟩|⟨xs,e,ht⟩|⟨c,e⟩
 ·cases d<;>try exact(bW ht).elim
  rename_i b;refine⟨G,ρ,E,hG,hS,hx,.inl ⟨b,e⟩,?_⟩
  have hr':RK X.K ad G H ((f ρ).bind λx=>match x with|.bl b=>.ok (.bl (!b))|_=>.bad) (λv H'=>∃b,v= .bl b/\Q b H') E:=hr
  rw[e]at hr' ⊢;intro v G1 H1 st r;unfold Rep at r;subst r;obtain⟨b',e',q⟩:=hr' (.bl (!b)) G1 H1 st bP;cases e';exact⟨b,rfl,q⟩
 ·exact(bW ht).elim
 ·refine⟨G,ρ,E,hG,hS,hx,.inr ⟨c,e⟩,?_⟩
  have hr':RK X.K ad G H ((f ρ).bind λx=>match x with|.bl b=>.ok (.bl (!b))|_=>.bad) (λv H'=>∃b,v= .bl b/\Q b H') E:=hr
  rw[e]at hr' ⊢;exact hr'
theorem aIh(ha:MT X ad a f):MT X ad (.UnaryOp .Not a pos) (gR f):=PT.imp (aG6 ha) λ_ _ _ h=>aIg h
theorem aIi{σ:St}{H:Hp}{Q:Bool->Hp->Prop}(h:tT X ad (fR f g) σ H Q):aMr (tT X ad f) (tT X ad g) σ H Q:=by
 obtain⟨G,ρ,E,hG,hS,hx,ht,hr⟩:=h
 have hr':RK X.K ad G H ((f ρ).bind λx=>match x with|.bl true=>g ρ|.bl false=>.ok (.bl false)|_=>.bad) (λv H'=>∃b,v= .bl b/\Q b H') E:=hr
 rcases eZ ht with ⟨d,e,ht⟩|⟨xs,e,ht⟩|⟨c,e⟩
 ·cases d<;>try exact(bW ht).elim
  rename_i b;refine⟨G,ρ,E,hG,hS,hx,.inl ⟨b,e⟩,?_⟩;rw[e]at hr' ⊢;intro v G1 H1 st r;unfold Rep at r;subst r;refine⟨b,rfl,?_⟩
  cases b with
  |true=>exact aB4 ⟨G1,ρ,E,st.gh,hS.step st,hx,ht,RK.step hr' st⟩
  |false=>
   obtain⟨b',e',q⟩:=hr' (.bl false) G1 H1 st bP;cases e';exact aDo q
 ·exact(bW ht).elim
 ·refine⟨G,ρ,E,hG,hS,hx,.inr ⟨c,e⟩,?_⟩;rw[e]at hr' ⊢;exact hr'
theorem aLu{σ:St}{H:Hp}{Q:Bool->Hp->Prop}(h:tT X ad (rOr f g) σ H Q):tOr (tT X ad f) (tT X ad g) σ H Q:=by
 obtain⟨G,ρ,E,hG,hS,hx,ht,hr⟩:=h
 have hr':RK X.K ad G H ((f ρ).bind λx=>match x with|.bl true=>.ok (.bl true)|.bl false=>g ρ|_=>.bad) (λv H'=>∃b,v= .bl b/\Q b H') E:=hr
 rcases eZ ht with ⟨d,e,ht⟩|⟨xs,e,ht⟩|⟨c,e⟩
 ·cases d<;>try exact(bW ht).elim
  rename_i b;refine⟨G,ρ,E,hG,hS,hx,.inl ⟨b,e⟩,?_⟩;rw[e]at hr' ⊢;intro v G1 H1 st r;unfold Rep at r;subst r;refine⟨b,rfl,?_⟩
  cases b with
  |true=>
   obtain⟨b',e',q⟩:=hr' (.bl true) G1 H1 st bP;cases e';exact aB4 q
  |false=>exact aDo ⟨G1,ρ,E,st.gh,hS.step st,hx,ht,RK.step hr' st⟩
 ·exact(bW ht).elim
 ·refine⟨G,ρ,E,hG,hS,hx,.inr ⟨c,e⟩,?_⟩;rw[e]at hr' ⊢;exact hr'
theorem aCg{r:List Expr}(ha:MT X ad a f)(hb:MW X ad (.BoolOp .And (b::r) pos) g):MW X ad (.BoolOp .And (a::b::r) pos) (fR f g):=PW.imp (pw_and ha hb) λ_ _ _ h=>aIi h
theorem aIj{r:List Expr}(ha:MT X ad a f)(hb:MW X ad (.BoolOp .Or (b::r) pos) g):MW X ad (.BoolOp .Or (a::b::r) pos) (rOr f g):=PW.imp (pw_or ha hb) λ_ _ _ h=>aLu h
theorem aCh{op:BoolOp}(hb:MT X ad b g):MW X ad (.BoolOp op [b] pos) g:=by
 cases op with
 |And=>exact pw_and1 hb
 |Or=>exact pw_or1 hb
theorem aIk{op:CmpOp}(hu:X.A.units+62<cLine)(ha:ME X ad a f)(hb:ME X ad b g)(hm:behindInMarks op b=false):ME X ad (.Compare a [op] [b] pos) (aU op f g):=by
 refine λbx s σ H Q I h9=>h9.el λG ρ E hG hS hx hr=>?_
 exact wpAny_Compare1 (wC (kQ op hu) ha hb I hG hS hx hr) hm
theorem aIl{op:CmpOp}(hu:X.A.units+62<cLine)(ha:ME X ad a f)(hb:ME X ad b g)(hm:behindInMarks op b=false):MT X ad (.Compare a [op] [b] pos) (aU op f g):=by
 refine λbx s σ H Q I h9=>h9.el λG ρ E hG hS hx ht hr=>?_
 refine wpAny_isTrue_Compare1 (L2.thn (wC (kQ op hu) ha hb I hG hS hx hr) λv s1 h1=>L2.thn h1 λu s2 h2=>L2.thn h2 λc s3 ⟨x,H1,I1,r1,k,e,q⟩=>?_) hm
 subst e;cases r1;exact wpAny_truthy_bool ⟨H1,I1,q⟩
theorem aD6{op:CmpOp}{x y:D}:(∃k,gC op x y= .ok (.bl k))\/gC op x y= .bad:=by
 cases op<;>unfold gC<;>(try unfold inS)<;>(repeat' split)<;>first|exact .inr rfl|exact .inl ⟨_,rfl⟩
theorem aLv{op:CmpOp}{x y:D}{v w:V}{u z:Value}(hu:X.A.units+62<cLine)(I:Inv X bx σ H s)(hG:Same G H)(rx:Rep X.K ad G x v)(ry:Rep X.K ad G y w)(ru:cD v u)(rz:cD w z){k:D->R}
  (hr:RK X.K ad G H ((gC op x y).bind k) Q E):wpAny (model X.prog X.w) X.A (compareOp op u z) (λd s3=>∃b G' H',d= .bool b/\Step G H G' H'/\Inv X bx σ H' s3/\RK X.K ad G' H' (k (.bl b)) Q E) X.xe s:=by
 rcases aD6 (op:=op) (x:=x) (y:=y)with ⟨b,e⟩|e
 ·rw[e]at hr;refine L2.thn (kQ op hu bx s σ H G x y v w u z (λq H'=>∃G',Step G H G' H'/\q= .bl b) E I hG rx ry ru rz (by rw[e];exact λq G' H' st r=>⟨G',st,by unfold Rep at r;exact r⟩)) λd s3 ⟨q,H',I',r',G',st,e1⟩=>?_
  subst e1;cases r';exact⟨b,G',H',rfl,st,I',RK.step hr st⟩
 ·rw[e]at hr;exact hr.elim
theorem aAc{op op':CmpOp}(hu:X.A.units+62<cLine)(ha:ME X ad a f)(hb:ME X ad b g)(hc:ME X ad c h)(hm:lastMarks [op,op'] [b,c]=false):ME X ad (.Compare a [op,op'] [b,c] pos) (dS op op' f g h):=by
 refine λbx s σ H Q I h9=>h9.el λG ρ E hG hS hx hr=>?_
 refine Compare_chain (L2.thn (ha.thn I hG hS hx hr) λv s1 ⟨x,d1,G1,H1,I1,r1,st1,q1,k1⟩=>chain_link (L2.thn (hb.thn I1 st1.gh (hS.step st1) hx k1) λu s2 ⟨y,d2,G2,H2,I2,r2,st2,q2,k2⟩=>
  L2.thn (aLv hu I2 st2.gh (q1.mono st2.sg) q2 r1 r2 k2) λd s3 ⟨k,G3,H3,e,st3,I3,k3⟩=>?_)) hm
 subst e;refine wpAny_truthy_bool ?_
 cases k with
 |false=>exact ite_ff ⟨.bl false,H3,I3,rfl,k3.ok_now st3.gh bP⟩
 |true=>
  refine ite_tt (chain_last (L2.thn (hc.thn I3 st3.gh (((hS.step st1).step st2).step st3) hx k3) λw' s4 hz_=>?_))
  obtain⟨z',d4,G4,H4,I4,r4,st4,q4,k4⟩:=hz_;exact kQ op' hu bx s4 σ H4 G4 d2 d4 y z' u w' Q E I4 st4.gh ((q2.mono st3.sg).mono st4.sg) q4 r2 r4 k4
theorem aAd{op op':CmpOp}(hu:X.A.units+62<cLine)(ha:ME X ad a f)(hb:ME X ad b g)(hc:ME X ad c h)(hm:lastMarks [op,op'] [b,c]=false):MT X ad (.Compare a [op,op'] [b,c] pos) (dS op op' f g h):=by
 refine λbx s σ H Q I h9=>h9.el λG ρ E hG hS hx ht hr=>?_
 refine isTrue_chain (L2.thn (ha.thn I hG hS hx hr) λv s1 ⟨x,d1,G1,H1,I1,r1,st1,q1,k1⟩=>test_link (L2.thn (hb.thn I1 st1.gh (hS.step st1) hx k1) λu s2 ⟨y,d2,G2,H2,I2,r2,st2,q2,k2⟩=>
  L2.thn (aLv hu I2 st2.gh (q1.mono st2.sg) q2 r1 r2 k2) λd s3 ⟨k,G3,H3,e,st3,I3,k3⟩=>?_)) hm
 subst e;refine wpAny_truthy_bool ?_
 cases k with
 |false=>
  obtain⟨k',e',q'⟩:=k3.ok_now (v:=.bl false) st3.gh bP;cases e';exact ite_ff ⟨H3,I3,q'⟩
 |true=>
  refine ite_tt (test_last (L2.thn (hc.thn I3 st3.gh (((hS.step st1).step st2).step st3) hx k3) λw' s4 hz_=>?_))
  obtain⟨z',d4,G4,H4,I4,r4,st4,q4,k4⟩:=hz_;refine L2.thn (kQ op' hu bx s4 σ H4 G4 d2 d4 y z' u w' _ E I4 st4.gh ((q2.mono st3.sg).mono st4.sg) q4 r2 r4 k4) λd' s5 hz_=>?_
  obtain⟨z2,H5,I5,r5,k2,e2,q5⟩:=hz_;subst e2;cases r5;exact wpAny_truthy_bool ⟨H5,I5,q5⟩
theorem aAe(hc:MT X ad c h)(ha:ME X ad a f)(hb:ME X ad b g):ME X ad (.IfExp c a b pos) (rIf h f g):=by
 refine PE.imp (zM hc ha hb) ?_;rintro σ H Q ⟨G,ρ,E,hG,hS,hx,hr⟩
 have hr':RK X.K ad G H ((h ρ).bind λx=>match x with|.bl true=>f ρ|.bl false=>g ρ|_=>.bad) Q E:=hr
 cases e:h ρ with
 |ok d=>
  rw[e]at hr'
  cases d<;>try exact hr'.elim
  rename_i k;refine⟨G,ρ,E,hG,hS,hx,.inl ⟨k,e⟩,?_⟩;rw[e];intro v G1 H1 st r;unfold Rep at r;subst r;refine⟨k,rfl,?_⟩
  cases k with
  |true=>exact aB4 (m8 hx st hS (RK.step hr' st))
  |false=>exact aDo (m8 hx st hS (RK.step hr' st))
 |ow xs=>rw[e]at hr';exact hr'.elim
 |ex k=>
  rw[e]at hr';exact⟨G,ρ,E,hG,hS,hx,.inr ⟨k,e⟩,by rw[e];exact hr'⟩
 |bad=>rw[e]at hr';exact hr'.elim
theorem aCi:MA X ad [] []:=PA.imp eK λσ H Q ⟨G,ρ,E,hG,hS,hx,hr⟩=>hr [] G H (Step.refl hG) aH.nil
theorem rM{es:List Expr}{fs:List F}(ha:ME X ad a f)(hr:MA X ad es fs)(hs:starEach (a::es) X.env=(false,eval a X.env)::starEach es X.env):MA X ad (a::es) (f::fs):=by
 refine PA.imp (cM ha hr hs) ?_;rintro σ H Q ⟨G,ρ,E,hG,hS,hx,hr⟩
 have main: ∀d,AK X.K ad G H ((args fs ρ).cons d) Q E->∀v G1 H1,Step G H G1 H1->Rep X.K ad G1 d v->tA X ad fs σ H1 λxs H2=>Q (v::xs) H2:=λd hk v G1 H1 st r=>by
  refine⟨G1,ρ,E,st.gh,hS.step st,hx,?_⟩
  cases e:args fs ρ with
  |ok ds=>rw[e]at hk;exact λvs G2 H2 st2 r2=>hk (v::vs) G2 H2 (st.trans st2) (aH.cons (r.mono st2.sg) r2)
  |ex c=>rw[e]at hk;exact λG2 H2 st2=>hk G2 H2 (st.trans st2)
  |bad=>rw[e]at hk;exact hk
 refine⟨G,ρ,E,hG,hS,hx,?_⟩;unfold args at hr
 cases e:f ρ with
 |ok d=>rw[e]at hr;exact λv G1 H1 st r=>main d hr v G1 H1 st r
 |ow xs=>
  rw[e]at hr;intro p vs G1 H1 st n m e' r;obtain⟨G2,st2,r2⟩:=dQ (X:=X) (ad:=ad) st n m e' r;exact main _ hr _ G2 H1 st2 r2
 |ex c=>rw[e]at hr;exact hr
 |bad=>rw[e]at hr;exact hr
theorem m9{fs:List F}{ρ:Rho}{ds:List D}(h:args fs ρ= .ok ds):ds.length=fs.length:=by
 induction fs generalizing ds with
 |nil=>cases h;rfl
 |cons f fs ih=>
  unfold args at h
  cases e:f ρ with
  |ok d=>
   rw[e]at h
   cases e2:args fs ρ with
   |ok r=>rw[e2]at h;cases h;simp[ih e2]
   |ex c=>rw[e2]at h;cases h
   |bad=>rw[e2]at h;cases h
  |ow d=>
   rw[e]at h
   cases e2:args fs ρ with
   |ok r=>rw[e2]at h;cases h;simp[ih e2]
   |ex c=>rw[e2]at h;cases h
   |bad=>rw[e2]at h;cases h
  |ex c=>rw[e]at h;cases h
  |bad=>rw[e]at h;cases h
theorem rN{fs:List F}{k:List D->R}{σ:St}{H:Hp}{Q:VK}{Q':List V->Hp->Prop}(hG:Same G H)(hS:SL X.K ad G H ρ σ)(hx:XP X ad σ E)(hr:RK X.K ad G H (lK fs ρ k) Q E)
  (q: ∀vs ds G1 H1,Step G H G1 H1->aH X.K ad G1 ds vs->ds.length=fs.length->RK X.K ad G1 H1 (k ds) Q E->Q' vs H1):tA X ad fs σ H Q':=by
 refine⟨G,ρ,E,hG,hS,hx,?_⟩;unfold lK at hr
 cases e:args fs ρ with
 |ok ds=>rw[e]at hr;exact λvs G1 H1 st r=>q vs ds G1 H1 st r (m9 e) (RK.step hr st)
 |ex c=>rw[e]at hr;exact hr
 |bad=>rw[e]at hr;exact hr
theorem aIm{es:List Expr}{fs:List F}{j:Nat}(ha:MA X ad es fs)(hl:fs.length<=1000):ME X ad (.Tuple es j pos) (b9 fs):=by
 refine PE.imp (aHu ha) ?_;rintro σ H Q ⟨G,ρ,E,hG,hS,hx,hr⟩;refine⟨G,ρ,E,hG,hS,hx,?_⟩
 have hr':RK X.K ad G H ((args fs ρ).then λxs=>.ok (.tup xs)) Q E:=hr
 cases e:args fs ρ with
 |ok ds=>
  rw[e]at hr';intro vs G1 H1 st r;refine⟨?_,λp hp=>(RK.step hr' st).tup_new st.gh r hp⟩
  have:=r.length
  rw[this,m9 e];exact Nat.le_trans hl (by decide)
 |ex c=>rw[e]at hr';exact hr'
 |bad=>rw[e]at hr';exact hr'
theorem aIn{es:List Expr}{fs:List F}(ha:MA X ad es fs)(hl:fs.length<=1000):ME X ad (.List es pos) (cN fs):=by
 refine PE.imp (aHv ha) ?_;rintro σ H Q ⟨G,ρ,E,hG,hS,hx,hr⟩;refine⟨G,ρ,E,hG,hS,hx,?_⟩
 have hr':RK X.K ad G H ((args fs ρ).then λxs=>.ow xs) Q E:=hr
 cases e:args fs ρ with
 |ok ds=>
  rw[e]at hr';intro vs G1 H1 st r;refine⟨?_,λp hp=>(RK.step hr' st).ow_new st.gh r hp⟩
  have:=r.length
  rw[this,m9 e];exact Nat.le_trans hl (by decide)
 |ex c=>rw[e]at hr';exact hr'
 |bad=>rw[e]at hr';exact hr'
def Seq(X:Cx)(ad:Ad)(G H:Hp)(x:D)(v:V):Prop:=Rep X.K ad G x v\/∃a vs ds,x= .lst ds/\v= .ref a/\G a=none/\H a=some (.lst vs)/\aH X.K ad G ds vs
theorem Seq.step{G1 H1:Hp}{x:D}{v:V}(q:Seq X ad G H x v)(st:Step G H G1 H1):Seq X ad G1 H1 x v:=by
 rcases q with q|⟨a,vs,ds,e1,e2,h1,h2,h3⟩
 ·exact .inl (q.mono st.sg)
 ·refine .inr ⟨a,vs,ds,e1,e2,?_,st.sh _ _ h2,h3.mono st.sg⟩
  cases z:G1 a with
  |none=>rfl
  |some o=>
   have:=st.nw a h1 (by rw[z];exact λz=>nomatch z)
   rw[h2]at this;cases this
theorem Seq.items{x:D}{v:V}{ds:List D}(q:Seq X ad G H x v)(hG:Same G H)(e:items x=some ds): ∃a vs,v= .ref a/\(x= .tup ds/\SqT X.K H a vs\/x= .lst ds/\SqL X.K H a vs)/\aH X.K ad G ds vs:=by
 rcases q with q|⟨a,vs,ds',e1,e2,h1,h2,h3⟩
 ·cases x with
  |tup _=>cases e;unfold Rep at q;obtain⟨a,vs,h1,h2,h3⟩:=q;exact⟨a,vs,h1,.inl ⟨rfl,hG.seqT h2⟩,h3⟩
  |lst _=>cases e;unfold Rep at q;obtain⟨a,vs,h1,h2,h3⟩:=q;exact⟨a,vs,h1,.inr ⟨rfl,hG.seq h2⟩,h3⟩
  |_=>cases e
 ·subst e1;cases e;exact⟨a,vs,e2,.inr ⟨rfl,SqL.of h2⟩,h3⟩
theorem aCj(n:Nat)(i:Int):ixD n i=L2.ixN n i:=rfl
theorem aLw(ha:MLk X ad a f)(hb:ME X ad b g)(hs:vV b):ME X ad (.Subscript a b pos) (rIx f g):=by
 refine λbx s σ H Q I h9=>h9.el λG ρ E hG hS hx hr=>?_
 refine Subscript_ (L2.thn (ha bx s σ H G ρ _ Q E I hG hS hx hr) λv s1 hz_=>?_)
 obtain⟨x,d1,G1,H1,I1,r1,st1,q1,k1⟩:=hz_;refine L2.thn (hb.thn I1 st1.gh (hS.step st1) hx k1) λu s2 hz_=>?_
 obtain⟨y,d2,G2,H2,I2,r2,st2,q2,k2⟩:=hz_;have q1':Seq X ad G2 H2 d1 x:=Seq.step (X:=X) (ad:=ad) q1 st2;unfold dIx at k2
 cases e:items d1 with
 |none=>
  rw[e]at k2;have k3:RK X.K ad G2 H2 (ixS d1 d2) Q E:=k2
  cases d1<;>try exact ax k3
  cases d2<;>try exact ax k3
  rename_i z i
  have k4:RK X.K ad G2 H2 (if z.length<=LIM then(match(ixD z.cps.toList.length i).bind λj=>z.cps.toList[j]? with|some c=>.ok (.str ⟨#[c]⟩)|none=>.bad)else .bad) Q E:=k3
  unfold Rep at q2;subst q2
  by_cases hc:z.length<=LIM
  ·rw[if_pos hc]at k4
   cases e3:(ixD z.cps.toList.length i).bind λj=>z.cps.toList[j]? with
   |none=>rw[e3]at k4;exact k4.elim
   |some c=>
    rw[e3]at k4;rcases q1' with q1'|⟨_,_,_,w,_⟩
    ·unfold Rep at q1';subst q1';exact aHz a b bx s2 σ H2 _ _ v u Q I2 r1 r2 ⟨z,i,c,rfl,rfl,Nat.le_trans hc (by decide),e3,k4.ok_now st2.gh kO⟩ (hs _ _)
    ·cases w
  ·rw[if_neg hc]at k4;exact k4.elim
 |some ds=>
  rw[e]at k2
  cases d2<;>try exact k2.elim
  rename_i i;unfold Rep at q2;subst q2;obtain⟨p,vs,rfl,hq,rq⟩:=q1'.items st2.gh e
  have hr2:RK X.K ad G2 H2 (match(ixD ds.length i).bind λj=>ds[j]? with|some d=>.ok d|none=>.bad) Q E:=k2
  cases e3:(ixD ds.length i).bind λj=>ds[j]? with
  |none=>rw[e3]at hr2;exact hr2.elim
  |some d=>
   rw[e3]at hr2;obtain⟨j,e4,e5⟩:=zBd e3;obtain⟨w,e6,r6⟩:=rq.get e5
   have hat:atI vs i=some w:=by
    unfold atI;rw[rq.length, <-aCj,e4];exact e6
   rcases hq with ⟨_,hq⟩|⟨_,hq⟩
   ·exact aHy a b bx s2 σ H2 _ _ v u Q I2 r1 r2 ⟨p,vs,i,w,rfl,rfl,hq,hat,hr2.ok_now st2.gh r6⟩ (hs _ _)
   ·exact aDl a b bx s2 σ H2 _ _ v u Q I2 r1 r2 ⟨p,vs,i,w,rfl,rfl,hq,hat,hr2.ok_now st2.gh r6⟩ (hs _ _)
theorem g9{prog:Program}{w:World}{A:Around}{Ex:cb}{s:Shared}{t sl:Addr}{items:Array Value}{vl vu:Value}{lo hi:Option Int}{Q:cb}(ht:IsTup s.heap t items)(hs:s.heap.IsSliceOf sl vl vu .none)
  (pl:IsPart vl lo) (pu:IsPart vu hi) (hw:HT.sIx items.size 0 lo=0/\HT.sIx items.size items.size hi=items.size) (h:Q (.ref t) s) (hsz:items.size<=sizeLine):wpAny (model prog w) A (getItem (.ref t) (.ref sl)) Q Ex s:=by
 obtain⟨os,hos,hcs,hds⟩:=id hs;have ts:s.TypeIs (.ref sl) "slice":=⟨os,hos,hcs⟩;unfold getItem
 try with_reducible refine wpAny_holding ?_
 first|refine aa (ae ?_)|skip
 refine aa (wpAny_sequenceKey ht.typeIs (by decide) ?_)
 refine aa (wpAny_callSpecial?_slot (name:=Str.ofString "__getitem__") ht.typeIs PyProof.Rows.slot_tuple_getitem
  (wpAny_call_entry PyProof.Rows.slot_tuple_getitem ht.typeIs entry_tuple_getitem ?_ (args_tuple_getitem _ _)))
 show wpAny _ _ (Builtin.Tuple.tupleItemsOf (.ref t) >>= _) _ _ s;refine aa (tupleItemsOf_ ht ?_);refine aa (wpAny_typeOf ts ?_);rw[if_pos (by decide)]
 refine aa (HT.sliceApplied_gen hs pl pu ?_)
 have yes:(((HT.sIx items.size 0 lo:Nat):Int)==0&&(1:Int)==1&&(HT.sIx items.size items.size hi-HT.sIx items.size 0 lo)==items.size)=true:=by
  rw[hw.1,hw.2];simp
 show wpAny _ _ (if(((HT.sIx items.size 0 lo:Nat):Int)==0&&(1:Int)==1&&(HT.sIx items.size items.size hi-HT.sIx items.size 0 lo)==items.size)=true then _ else _) _ _ s
 rw[if_pos yes];unfold Builtin.Tuple.tupleIsExact;refine aa (m:=(do let z<-typeOf (.ref t);return z== .type "tuple")) (aa (wpAny_typeOf ht.typeIs (ae ?_)))
 rw[if_pos (by decide)]
 first
  |exact aa (wpAny_rule (aa (ae (ae ⟨_,rfl,ae h⟩))))
  |exact aa (wpAny_rule (ae ⟨_,rfl,ae h⟩))
  |exact aa (aa (wpAny_rule (ae (ae ⟨_,rfl,ae h⟩))))
  |skip
theorem sR: ∀{ds:List D} {vs:List V} (lo hi:Option Int),aH X.K ad G ds vs->aH X.K ad G (uS ds lo hi) (zG vs lo hi):=by
 intro ds vs lo hi r;unfold uS zG;rw[r.length];exact(r.drop _).take _
theorem aNd(l u:Option Int)(n:Nat):Builtin.Str.strSliceIndices l u 1 n=(List.range (cV n n u-cV n 0 l)).map λk=>cV n 0 l+k:=by
 have hlo: ∀(d:Nat) (v:Option Int),d<=n->(match v with|none=>(d:Int)|some i=>max 0 (min (if i<0 then i+n else i) (n:Int)))=((cV n d v:Nat):Int):=λd v hd=>by
  cases v with
  |none=>rfl
  |some i=>
   show max 0 (min (if i<0 then i+n else i) (n:Int))=(((if i<0 then(i+n).toNat else min i.toNat n):Nat):Int)
   split<;>lia
 have e:Builtin.Str.strSliceIndices l u 1 n=sliceRange ((cV n 0 l:Nat):Int) ((cV n n u:Nat):Int) 1:=by
  rw[<-hlo 0 l (bq _), <-hlo n u (aj _)]
  cases l<;>cases u<;>rfl
 rw[e];unfold sliceRange
 have e2:(if(1:Int) > 0 then(if((cV n 0 l:Nat):Int)<((cV n n u:Nat):Int)then(((cV n n u:Nat):Int)-((cV n 0 l:Nat):Int)+1-1)/1 else 0)else(if((cV n 0 l:Nat):Int) > ((cV n n u:Nat):Int)then(((cV n 0 l:Nat):Int)-((cV n n u:Nat):Int)-1-1)/(-1)else 0):Int).toNat=cV n n u-cV n 0 l:=by
  rw[if_pos (by decide)]
  split<;>lia
 show(List.range (if(1:Int) > 0 then _ else _:Int).toNat).map _=_
 rw[e2];refine List.map_congr_left λk _=>?_
 show(((cV n 0 l:Nat):Int)+1*(k:Int)).toNat=_
 lia
theorem iF{α:Type}(xs:List α): ∀(m a:Nat),((List.range m).map λk=>a+k).filterMap (xs[·]?)=(xs.drop a).take m
 |0,a=>by simp
 |m+1,a=>by
  rw[List.range_succ,List.map_append,List.filterMap_append,iF xs m a,List.take_succ]
  congr 1
  show List.filterMap (xs[·]?) [a+m]=_
  rw[List.getElem?_drop]
  cases e:xs[a+m]? <;>simp[e]
theorem wD(z:Str)(lo hi:Option Int):Txt.slice z lo hi=⟨(zV z.cps.toList lo hi).toArray⟩:=by
 have e0:z.length=z.cps.toList.length:=by simp[Str.length]
 have e1:((Builtin.Str.strSliceIndices lo hi 1 z.length).filterMap (z.cps[·]?))=zV z.cps.toList lo hi:=by
  rw[aNd];unfold zV;rw[<-e0, <-iF];refine congrArg (λf=>List.filterMap f _) (funext λk=>?_)
  simp
 unfold Txt.slice;split
 ·rename_i h
  have h2:(Builtin.Str.strSliceIndices lo hi 1 z.length).length=z.length:=by simpa using h
  refine PySem.Str.ext' ?_;show z.cps=(zV z.cps.toList lo hi).toArray;rw[aNd,am,List.length_range]at h2;unfold zV;rw[<-e0,h2]
  have:cV z.length z.length hi<=z.length:=by
   unfold cV
   cases hi with
   |none=>exact aj _
   |some v=>simp only[];split<;>lia
  by_cases hz:z.length=0
  ·have hn:z.cps.toList=[]:=List.eq_nil_of_length_eq_zero (by rw[<-e0];exact hz)
   rw[hn];simpa using hn
  have ha:cV z.length 0 lo=0:=by lia
  rw[ha,List.drop_zero,e0,List.take_length]
 ·rw[e1]
def aLx(X:Cx)(x:V)(lo hi:Option Int)(H:Hp)(Q:VK):Prop:=(∃a vs,x= .ref a/\((SqT X.K H a vs/\(HT.sIx vs.length 0 lo=0/\HT.sIx vs.length vs.length hi=vs.length->Q (.ref a) H)/\∀p,H p=none->Q (.ref p) (upd H p (.tup (zG vs lo hi))))\/
  (SqL X.K H a vs/\∀p,H p=none->Q (.ref p) (upd H p (.lst (zG vs lo hi))))))\/∃z,x= .str z/\z.length<=LIM/\Q (.str ⟨(zV z.cps.toList lo hi).toArray⟩) H
theorem wE{v:Value}{o:Option Int}(h:IsPart v o): ∃l:Option (Int×Tok),v=partValue l/\l.map (·.1)=o:=by
 cases h with
 |none=>exact⟨none,rfl,rfl⟩
 |int i t=>exact⟨some (i,t),rfl,rfl⟩
theorem aD7:SlR X (λx lo hi H Q=>∃z,x= .str z/\z.length<=LIM/\Q (.str ⟨(zV z.cps.toList lo hi).toArray⟩) H):=by
 intro bx s σ H x v vl vu lo hi sl Q I rx hs pl pu q;obtain⟨z,rfl,hz,q⟩:=q;obtain⟨t,rfl⟩:=(show ∃t,v=Value.str z t from rx)
 obtain⟨l,rfl,rfl⟩:=wE pl;obtain⟨u,rfl,rfl⟩:=wE pu;obtain⟨os,hos,hcs,hds⟩:=hs;refine⟨"str",_,F.slot_str_getitem.lookup,typeIs_str _ _ _,wpAny_getItem_str_slice (l:=l) (u:=u) (st:=none) ⟨os,hos,hcs,hds⟩ rfl ?_⟩
 have hz':z.length<=sizeLine:=Nat.le_trans hz (by decide)
 refine post_val_or_str ⟨Nat.le_trans (Txt.slice_le z _ _) hz',λt' k=>?_⟩
 rw[<-wD]at q;exact⟨.str _,H,I.tok k,⟨t',rfl⟩,q⟩
theorem aIo:SlR X (aLx X):=by
 intro bx s σ H x v vl vu lo hi sl Q I rx hs pl pu q;obtain⟨a,vs,rfl,⟨hq,q1,q2⟩|⟨hq,q⟩⟩|q:=q
 ·by_cases hw:HT.sIx vs.length 0 lo=0/\HT.sIx vs.length vs.length hi=vs.length
  ·cases rx;obtain⟨its,r,ht,hz⟩:=I.tuple hq
   have hlen:its.toArray.size=vs.length:=by rw[au];exact r.length.symm
   refine⟨"tuple",_,PyProof.Rows.slot_tuple_getitem.lookup,ht.typeIs,?_⟩;refine g9 ht hs pl pu (by rw[hlen];exact hw) ⟨.ref a,H,I,rfl,q1 hw⟩ (by rw[hlen];exact hz)
  ·exact aHx bx s σ H _ v vl vu lo hi sl Q I rx hs pl pu ⟨a,vs,rfl,hq,hw,q2⟩
 ·exact aDm bx s σ H _ v vl vu lo hi sl Q I rx hs pl pu ⟨a,vs,rfl,hq,q⟩
 ·exact aD7 bx s σ H x v vl vu lo hi sl Q I rx hs pl pu q
theorem sS{x:D}{v:V}{lo hi:Option Int}(q:Seq X ad G H x v)(hG:Same G H)(hr:RK X.K ad G H (zW x lo hi) Q E):
  aLx X v lo hi H Q:=by
 cases x with
 |tup ds=>
  rcases q with q|⟨_,_,_,z,_⟩
  ·unfold Rep at q;obtain⟨a,vs,rfl,hq,rq⟩:=q;refine .inl ⟨a,vs,rfl,.inl ⟨hG.seqT hq,λe=>?_,λp hp=>RK.tup_new (xs:=uS ds lo hi) hr hG (sR lo hi rq) hp⟩⟩
   refine RK.ok_now (d:=.tup (uS ds lo hi)) hr hG ?_
   have e':uS ds lo hi=ds:=by
    rw[rq.length]at e
    have e1:cV ds.length 0 lo=0:=e.1
    have e2:cV ds.length ds.length hi=ds.length:=e.2
    unfold uS;rw[e1,e2];simp
   rw[e'];unfold Rep;exact⟨a,vs,rfl,hq,rq⟩
  ·cases z
 |lst ds=>
  obtain⟨a,vs,rfl,hq,rq⟩:=q.items hG (rfl:items (.lst ds)=some ds);rcases hq with ⟨z,_⟩|⟨_,hq⟩
  ·cases z
  ·exact .inl ⟨a,vs,rfl,.inr ⟨hq,λp hp=>RK.ow_new (xs:=uS ds lo hi) hr hG (sR lo hi rq) hp⟩⟩
 |str z=>
  have hr':RK X.K ad G H (if z.length<=LIM then .ok (.str ⟨(zV z.cps.toList lo hi).toArray⟩)else .bad) Q E:=hr
  by_cases hc:z.length<=LIM
  ·rw[if_pos hc]at hr';rcases q with q|⟨_,_,_,w,_⟩
   ·unfold Rep at q;subst q;exact .inr ⟨z,rfl,hc,hr'.ok_now hG kO⟩
   ·cases w
  ·rw[if_neg hc]at hr';exact hr'.elim
 |_=>exact ax hr
theorem aIp{l u:Option Expr}{fl fu:Option F}{p2:Pos}(ha:MLk X ad a f)(hl:match l,fl with|none,none=>True|some e,some k=>ME X ad e k|_,_=>False)(hu:match u,fu with|none,none=>True|some e,some k=>ME X ad e k|_,_=>False):
  ME X ad (.Subscript a (.Slice l u none p2) pos) (gT f fl fu):=by
 refine λbx s σ H Q I h9=>h9.el λG ρ E hG hS hx hr=>?_
 -- the value first
 have key: ∀(k:D->R),RK X.K ad G H ((f ρ).bind k) Q E->(∀(bx:cc) (s1:Shared) (x:V) (d:D) (G1 H1:Hp),Inv X bx σ H1 s1->Step G H G1 H1->Seq X ad G1 H1 d x->RK X.K ad G1 H1 (k d) Q E->
   wpAny (model X.prog X.w) X.A (evalPart l X.env) (λvl s2=>wpAny (model X.prog X.w) X.A (evalPart u X.env) (λvu s3=>∃lo hi H3,Inv X bx σ H3 s3/\IsPart vl lo/\IsPart vu hi/\
    aLx X x lo hi H3 Q) X.xe s2) X.xe s1)->
   wpAny (model X.prog X.w) X.A (eval (.Subscript a (.Slice l u none p2) pos) X.env) (EP X bx σ Q) X.xe s:=λk hk go=>by
  refine Subscript_ (L2.thn (ha bx s σ H G ρ k Q E I hG hS hx hk) λv s1 hz_=>?_)
  obtain⟨x,d1,G1,H1,I1,r1,st1,q1,k1⟩:=hz_;refine wpAny_Slice (L2.thn (go bx s1 x d1 G1 H1 I1 st1 q1 k1) λvl s2 h2=>L2.thn h2 λvu s3 hz_=>?_)
  obtain⟨lo,hi,H3,I3,pl,pu,q3⟩:=hz_;rw[evalPart_none];refine ae ?_;have I4:Inv X bx σ H3 {s3 with heap:=s3.heap.push {cls:=.type "slice",data:=.fields #[vl,vu,.none]} }:=I3.kept (t':=s3.toks) λb ob q=>af _ q
  obtain⟨T,id,hT,ht,hg⟩:=aIo bx {s3 with heap:=s3.heap.push {cls:=.type "slice",data:=.fields #[vl,vu,.none]} } σ H3 x v vl vu lo hi s3.heap.objs.size Q I4 r1 (Heap.IsSliceOf.new ..) pl pu q3
  show wpAny (model X.prog X.w) X.A (subscriptTail a (.Slice l u none p2) v (.ref s3.heap.objs.size)) (EP X bx σ Q) X.xe {s3 with heap:=s3.heap.push {cls:=.type "slice",data:=.fields #[vl,vu,.none]} }
  exact tail_any (ops:=[.ref s3.heap.objs.size,v]) ht hT hg (by with_unfolding_all rfl)
 unfold gT at hr;refine key _ hr λbx s1 x d G1 H1 I1 st1 q1 k1=>?_
 cases l with
 |none=>
  cases fl with
  |some _=>exact hl.elim
  |none=>
   rw[evalPart_none];refine ae ?_
   cases u with
   |none=>
    cases fu with
    |some _=>exact hu.elim
    |none=>
     rw[evalPart_none];exact ae ⟨none,none,H1,I1,.none,.none,sS q1 st1.gh k1⟩
   |some e=>
    cases fu with
    |none=>exact hu.elim
    |some k=>
     rw[evalPart_some];refine L2.thn (ME.thn hu I1 st1.gh (hS.step st1) hx k1) λvu s2 hz_=>?_
     obtain⟨y,d2,G2,H2,I2,r2,st2,q2,k2⟩:=hz_
     cases d2<;>try exact ax k2
     rename_i j;unfold Rep at q2;subst q2;obtain⟨t,rfl⟩:=r2;exact⟨none,some j,H2,I2,.none,.int j t,sS (Seq.step q1 st2) st2.gh k2⟩
 |some e=>
  cases fl with
  |none=>exact hl.elim
  |some k=>
   cases u with
   |none=>
    cases fu with
    |some _=>exact hu.elim
    |none=>
     rw[evalPart_some];refine L2.thn (ME.thn hl I1 st1.gh (hS.step st1) hx k1) λvu s2 hz_=>?_
     obtain⟨y,d2,G2,H2,I2,r2,st2,q2,k2⟩:=hz_
     cases d2<;>try exact ax k2
     rename_i j;unfold Rep at q2;subst q2;obtain⟨t,rfl⟩:=r2;rw[evalPart_none];exact ae ⟨some j,none,H2,I2,.int j t,.none,sS (Seq.step q1 st2) st2.gh k2⟩
   |some e'=>
    cases fu with
    |none=>exact hu.elim
    |some k'=>
     rw[evalPart_some];refine L2.thn (ME.thn hl I1 st1.gh (hS.step st1) hx k1) λvu s2 hz_=>?_
     obtain⟨y,d2,G2,H2,I2,r2,st2,q2,k2⟩:=hz_
     cases d2<;>try exact ax k2
     rename_i j;unfold Rep at q2;subst q2;obtain⟨t,rfl⟩:=r2;rw[evalPart_some];refine L2.thn (ME.thn hu I2 st2.gh ((hS.step st1).step st2) hx k2) λvu s3 hz_=>?_
     obtain⟨y3,d3,G3,H3,I3,r3,st3,q3,k3⟩:=hz_
     cases d3<;>try exact ax k3
     rename_i j';unfold Rep at q3;subst q3;obtain⟨t',rfl⟩:=r3;exact⟨some j,some j',H3,I3,.int j t,.int j' t',sS (Seq.step (Seq.step q1 st2) st3) st3.gh k3⟩
end
section
variable {X:Cx} {ad:Ad} {bx:cc} {s:Shared} {σ:St} {H G:Hp} {ρ:Rho} {Q:VK} {E:Nat->Hp->Prop} {pos p:Pos} {a b c:Expr} {f g h:F}
theorem RK.impE{K:PySem.W.Frag}{r:R}{E E':Nat->Hp->Prop}(h:RK K ad G H r Q E)(k: ∀c H',E c H'->E' c H'):RK K ad G H r Q E':=by
 cases r with
 |ok d=>exact h
 |ow xs=>exact h
 |ex c=>exact λG' H' st=>k c H' (h G' H' st)
 |bad=>exact h
def LK(X:Cx)(ad:Ad)(G H:Hp)(r:R)(Q:VK)(E:Nat->Hp->Prop):Prop:=match r with
 |.ok d=>∀v G' H',Step G H G' H'->Seq X ad G' H' d v->Q v H'
 |.ow xs=>∀p vs G' H',Step G H G' H'->H p=none->G' p=none->H' p=some (.lst vs)->aH X.K ad G' xs vs->Q (.ref p) H'
 |.ex c=>∀G' H',Step G H G' H'->E c H'
 |.bad=>False
def tL(X:Cx)(ad:Ad)(f:F):TE:=λσ H Q=>∃G ρ E,Same G H/\SL X.K ad G H ρ σ/\XP X ad σ E/\LK X ad G H (f ρ) Q E
abbrev ML(X:Cx)(ad:Ad)(e:Expr)(f:F):Prop:=PE X e (tL X ad f)
theorem LK.rk{r:R}(h:LK X ad G H r Q E):RK X.K ad G H r Q E:=by
 cases r with
 |ok d=>exact λv G' H' st q=>h v G' H' st (.inl q)
 |ow xs=>exact h
 |ex c=>exact h
 |bad=>exact h
theorem ME.ml(ha:ME X ad a f):ML X ad a f:=PE.imp ha λσ H Q ⟨G,ρ,E,hG,hS,hx,hr⟩=>⟨G,ρ,E,hG,hS,hx,hr.rk⟩
theorem aD8{i:Nat}{x:Str}(hN:X.N[i]? =some x)(hv:Vis X.env.scope x)(hd:(x==("__debug__":Str))=false)(hcd:(x==("__classdict__":Str))=false):ML X ad (.Name x pos) (aF i):=by
 intro bx s σ H Q I ⟨G,ρ,E,hG,hS,hx,hr⟩;unfold aF at hr
 cases e:ρ[i]? with
 |none=>
  rw[e]at hr;exact hr.elim
 |some sl=>
  rw[e]at hr
  cases sl with
  |no=>exact hr.elim
  |ow xs=>
   obtain⟨p,vs,h1,h2,h3,h4⟩:=hS.ow e;exact j7 hN hv hd hcd bx s σ H Q I ⟨.ref p,h1,hr (.ref p) G H (Step.refl hG) (.inr ⟨p,vs,xs,rfl,rfl,h2,h3,h4⟩)⟩
  |sh d=>
   obtain⟨w,h1,h2⟩:=hS.sh e;exact j7 hN hv hd hcd bx s σ H Q I ⟨w,h1,hr w G H (Step.refl hG) (.inl h2)⟩
theorem ML.lk(ha:ML X ad a f):MLk X ad a f:=by
 intro bx s σ H G ρ k Q E I hG hS hx hr
 cases e:f ρ with
 |ok d=>
  rw[e]at hr;refine L2.thn (ha bx s σ H (λv H1=>∃G1,Step G H G1 H1/\Seq X ad G1 H1 d v) I ⟨G,ρ,E,hG,hS,hx,by rw[e];exact λv G1 H1 st q=>⟨G1,st,q⟩⟩) λu s1 ⟨v,H1,I1,r1,G1,st,q⟩=>?_
  exact⟨v,d,G1,H1,I1,r1,st,q,RK.step hr st⟩
 |ow xs=>
  rw[e]at hr;refine L2.thn (ha bx s σ H (λv H1=>∃G1,Step G H G1 H1/\Rep X.K ad G1 (.lst xs) v) I ⟨G,ρ,E,hG,hS,hx,by rw[e];exact λp vs G1 H1 st n m e' q=>dQ st n m e' q⟩) λu s1 ⟨v,H1,I1,r1,G1,st,q⟩=>?_
  exact⟨v,.lst xs,G1,H1,I1,r1,st,.inl q,RK.step hr st⟩
 |ex c=>
  rw[e]at hr;refine L2.thn (ha bx s σ H (λv H1=>False) I ⟨G,ρ,E,hG,hS,hx,by rw[e];exact hr⟩) λu s1 ⟨v,H1,I1,r1,q⟩=>q.elim
 |bad=>
  rw[e]at hr;exact ax hr
theorem rO{k:D->R}{σ:St}{H:Hp}{Q Q':VK}(hG:Same G H)(hS:SL X.K ad G H ρ σ)(hx:XP X ad σ E)(hr:RK X.K ad G H ((f ρ).bind k) Q E)
  (q: ∀v d G1 H1,Step G H G1 H1->Seq X ad G1 H1 d v->RK X.K ad G1 H1 (k d) Q E->Q' v H1):tL X ad f σ H Q':=by
 refine⟨G,ρ,E,hG,hS,hx,?_⟩
 cases e:f ρ with
 |ok d=>
  rw[e]at hr;exact λv G1 H1 st r=>q v d G1 H1 st r (RK.step hr st)
 |ow xs=>
  rw[e]at hr;intro p vs G1 H1 st n m e' r;obtain⟨G2,st2,r2⟩:=dQ (X:=X) (ad:=ad) st n m e' r;exact q _ _ G2 H1 st2 (.inl r2) (RK.step hr st2)
 |ex c=>
  rw[e]at hr;exact hr
 |bad=>
  rw[e]at hr;exact hr
theorem jT{k:List D->R}:lK [f] ρ k=(f ρ).bind λx=>k [x]:=by
 unfold lK args
 cases f ρ<;>rfl
def BOp(X:Cx)(ad:Ad)(fv:Value)(r:Fn):Prop:=
 ∀(bx:cc) (s:Shared) (σ:St) (H G:Hp) (x:D) (v:V) (u:Value) (Q:VK) (E:Nat->Hp->Prop),Inv X bx σ H s->Same G H->Seq X ad G H x v->cD v u->RK X.K ad G H (r [x]) Q E->
  wpAny (model X.prog X.w) X.A (call fv [u]) (EP X bx σ Q) X.xe s
theorem rP{x:Str}{id:String}{r:Fn}(ho:BOp X ad (.builtin id) r)(hg:L2.Gl X x)(hm:X.mg x=none)(hv:bootBuiltins x=some (.builtin id))(ha:ML X ad a f)(hn:x≠"__name__")(hdb:(x==("__debug__":Str))=false)
  (he:starEach [a] X.env=(false,eval a X.env)::starEach [] X.env):ME X ad (.Call (.Name x p) [a] [] pos) (aB r [f]):=by
 refine λbx s σ H Q I h9=>h9.el λG ρ E hG hS hx hr=>?_
 refine wpAny_Call_Name_kw (fK I hg hm hv ?_ hn hdb);unfold aB at hr;rw[jT]at hr;refine PyProof.Rows.callWith_builtin1 (L2.thn (cM ha eK he pos bx s σ H (λvs H1=>∃v d G1,vs=[v]/\Step G H G1 H1/\Seq X ad G1 H1 d v/\RK X.K ad G1 H1 (r [d]) Q E) I ?_) λus s1 ⟨vs,H1,I1,r1,v,d,G1,e1,st,q,k⟩=>?_) he rfl
 ·exact rO hG hS hx hr λv d G1 H1 st q k=>⟨v,d,G1,rfl,st,q,k⟩
 ·subst e1;obtain⟨u,rfl,ru⟩:=mT r1;exact ho bx s1 σ H1 G1 d v u Q E I1 st.gh q ru k
theorem wF{x:Str}{T:String}{r:Fn}(ho:BOp X ad (.type T) r)(hg:L2.Gl X x)(hm:X.mg x=none)(hv:bootBuiltins x=some (.type T))(ha:ML X ad a f)(hn:x≠"__name__")(hdb:(x==("__debug__":Str))=false)
  (he:starEach [a] X.env=(false,eval a X.env)::starEach [] X.env):ME X ad (.Call (.Name x p) [a] [] pos) (aB r [f]):=by
 refine λbx s σ H Q I h9=>h9.el λG ρ E hG hS hx hr=>?_
 refine wpAny_Call_Name_kw (fK I hg hm hv ?_ hn hdb);unfold aB at hr;rw[jT]at hr;refine PyProof.Rows.callWith_type1 (L2.thn (cM ha eK he pos bx s σ H (λvs H1=>∃v d G1,vs=[v]/\Step G H G1 H1/\Seq X ad G1 H1 d v/\RK X.K ad G1 H1 (r [d]) Q E) I ?_) λus s1 ⟨vs,H1,I1,r1,v,d,G1,e1,st,q,k⟩=>?_) he rfl
 ·exact rO hG hS hx hr λv d G1 H1 st q k=>⟨v,d,G1,rfl,st,q,k⟩
 ·subst e1;obtain⟨u,rfl,ru⟩:=mT r1;exact ho bx s1 σ H1 G1 d v u Q E I1 st.gh q ru k
theorem aD9:BOp X ad (.builtin "len") iE:=by
 intro bx s σ H G x v u Q E I hG q ru hr
 have hr':RK X.K ad G H (match items x with|some xs=>.ok (.int xs.length)|none=>aMz x) Q E:=hr
 cases e:items x with
 |none=>
  rw[e]at hr'
  cases x with
  |str z=>
   have hr2:RK X.K ad G H (if z.length<=100000 then .ok (.int z.length)else .bad) Q E:=hr'
   by_cases hl:z.length<=100000
   ·rw[if_pos hl]at hr2;rcases q with q|⟨_,_,_,y,_⟩
    ·unfold Rep at q;subst q;exact oO bx s σ H _ [u] Q I (.cons ru .nil) ⟨_,rfl,Nat.le_trans hl (by decide),hr2.ok_now hG a8⟩
    ·cases y
   ·rw[if_neg hl]at hr2;exact hr2.elim
  |_=>exact ax hr'
 |some ds=>
  rw[e]at hr';obtain⟨p,vs,rfl,hq,rq⟩:=q.items hG e;have hq':SqL X.K H p vs\/SqT X.K H p vs:=hq.elim (λz=>.inr z.2) λz=>.inl z.2
  refine oN bx s σ H [.ref p] [u] Q I (.cons ru .nil) ⟨p,vs,rfl,hq',?_⟩;rw[rq.length];exact hr'.ok_now hG a8
theorem aEa:BOp X ad (.type "int") aB6:=by
 intro bx s σ H G x v u Q E I hG q ru hr
 cases x<;>try exact ax hr
 ·rcases q with q|⟨_,_,_,z,_⟩
  ·unfold Rep at q;subst q;exact oG bx s σ H _ [u] Q I (.cons ru .nil) (.inr ⟨_,rfl,hr.ok_now hG a8⟩)
  ·cases z
 ·rcases q with q|⟨_,_,_,z,_⟩
  ·unfold Rep at q;subst q;exact oG bx s σ H _ [u] Q I (.cons ru .nil) (.inl ⟨_,rfl,hr.ok_now hG a8⟩)
  ·cases z
 ·rename_i x;rcases q with q|⟨_,_,_,z,_⟩
  ·unfold Rep at q;subst q;obtain⟨t,rfl⟩:=(show ∃t,u=Value.str x t from ru)
   have hr':RK X.K ad G H (match x.cps.toList with|[c]=>if 48<=c/\c<58 then .ok (.int ((c-48:Nat):Int))else .bad|_=>.bad) Q E:=hr
   split at hr'
   ·rename_i c ex
    by_cases hc:48<=c/\c<58
    ·rw[if_pos hc]at hr';obtain⟨d,hd,rfl⟩: ∃d,d<10/\c=48+d:=⟨c-48,by lia,by lia⟩
     have ex':x=⟨#[48+d]⟩:=PySem.Str.ext' (by rw[<-Array.toList_inj];exact ex)
     subst ex'
     have hn:PySem.intText? ⟨#[48+d]⟩=some (((48+d-48:Nat):Nat):Int):=(by decide+kernel: ∀d:Fin 10,PySem.intText? ⟨#[48+d.val]⟩=some (((48+d.val-48:Nat):Nat):Int)) ⟨d,hd⟩
     exact PySem.W.KIN.call_text hn (by show 1<=640;decide) ⟨.int _,H,I.tok _,⟨_,rfl⟩,hr'.ok_now hG a8⟩
    ·rw[if_neg hc]at hr';exact hr'.elim
   ·exact hr'.elim
  ·cases z
theorem aAf:BOp X ad (.type "list") rD:=by
 intro bx s σ H G x v u Q E I hG q ru hr
 have hr':RK X.K ad G H (match items x with|some xs=>.ow xs|none=>.bad) Q E:=hr
 cases e:items x with
 |none=>rw[e]at hr';exact hr'.elim
 |some ds=>
  rw[e]at hr';obtain⟨p,vs,rfl,hq,rq⟩:=q.items hG e;have hq':SqL X.K H p vs\/SqT X.K H p vs:=hq.elim (λz=>.inr z.2) λz=>.inl z.2
  exact oP bx s σ H [.ref p] [u] Q I (.cons ru .nil) ⟨p,vs,rfl,hq',λl hl=>hr'.ow_new hG rq hl⟩
theorem wG:BOp X ad (.type "tuple") dG:=by
 intro bx s σ H G x v u Q E I hG q ru hr
 have hr':RK X.K ad G H (match items x with|some xs=>.ok (.tup xs)|none=>.bad) Q E:=hr
 cases e:items x with
 |none=>rw[e]at hr';exact hr'.elim
 |some ds=>
  rw[e]at hr';obtain⟨p,vs,rfl,hq,rq⟩:=q.items hG e;rcases hq with ⟨e2,hq⟩|⟨e2,hq⟩
  ·refine iB bx s σ H [.ref p] [u] Q I (.cons ru .nil) ⟨p,vs,rfl,.inr ⟨hq,hr'.ok_now hG ?_⟩⟩;rcases q with q|⟨_,_,_,z,_⟩
   ·rw[e2]at q;exact q
   ·rw[e2]at z;cases z
  ·exact iB bx s σ H [.ref p] [u] Q I (.cons ru .nil) ⟨p,vs,rfl,.inl ⟨hq,λl hl=>hr'.tup_new hG rq hl⟩⟩
theorem o7: ∀{ds:List D} {ns:List Int} {vs:List V},eF ds=some ns->aH X.K ad G ds vs->vs=ns.map V.int
 |[],ns,vs,e,r=>by
  cases e;unfold aH at r;exact r
 |d::ds,ns,vs,e,r=>by
  cases d<;>try (unfold eF at e;cases e)
  rename_i i;unfold eF at e;obtain⟨ms,e1,e2⟩:=zMd e;subst e2;unfold aH at r;obtain⟨v,r',rfl,r1,r2⟩:=r;unfold Rep at r1;subst r1;rw[o7 e1 r2];rfl
theorem lY: ∀{ds:List D} {ns:List Bool} {vs:List V},eM ds=some ns->aH X.K ad G ds vs->vs=ns.map V.bl
 |[],ns,vs,e,r=>by
  cases e;unfold aH at r;exact r
 |d::ds,ns,vs,e,r=>by
  cases d<;>try (unfold eM at e;cases e)
  rename_i i;unfold eM at e;obtain⟨ms,e1,e2⟩:=zMd e;subst e2;unfold aH at r;obtain⟨v,r',rfl,r1,r2⟩:=r;unfold Rep at r1;subst r1;rw[lY e1 r2];rfl
theorem sT{A:Around}(hh:A.handled=none)(I:Inv X bx σ H s){p:Addr}{vs:List V}(hq:SqL X.K H p vs\/SqT X.K H p vs){Ex:cb}{Q':cb}
  (k: ∀(its:List Value) (s2:Shared) (I':Addr) (fp wr:List Addr) (Stt:Nat->Heap->Prop),bZ vs its->Walks X.prog X.w A I' fp wr its.length (λi v=>its[i]? =some v) Stt->Stt 0 s2.heap->(∀b∈fp,b<s2.heap.objs.size)->s2.os=s.os->s2.gens=s.gens->s2.drawn=s.drawn->
   (∀b o,s.heap.get? b=some o->b∉wr)->(∀b o,s.heap.get? b=some o->s2.heap.get? b=some o)->Q' (.ref I') s2):wpAny (model X.prog X.w) A (pyIter (.ref p)) Q' Ex s:=by
 rcases hq with hq|hq
 ·obtain⟨its,rv,pl,_⟩:=I.list hq;have hlt:p<s.heap.objs.size:=by obtain⟨o,n,e,_⟩:=pl;exact ah e
  refine wpAny_pyIter_list pl.isList (k its _ s.heap.objs.size [s.heap.objs.size,p] [s.heap.objs.size] (λi h=>h.IsListIter s.heap.objs.size p i/\h.IsList p its.toArray) rv ?_ (And.intro ⟨_,ag _ rfl,rfl,rfl⟩ ?_) ?_ rfl rfl rfl ?_ ?_)
  ·have W:=Walks.list (prog:=X.prog) (w:=X.w) hh s.heap.objs.size p (bf hlt) its.toArray;simpa using W
  ·obtain⟨o,n,e,c,d⟩:=pl;exact⟨o,af _ e,c,n,d.2⟩
  ·intro b hb;rcases aq.mp hb with rfl|hb
   ·rw[ai];exact Nat.lt_succ_self _
   ·have:b=p:=by simpa using hb
    subst this;rw[ai];exact Nat.lt_succ_of_lt hlt
  ·intro b o e hb
   have:b=s.heap.objs.size:=by simpa using hb
   subst this;exact absurd (ah e) (Nat.lt_irrefl _)
  ·exact λb o e=>af _ e
 ·obtain⟨its,rv,pl,_⟩:=I.tuple hq;have hlt:p<s.heap.objs.size:=pl.lt;refine wpAny_pyIter_tuple (show s.heap.IsTuple p its.toArray from pl) (k its _ s.heap.objs.size [s.heap.objs.size,p] [s.heap.objs.size] (λi h=>h.IsTupleIter s.heap.objs.size p i/\h.IsTuple p its.toArray) rv ?_ (And.intro ⟨_,ag _ rfl,rfl,rfl⟩ ?_) ?_ rfl rfl rfl ?_ ?_)
  ·have W:=Walks.tuple (prog:=X.prog) (w:=X.w) hh s.heap.objs.size p (bf hlt) its.toArray;simpa using W
  ·obtain⟨o,e,c⟩:=pl;exact⟨o,af _ e,c⟩
  ·intro b hb;rcases aq.mp hb with rfl|hb
   ·rw[ai];exact Nat.lt_succ_self _
   ·have:b=p:=by simpa using hb
    subst this;rw[ai];exact Nat.lt_succ_of_lt hlt
  ·intro b o e hb
   have:b=s.heap.objs.size:=by simpa using hb
   subst this;exact absurd (ah e) (Nat.lt_irrefl _)
  ·exact λb o e=>af _ e
end
section
variable {X:Cx} {ad:Ad} {bx:cc} {s:Shared} {σ:St} {H G:Hp} {ρ:Rho} {Q:VK} {E:Nat->Hp->Prop} {pos p:Pos} {a b c:Expr} {f g h:F}
theorem _root_.L2.Inv.moved{wr:List Addr}{s2 s':Shared}(I:Inv X bx σ H s)(k1: ∀b o,s.heap.get? b=some o->s2.heap.get? b=some o)(k2: ∀b o,s.heap.get? b=some o->b∉wr)(e1:s2.os=s.os)(e2:s2.gens=s.gens)(e3:s2.drawn=s.drawn)
  (m:Moved wr (λa b=>b=a) s2 s'):Inv X bx σ H s':=by
 have e:s'={s with heap:=s'.heap,toks:=s'.toks}:=by
  obtain⟨h',g',d',t',o'⟩:=s';obtain⟨m1,m2,m3,m4,m5⟩:=m
  simp only at m2 m3 m4 ⊢
  rw[m2,m3,m4,e1,e2,e3]
 rw[e];exact I.kept λb o q=>m.heap b o (k2 b o q) (k1 b o q)
theorem aIq{ns:List Int}{its:List Value}(r:bZ (ns.map V.int) its){i:Nat}{v:Value}(e:its[i]? =some v): ∃t,v= .int (ns.getD i 0) t:=by
 have hl:=r.length;have hi:i<its.length:=(av.mp e).1;have hi':i<ns.length:=by rw[am]at hl;lia
 have e1:(ns.map V.int)[i]? =some (V.int ns[i]):=by simp[hi']
 obtain⟨u,e2,t,e3⟩:=r.get e1;rw[e]at e2;cases e2;refine⟨t,?_⟩;rw[e3];simp[List.getD,hi']
theorem aEb(hh:X.A.handled=none):BOp X ad (.builtin "sum") v0:=by
 intro bx s σ H G x v u Q E I hG q ru hr
 have hr':RK X.K ad G H (match(items x).bind eF with|some xs=>.ok (.int xs.sum)|none=>.bad) Q E:=hr
 cases e:items x with
 |none=>rw[e]at hr';exact hr'.elim
 |some ds=>
  rw[e]at hr'
  have hr2:RK X.K ad G H (match eF ds with|some xs=>.ok (.int xs.sum)|none=>.bad) Q E:=hr'
  cases e2:eF ds with
  |none=>rw[e2]at hr2;exact hr2.elim
  |some ns=>
   rw[e2]at hr2;obtain⟨p,vs,rfl,hq,rq⟩:=q.items hG e;have hq':SqL X.K H p vs\/SqT X.K H p vs:=hq.elim (λz=>.inr z.2) λz=>.inl z.2
   cases (show u=Value.ref p from ru)
   have ev:=o7 e2 rq;subst ev;refine call_sum_walkAnyS (sT (A:=X.A.in1) hh I hq' λits s2 I' fp wr Stt rv W st hfp h1 h2 h3 h4 h5=>?_)
   refine⟨I',fp,wr,_,its.length,_,_,λi=>ns.getD i 0,rfl,W.toS,st,hfp,λi v e=>aIq rv e,λs' t' m=>?_⟩
   refine⟨.int ns.sum,H,I.moved h5 h4 h1 h2 h3 m,⟨t',?_⟩,hr2.ok_now hG a8⟩;rw[preSum_getD, <-rv.length,am,List.take_length]
theorem aLy{ns:List Bool}{its:List Value}(r:bZ (ns.map V.bl) its){i:Nat}{v:Value}(e:its[i]? =some v):v= .bool (ns.getD i false):=by
 have hl:=r.length;have hi:i<its.length:=(av.mp e).1;have hi':i<ns.length:=by rw[am]at hl;lia
 have e1:(ns.map V.bl)[i]? =some (V.bl ns[i]):=by simp[hi']
 obtain⟨u,e2,e3⟩:=r.get e1;rw[e]at e2;cases e2
 have e4:v= .bool ns[i]:=e3
 rw[e4];simp[List.getD,hi']
theorem wH(ns:List Bool):(List.range ns.length).all (λi=>ns.getD i false)=ns.all id:=by
 induction ns with
 |nil=>rfl
 |cons x xs ih=>
  rw[bo,List.range_succ_eq_map,List.all_cons,List.all_map,List.all_cons]
  have:(List.range xs.length).all ((λi=>(x::xs).getD i false) ∘ Nat.succ)=xs.all id:=by
   rw[<-ih];rfl
  rw[this];rfl
theorem aEc(hh:X.A.handled=none):BOp X ad (.builtin "all") aH2:=by
 intro bx s σ H G x v u Q E I hG q ru hr
 have hr':RK X.K ad G H (match(items x).bind eM with|some xs=>.ok (.bl (xs.all id))|none=>.bad) Q E:=hr
 cases e:items x with
 |none=>rw[e]at hr';exact hr'.elim
 |some ds=>
  rw[e]at hr'
  have hr2:RK X.K ad G H (match eM ds with|some xs=>.ok (.bl (xs.all id))|none=>.bad) Q E:=hr'
  cases e2:eM ds with
  |none=>rw[e2]at hr2;exact hr2.elim
  |some ns=>
   rw[e2]at hr2;obtain⟨p,vs,rfl,hq,rq⟩:=q.items hG e;have hq':SqL X.K H p vs\/SqT X.K H p vs:=hq.elim (λz=>.inr z.2) λz=>.inl z.2
   cases (show u=Value.ref p from ru)
   have ev:=lY e2 rq;subst ev;refine call_all_walkS (sT (A:=X.A.in1) hh I hq' λits s2 I' fp wr Stt rv W st hfp h1 h2 h3 h4 h5=>?_)
   refine⟨I',fp,wr,_,its.length,_,_,λi=>ns.getD i false,rfl,W.toS,st,?_,λs' m=>?_⟩
   ·intro i v s' Q' E' e3 hQ;rw[aLy rv e3];exact wpAny_truthy_bool hQ
   ·refine⟨.bl _,H,I.moved h5 h4 h1 h2 h3 m,?_,hr2.ok_now hG bP⟩;rw[<-rv.length,am,wH];rfl
theorem aAg{α:Type}{ds:List α}(h:ds.length=2): ∃d e,ds=[d,e]:=by
 cases ds with
 |nil=>cases h
 |cons d r=>
  cases r with
  |nil=>cases h
  |cons e r=>
   cases r with
   |nil=>exact⟨d,e,rfl⟩
   |cons _ _=>simp at h
theorem aGs{x:Str}{id:String}{r:Fn}{op:Int->Int->Int}(hd: ∀i j,r [.int i,.int j]= .ok (.int (op i j)))(hb0: ∀x y Q E G H,RK X.K ad G H (r [x,y]) Q E->∃i j,x= .int i/\y= .int j)
  (ho:mS X (.builtin id) (λxs H Q=>∃i j,xs=[.int i,.int j]/\Q (.int (op i j)) H)) (hg:L2.Gl X x) (hm:X.mg x=none) (hv:bootBuiltins x=some (.builtin id)) (ha:ME X ad a f) (hb:ME X ad b g) (hn:x≠"__name__")
  (hdb:(x==("__debug__":Str))=false) (he:starEach [a,b] X.env=(false,eval a X.env)::starEach [b] X.env) (he2:starEach [b] X.env=(false,eval b X.env)::starEach [] X.env):ME X ad (.Call (.Name x p) [a,b] [] pos) (aB r [f,g]):=by
 refine PE.imp (zR (id:=id) ho hg hm hv (rM ha (rM hb aCi he2) he) hn hdb he (by rw[he2];rfl)) ?_
 rintro σ H Q ⟨G,ρ,E,hG,hS,hx,hr⟩;refine rN hG hS hx hr λvs ds G1 H1 st rq hl k=>?_
 obtain⟨d,e,rfl⟩:=aAg hl;obtain⟨i,j,rfl,rfl⟩:=hb0 d e Q E G1 H1 k;unfold aH at rq;obtain⟨v,r',rfl,r1,r2⟩:=rq;unfold aH at r2;obtain⟨v',r'',rfl,r3,r4⟩:=r2;unfold aH at r4;subst r4;unfold Rep at r1 r3;subst r1;subst r3;rw[hd]at k;exact⟨i,j,rfl,k.ok_now st.gh a8⟩
def aAh(K:PySem.W.Frag)(ad:Ad)(n:Nat)(F:Fn):Sp:=λvs H Q E=>∃G ds,Same G H/\aH K ad G ds vs/\ds.length=n/\RK K ad G H (F ds) Q (λc H'=>E (.ref (ad.cls c)) none H')
theorem wI{CX:CXT}{k:Nat}{f:Addr}{fd:FuncData}{ps:List Str}{sp:Sp}{E:XK}{us:List Value}{vs:List V}(F:FnOk X.prog X.w X.K X.mg X.base CX k f fd ps sp)(hr:Room k X.A)(hb:kA X.K fd ps [])
  (I:Inv X bx σ H s) (r:bZ vs us) (h:sp vs H Q E) (hx: ∀e s',CX X.stack H s E e s'->X.xe e s'):wpAny (model X.prog X.w) X.A (call (.ref f) us) (EP X bx σ Q) X.xe s:=by
 have hl:(us++[]).length=ps.length:=by rw[List.append_nil, <-r.length];exact F.len _ _ _ _ h
 refine wpAny_call (codeAny_mono (F.run X.A X.stack s H ⟨us,[]⟩ us vs Q E hr I.env0 (by have:=hb s us I.kIn hl;rwa [List.append_nil]at this) r h) λr s' hq=>?_)
 cases r with
 |error e=>exact hx e s' hq
 |ok fl=>
  cases fl with
  |ret u=>exact I.after hq
  |next=>exact ax hq
  |brk=>exact ax hq
  |cont=>exact ax hq
structure FnGood(X:Cx)(ad:Ad)(k:Nat)(x:Str)(n:Nat)(F:Fn)(f:Addr):Prop where
 mg:X.mg x=some (.ref f)
 kp:PySem.W.keepIn X.K (.ref f)=true
 ok: ∃fd ps,FnOk X.prog X.w X.K X.mg X.base (CXe X.prog X.w) k f fd ps (aAh X.K ad n F)/\kA X.K fd ps []
theorem wJ{k n:Nat}{x:Str}{F:Fn}{f:Addr}{us:List Value}{vs:List V}{ds:List D}(T:FnGood X ad k x n F f)(hr:Room k X.A)(I:Inv X bx σ H s)(hG:Same G H)(hx:XP X ad σ E)(r:bZ vs us)(rq:aH X.K ad G ds vs)(hl:ds.length=n)
  (h:RK X.K ad G H (F ds) Q E):wpAny (model X.prog X.w) X.A (call (.ref f) us) (EP X bx σ Q) X.xe s:=by
 obtain⟨fd,ps,F',hb⟩:=T.ok;exact wI (E:=xk ad E) F' hr hb I r ⟨G,ds,hG,rq,hl,h.impE λc H' e=>⟨c,rfl,e⟩⟩ λe s' hc=>hx bx H s e s' I hc
theorem aEd{k n:Nat}{x:Str}{F:Fn}{f:Addr}{es:List Expr}{fs:List SK.F}(T:FnGood X ad k x n F f)(hr:Room k X.A)(hg:L2.Gl X x)(hdb:(x==("__debug__":Str))=false)(ha:MA X ad (a::es) fs)(hn:fs.length=n)
  (he:starEach (a::es) X.env=(false,eval a X.env)::starEach es X.env) (hpl:(backTo pos (starEach es X.env)).any (·.1)=false):ME X ad (.Call (.Name x p) (a::es) [] pos) (aB F fs):=by
 refine λbx s σ H Q I h9=>h9.el λG ρ E hG hS hx hr'=>?_
 refine wpAny_Call_Name_kw (mR I hg T.mg ?_ hdb)
 refine PySem.W.callWith_K (h₀:=X.base) I.ok.mod.kin T.kp (L2.thn (ha pos bx s σ H (λvs H1=>∃ds G1,Step G H G1 H1/\aH X.K ad G1 ds vs/\ds.length=fs.length/\RK X.K ad G1 H1 (F ds) Q E) I
  (rN hG hS hx hr' λvs ds G1 H1 st rq hl k=>⟨ds,G1,st,rq,hl,k⟩)) λus s1 ⟨vs,H1,I1,r,ds,G1,st,rq,hl,k⟩=>⟨I1.kIn,?_⟩) he hpl
 exact wJ T hr I1 st.gh hx r rq (hl.trans hn) k
structure FnAt(X:Cx)(ad:Ad)(k:Nat)(n:Nat)(F:Fn)(f:Addr):Prop where
 kp:PySem.W.keepIn X.K (.ref f)=true
 ok: ∃fd ps,FnOk X.prog X.w X.K X.mg X.base (CXe X.prog X.w) k f fd ps (aAh X.K ad n F)/\kA X.K fd ps []
theorem aEe{k n:Nat}{F:Fn}{f:Addr}{us:List Value}{vs:List V}{ds:List D}(T:FnAt X ad k n F f)(hr:Room k X.A)(I:Inv X bx σ H s)(hG:Same G H)(hx:XP X ad σ E)(r:bZ vs us)(rq:aH X.K ad G ds vs)(hl:ds.length=n)
  (h:RK X.K ad G H (F ds) Q E):wpAny (model X.prog X.w) X.A (call (.ref f) us) (EP X bx σ Q) X.xe s:=by
 obtain⟨fd,ps,F',hb⟩:=T.ok;exact wI (E:=xk ad E) F' hr hb I r ⟨G,ds,hG,rq,hl,h.impE λc H' e=>⟨c,rfl,e⟩⟩ λe s' hc=>hx bx H s e s' I hc
theorem sU{tab:List (Nat×Fn)}{e:Expr}{g:SK.F}{es:List Expr}{fs:List SK.F}(T: ∀j n F,tab[j]? =some (n,F)->∃r,FnAt X ad r n F (ad.fnA j)/\Room r X.A)(hg:ME X ad e g)(ha:MA X ad (a::es) fs)
  (he:starEach (a::es) X.env=(false,eval a X.env)::starEach es X.env) (hpl:(backTo pos (starEach es X.env)).any (·.1)=false)
  (hev:eval (.Call e (a::es) [] pos) X.env=(do callWith pos (<-eval e X.env) [] (backTo pos (starEach (a::es) X.env)) (backToKw pos (keywordEach [] X.env)))):ME X ad (.Call e (a::es) [] pos) (iD tab g fs):=by
 refine λbx s σ H Q I h9=>h9.el λG ρ E hG hS hx hr=>?_
 refine Call_ (L2.thn (hg.thn I hG hS hx hr) λu s1 ⟨v,d,G1,H1,I1,r1,st,q,k1⟩=>?_) hev
 cases d<;>try exact ax k1
 rename_i j
 have k2:RK X.K ad G1 H1 (match tab[j]? with|some (n,f)=>if n=fs.length then lK fs ρ f else .bad|none=>.bad) Q E:=k1
 cases e1:tab[j]? with
 |none=>rw[e1]at k2;exact k2.elim
 |some nf=>
  obtain⟨n,F⟩:=nf;rw[e1]at k2
  have k3:RK X.K ad G1 H1 (if n=fs.length then lK fs ρ F else .bad) Q E:=k2
  by_cases hn:n=fs.length
  ·rw[if_pos hn]at k3;unfold Rep at q;subst q
   cases (show u=Value.ref (ad.fnA j) from r1)
   obtain⟨r,FA,hro⟩:=T j n F e1
   refine PySem.W.callWith_K (h₀:=X.base) I1.ok.mod.kin FA.kp (L2.thn (ha pos bx s1 σ H1 (λvs H2=>∃ds G2,Step G1 H1 G2 H2/\aH X.K ad G2 ds vs/\ds.length=fs.length/\RK X.K ad G2 H2 (F ds) Q E) I1
    (rN st.gh (hS.step st) hx k3 λvs ds G2 H2 st2 rq hl k=>⟨ds,G2,st2,rq,hl,k⟩)) λus s2 ⟨vs,H2,I2,r2,ds,G2,st2,rq,hl,k⟩=>⟨I2.kIn,?_⟩) he hpl
   exact aEe FA hro I2 st2.gh hx r2 rq (hl.trans hn.symm) k
  ·rw[if_neg hn]at k3;exact k3.elim
end
noncomputable def qQ(cells:List (Str×Addr)):List (Str×NameKind)->List (Str×Addr)->List (Str×Addr)
 |[],acc=>acc
 |(x,k)::r,acc=>qQ cells r (if k== .free then(x,(cells.lookup x).getD 0)::acc else acc)
theorem nA{cells:List (Str×Addr)}: ∀{ns:List (Str×NameKind)} {acc:List (Str×Addr)} {x:Str} {c:Addr},(qQ cells ns acc).lookup x=some c->(∃k,(x,k)∈ns/\k= .free/\c=(cells.lookup x).getD 0)\/acc.lookup x=some c
 |[],acc,x,c,h=>.inr h
 |(y,k)::r,acc,x,c,h=>by
  rcases nA (ns:=r) h with ⟨k',h1,h2,h3⟩|h
  ·exact .inl ⟨k',.tail _ h1,h2,h3⟩
  ·by_cases hk:(k==NameKind.free)=true
   ·rw[if_pos hk,List.lookup_cons]at h
    cases hx:x==y with
    |true=>
     rw[hx]at h
     have e:x=y:=eq_of_beq hx
     subst e;exact .inl ⟨k,.head _,eq_of_beq hk,(Option.some.inj h).symm⟩
    |false=>
     rw[hx]at h;exact .inr h
   ·rw[if_neg hk]at h;exact .inr h
theorem sV{cells:List (Str×Addr)}: ∀{ns:List (Str×NameKind)} {acc:List (Str×Addr)} {x:Str},(acc.lookup x).isSome=true->((qQ cells ns acc).lookup x).isSome=true
 |[],_,_,h=>h
 |(y,k)::r,acc,x,h=>by
  refine sV (ns:=r) ?_
  by_cases hk:(k==NameKind.free)=true
  ·rw[if_pos hk,List.lookup_cons]
   cases x==y with
   |true=>rfl
   |false=>exact h
  ·rw[if_neg hk];exact h
theorem nB{cells:List (Str×Addr)}: ∀{ns:List (Str×NameKind)} {acc:List (Str×Addr)} {x:Str},(x,NameKind.free)∈ns->((qQ cells ns acc).lookup x).isSome=true
 |[],_,_,h=>nomatch h
 |(y,k)::r,acc,x,h=>by
  rcases aq.mp h with e|h
  ·cases e;refine sV (ns:=r) ?_;rw[if_pos (by rfl),List.lookup_cons,beq_self_eq_true]
   rfl
  ·exact nB (ns:=r) h
theorem lZ{sc:Scope}{env:PySem.Env}(h: ∀x,(x,NameKind.free)∈sc.names->(env.cells.lookup x).isSome=true):closureFor sc env=pure (qQ env.cells sc.names []):=by
 have go: ∀(ns:List (Str×NameKind)) (acc:List (Str×Addr)),(∀x,(x,NameKind.free)∈ns->(env.cells.lookup x).isSome=true)->
   (forIn ns acc (λ(p:Str×NameKind) (cs:List (Str×Addr))=>if p.2== .free then do let c<-cellOf env p.1;pure (ForInStep.yield ((p.1,c)::cs))else pure (ForInStep.yield cs)):Sem (List (Str×Addr)))=pure (qQ env.cells ns acc):=by
  intro ns
  induction ns with
  |nil=>intro acc _;rfl
  |cons p r ih=>
   intro acc hp;obtain⟨x,k⟩:=p;rw[List.forIn_cons]
   by_cases hk:(k==NameKind.free)=true
   ·have ek:k= .free:=eq_of_beq hk
    subst ek;obtain⟨c,hc⟩:=Option.isSome_iff_exists.mp (hp x (.head _))
    have e1:cellOf env x=pure c:=by unfold cellOf;rw[hc]
    have e2:=ih ((x,c)::acc) λy hy=>hp y (.tail _ hy)
    simp only[beq_self_eq_true,if_true,e1]
    show(forIn r ((x,c)::acc) _:Sem (List (Str×Addr)))=_
    rw[e2];show pure _=pure (qQ env.cells r (if(NameKind.free==NameKind.free)=true then(x,(env.cells.lookup x).getD 0)::acc else acc))
    rw[if_pos (by rfl),hc]
    rfl
   ·simp only[hk]
    show(forIn r acc _:Sem (List (Str×Addr)))=_
    rw[ih acc λy hy=>hp y (.tail _ hy)]
    show pure _=pure (qQ env.cells r (if(k==NameKind.free)=true then _ else acc))
    rw[if_neg hk]
 have e:=go sc.names [] h
 have e2:closureFor sc env=((forIn sc.names ([]:List (Str×Addr)) (λ(p:Str×NameKind) (cs:List (Str×Addr))=>if p.2== .free then do let c<-cellOf env p.1;pure (ForInStep.yield ((p.1,c)::cs))else pure (ForInStep.yield cs)):Sem (List (Str×Addr))) >>= λcs=>pure cs):=rfl
 rw[e2,e];rfl
theorem b7{env:PySem.Env}{x:Str}: ∀{names:List (Str×NameKind)},(names.map λ(n,k)=>if(k==NameKind.free&&env.scope.kind== .function&&env.kindOf n==some .cell)then(n,NameKind.cell)else(n,k)).lookup x=
  (names.lookup x).map λk=>if(k==NameKind.free&&env.scope.kind== .function&&env.kindOf x==some .cell)then NameKind.cell else k
 |[]=>rfl
 |(n,k)::r=>by
  rw[List.map_cons];have ih:= @b7 env x r;show List.lookup x ((if(k==NameKind.free&&env.scope.kind== .function&&env.kindOf n==some .cell)=true then(n,NameKind.cell)else(n,k))::_)=_
  by_cases hc:(k==NameKind.free&&env.scope.kind== .function&&env.kindOf n==some .cell)=true
  ·rw[if_pos hc,List.lookup_cons,List.lookup_cons]
   cases hx:x==n with
   |true=>
    have e:x=n:=eq_of_beq hx
    subst e;simp only[Option.map,hc,if_true]
   |false=>exact ih
  ·rw[if_neg hc,List.lookup_cons,List.lookup_cons]
   cases hx:x==n with
   |true=>
    have e:x=n:=eq_of_beq hx
    subst e;simp only[Option.map];rw[if_neg hc]
   |false=>exact ih
def aKq:Nat->Nat->TGs
 |_,0=>aK3
 |j,n+1=>aDf (jN j) (aKq (j+1) n)
noncomputable def gX:Nat->List V->St->St
 |_,[],σ=>σ
 |j,v::r,σ=>gX (j+1) r (σ.set j (some v))
theorem wK: ∀{vs:List V} {j:Nat} {σ:St} {H:Hp} {Q:St->Hp->Prop},Q (gX j vs σ) H->aKq j vs.length vs σ H Q
 |[],_,_,_,_,h=>⟨rfl,h⟩
 |v::r,j,σ,H,Q,h=>⟨v,r,rfl,wK (vs:=r) (j:=j+1) (σ:=σ.set j (some v)) h⟩
theorem e9: ∀{vs:List V} {j:Nat} {σ:St},(gX j vs σ).length=σ.length
 |[],_,_=>rfl
 |v::r,j,σ=>by
  show(gX (j+1) r (σ.set j (some v))).length=_
  rw[e9 (vs:=r),List.length_set]
theorem kR: ∀{vs:List V} {j i:Nat} {σ:St},j+vs.length<=i\/i<j->(gX j vs σ)[i]? =σ[i]?
 |[],_,_,_,_=>rfl
 |v::r,j,i,σ,h=>by
  show(gX (j+1) r (σ.set j (some v)))[i]? =_
  simp only[bo]at h;rw[kR (vs:=r) (by lia),ay (by lia)]
theorem o8: ∀{vs:List V} {j i:Nat} {σ:St} {v:V},vs[i]? =some v->j+vs.length<=σ.length->(gX j vs σ)[j+i]? =some (some v)
 |[],_,_,_,_,h,_=>by simp at h
 |w::r,j,0,σ,v,h,hl=>by
  simp at h
  subst h
  show(gX (j+1) r (σ.set j (some w)))[j]? =_
  rw[kR (vs:=r) (.inr (by lia)),bg (by simp only[bo]at hl;lia)]
 |w::r,j,i+1,σ,v,h,hl=>by
  show(gX (j+1) r (σ.set j (some w)))[j+(i+1)]? =_
  have e:j+(i+1)=(j+1)+i:=by lia
  rw[e];exact o8 (vs:=r) (by simpa using h) (by simp only[bo,List.length_set]at hl ⊢;lia)
section
variable {X:Cx} {ad:Ad}
theorem o9(hN:X.N.Nodup): ∀{es:List Expr} {xs:List Str} {j:Nat},gE (λ(e:Expr)=>match e with|.Name x _=>some x|_=>none) es=some xs->(∀(i:Nat) (x:Str),xs[i]? =some x->X.N[j+i]? =some x/\X.env.scope.names.lookup x=some .local)->PGs X es (aKq j xs.length)
 |[],xs,j,e,_=>by
  cases e;exact vO
 |a::es,xs,j,e,h=>by
  unfold gE at e
  cases a<;>try (cases e)
  rename_i x px
  simp only at e
  obtain⟨r,e1,e2⟩:=zMd e;subst e2;obtain⟨h1,h2⟩:=h 0 x rfl;refine sI (j8 hN (by simpa using h1) (.inl h2) (.inr h2)) (o9 hN e1 λi y hy=>?_) rfl
  obtain⟨h3,h4⟩:=h (i+1) y (by simpa using hy)
  exact⟨by rw[<-h3];congr 1;lia,h4⟩
def gTg(K:PySem.W.Frag)(k:Nat):TG:=match k with
 |0=>jN 0
 |n+1=>aHd K (n+1) (aKq 0 (n+1))
theorem aLz{tg:Expr}{xs:List Str}{k:Nat}(hc:X.calm=true)(hN:X.N.Nodup)(e:cE tg=some (xs,k))(h: ∀(i:Nat) (x:Str),xs[i]? =some x->X.N[i]? =some x/\X.env.scope.names.lookup x=some .local):PG X tg (gTg X.K k):=by
 cases tg<;>try (cases e)
 ·rename_i x px;obtain⟨h1,h2⟩:=h 0 x rfl;exact j8 hN h1 (.inl h2) (.inr h2)
 ·rename_i es j px;unfold cE at e;obtain⟨ys,e1,e2⟩:=zBd e
  by_cases hl:2<=ys.length
  ·rw[if_pos hl]at e2;cases e2
   have P:=o9 (X:=X) hN (j:=0) e1 λi x hx=>by
    obtain⟨h1,h2⟩:=h i x hx;exact⟨by rw[Nat.zero_add];exact h1,h2⟩
   have hlen:(assignEach es X.env).length=xs.length/\(assignEach es X.env).findIdx? (·.1)=none:=by
    clear P hl h e
    induction es generalizing xs with
    |nil=>cases e1;exact⟨rfl,rfl⟩
    |cons a r ih=>
     unfold gE at e1
     cases a<;>try (cases e1)
     rename_i z pz
     simp only at e1
     obtain⟨r',e3,e4⟩:=zMd e1;subst e4;obtain⟨i1,i2⟩:=ih e3
     have ec:assignEach (Expr.Name z pz::r) X.env=(false,assign (.Name z pz) X.env)::assignEach r X.env:=rfl
     rw[ec];refine⟨by simp[i1],?_⟩
     rw[List.findIdx?_cons];simp[i2]
   obtain⟨n,hn⟩: ∃n,xs.length=n+1:=⟨xs.length-1,by lia⟩
   rw[hn]at P ⊢;exact aB0 hc P (by rw[<-hn];exact hlen.1) hlen.2
  ·rw[if_neg hl]at e2;cases e2
end
structure ItH(X:Cx)(ad:Ad)(J:It)(G H:Hp)(ds:List D):Prop where
 go: ∀(i:Nat) (G1 H1:Hp) (d:D),Step G H G1 H1->ds[i]? =some d->J.go i H1/\∀x H2,J.yld i H1 x H2->∃G2,Step G1 H1 G2 H2/\Rep X.K ad G2 d x
 stop: ∀(G1 H1:Hp),Step G H G1 H1->J.stop ds.length H1
 few:ds.length<=sizeLine
def IK(X:Cx)(ad:Ad)(G H:Hp)(r:R)(W:It->Hp->Prop)(E:Nat->Hp->Prop):Prop:=match r with
 |.ok d=>∃ds,iC d=some ds/\∀J G' H',Step G H G' H'->ItH X ad J G' H' ds->W J H'
 |.ow xs=>∀J G' H',Step G H G' H'->ItH X ad J G' H' xs->W J H'
 |.ex c=>∀G' H',Step G H G' H'->E c H'
 |.bad=>False
def tI(X:Cx)(ad:Ad)(f:F):TI:=λσ H W=>∃G ρ E,Same G H/\SL X.K ad G H ρ σ/\XP X ad σ E/\IK X ad G H (f ρ) W E
abbrev MI(X:Cx)(ad:Ad)(tg e:Expr)(f:F):Prop:=PI X tg e (tI X ad f)
def Cel(sc:Scope):Prop:=oX sc=[]\/∃x,oX sc=[x]/\sc.names.lookup x=some .cell
theorem cf0: ∀{ns:List (Str×NameKind)} {a:Nat} {acc:List (Str×Addr)},(ns.filter λp=>p.2== .cell).map (·.1)=[]->cellsFrom a ns acc=acc/\∀h,pushCells h ns=h
 |[],_,_,_=>⟨rfl,λ_=>rfl⟩
 |(y,k)::r,a,acc,e=>by
  by_cases hk:(k==NameKind.cell)=true
  ·simp[List.filter_cons,hk]at e
  ·have e':(r.filter λp=>p.2== .cell).map (·.1)=[]:=by simpa[List.filter_cons,hk]using e
   obtain⟨h1,h2⟩:=cf0 (a:=a) (acc:=acc) e';unfold cellsFrom pushCells;exact⟨by rw[if_neg hk];exact h1,λh=>by rw[if_neg hk];exact h2 h⟩
theorem cf1: ∀{ns:List (Str×NameKind)} {a:Nat} {acc:List (Str×Addr)} {x:Str},(ns.filter λp=>p.2== .cell).map (·.1)=[x]->cellsFrom a ns acc=(x,a)::acc/\∀h,pushCells h ns=h.push {cls:=.type "cell",data:=.cell none}
 |[],_,_,_,e=>by simp at e
 |(y,k)::r,a,acc,x,e=>by
  by_cases hk:(k==NameKind.cell)=true
  ·have e':y=x/\(r.filter λp=>p.2== .cell).map (·.1)=[]:=by simpa[List.filter_cons,hk]using e
   obtain⟨rfl,e'⟩:=e';obtain⟨h1,h2⟩:=cf0 (a:=a+1) (acc:=(y,a)::acc) e';unfold cellsFrom pushCells;exact⟨by rw[if_pos hk];exact h1,λh=>by rw[if_pos hk];exact h2 _⟩
  ·have e':(r.filter λp=>p.2== .cell).map (·.1)=[x]:=by simpa[List.filter_cons,hk]using e
   obtain⟨h1,h2⟩:=cf1 (a:=a) (acc:=acc) e';unfold cellsFrom pushCells;exact⟨by rw[if_neg hk];exact h1,λh=>by rw[if_neg hk];exact h2 h⟩
def clC(X:Cx)(sc:Scope)(L:Addr):List (Str×Addr):=cellsFrom (L+1) sc.names (qQ X.env.cells sc.names [])
theorem fA{X:Cx}{sc:Scope}{L:Addr}{y:Str}{c:Addr}(hc:Cel sc)(h:(clC X sc L).lookup y=some c):(oX sc=[y]/\c=L+1)\/(qQ X.env.cells sc.names []).lookup y=some c:=by
 unfold clC at h;rcases hc with e|⟨x,e,_⟩
 ·rw[(cf0 e).1]at h;exact .inr h
 ·rw[(cf1 e).1,List.lookup_cons]at h
  cases q:y==x with
  |true=>rw[q]at h;rw[eq_of_beq q];exact .inl ⟨e,(Option.some.inj h).symm⟩
  |false=>rw[q]at h;exact .inr h
theorem wL{X:Cx}{sc:Scope}{L:Addr}{x:Str}(e:oX sc=[x]):(clC X sc L).lookup x=some (L+1):=by
 unfold clC;rw[(cf1 e).1,List.lookup_cons,beq_self_eq_true]
theorem sW{X:Cx}{sc:Scope}{L:Addr}{y:Str}{c:Addr}(hc:Cel sc)(hy:sc.names.lookup y=some .free)(h:(qQ X.env.cells sc.names []).lookup y=some c):(clC X sc L).lookup y=some c:=by
 unfold clC;rcases hc with e|⟨x,e,hx⟩
 ·rw[(cf0 e).1];exact h
 ·rw[(cf1 e).1,List.lookup_cons]
  cases q:y==x with
  |true=>rw[eq_of_beq q,hx]at hy;cases hy
  |false=>exact h
def cX(X:Cx)(N':List Str)(sc:Scope)(s3:Shared)(H3:Hp)(fp:List Addr)(bx:cc):Cx:=
 {X with N:=N',s₀:=s3,H₀:=H3,env:=compEnvC sc (clC X sc s3.heap.objs.size) s3.heap.objs.size X.env,outer:=X.stack,stack:=X.stack,ex:=fp,fn:=λy=>decide (oX sc=[y]),pn:=X.pn++bx,xe:=λ_ _=>False}
section
variable {X:Cx} {ad:Ad} {bx:cc} {s s3:Shared} {σ:St} {H H3 G:Hp} {ρ:Rho} {Q:VK} {E:Nat->Hp->Prop} {pos:Pos} {sc:Scope} {N':List Str} {fp:List Addr}
theorem aAi{Y:Cx}{σ:St}(h:Y.xe=λ_ _=>False):XP Y ad σ (λ_ _=>False):=by
 intro bx H s e s' I hc;obtain⟨ea,cls,a0,H',B,_,_,_,_,_,_,_,_,_,c,_,z⟩:=hc;exact z.elim
theorem Un.sameBut{fs ex:List Addr}{H H':Hp}{h h1 h2:Heap}{C:Addr}(u:Un fs ex H H' h h1)(sb:Heap.SameBut C h1 h2)(hC:h.objs.size<=C):Un fs ex H H' h h2:=by
 have ne: ∀b o,h.get? b=some o->b≠C:=λb o e z=>by
  subst z;exact absurd (bd (ah e) hC) (Nat.lt_irrefl _)
 refine⟨λb o e n hb hx=>?_,λb o e n hb hx=>?_,u.free,λb o e hx=>?_,u.tups,u.frzs,u.tbls⟩
 ·exact(sb.2 b (ne b o e)).trans (u.keep b o e n hb hx)
 ·obtain⟨sl,z⟩:=u.slot b o e n hb hx;exact⟨sl,(sb.2 b (ne b o e)).trans z⟩
 ·obtain⟨o',z⟩:=u.there b o e hx;exact⟨o',(sb.2 b (ne b o e)).trans z⟩
theorem aAj{fpO: ∀b∈fp,n6 X bx H3 b}{h4:Heap}{m:Str->Option Value}{t':Nat}(I:Inv X bx σ H3 s3)(hk:sc.kind= .function)(hc:Cel sc)
  (hfree: ∀x,(x,NameKind.free)∈sc.names->X.env.kindOf x=some .cell\/X.env.kindOf x=some .free) (hnd: ∀x,(x,NameKind.free)∈sc.names->sc.names.lookup x=some .free)
  (hfo: ∀b∈fp,b<s3.heap.objs.size) (hns:h4.Ns s3.heap.objs.size m) (hkeep: ∀b o,s3.heap.get? b=some o->h4.get? b=some o) (hnew: ∀x,oX sc=[x]->h4.IsCell (s3.heap.objs.size+1) none)
  {σc:St} (hl:σc.length=N'.length) (hσ: ∀(i:Nat) (x:Str) (v:V),N'[i]? =some x->σc[i]? =some (some v)->∃j:Nat,X.N[j]? =some x/\σ[j]? =some (some v)/\(x,NameKind.free)∈sc.names):
  Inv (cX X N' sc s3 H3 fp bx) [] σc H3 {s3 with heap:=h4,toks:=t'}:=by
 have hcl: ∀x c,(qQ X.env.cells sc.names []).lookup x=some c->(x,NameKind.free)∈sc.names/\X.env.cells.lookup x=some c:=λx c e=>by
  rcases nA e with ⟨k,h1,h2,h3⟩|h
  ·subst h2;refine⟨h1,?_⟩;obtain⟨c',hc'⟩:=I.ok.has x (hfree x h1);rw[hc']at h3;rw[h3];exact hc'
  ·cases h
 have hlt: ∀x c,(qQ X.env.cells sc.names []).lookup x=some c->c<s3.heap.objs.size:=λx c e=>by
  obtain⟨v,o,ho,_⟩:=I.cell x c (hcl x c e).2;exact ah ho
 have stk: ∀b,b∈frs X.stack->b=X.env.locals\/b∈X.fs:=λb hb=>aq.mp (I.stkSub b hb)
 refine⟨⟨I.ok.mod,hk,I.ok.glob,I.ok.blt,aj _,λx y c h1 h2=>?_,λx hx=>?_,λx c h1 h2=>?_,I.ok.hd,I.ok.frames,.inl rfl,λb hb=>?_,I.bs,Nat.le_trans I.ok.bsz I.sz,λb o e hb=>?_,λb hb hb'=>?_,I.stack,I.stkFree⟩,
  rfl,I.bare,Un.kept hkeep,⟨m,hns,λi x v h1 h2 h3=>?_⟩,λx c h=>?_,I.hok.fresh (aj _),λx c h=>?_,λq hq=>?_,I.hok.kept hkeep,hl⟩
 ·rcases fA hc h1 with ⟨e1,z1⟩|z1
  ·rcases fA hc h2 with ⟨e2,z2⟩|z2
   ·rw[e1]at e2;exact(List.cons.inj e2).1
   ·have:=hlt y c z2
    rw[z1]at this;exact absurd this (Nat.not_lt.mpr (Nat.le_succ _))
  ·rcases fA hc h2 with ⟨e2,z2⟩|z2
   ·have:=hlt x c z1
    rw[z2]at this;exact absurd this (Nat.not_lt.mpr (Nat.le_succ _))
   ·exact I.ok.inj x y c (hcl x c z1).2 (hcl y c z2).2
 ·-- a name that is a cell here was free in the scope
  have e:(sc.names.lookup x).map (λk=>if(k==NameKind.free&&X.env.scope.kind== .function&&X.env.kindOf x==some .cell)then NameKind.cell else k)=some .cell\/(sc.names.lookup x).map (λk=>if(k==NameKind.free&&X.env.scope.kind== .function&&X.env.kindOf x==some .cell)then NameKind.cell else k)=some .free:=by
   rw[<-b7];exact hx
  cases q:sc.names.lookup x with
  |none=>rw[q]at e;rcases e with e|e<;>cases e
  |some k=>
   have hm:=PySem.mem_of_lookup q
   by_cases hkk:k= .free
   ·subst hkk;obtain⟨c,hc'⟩:=Option.isSome_iff_exists.mp (nB (cells:=X.env.cells) (acc:=[]) hm);exact⟨c,sW hc q hc'⟩
   ·have hkf:(k==NameKind.free)=false:=by simpa using hkk
    rw[q]at e;simp only[Option.map,hkf,Bool.false_and]at e;rcases e with e|e
    ·have hkc:k= .cell:=by simpa using e
     subst hkc;have hmem:x∈oX sc:=ao.mpr ⟨(x,.cell),List.mem_filter.mpr ⟨hm,by simp⟩,rfl⟩
     have hx1:oX sc=[x]:=by
      rcases hc with z|⟨y,z,_⟩
      ·rw[z]at hmem;cases hmem
      ·rw[z]at hmem ⊢;rw[List.mem_singleton.mp hmem]
     exact⟨_,wL hx1⟩
    ·exact absurd (by simpa using e) hkk
 ·have hx1:oX sc=[x]:=of_decide_eq_true h1
  have:=h2.symm.trans (wL hx1)
  cases this;exact Nat.le_succ _
 ·obtain⟨f0,f1,f2,f3,f4,f5⟩:=fpO b hb;refine⟨bf (hfo b hb),λx c h=>?_⟩
  rcases fA hc h with ⟨_,z⟩|z
  ·rw[z];exact(bf (Nat.lt_succ_of_lt (hfo b hb))).symm
  ·exact f4 x c (hcl x c z).2
 ·obtain⟨f0,f1,f2,f3,f4,f5⟩:=fpO b hb;rcases f3 with z|z
  ·exact I.ok.noex b o e z
  ·exact absurd (bd (ah e) (Nat.le_trans I.ok.bsz z)) (Nat.lt_irrefl _)
 ·obtain⟨f0,f1,f2,f3,f4,f5⟩:=fpO b hb;rcases stk b hb' with z|z
  ·exact f1 z
  ·exact f2 z
 ·obtain⟨j,j1,j2,j3⟩:=hσ i x v h1 h2;obtain⟨m0,hn0,hl0⟩:=I.loc;have hkx:=hfree x j3
  have vis:Vis X.env.scope x:=by
   rcases hkx with z|z
   ·exact .inr (.inl z)
   ·exact .inr (.inr z)
  obtain⟨u,r,l⟩:=hl0 j x v j1 j2 vis;refine⟨u,r,.inr ?_⟩;rcases l with ⟨z,_⟩|⟨_,c,hcc,hcell'⟩
  ·rcases hkx with z'|z'
   ·have:X.env.kindOf x=some .local:=z
    rw[z']at this;cases this
   ·have:X.env.kindOf x=some .local:=z
    rw[z']at this;cases this
  ·refine⟨?_,c,?_,?_⟩
   ·have e1:(relabel sc X.env).names.lookup x=(sc.names.lookup x).map (λk=>if(k==NameKind.free&&X.env.scope.kind== .function&&X.env.kindOf x==some .cell)then NameKind.cell else k):=b7
    have e2:(relabel sc X.env).names.lookup x=some .cell\/(relabel sc X.env).names.lookup x=some .free:=by
     rw[e1,hnd x j3];simp only[Option.map];split
     ·exact .inl rfl
     ·exact .inr rfl
    exact e2
   ·obtain⟨c',hc'⟩:=Option.isSome_iff_exists.mp (nB (cells:=X.env.cells) (acc:=[]) j3)
    have:=(hcl x c' hc').2
    rw[hcc]at this;cases this;exact sW hc (hnd x j3) hc'
   ·obtain⟨o,ho,hd⟩:=hcell';exact⟨o,hkeep _ _ ho,hd⟩
 ·rcases fA hc h with ⟨e,z⟩|z
  ·rw[z];exact⟨none,hnew x e⟩
  ·obtain⟨v,o,ho,hd⟩:=I.cell x c (hcl x c z).2;exact⟨v,o,hkeep _ _ ho,hd⟩
 ·rcases fA hc h with ⟨e,z⟩|z
  ·rw[z];exact I.hok.fresh (Nat.le_succ _)
  ·exact I.freeC x c (hcl x c z).2
 ·have hq':q∈X.pn++bx:=by
   have h2:q∈(X.pn++bx)++[]:=hq
   rwa [List.append_nil]at h2
  obtain⟨e,n,ne,nf,d⟩:=I.pin q hq';refine⟨hkeep _ _ e,n,bf (ah e),λz=>?_,d⟩
  rcases stk _ z with z|z
  ·exact ne z
  ·exact nf z
theorem aCk{fpO: ∀b∈fp,n6 X bx H3 b}{σc:St}{H':Hp}{s':Shared}{h':Heap}{pn':cc}(I:Inv X bx σ H3 s3)(J:Inv (cX X N' sc s3 H3 fp bx) pn' σc H' s')(sb:Heap.SameBut s3.heap.objs.size s'.heap h'):Inv X bx σ H' {s' with heap:=h'}:=by
 have hfree:H' s3.heap.objs.size=none:=J.free
 refine I.call' (ch:=fp) (s':={s' with heap:=h'}) J.os (Un.sameBut J.base sb (aj _)) (λb u e=>?_) J.bare λb hb=>?_
 ·refine(J.hok b u e).stay (λc v hc q=>?_) (λ_ q=>q) λ_ _ q=>q
  have ne:c≠s3.heap.objs.size:=by
   rintro rfl;rcases hc with z|z
   ·rw[<-z]at e;rw[hfree]at e;cases e
   ·rw[hfree]at z;cases z
  exact(sb.2 c ne).trans q
 ·obtain⟨f0,f1,f2,f3,f4,f5⟩:=fpO b hb;exact⟨f3,f1,f4,f5⟩
theorem rQ{prog:Program}{w:World}{A:Around}{Rr:Result->Shared->Prop}{s:Shared}{elt target iter:Expr}{ifs:List Expr}{scope:Scope}{pos:Pos}{it acc:Value}{env:PySem.Env}(Iv:Nat->Shared->Prop)
  (turn: ∀n s,Iv n s->wpAny (model prog w) A (pyNext it) (λr s₁=>match r with
   |none=>Rr (.ok .next) s₁
   |some v=>wpAny (model prog w) A (letOwnedTupleGo target it v) (λ_ s₁'=>wpAny (model prog w) A (assign target env v) (λ_ s₂=>
     wpAny (model prog w) A (forIn ifs true λc r=>if r=true then do let ok<-isTrue c env (eval c env);pure (ForInStep.yield ok)else pure (ForInStep.yield r)) (λok s₃=>
      if ok=true then wpAny (model prog w) A (eval elt env) (λx s₄=>
       wpAny (model prog w) A (call (.builtin "list.append") [acc,x]) (λ_ s₅=>∃m,m<n/\Iv m s₅) (λ_ _=>False) s₄) (λ_ _=>False) s₃
      else ∃m,m<n/\Iv m s₃) (λ_ _=>False) s₂) (λ_ _=>False) s₁') (λ_ _=>False) s₁) (λ_ _=>False) s)
  (n:Nat) (h:Iv n s):
  codeAny (model prog w) A (.compLoop (.ListComp elt [⟨target,iter,ifs,0⟩] scope pos) 0 it acc env) Rr s:=by
 refine codeAny_loop rfl Iv (λn s hI=>?_) n h
 show wpAny _ A ((compTurn (.ListComp elt [⟨target,iter,ifs,0⟩] scope pos) 0 it acc env).onRaise (λx=>do noteFrame x env;theTreesLotGoes x)) _ _ s
 refine wpAny_noted (wpAny_noRaise ?_);rw[compTurn_list];refine aa (wpAny_standAt (aa (wpAny_mono (turn n s hI) (λr s₁ h₁=>?_) λ_ _ h'=>h')))
 cases r with
 |none=>exact ae h₁
 |some v=>
  refine aa (wpAny_mono h₁ (λ_ s₁' h₁'=>?_) λ_ _ h'=>h')
  refine aa (wpAny_mono h₁' (λ_ s₂ h₂=>aa (wpAny_mono h₂ (λok s₃ h₃=>?_) λ_ _ h'=>h')) λ_ _ h'=>h')
  cases ok with
  |false=>exact ae ⟨rfl,h₃⟩
  |true=>
   exact aa (aa (wpAny_mono h₃ (λx s₄ h₄=>aa (wpAny_mono h₄ (λ_ s₅ h₅=>ae (ae ⟨rfl,h₅⟩)) λ_ _ h'=>h')) λ_ _ h'=>h'))
theorem kS{f:D->Option (Option D)}{d:D}{r all:List D}(h:bL f (d::r)=some all):(f d=some none/\bL f r=some all)\/∃x all',f d=some (some x)/\bL f r=some all'/\all=x::all':=by
 unfold bL at h
 cases e:f d with
 |none=>rw[e]at h;cases h
 |some o=>
  rw[e]at h
  cases o with
  |none=>exact .inl ⟨rfl,h⟩
  |some x=>
   obtain⟨a,h1,h2⟩:=zMd h;exact .inr ⟨x,a,rfl,h1,h2.symm⟩
theorem wM{K:PySem.W.Frag}{G H:Hp}{ts cs:List Slot}{σ:St}(h:SL K ad G H (ts++cs) σ):SL K ad G H (ak ts.length .no++cs) σ:=by
 refine⟨by rw[<-h.len];simp,λi sl e=>?_⟩
 by_cases hi:i<ts.length
 ·rw[bt (by simpa using hi),List.getElem?_replicate,if_pos hi]at e
  cases e;have hl:i<σ.length:=by rw[<-h.len,bj];lia
  exact⟨σ[i],by simp[hl],trivial⟩
 ·rw[bh (by simpa using hi),List.length_replicate]at e
  refine h.at_ i sl ?_;rw[bh (by lia)]
  exact e
theorem aCl{K:PySem.W.Frag}{G H:Hp}{n:Nat}{cs:List Slot}{σ:St}{ds:List D}{vs:List V}(h:SL K ad G H (ak n .no++cs) σ)(r:aH K ad G ds vs)(hn:ds.length=n):SL K ad G H (ds.map Slot.sh++cs) (gX 0 vs σ):=by
 have hv:=r.length;have hl:=h.len;rw[bj,List.length_replicate]at hl;refine⟨by rw[e9,bj,am];lia,λi sl e=>?_⟩
 by_cases hi:i<n
 ·rw[bt (by rw[am];lia),List.getElem?_map]at e
  cases e1:ds[i]? with
  |none=>rw[e1]at e;cases e
  |some d=>
   rw[e1]at e;cases e;obtain⟨v,e2,r2⟩:=r.get e1;refine⟨some v,?_,v,rfl,r2⟩
   have:=o8 (j:=0) (σ:=σ) e2 (by lia)
   rwa [Nat.zero_add]at this
 ·rw[bh (by rw[am];lia),am,hn]at e
  obtain⟨ov,h1,h2⟩:=h.at_ i sl (by rw[bh (by rw[List.length_replicate];lia),List.length_replicate];exact e)
  exact⟨ov,by rw[kR (.inl (by lia))];exact h1,h2⟩
theorem aIr{K:PySem.W.Frag}{k:Nat}{d:D}{v:V}{ts cs:List Slot}{n:Nat}{σ:St}{G H Hs:Hp}{W:St->Hp->Prop}(e:tgt k d=some ts)(hn:n=if k=0 then 1 else k)(hG:Same G H)(r:Rep K ad G d v)
  (h:SL K ad G Hs (ak n .no++cs) σ) (q: ∀σ',σ'.length=σ.length->SL K ad G Hs (ts++cs) σ'->W σ' H):ts.length=n/\gTg K k v σ H W:=by
 cases k with
 |zero=>
  cases e;subst hn;refine⟨rfl,q _ (by rw[List.length_set]) ?_⟩
  have:=aCl (ds:=[d]) (vs:=[v]) h (aH.cons r aH.nil) rfl
  exact this
 |succ k=>
  unfold tgt at e
  cases d<;>try (cases e)
  rename_i ds
  simp only at e
  by_cases hl:ds.length=k+1
  ·rw[if_pos hl]at e;cases e;rw[if_neg (by lia)]at hn
   subst hn;unfold Rep at r;obtain⟨a,vs,rfl,hq,rq⟩:=r;refine⟨by rw[am];exact hl,a,vs,rfl,hG.seqT hq,by rw[rq.length];exact hl,?_⟩
   have hvl:vs.length=k+1:=by rw[rq.length];exact hl
   have:=wK (vs:=vs) (j:=0) (σ:=σ) (H:=H) (Q:=W) (q _ e9 (aCl h rq hl))
   rwa [hvl]at this
  ·rw[if_neg hl]at e;cases e
end
section
variable {X:Cx} {ad:Ad} {bx:cc} {s s2 s3:Shared} {σ:St} {H H2 H3 G G2:Hp} {ρ:Rho} {Q:VK} {E:Nat->Hp->Prop} {pos:Pos} {sc:Scope} {N':List Str} {fp:List Addr}
 {tg it elt:Expr} {ifs:List Expr} {k nt:Nat} {xs:List Str} {cs:List Slot} {fc:Option F} {fe:F}
theorem kT{x:Str}: ∀{N:List Str} {i:Nat},idx x N=some i->N[i]? =some x
 |[],_,e=>by cases e
 |y::r,i,e=>by
  unfold idx at e
  by_cases h:x=y
  ·rw[if_pos h]at e;cases e;subst h;rfl
  ·rw[if_neg h]at e;obtain⟨j,e1,e2⟩:=zMd e;subst e2;simpa using kT e1
def MTs(X:Cx)(ad:Ad)(ifs:List Expr)(fc:Option F):Prop:=match ifs,fc with
 |[],none=>True
 |[c],some f=>MT X ad c f
 |_,_=>False
def aEf(K:PySem.W.Frag)(ad:Ad)(H G':Hp)(d:SK.D)(v:V):Prop:= ∃l q ws,d= .lst l/\v= .ref q/\H q=none/\G' q=some (.lst ws)/\aH K ad G' l ws
def RN(K:PySem.W.Frag)(ad:Ad)(H G':Hp):List SK.D->List V->Prop:=Paired (aEf K ad H G')
theorem aEf.up{K:PySem.W.Frag}{H H1 G' G2:Hp}{d:SK.D}{v:V}(h:aEf K ad H1 G' d v)(s:Same H H1)(t:Same G' G2):aEf K ad H G2 d v:=by
 obtain⟨l,q,ws,h1,h2,h3,h4,h5⟩:=h;exact⟨l,q,ws,h1,h2,s.free h3,t _ _ h4,h5.mono t⟩
theorem RN.mono{K:PySem.W.Frag}{H G' G2:Hp}{ds:List SK.D}{vs:List V}(h:RN K ad H G' ds vs)(t:Same G' G2):RN K ad H G2 ds vs:=Paired.mapP h λ_ _ z=>z.up (Same.refl _) t
theorem RN.snoc{K:PySem.W.Frag}{H G':Hp}{d:SK.D}{v:V}(h:aEf K ad H G' d v): ∀{ds:List SK.D} {vs:List V},RN K ad H G' ds vs->RN K ad H G' (ds++[d]) (vs++[v])
 |_,_,.nil=>.cons h .nil
 |_,_,.cons a r=>.cons a (RN.snoc h r)
theorem ME.val{a:Expr}{f:F}{x:SK.D}(ha:ME X ad a f)(I:Inv X bx σ H s)(hG:Same G H)(hS:SL X.K ad G H ρ σ)(hx:XP X ad σ E)(hf:f ρ= .ok x\/∃l,f ρ= .ow l/\x= .lst l):
  wpAny (model X.prog X.w) X.A (eval a X.env) (λu s1=>∃v G1 H1,Inv X bx σ H1 s1/\cD v u/\Step G H G1 H1/\Rep X.K ad G1 x v/\((∀y,f ρ≠ .ok y)->aEf X.K ad H G1 x v)) X.xe s:=by
 rcases hf with e|⟨l,e,rfl⟩
 ·exact L2.thn (ha bx s σ H (λv H1=>∃G1,Step G H G1 H1/\Rep X.K ad G1 x v) I ⟨G,ρ,E,hG,hS,hx,by rw[e];exact λv G1 H1 st q=>⟨G1,st,q⟩⟩) λu s1 ⟨v,H1,I1,r1,G1,st,q⟩=>⟨v,G1,H1,I1,r1,st,q,λz=>absurd e (z x)⟩
 ·exact L2.thn (ha bx s σ H (λv H1=>∃G1,Step G H G1 H1/\Rep X.K ad G1 (.lst l) v/\aEf X.K ad H G1 (.lst l) v) I ⟨G,ρ,E,hG,hS,hx,by
   rw[e];intro p vs G1 H1 st n m e' q;have q':=q.mono (Same.upd_new (o:=.lst vs) m);exact⟨upd G1 p (.lst vs),st.share n m e',by unfold Rep;exact⟨p,vs,rfl,SqL.of a9,q'⟩,l,p,vs,rfl,rfl,n,a9,q'⟩⟩) λu s1 ⟨v,H1,I1,r1,G1,st,q,nw⟩=>⟨v,G1,H1,I1,r1,st,q,λ_=>nw⟩
theorem MT.val{a:Expr}{f:F}{k:Bool}(ha:MT X ad a f)(I:Inv X bx σ H s)(hG:Same G H)(hS:SL X.K ad G H ρ σ)(hx:XP X ad σ E)(hf:f ρ= .ok (.bl k)):
  wpAny (model X.prog X.w) X.A (isTrue a X.env (eval a X.env)) (λb s1=>b=k/\∃G1 H1,Inv X bx σ H1 s1/\Step G H G1 H1) X.xe s:=by
 exact L2.thn (ha bx s σ H (λb H1=>b=k/\∃G1,Step G H G1 H1) I ⟨G,ρ,E,hG,hS,hx,.inl ⟨k,hf⟩,by rw[hf];exact λv G1 H1 st q=>⟨k,by unfold Rep at q;exact q,rfl,G1,st⟩⟩) λb s1 ⟨H1,I1,e,G1,st⟩=>⟨e,G1,H1,I1,st⟩
theorem fB{G1 H1 G2 H2:Hp}{D:Addr}{vs:List V}(st:Step G1 H1 G2 H2)(g:G1 D=none)(h:H1 D=some (.lst vs)):G2 D=none/\H2 D=some (.lst vs):=by
 refine⟨?_,st.sh _ _ h⟩
 cases z:G2 D with
 |none=>rfl
 |some o=>
  have:=st.nw D g (by rw[z];exact λz=>nomatch z)
  rw[h]at this;cases this
theorem pA{G1 H1 G2 H2:Hp}{D:Addr}{o:HO}(st:Step G1 H1 G2 H2)(n:H1 D=none)(g:G2 D=none):Step G1 H1 G2 (upd H2 D o):=by
 refine⟨st.sg,λb u e=>?_,λb u e=>?_,st.nw⟩
 ·have ne:b≠D:=λz=>by subst z;rw[g]at e;cases e
  rw[aO ne];exact st.gh b u e
 ·have ne:b≠D:=λz=>by subst z;rw[n]at e;cases e
  rw[aO ne];exact st.sh b u e
def hid(D:Addr)(H:Hp):Hp:=λb=>if b=D then none else H b
theorem kU{D b:Addr}{H:Hp}(h:b≠D):hid D H b=H b:=by unfold hid;rw[if_neg h]
theorem gF{D:Addr}{H:Hp}:hid D H D=none:=by unfold hid;rw[if_pos rfl]
theorem wN{D:Addr}{H:Hp}:Same (hid D H) H:=λb o e=>by
 by_cases z:b=D
 ·subst z;rw[gF]at e;cases e
 ·rwa [kU z]at e
theorem wO{D:Addr}{H:Hp}{o:HO}:hid D (upd H D o)=hid D H:=by
 funext b
 by_cases z:b=D
 ·subst z;rw[gF,gF]
 ·rw[kU z,kU z,aO z]
theorem aIs{D:Addr}{H:Hp}(h:H D=none):hid D H=H:=by
 funext b
 by_cases z:b=D
 ·subst z;rw[gF,h]
 ·rw[kU z]
theorem jU{G1 H1 G2 H2:Hp}{D:Addr}(st:Step G1 H1 G2 H2)(g:G2 D=none):Step G1 (hid D H1) G2 (hid D H2):=by
 refine⟨st.sg,λb u e=>?_,λb u e=>?_,λb h1 h2=>?_⟩
 ·have ne:b≠D:=λz=>by subst z;rw[g]at e;cases e
  rw[kU ne];exact st.gh b u e
 ·have ne:b≠D:=λz=>by subst z;rw[gF]at e;cases e
  rw[kU ne]at e ⊢;exact st.sh b u e
 ·by_cases z:b=D
  ·subst z;exact gF
  ·rw[kU z];exact st.nw b h1 h2
theorem SL.up{K:PySem.W.Frag}{G H H':Hp}{ρ:Rho}{σ:St}(h:SL K ad G H ρ σ)(s:Same H H'):SL K ad G H' ρ σ:=by
 refine⟨h.len,λi sl e=>?_⟩
 obtain⟨ov,h1,h2⟩:=h.at_ i sl e;refine⟨ov,h1,?_⟩
 cases sl with
 |no=>trivial
 |sh d=>exact h2
 |ow xs=>
  obtain⟨a,vs,e1,e2,e3,e4⟩:=h2;exact⟨a,vs,e1,e2,s _ _ e3,e4⟩
theorem aAk{M:Model}{A:Around}{Ex:cb}{s:Shared}{sc:Scope}{gl:Addr}{cl:List (Str×Addr)}{q:Str}{o:PySem.Env}{Q:PySem.Env->Shared->Prop}(hc:Cel sc)
  (h: ∀h4:Heap,h4.Ns s.heap.objs.size (λ_=>none)->(∀b ob,s.heap.get? b=some ob->h4.get? b=some ob)->(∀x,oX sc=[x]->h4.IsCell (s.heap.objs.size+1) none)->
   Q (newEnv sc s.heap.objs.size gl (cellsFrom (s.heap.objs.size+1) sc.names cl) q none .none (some o) builtinsNs) {s with heap:=h4}):
  wpAny M A (newFunctionEnv sc gl cl [] q none .none (some o)) Q Ex s:=by
 simp only[newFunctionEnv,Option.isSome_some,if_true];refine aa (wpAny_alloc ?_);refine aa (wpAny_layCells _ (λname kind cells=>by cases hkc:kind==NameKind.cell<;>simp[hkc]) _ _ _ _ ?_)
 have hns:(s.heap.push {cls:=.type "dict",data:=.dict #[]}).Ns s.heap.objs.size (λ_=>none):=Heap.Ns.new s.heap (.type "dict")
 have hkp: ∀b ob,s.heap.get? b=some ob->(pushCells (s.heap.push {cls:=.type "dict",data:=.dict #[]}) sc.names).get? b=some ob:=λb ob e=>pushCells_keeps _ _ b ob (af _ e)
 have hz:(s.heap.push {cls:=.type "dict",data:=.dict #[]}:Heap).objs.size=s.heap.objs.size+1:=ai ..;rw[List.forIn_nil];refine aa (ae (ae ?_))
 have:=h _ (hns.keeps (pushCells_keeps _ _)) hkp λx e=>by
  rw[(cf1 (a:=0) (acc:=[]) e).2];refine⟨{cls:=.type "cell",data:=.cell none},?_,rfl⟩;rw[<-hz];exact ag _ rfl
 rw[<-hz]at this;exact this
theorem pB{W:Prop}(hw:W->∀ρ y,fe ρ≠ .ok y){J:It}{ds all:List D}{itA:Addr}{tn:Nat->Heap->Prop}{RR:Value->Addr->Result->Shared->Prop}{Ex:cb}(hc:X.calm=true)(I2:Inv X bx σ H2 s2)(T:Turn X.prog X.w X.K tg J fp itA tn)(st2:tn 0 s2.heap)
  (f2: ∀b∈fp,n6 X bx H2 b) (hit:ItH X ad J G2 H2 ds) (hgo:bL (cW k cs fc fe) ds=some all) (hG2:Same G2 H2)
  (hk:sc.kind= .function) (hC:Cel sc)
  (hfree: ∀x,(x,NameKind.free)∈sc.names->X.env.kindOf x=some .cell\/X.env.kindOf x=some .free) (hnd: ∀x,(x,NameKind.free)∈sc.names->sc.names.lookup x=some .free)
  {σc:St} (hl:σc.length=N'.length) (hσ: ∀(i:Nat) (x:Str) (v:V),N'[i]? =some x->σc[i]? =some (some v)->∃j:Nat,X.N[j]? =some x/\σ[j]? =some (some v)/\(x,NameKind.free)∈sc.names)
  (hnt:nt=if k=0 then 1 else k) (hsl:SL X.K ad G2 H2 (ak nt .no++cs) σc)
  (hg: ∀s3 H3 pins',PG (cX X N' sc s3 H3 fp pins') tg (gTg X.K k)) (hts: ∀s3 H3 pins',MTs (cX X N' sc s3 H3 fp pins') ad ifs fc) (he: ∀s3 H3 pins',ME (cX X N' sc s3 H3 fp pins') ad elt fe)
  (hEnd: ∀(s3 s':Shared) (H3 H' G':Hp) (σ':St) (D:Addr) (vs:List V),Inv X bx σ H3 s3->(∀b∈fp,n6 X bx H3 b)->Inv (cX X N' sc s3 H3 fp bx) [] σ' H' s'->Step G2 H2 G' H'->H2 D=none->G' D=none->H' D=some (.lst vs)->aH X.K ad G' all vs->(W->RN X.K ad H2 G' all vs)->RR (.ref D) s3.heap.objs.size (.ok .next) s'):
  wpAny (model X.prog X.w) X.A (newList []) (λacc s₃=>wpAny (model X.prog X.w) X.A (newFunctionEnv sc X.env.globals (qQ X.env.cells sc.names []) [] X.env.qual none .none (some X.env)) (λcenv s₄=>
   codeAny (model X.prog X.w) X.A (.compStart (.ListComp elt [⟨tg,it,ifs,0⟩] sc pos) 0 (.ref itA) acc {cenv with scope:=relabel sc X.env}) (RR acc cenv.locals) s₄) Ex s₃) Ex s2:=by
 refine wpAny_newObj_type ?_
 have hD:H2 s2.heap.objs.size=none:=I2.fresh
 have I3:Inv X bx σ (upd H2 s2.heap.objs.size (.lst [])) {s2 with heap:=s2.heap.push {cls:=.type "list",data:=.seq ([]:List Value).toArray} }:=I2.lnew (t':=s2.toks) .nil (bq _)
 generalize e3:({s2 with heap:=s2.heap.push {cls:=.type "list",data:=.seq ([]:List Value).toArray} }:Shared)=s3 at I3
 have hsz:s3.heap.objs.size=s2.heap.objs.size+1:=by rw[<-e3];exact ai ..
 have hk3: ∀b o,s2.heap.get? b=some o->s3.heap.get? b=some o:=λb o e=>by rw[<-e3];exact af _ e
 generalize eD:s2.heap.objs.size=D at hD I3 hsz ⊢;generalize eH:upd H2 D (.lst [])=H3 at I3
 have hH3D:H3 D=some (.lst []):=by rw[<-eH];exact a9
 have hstep3:Step G2 H2 G2 H3:=by rw[<-eH];exact Step.own hG2 hD
 have hfo: ∀b∈fp,b<D:=λb hb=>by
  obtain⟨o,e,_⟩:=T.obj 0 _ st2 b hb;rw[<-eD];exact ah e
 have f3: ∀b∈fp,n6 X bx H3 b:=λb hb=>by
  obtain⟨f0,fr⟩:=f2 b hb;refine⟨?_,fr⟩;rw[<-eH,aO (bf (hfo b hb))];exact f0
 refine aAk hC λh4 hns hkeep4 hnew4=>?_
 have I4:Inv (cX X N' sc s3 H3 fp bx) [] σc H3 {s3 with heap:=h4}:=
  aAj (t':=s3.toks) (fpO:=f3) I3 hk hC hfree hnd (λb hb=>bd (hfo b hb) (by rw[hsz];exact Nat.le_succ _)) hns hkeep4 hnew4 hl hσ
 have st4:tn 0 h4:=T.keep _ _ _ st2 λb hb o e=>hkeep4 b o (hk3 b o e)
 have few:=hit.few
 -- what holds of the iterator's objects in the block
 have stat: ∀{H':Hp},(∀b∈fp,H' b=none)->∀b∈fp,n6 (cX X N' sc s3 H3 fp bx) [] H' b:=λ{H'} hn b hb=>by
  obtain⟨f0,f1,f2',f3',f4,f5⟩:=f3 b hb;refine⟨hn b hb,?_,λz=>?_,.inl hb,λx c h=>?_,λq hq=>?_⟩
  ·have hle:D<=s3.heap.objs.size:=by rw[hsz];exact Nat.le_succ _
   exact bf (bd (hfo b hb) hle)
  ·rcases aq.mp (I3.stkSub b z)with z|z
   ·exact f1 z
   ·exact f2' z
  ·rcases fA hC h with ⟨_,z⟩|h'
   ·have hle:D<=s3.heap.objs.size:=by rw[hsz];exact Nat.le_succ _
    rw[z];exact(bf (Nat.lt_succ_of_lt (bd (hfo b hb) hle))).symm
   rcases nA h' with ⟨kk,h1,h2,h3⟩|h
   ·subst h2;obtain⟨c',hc'⟩:=I3.ok.has x (hfree x h1);rw[hc']at h3
    have e:c=c':=h3
    rw[e];exact f4 x c' hc'
   ·cases h
  ·have h2:q∈(X.pn++bx)++[]:=hq;rw[List.append_nil]at h2;exact f5 q h2
 have loop: ∀s4:Shared,s4={s3 with heap:=h4}->
   codeAny (model X.prog X.w) X.A (.compLoop (.ListComp elt [⟨tg,it,ifs,0⟩] sc pos) 0 (.ref itA) (.ref D) (cX X N' sc s3 H3 fp bx).env) (RR (.ref D) s3.heap.objs.size) s4:=by
  rintro s4 rfl
  obtain⟨Iv,hIv⟩: ∃Iv:Nat->Shared->Prop, ∀n s',Iv n s'↔ ∃(i:Nat) (σ':St) (H' G':Hp) (ys eA:List SK.D) (vs:List V),Inv (cX X N' sc s3 H3 fp bx) [] σ' H' s'/\tn i s'.heap/\(∀b∈fp,H' b=none)/\Step G2 H2 G' H'/\G' D=none/\H' D=some (.lst vs)/\aH X.K ad G' ys vs/\
   bL (cW k cs fc fe) (ds.drop i)=some eA/\ys++eA=all/\i<=ds.length/\n=ds.length-i/\ys.length<=i/\SL X.K ad G' (hid D H') (ak nt .no++cs) σ'/\(W->RN X.K ad H2 G' ys vs):=⟨_,λ_ _=>Iff.rfl⟩
  refine rQ Iv ?_ ds.length
   ((hIv _ _).mpr ⟨0,σc,H3,G2,[],all,[],I4,st4,λb hb=>(f3 b hb).1,hstep3,oY hG2 hD,hH3D,aH.nil,hgo,rfl,bq _,rfl,aj _,by rw[<-eH,wO,aIs hD];exact hsl,λ_=>.nil⟩)
  intro n s5 hI5;obtain⟨i,σ5,H5,G5,ys,eA,vs,I5,st5,fr5,sp5,gD5,hD5,r5,go5,eq5,hi5,rfl,hy5,sl5,rn5⟩:=(hIv _ _).mp hI5
  by_cases hlt:i<ds.length
  ·-- a turn
   have ed:ds[i]? =some ds[i]:=by simp[hlt]
   generalize ds[i]=d at ed
   have edrop:ds.drop i=d::ds.drop (i+1):=by
    rw[List.drop_eq_getElem_cons hlt]
    congr 1
    have:=av.mp ed
    exact this.2
   rw[edrop]at go5;obtain⟨go,yl⟩:=hit.go i G5 H5 d sp5 ed;refine L2.thn (T.item (cX X N' sc s3 H3 fp bx) rfl rfl rfl hc i [] s5 σ5 H5 (λ_ _=>False) I5 (stat fr5) st5 go) λr s6 hz_=>?_
   obtain⟨u,hr,h6⟩:=hz_;subst hr;refine L2.thn h6 λ_ s7 hz_=>?_
   obtain⟨x,H7,I7,r7,y7,st7,fr7⟩:=hz_;obtain⟨G7,sp7,rx7⟩:=yl x H7 y7;have I7':=I7.pinned (stat fr7) (T.obj _ _ st7);obtain⟨gD7,hD7⟩:=fB sp7 gD5 hD5;have sl7:=sl5.step (jU sp7 gD7)
   -- the target
   have hcomp: ∃ts,tgt k d=some ts:=by
    cases z:tgt k d with
    |some ts=>exact⟨ts,rfl⟩
    |none=>
     exfalso;rcases kS go5 with ⟨e,_⟩|⟨x',_,e,_,_⟩<;>(unfold cW at e;rw[z]at e;cases e)
   obtain⟨ts,ets⟩:=hcomp;obtain⟨htl,gt⟩:=aIr (W:=λσ' H'=>H'=H7/\SL X.K ad G7 (hid D H7) (ts++cs) σ') ets hnt sp7.gh rx7 sl7 (λσ' _ q=>⟨rfl,q⟩)
   refine L2.thn (hg s3 H3 bx _ s7 σ5 H7 x u _ I7' r7 gt) λ_ s8 hz_=>?_
   obtain⟨σ8,H8,I8,e8,sl8⟩:=hz_;subst e8
   -- again, at the turn's end
   have again: ∀{s9:Shared} {H9 G9:Hp} {ys9 rest9:List SK.D} {vs9:List V},Inv (cX X N' sc s3 H3 fp bx) ([]++lR fp s7.heap) σ8 H9 s9->Step G2 H2 G9 H9->G9 D=none->H9 D=some (.lst vs9)->aH X.K ad G9 ys9 vs9->bL (cW k cs fc fe) (ds.drop (i+1))=some rest9->ys9++rest9=all->ys9.length<=i+1->
     SL X.K ad G9 (hid D H9) (ts++cs) σ8->(W->RN X.K ad H2 G9 ys9 vs9)->∃m,m<ds.length-i/\Iv m s9:=by
    intro s9 H9 G9 ys9 rest9 vs9 I9 sp9 gD9 hD9 r9 go9 eq9 hy9 sl9 rn9;refine⟨ds.length-(i+1),by lia,(hIv _ _).mpr ⟨i+1,σ8,H9,G9,ys9,rest9,vs9,I9.unpinned,T.keep _ _ _ st7 λb hb o e=>(I9.pin (b,o) (bp _ (bp _ (gB hb e)))).1,λb hb=>?_,sp9,gD9,hD9,r9,go9,eq9,by lia,rfl,hy9,?_,rn9⟩⟩
    ·obtain⟨o,e,d'⟩:=T.obj _ _ st7 b hb;exact(I9.pin (b,o) (bp _ (bp _ (gB hb e)))).2.1
    ·have:=wM sl9
     rwa [htl]at this
   have xpF:XP (cX X N' sc s3 H3 fp bx) ad σ8 (λ_ _=>False):=aAi rfl
   have sp8:Step G2 H2 G7 H8:=sp5.trans sp7
   -- the element
   have elem: ∀{s9:Shared} {H9 G9:Hp} (x':SK.D) (all':List SK.D),Inv (cX X N' sc s3 H3 fp bx) ([]++lR fp s7.heap) σ8 H9 s9->Step G7 H8 G9 H9->(fe (ts++cs)= .ok x'\/∃l,fe (ts++cs)= .ow l/\x'= .lst l)->bL (cW k cs fc fe) (ds.drop (i+1))=some all'->eA=x'::all'->
     wpAny (model X.prog X.w) X.A (eval elt (cX X N' sc s3 H3 fp bx).env) (λx s₄=>wpAny (model X.prog X.w) X.A (call (.builtin "list.append") [.ref D,x]) (λ_ s₅=>∃m,m<ds.length-i/\Iv m s₅) (λ_ _=>False) s₄) (λ_ _=>False) s9:=by
    intro s9 H9 G9 x' all' I9 sp9 hf hgo' hrest;obtain⟨gD9,hD9⟩:=fB sp9 gD7 hD7;have sl9:=sl8.step (jU sp9 gD9);refine L2.thn (ME.val (X:=cX X N' sc s3 H3 fp bx) (he s3 H3 bx) I9 sp9.gh (sl9.up wN) xpF hf) λu10 s10 hz_=>?_
    obtain⟨v10,G10,H10,I10,r10,sp10,q10,nw10⟩:=hz_;obtain⟨gD10,hD10⟩:=fB sp10 gD9 hD9
    have hlen:vs.length<sizeLine:=by
     have:=r5.length
     lia
    refine L2.thn (oR (X:=cX X N' sc s3 H3 fp bx) _ s10 σ8 H10 (.ref D) [v10] (.ref D) [u10] (λ_ H'=>H'=upd H10 D (.lst (vs++[v10]))) I10 rfl (.cons r10 .nil) ⟨D,vs,v10,rfl,rfl,hD10,hlen,rfl⟩) λ_ s11 hz_=>?_
    obtain⟨_,H11,I11,_,e11⟩:=hz_;subst e11;have spT:Step G2 H2 G10 H10:=(sp8.trans sp9).trans sp10;have spA:Step G2 H2 G10 (upd H10 D (.lst (vs++[v10]))):=pA spT hD gD10;have rA:aH X.K ad G10 (ys++[x']) (vs++[v10]):=((r5.mono sp7.sg).mono sp9.sg).mono sp10.sg |>.append (aH.cons q10 aH.nil)
    have slA:SL X.K ad G10 (hid D (upd H10 D (.lst (vs++[v10])))) (ts++cs) σ8:=by
     rw[wO];exact sl9.step (jU sp10 gD10)
    refine again I11 spA gD10 a9 rA hgo' ?_ (by simp;lia) slA λw=>((((rn5 w).mono sp7.sg).mono sp9.sg).mono sp10.sg).snoc ((nw10 (hw w _)).up (sp8.trans sp9).sh (Same.refl _))
    rw[List.append_assoc];rw[hrest]at eq5;exact eq5
   rcases kS go5 with ⟨e,hgo'⟩|⟨x',all',e,hgo',hrest⟩
   ·-- left out
    unfold cW at e;rw[ets]at e
    cases fc with
    |none=>
     exfalso
     simp only at e
     cases z:fe (ts++cs)<;>rw[z]at e<;>cases e
    |some f0=>
     simp only at e
     have hT:=hts s3 H3 bx
     match ifs,hT with
     |[c0],hT=>
      have hv:f0 (ts++cs)= .ok (.bl false):=by
       cases z:f0 (ts++cs)with
       |ok dd=>
        rw[z]at e
        cases dd<;>try (cases e)
        rename_i bb
        cases bb with
        |false=>rfl
        |true=>
         exfalso
         simp only at e
         cases z':fe (ts++cs)<;>rw[z']at e<;>cases e
       |ow _=>rw[z]at e;cases e
       |ex _=>rw[z]at e;cases e
       |bad=>rw[z]at e;cases e
      refine wpAny_tests_one (L2.thn (MT.val (X:=cX X N' sc s3 H3 fp bx) hT I8 sp7.gh (sl8.up wN) xpF hv) λok s9 hz_=>?_)
      obtain⟨eb,G9,H9,I9,sp9⟩:=hz_;subst eb;obtain⟨gD9,hD9⟩:=fB sp9 gD7 hD7;exact aDo (again I9 (sp8.trans sp9) gD9 hD9 ((r5.mono sp7.sg).mono sp9.sg) hgo' eq5 (by lia) (sl8.step (jU sp9 gD9)) λw=>((rn5 w).mono sp7.sg).mono sp9.sg)
     |[],hT=>exact hT.elim
     |_::_::_,hT=>exact hT.elim
   ·-- taken
    unfold cW at e;rw[ets]at e
    cases fc with
    |none=>
     have hT:=hts s3 H3 bx
     match ifs,hT with
     |[],_=>
      refine wpAny_tests_nil (aB4 ?_);refine elem x' all' I8 (Step.refl sp7.gh) ?_ hgo' hrest
      simp only at e
      cases z:fe (ts++cs)with
      |ok dd=>rw[z]at e;cases e;exact .inl rfl
      |ow l=>rw[z]at e;cases e;exact .inr ⟨l,rfl,rfl⟩
      |ex _=>rw[z]at e;cases e
      |bad=>rw[z]at e;cases e
     |_::r1,hT=>cases r1<;>exact ax hT
    |some f0=>
     simp only at e
     have hT:=hts s3 H3 bx
     match ifs,hT with
     |[c0],hT=>
      have hv:f0 (ts++cs)= .ok (.bl true)/\(fe (ts++cs)= .ok x'\/∃l,fe (ts++cs)= .ow l/\x'= .lst l):=by
       cases z:f0 (ts++cs)with
       |ok dd=>
        rw[z]at e
        cases dd<;>try (cases e)
        rename_i bb
        cases bb with
        |false=>simp only at e;cases e
        |true=>
         simp only at e
         refine⟨rfl,?_⟩
         cases z':fe (ts++cs)with
         |ok dd=>rw[z']at e;cases e;exact .inl rfl
         |ow l=>rw[z']at e;cases e;exact .inr ⟨l,rfl,rfl⟩
         |ex _=>rw[z']at e;cases e
         |bad=>rw[z']at e;cases e
       |ow _=>rw[z]at e;cases e
       |ex _=>rw[z]at e;cases e
       |bad=>rw[z]at e;cases e
      refine wpAny_tests_one (L2.thn (MT.val (X:=cX X N' sc s3 H3 fp bx) hT I8 sp7.gh (sl8.up wN) xpF hv.1) λok s9 hz_=>?_)
      obtain⟨eb,G9,H9,I9,sp9⟩:=hz_;subst eb;exact aB4 (elem x' all' I9 sp9 hv.2 hgo' hrest)
     |[],hT=>exact hT.elim
     |_::_::_,hT=>exact hT.elim
  ·-- the end
   have ei:i=ds.length:=by lia
   subst ei;rw[List.drop_length]at go5;cases go5;rw[List.append_nil]at eq5;subst eq5;refine L2.thn (T.done (cX X N' sc s3 H3 fp bx) rfl rfl rfl hc ds.length [] s5 σ5 H5 (λ_ _=>False) I5 (stat fr5) st5 (hit.stop G5 H5 sp5)) λr s6 hz_=>?_
   obtain⟨hr,I6⟩:=hz_;subst hr;exact hEnd s3 s6 H3 H5 G5 σ5 D vs I3 f3 I6 sp5 hD gD5 hD5 r5 rn5
 exact codeAny_compStart_list (loop _ rfl) (T.self _ 0 _ _ _ st4 (loop _ rfl))
theorem l4{C:Ctx}{cs:List Nat}{nt:Nat}(hxs:xs.length=nt)(hN:X.N=C.N)(hcs:gE (λx=>fL C x) (bM sc)=some cs)(hfr: ∀x∈bM sc,(x,NameKind.free)∈sc.names)(hS:SL X.K ad G H ρ σ)(hlen:σ.length=X.N.length):
  ∃σc:St,σc.length=(xs++bM sc).length/\(∀(i:Nat) (x:Str) (v:V),(xs++bM sc)[i]? =some x->σc[i]? =some (some v)->∃j:Nat,X.N[j]? =some x/\σ[j]? =some (some v)/\(x,NameKind.free)∈sc.names)/\
   SL X.K ad G H (ak nt .no++iT cs ρ) σc:=by
 have key: ∀(ys:List Str) (js:List Nat),gE (λx=>fL C x) ys=some js->js.length=ys.length/\∀(i:Nat) (y:Str),ys[i]? =some y->∃j,js[i]? =some j/\C.N[j]? =some y:=by
  intro ys
  induction ys with
  |nil=>intro js e;cases e;exact⟨rfl,λi y h=>by simp at h⟩
  |cons y r ih=>
   intro js e;unfold gE at e
   cases e1:fL C y with
   |none=>rw[e1]at e;cases e
   |some j=>
    rw[e1]at e;obtain⟨js',e2,e3⟩:=zMd e;subst e3;obtain⟨i1,i2⟩:=ih js' e2;refine⟨by simp[i1],λi z h=>?_⟩
    cases i with
    |zero=>
     simp at h
     subst h;refine⟨j,rfl,?_⟩
     have hidx:idx y C.N=some j:=by
      unfold fL at e1;split at e1
      ·exact e1
      ·exact e1
      ·cases e1
     exact kT hidx
    |succ i=>
     obtain⟨j',h1,h2⟩:=i2 i z (by simpa using h)
     exact⟨j',by simpa using h1,h2⟩
 obtain⟨k1,k2⟩:=key (bM sc) cs hcs;refine⟨ak nt none++cs.map (λj=>(σ[j]?).getD none),by simp[k1,hxs],λi x v h1 h2=>?_,?_,λi sl e=>?_⟩
 ·by_cases hi:i<nt
  ·rw[bt (by simpa using hi),List.getElem?_replicate,if_pos hi]at h2
   cases h2
  ·rw[bh (by simpa using hi),List.length_replicate,List.getElem?_map]at h2
   rw[bh (by lia),hxs]at h1
   obtain⟨j,j1,j2⟩:=k2 (i-nt) x h1;rw[j1]at h2
   have h3:(σ[j]?).getD none=some v:=Option.some.inj h2
   refine⟨j,by rw[hN];exact j2,?_,hfr x (List.mem_of_getElem? h1)⟩
   cases q:σ[j]? with
   |none=>rw[q]at h3;cases h3
   |some ov=>rw[q]at h3;exact congrArg some h3
 ·simp[iT]
 ·by_cases hi:i<nt
  ·rw[bt (by simpa using hi),List.getElem?_replicate,if_pos hi]at e
   cases e;refine⟨none,?_,trivial⟩;rw[bt (by simpa using hi),List.getElem?_replicate,if_pos hi]
  ·rw[bh (by simpa using hi),List.length_replicate]at e
   unfold iT at e;rw[List.getElem?_map]at e
   cases q:cs[i-nt]? with
   |none=>rw[q]at e;cases e
   |some j=>
    rw[q]at e
    have e':(ρ[j]?).getD .no=sl:=Option.some.inj e
    refine⟨(σ[j]?).getD none,?_,?_⟩
    ·rw[bh (by simpa using hi),List.length_replicate,List.getElem?_map,q]
     rfl
    ·cases q2:ρ[j]? with
     |none=>rw[q2]at e';subst e';trivial
     |some sl'=>
      rw[q2]at e'
      have e'':sl'=sl:=e'
      subst e'';obtain⟨ov,z1,z2⟩:=hS.at_ j sl' q2;rw[z1];exact z2
end
section
variable {X:Cx} {ad:Ad} {bx:cc} {s s2 s3:Shared} {σ:St} {H H2 H3 G G2:Hp} {ρ:Rho} {Q:VK} {E:Nat->Hp->Prop} {pos:Pos} {sc:Scope} {N':List Str} {fp:List Addr}
 {tg it elt:Expr} {ifs:List Expr} {k nt:Nat} {xs:List Str} {cs:List Nat} {fc:Option F} {fi fe:F}
theorem aEg(h: ∀a b c,it≠ .Set a b c): ∀x,foldedSetIterable it X.env x=pure x:=by
 intro x
 cases it<;>first|rfl|exact absurd rfl (h _ _ _)
structure CompSc(X:Cx)(C:Ctx)(sc:Scope)(xs:List Str)(cs:List Nat):Prop where
 kind:sc.kind= .function
 cell:Cel sc
 names: ∀y∈sc.names,y.2= .local->sc.names.lookup y.1=some .local
 fre: ∀x,(x,NameKind.free)∈sc.names->X.env.kindOf x=some .cell\/X.env.kindOf x=some .free
 frl: ∀x,(x,NameKind.free)∈sc.names->sc.names.lookup x=some .free
 N:X.N=C.N
 cs:gE (λx=>fL C x) (bM sc)=some cs
theorem pC{x:Str}(h:x∈bM sc):(x,NameKind.free)∈sc.names:=by
 unfold bM at h;obtain⟨p,hp,rfl⟩:=ao.mp h;obtain⟨h1,h2⟩:=List.mem_filter.mp hp;obtain⟨y,kk⟩:=p
 have:kk= .free:=by simpa using h2
 subst this;exact h1
def RKW(K:PySem.W.Frag)(ad:Ad)(W:Prop)(G H:Hp)(r:R)(Q:VK)(E:Nat->Hp->Prop):Prop:=match r with
 |.ow xs=>∀p vs G' H',Step G H G' H'->H p=none->G' p=none->H' p=some (.lst vs)->aH K ad G' xs vs->(W->RN K ad H G' xs vs)->Q (.ref p) H'
 |r=>RK K ad G H r Q E
theorem RK.w{K:PySem.W.Frag}{W:Prop}{r:R}(h:RK K ad G H r Q E):RKW K ad W G H r Q E:=by
 cases r with
 |ow xs=>exact λp vs G' H' st n m e q _=>h p vs G' H' st n m e q
 |_=>exact h
theorem RKW.step{K:PySem.W.Frag}{W:Prop}{r:R}{G' H':Hp}(h:RKW K ad W G H r Q E)(st:Step G H G' H'):RKW K ad W G' H' r Q E:=by
 cases r with
 |ow xs=>exact λp vs G2 H2 s2 n m e q w=>h p vs G2 H2 (st.trans s2) (st.sh.free n) m e q λz=>Paired.mapP (w z) λ_ _ y=>y.up st.sh (Same.refl _)
 |ok d=>exact RK.step (K:=K) (ad:=ad) (r:=.ok d) (E:=E) h st
 |ex c=>exact RK.step (K:=K) (ad:=ad) (r:=.ex c) (Q:=Q) h st
 |bad=>exact h
theorem aIt{U:Prop}{W:It->Hp->Prop}(hr:RKW X.K ad U G H (aL k cs fi fc fe ρ) Q E)
  (q: ∀J G2 H2 ds all,Step G H G2 H2->ItH X ad J G2 H2 ds->bL (cW k (iT cs ρ) fc fe) ds=some all->RKW X.K ad U G2 H2 (.ow all) Q E->W J H2):IK X ad G H (fi ρ) W E:=by
 unfold aL at hr
 cases e:fi ρ with
 |ok d=>
  rw[e]at hr
  have hr':RKW X.K ad U G H (match iC d with|some ds=>(match bL (cW k (iT cs ρ) fc fe) ds with|some xs=>.ow xs|none=>.bad)|none=>.bad) Q E:=hr
  cases e2:iC d with
  |none=>rw[e2]at hr';exact hr'.elim
  |some ds=>
   rw[e2]at hr'
   have hr2:RKW X.K ad U G H (match bL (cW k (iT cs ρ) fc fe) ds with|some xs=>.ow xs|none=>.bad) Q E:=hr'
   cases e3:bL (cW k (iT cs ρ) fc fe) ds with
   |none=>rw[e3]at hr2;exact hr2.elim
   |some all=>
    rw[e3]at hr2;exact⟨ds,e2,λJ G' H' st hi=>q J G' H' ds all st hi e3 (RKW.step hr2 st)⟩
 |ow l=>
  rw[e]at hr
  have hr2:RKW X.K ad U G H (match bL (cW k (iT cs ρ) fc fe) l with|some xs=>.ow xs|none=>.bad) Q E:=hr
  cases e3:bL (cW k (iT cs ρ) fc fe) l with
  |none=>rw[e3]at hr2;exact hr2.elim
  |some all=>
   rw[e3]at hr2;exact λJ G' H' st hi=>q J G' H' l all st hi e3 (RKW.step hr2 st)
 |ex c=>rw[e]at hr;exact hr
 |bad=>rw[e]at hr;exact hr
def tEW(X:Cx)(ad:Ad)(W:Prop)(f:F):TE:=λσ H Q=>∃G ρ E,Same G H/\SL X.K ad G H ρ σ/\XP X ad σ E/\RKW X.K ad W G H (f ρ) Q E
theorem aAl{U:Prop}(hw:U->∀ρ y,fe ρ≠ .ok y){C:Ctx}(hc:X.calm=true)(S:CompSc X C sc xs cs)(hi:MI X ad tg it fi)(hset: ∀a b c,it≠ .Set a b c)(hxs:xs.length=if k=0 then 1 else k)
  (hg: ∀fp s3 H3 pins',PG (cX X (xs++bM sc) sc s3 H3 fp pins') tg (gTg X.K k)) (hts: ∀fp s3 H3 pins',MTs (cX X (xs++bM sc) sc s3 H3 fp pins') ad ifs fc) (he: ∀fp s3 H3 pins',ME (cX X (xs++bM sc) sc s3 H3 fp pins') ad elt fe):
  PE X (.ListComp elt [⟨tg,it,ifs,0⟩] sc pos) (tEW X ad U (aL k cs fi fc fe)):=by
 intro bx s σ H Q I ⟨G,ρ,E,hG,hS,hx,hr⟩;rw[eval_ListComp]
 have hcl:closureFor sc X.env=pure (qQ X.env.cells sc.names []):=lZ λx hx=>by
  obtain⟨c,h⟩:=I.ok.has x (S.fre x hx);rw[h];rfl
 refine wpAny_comprehension_free (use:=none) rfl (aEg hset) hcl S.kind S.names ?_;show wpAny (model X.prog X.w) X.A (eval it X.env) _ X.xe s
 refine L2.thn (hi bx s σ H _ I ⟨G,ρ,E,hG,hS,hx,aIt (W:=λJ H2=>∃G2 ds all,Step G H G2 H2/\ItH X ad J G2 H2 ds/\bL (cW k (iT cs ρ) fc fe) ds=some all/\RKW X.K ad U G2 H2 (.ow all) Q E) hr λJ G2 H2 ds all a b c d=>⟨G2,ds,all,a,b,c,d⟩⟩) λv s1 h1=>
  L2.thn h1 λitv s2 hz_=>?_
 obtain⟨itA,fp,tn,J,H2,e,I2,T,st2,f2,G2,ds,all,sp,hit,hgo,hr2⟩:=hz_;subst e;obtain⟨σc,l1,l2,l3⟩:=l4 (xs:=xs) (sc:=sc) (nt:=if k=0 then 1 else k) hxs S.N S.cs (λx h=>pC h) (hS.step sp) I2.len
 refine pB (σc:=σc) hw hc I2 T st2 f2 hit hgo sp.gh S.kind S.cell S.fre S.frl l1 l2 rfl l3 (hg fp) (hts fp) (he fp) λs3 s' H3 H' G' σ' D vs I3 f3 J' sp' hD gD hD' r' rn'=>?_
 obtain⟨m,hns,_⟩:=J'.loc;refine⟨m,hns,λh' sb=>⟨.ref D,H',aCk (fpO:=f3) I3 J' sb,rfl,hr2 D vs G' H' sp' hD gD hD' r' rn'⟩⟩
theorem aEh{C:Ctx}(hc:X.calm=true)(S:CompSc X C sc xs cs)(hi:MI X ad tg it fi)(hset: ∀a b c,it≠ .Set a b c)(hxs:xs.length=if k=0 then 1 else k)
  (hg: ∀fp s3 H3 pins',PG (cX X (xs++bM sc) sc s3 H3 fp pins') tg (gTg X.K k)) (hts: ∀fp s3 H3 pins',MTs (cX X (xs++bM sc) sc s3 H3 fp pins') ad ifs fc) (he: ∀fp s3 H3 pins',ME (cX X (xs++bM sc) sc s3 H3 fp pins') ad elt fe):
  ME X ad (.ListComp elt [⟨tg,it,ifs,0⟩] sc pos) (aL k cs fi fc fe):=
 PE.imp (aAl (U:=False) ax hc S hi hset hxs hg hts he) λσ H Q ⟨G,ρ,E,hG,hS,hx,hr⟩=>⟨G,ρ,E,hG,hS,hx,hr.w⟩
theorem aEi{a:Addr}{vs:List V}{ds:List D}(hq:SqT X.K H a vs)(r:aH X.K ad G ds vs)(hG:Same G H)(few:vs.length<=sizeLine):ItH X ad (Itt X.K a) G H ds:=by
 refine⟨λi G1 H1 d st e=>?_,λG1 H1 st=>⟨vs,st.sh.seqT hq,by rw[r.length];exact aj _⟩,by rw[<-r.length];exact few⟩
 obtain⟨v,e1,r1⟩:=r.get e;refine⟨⟨vs,v,st.sh.seqT hq,e1⟩,?_⟩;rintro x H2 ⟨rfl,y⟩
 have:=y vs (st.sh.seqT hq)
 rw[e1]at this;cases this;exact⟨G1,Step.refl st.gh,r1.mono st.sg⟩
theorem aEj{a:Addr}{vs:List V}{ds:List D}(hq:SqL X.K H a vs)(r:aH X.K ad G ds vs)(hG:Same G H)(few:vs.length<=sizeLine):ItH X ad (Itl X.K a) G H ds:=by
 refine⟨λi G1 H1 d st e=>?_,λG1 H1 st=>⟨vs,st.sh.seq hq,by rw[r.length];exact aj _⟩,by rw[<-r.length];exact few⟩
 obtain⟨v,e1,r1⟩:=r.get e;refine⟨⟨vs,v,st.sh.seq hq,e1⟩,?_⟩;rintro x H2 ⟨rfl,y⟩
 have:=y vs (st.sh.seq hq)
 rw[e1]at this;cases this;exact⟨G1,Step.refl st.gh,r1.mono st.sg⟩
theorem wP{a:Expr}{f:F}(ha:ML X ad a f):MI X ad tg a f:=by
 intro bx s σ H W I ⟨G,ρ,E,hG,hS,hx,hr⟩
 -- the value, then its iterator
 have key0: ∀(d:D) (ds:List D),items d=some ds->(∀J G' H',Step G H G' H'->ItH X ad J G' H' ds->W J H')->∀u s1 v H1 G1,Inv X bx σ H1 s1->cD v u->Step G H G1 H1->Seq X ad G1 H1 d v->wpAny (model X.prog X.w) X.A (pyIter u) (PIE X bx σ tg W) X.xe s1:=by
  intro d ds e hw u s1 v H1 G1 I1 r1 st q;obtain⟨p,vs,rfl,hq,rq⟩:=q.items st.gh e
  cases (show u=Value.ref p from r1)
  rcases hq with ⟨_,hq⟩|⟨_,hq⟩
  ·obtain⟨its,rv,pt,hz⟩:=I1.tuple hq;refine wpAny_pyIter_tuple (show s1.heap.IsTuple p its.toArray from pt) ?_
   refine⟨s1.heap.objs.size,[s1.heap.objs.size],_,_,H1,rfl,I1.kept (t':=s1.toks) λb o e=>af _ e,lQ p _,⟨_,ag _ rfl,rfl,rfl⟩,λb hb=>?_,hw _ G1 H1 st (aEi hq rq st.gh hz)⟩
   have e:b=s1.heap.objs.size:=by simpa using hb
   subst e;exact I1.fpOk (aj _) (I1.hok.fresh (aj _))
  ·obtain⟨its,rv,pt,hz⟩:=I1.list hq;refine wpAny_pyIter_list pt.isList ?_;refine⟨s1.heap.objs.size,[s1.heap.objs.size],_,_,H1,rfl,I1.kept (t':=s1.toks) λb o e=>af _ e,oD p _,⟨_,ag _ rfl,rfl,rfl⟩,λb hb=>?_,hw _ G1 H1 st (aEj hq rq st.gh hz)⟩
   have e:b=s1.heap.objs.size:=by simpa using hb
   subst e;exact I1.fpOk (aj _) (I1.hok.fresh (aj _))
 have key: ∀(d:D) (ds:List D),iC d=some ds->(∀J G' H',Step G H G' H'->ItH X ad J G' H' ds->W J H')->∀u s1 v H1 G1,Inv X bx σ H1 s1->cD v u->Step G H G1 H1->Seq X ad G1 H1 d v->wpAny (model X.prog X.w) X.A (pyIter u) (PIE X bx σ tg W) X.xe s1:=by
  intro d ds e hw u s1 v H1 G1 I1 r1 st q
  cases d with
  |tup xs=>exact key0 (.tup xs) ds (show items (.tup xs)=some ds from e) hw u s1 v H1 G1 I1 r1 st q
  |lst xs=>exact key0 (.lst xs) ds (show items (.lst xs)=some ds from e) hw u s1 v H1 G1 I1 r1 st q
  |_=>cases e
 cases e:f ρ with
 |ok d=>
  rw[e]at hr;obtain⟨ds,e2,hw⟩:=hr;exact L2.thn (ha bx s σ H (λv H1=>∃G1,Step G H G1 H1/\Seq X ad G1 H1 d v) I ⟨G,ρ,E,hG,hS,hx,by rw[e];exact λv G1 H1 st q=>⟨G1,st,q⟩⟩) λu s1 ⟨v,H1,I1,r1,G1,st,q⟩=>key d ds e2 hw u s1 v H1 G1 I1 r1 st q
 |ow l=>
  rw[e]at hr;exact L2.thn (ha bx s σ H (λv H1=>∃G1,Step G H G1 H1/\Rep X.K ad G1 (.lst l) v) I ⟨G,ρ,E,hG,hS,hx,by rw[e];exact λp vs G1 H1 st n m e' q=>dQ st n m e' q⟩) λu s1 ⟨v,H1,I1,r1,G1,st,q⟩=>key (.lst l) l rfl hr u s1 v H1 G1 I1 r1 st (.inl q)
 |ex c=>
  rw[e]at hr;exact L2.thn (ha bx s σ H (λv H1=>False) I ⟨G,ρ,E,hG,hS,hx,by rw[e];exact hr⟩) λu s1 ⟨v,H1,I1,r1,q⟩=>q.elim
 |bad=>
  rw[e]at hr;exact ax hr
theorem aEk{lo:Int}{n:Nat}(hG:Same G H)(few:n<=sizeLine):ItH X ad (Itr lo n) G H ((List.range n).map λ(i:Nat)=>D.int (lo+(i:Int))):=by
 refine⟨λi G1 H1 d st e=>?_,λG1 H1 st=>by simp[Itr],by simpa using few⟩
 rw[List.getElem?_map]at e
 cases q:(List.range n)[i]? with
 |none=>rw[q]at e;cases e
 |some j=>
  rw[q]at e;obtain⟨hi,hj⟩:=av.mp q;rw[List.length_range]at hi;rw[List.getElem_range]at hj;subst hj;cases e;refine⟨hi,?_⟩;rintro x H2 ⟨rfl,rfl⟩;exact⟨G1,Step.refl st.gh,a8⟩
theorem wQ(n:Nat):n9 n=(List.range n).map λ(i:Nat)=>D.int (0+(i:Int)):=by
 unfold n9
 congr 1
 funext i
 rw[Int.zero_add]
theorem nC{f:F}{k:D->R}{W:It->Hp->Prop}{Q':VK}(hG:Same G H)(hS:SL X.K ad G H ρ σ)(hx:XP X ad σ E)(hr:IK X ad G H ((f ρ).bind k) W E)
  (q: ∀v d G1 H1,Step G H G1 H1->Rep X.K ad G1 d v->IK X ad G1 H1 (k d) W E->Q' v H1):tE X ad f σ H Q':=by
 have ikst: ∀{r:R} {G1 H1:Hp},IK X ad G H r W E->Step G H G1 H1->IK X ad G1 H1 r W E:=λ{r G1 H1} h st=>by
  cases r with
  |ok d=>obtain⟨ds,e,h⟩:=h;exact⟨ds,e,λJ G' H' st' hi=>h J G' H' (st.trans st') hi⟩
  |ow l=>exact λJ G' H' st' hi=>h J G' H' (st.trans st') hi
  |ex c=>exact λG' H' st'=>h G' H' (st.trans st')
  |bad=>exact h
 refine⟨G,ρ,E,hG,hS,hx,?_⟩
 cases e:f ρ with
 |ok d=>
  rw[e]at hr;exact λv G1 H1 st r=>q v d G1 H1 st r (ikst hr st)
 |ow xs=>
  rw[e]at hr;intro p vs G1 H1 st n m e' r;obtain⟨G2,st2,r2⟩:=dQ (X:=X) (ad:=ad) st n m e' r;exact q _ _ G2 H1 st2 r2 (ikst hr st2)
 |ex c=>
  rw[e]at hr;exact hr
 |bad=>
  rw[e]at hr;exact hr
theorem aAm{a:Expr}{f:F}{p:Pos}(hg:L2.Gl X "range")(hm:X.mg "range"=none)(ha:ME X ad a f)(hs:starEach [a] X.env=(false,eval a X.env)::starEach [] X.env):MI X ad tg (.Call (.Name "range" p) [a] [] pos) (aV f):=by
 intro bx s σ H W I ⟨G,ρ,E,hG,hS,hx,hr⟩;refine oE (ta:=j9 (tE X ad f) aB3) hg hm (cM ha eK hs) hs bx s σ H W I ?_;show tE X ad f σ H λv H1=>∃j:Int,[v]=[.int j]/\ -(2^62)<=j/\j<2^62/\W (Itr 0 j.toNat) H1
 refine nC hG hS hx hr λv d G1 H1 st r k=>?_
 cases d<;>try exact ax k
 rename_i i;unfold Rep at r;subst r
 have k':IK X ad G1 H1 (if -100000<=i/\i<=100000 then .ok (.lst (n9 i.toNat))else .bad) W E:=k
 by_cases hc: -100000<=i/\i<=100000
 ·rw[if_pos hc]at k';obtain⟨ds,e,hw⟩:=k';cases e;refine⟨i,rfl,by lia,by lia,hw _ G1 H1 (Step.refl st.gh) ?_⟩
  rw[wQ];exact aEk st.gh (by rw[sizeLine_eq];lia)
 ·rw[if_neg hc]at k';exact k'.elim
end
structure SS(X:Cx)(ad:Ad)(G₀ G H:Hp)(ρ:Rho)(σ:St):Prop where
 st:Step G₀ X.H₀ G H
 sl:SL X.K ad G H ρ σ
 ow: ∀(i:Nat) (sl:Slot) (a:Addr),ρ[i]? =some sl->sl.owns=true->σ[i]? =some (some (.ref a))->X.H₀ a=none
 dj: ∀(i j:Nat) (sl sl':Slot) (a:Addr),ρ[i]? =some sl->ρ[j]? =some sl'->sl.owns=true->sl'.owns=true->σ[i]? =some (some (.ref a))->σ[j]? =some (some (.ref a))->i=j
def OKo(X:Cx)(ad:Ad)(G₀:Hp)(o:Out)(D':Ends)(E:St->Nat->Hp->Prop):Prop:=match o with
 |.nx ρ=>∀σ G H,SS X ad G₀ G H ρ σ->D'.nx σ H
 |.bk ρ=>∀σ G H,SS X ad G₀ G H ρ σ->D'.bk σ H
 |.ct ρ=>∀σ G H,SS X ad G₀ G H ρ σ->D'.ct σ H
 |.ex c ρ=>∀σ G H,SS X ad G₀ G H ρ σ->E σ c H
 |.rt (.ok d)=>∀v G H,Step G₀ X.H₀ G H->Rep X.K ad G d v->D'.rt v H
 |.rt (.ow xs)=>∀p vs G H,Step G₀ X.H₀ G H->X.H₀ p=none->G p=none->H p=some (.lst vs)->aH X.K ad G xs vs->D'.rt (.ref p) H
 |.rt _=>False
def XA(X:Cx)(ad:Ad)(Z:(St->Nat->Hp->Prop)->Prop)(E:St->Nat->Hp->Prop):Prop:=(∀σ,XP X ad σ (E σ))/\Z E
def tS(X:Cx)(ad:Ad)(Z:(St->Nat->Hp->Prop)->Prop)(g:FS):TS:=λD' σ H=>∃G₀ G ρ E,SS X ad G₀ G H ρ σ/\XA X ad Z E/\OKo X ad G₀ (g ρ) D' E
abbrev MS(X:Cx)(ad:Ad)(Z:(St->Nat->Hp->Prop)->Prop)(st:Stmt)(g:FS):Prop:=PS X st (tS X ad Z g)
abbrev MSs(X:Cx)(ad:Ad)(Z:(St->Nat->Hp->Prop)->Prop)(st:List Stmt)(g:FS):Prop:=PSs X st (tS X ad Z g)
section
variable {X:Cx} {ad:Ad} {Z:(St->Nat->Hp->Prop)->Prop} {bx:cc} {s:Shared} {σ:St} {H G G₀:Hp} {ρ:Rho} {D':Ends} {E:St->Nat->Hp->Prop} {pos pos':Pos} {e:Expr} {f:F} {g h:FS} {st:Stmt} {sts:List Stmt}
theorem SS.step{G1 H1:Hp}(S:SS X ad G₀ G H ρ σ)(t:Step G H G1 H1):SS X ad G₀ G1 H1 ρ σ:=⟨S.st.trans t,S.sl.step t,S.ow,S.dj⟩
theorem iW{G₀ Gs G H H₀ Hs:Hp}(a:Step G₀ H₀ Gs Hs)(b:Step Gs H₀ G H):Step G₀ H₀ G H:=
 ⟨a.sg.trans b.sg,b.gh,b.sh,λx h1 h2=>by
  cases q:Gs x with
  |none=>exact b.nw x q h2
  |some o=>exact a.nw x h1 (by rw[q];exact λz=>nomatch z)⟩
theorem SS.up{Gs Hs:Hp}(a:Step G₀ X.H₀ Gs Hs)(S:SS X ad Gs G H ρ σ):SS X ad G₀ G H ρ σ:=⟨iW a S.st,S.sl,S.ow,S.dj⟩
theorem SS.here(S:SS X ad G₀ G H ρ σ):SS X ad G G H ρ σ:=⟨⟨Same.refl _,S.st.gh,S.st.sh,λb h1 h2=>absurd h1 h2⟩,S.sl,S.ow,S.dj⟩
theorem OKo.rebase{o:Out}{Gs Hs:Hp}(h:OKo X ad G₀ o D' E)(a:Step G₀ X.H₀ Gs Hs):OKo X ad Gs o D' E:=by
 cases o with
 |nx ρ=>exact λσ G H S=>h σ G H (S.up a)
 |bk ρ=>exact λσ G H S=>h σ G H (S.up a)
 |ct ρ=>exact λσ G H S=>h σ G H (S.up a)
 |ex c ρ=>exact λσ G H S=>h σ G H (S.up a)
 |rt r=>
  cases r with
  |ok d=>exact λv G H st q=>h v G H (iW a st) q
  |ow xs=>exact λp vs G H st n m e q=>h p vs G H (iW a st) n m e q
  |ex c=>exact h
  |bad=>exact h
theorem iG{k:D->Out}{Q':VK}(S:SS X ad G₀ G H ρ σ)(hx:XA X ad Z E)(hr:OKo X ad G₀ (iA ρ (f ρ) k) D' E)
  (q: ∀v d G1 H1,Step G H G1 H1->Rep X.K ad G1 d v->OKo X ad G₀ (k d) D' E->Q' v H1):tE X ad f σ H Q':=by
 refine⟨G,ρ,E σ,S.st.gh,S.sl,hx.1 σ,?_⟩;unfold iA at hr
 cases e:f ρ with
 |ok d=>rw[e]at hr;exact λv G1 H1 st r=>q v d G1 H1 st r hr
 |ow xs=>
  rw[e]at hr;intro p vs G1 H1 st n m e' r;obtain⟨G2,st2,r2⟩:=dQ (X:=X) (ad:=ad) st n m e' r;exact q _ _ G2 H1 st2 r2 hr
 |ex c=>rw[e]at hr;exact λG1 H1 st=>hr σ G1 H1 (S.step st)
 |bad=>rw[e]at hr;exact hr
theorem aEl:MS X ad Z (.Pass pos) bF:=PS.imp aDd λD' σ H ⟨G₀,G,ρ,E,S,hx,hr⟩=>hr σ G H S
theorem aAn:MS X ad Z (.Break pos) aM5:=PS.imp zO λD' σ H ⟨G₀,G,ρ,E,S,hx,hr⟩=>hr σ G H S
theorem rR:MS X ad Z (.Continue pos) aH6:=PS.imp qS λD' σ H ⟨G₀,G,ρ,E,S,hx,hr⟩=>hr σ G H S
theorem aEm:MSs X ad Z [] bF:=PSs.imp aDb λD' σ H ⟨G₀,G,ρ,E,S,hx,hr⟩=>hr σ G H S
theorem aEn(h1:MS X ad Z st g):MSs X ad Z [st] g:=aDc h1
theorem aAo(h1:MS X ad Z st g)(h2:MSs X ad Z sts h):MSs X ad Z (st::sts) (bA g h):=by
 refine PSs.imp (zN h1 h2) ?_;rintro D' σ H ⟨G₀,G,ρ,E,S,hx,hr⟩;refine⟨G₀,G,ρ,E,S,hx,?_⟩;unfold bA at hr
 cases e:g ρ with
 |nx ρ'=>rw[e]at hr;exact λσ' G' H' S'=>⟨G₀,G',ρ',E,S',hx,hr⟩
 |bk ρ'=>rw[e]at hr;exact hr
 |ct ρ'=>rw[e]at hr;exact hr
 |ex c ρ'=>rw[e]at hr;exact hr
 |rt r=>
  rw[e]at hr
  cases r<;>exact hr
theorem wR(he:ME X ad e f):MS X ad Z (.Return (some e) pos) (bV f):=by
 refine PS.imp (aBz he) ?_;rintro D' σ H ⟨G₀,G,ρ,E,S,hx,hr⟩;refine⟨G,ρ,E σ,S.st.gh,S.sl,hx.1 σ,?_⟩;unfold bV at hr
 cases e:f ρ with
 |ok d=>rw[e]at hr;exact λv G1 H1 st r=>hr v G1 H1 (S.st.trans st) r
 |ow xs=>rw[e]at hr;exact λp vs G1 H1 st n m e' r=>hr p vs G1 H1 (S.st.trans st) (S.st.sh.free n) m e' r
 |ex c=>rw[e]at hr;exact λG1 H1 st=>hr σ G1 H1 (S.step st)
 |bad=>rw[e]at hr;exact hr
theorem aEo:MS X ad Z (.Return none pos) aH5:=PS.imp aDe λD' σ H ⟨G₀,G,ρ,E,S,hx,hr⟩=>hr .non G H S.st (by unfold Rep;rfl)
theorem aEp{i:Nat}{x:Str}{p:Pos}(hN:X.N[i]? =some x)(hv:Vis X.env.scope x)(hd:(x==("__debug__":Str))=false)(hcd:(x==("__classdict__":Str))=false):MS X ad Z (.Return (some (.Name x p)) pos) (bV (zX i)):=by
 refine PS.imp (aBz (j7 hN hv hd hcd)) ?_;rintro D' σ H ⟨G₀,G,ρ,E,S,hx,hr⟩;unfold bV zX at hr
 cases e:ρ[i]? with
 |none=>rw[e]at hr;exact hr.elim
 |some sl=>
  rw[e]at hr
  cases sl with
  |no=>exact hr.elim
  |sh d=>
   obtain⟨v,h1,h2⟩:=S.sl.sh e;exact⟨v,h1,hr v G H S.st h2⟩
  |ow xs=>
   obtain⟨a,vs,h1,h2,h3,h4⟩:=S.sl.ow e;exact⟨.ref a,h1,hr a vs G H S.st (S.ow i _ a e rfl h1) h2 h3 h4⟩
theorem aEq(he:ME X ad e f)(hs:swapsWith e none pos.line X.env=pure false):MS X ad Z (.Expr e pos) (fO f):=by
 refine PS.imp (qT he hs) ?_;rintro D' σ H ⟨G₀,G,ρ,E,S,hx,hr⟩;exact iG S hx hr λv d G1 H1 st r k=>k σ G1 H1 (S.step st)
theorem SS.set{i:Nat}{d:D}{v:V}(S:SS X ad G₀ G H ρ σ)(r:Rep X.K ad G d v):SS X ad G₀ G H (ρ.set i (.sh d)) (σ.set i (some v)):=by
 have key: ∀(j:Nat) (sl:Slot),(ρ.set i (.sh d))[j]? =some sl->(j=i/\sl= .sh d/\i<ρ.length)\/(j≠i/\ρ[j]? =some sl):=λj sl e=>by
  by_cases z:j=i
  ·subst z;have hl:j<ρ.length:=by have:=(av.mp e).1;rwa [List.length_set]at this
   rw[bg hl]at e;cases e;exact .inl ⟨rfl,rfl,hl⟩
  ·rw[ay (Ne.symm z)]at e;exact .inr ⟨z,e⟩
 refine⟨S.st,⟨by rw[List.length_set,List.length_set];exact S.sl.len,λj sl e=>?_⟩,λj xs a e w h=>?_,λj j' xs ys a e e' w w' h h'=>?_⟩
 ·rcases key j sl e with ⟨rfl,rfl,hl⟩|⟨z,e⟩
  ·exact⟨some v,bg (by rw[<-S.sl.len];exact hl),v,rfl,r⟩
  ·obtain⟨ov,h1,h2⟩:=S.sl.at_ j sl e;exact⟨ov,by rw[ay (Ne.symm z)];exact h1,h2⟩
 ·rcases key j _ e with ⟨_,z,_⟩|⟨z,e⟩
  ·subst z;exact(ba w).elim
  ·rw[ay (Ne.symm z)]at h;exact S.ow j xs a e w h
 ·rcases key j _ e with ⟨_,z,_⟩|⟨z,e⟩
  ·subst z;exact(ba w).elim
  ·rcases key j' _ e' with ⟨_,z',_⟩|⟨z',e'⟩
   ·subst z';exact(ba w').elim
   ·rw[ay (Ne.symm z)]at h;rw[ay (Ne.symm z')]at h';exact S.dj j j' xs ys a e e' w w' h h'
theorem SL.own_at{K:PySem.W.Frag}{j:Nat}{sl:Slot}{p:Addr}(h:SL K ad G H ρ σ)(e:ρ[j]? =some sl)(w:sl.owns=true)(hj:σ[j]? =some (some (.ref p))):G p=none/\H p≠none:=by
 obtain⟨ov,h1,h2⟩:=h.at_ j sl e;rw[hj]at h1;cases h1
 cases sl with
 |no=>exact(ba w).elim
 |sh d=>exact(ba w).elim
 |ow xs=>obtain⟨a,vs,k1,k2,k3,_⟩:=h2;cases k1;exact⟨k2,by rw[k3];exact λz=>nomatch z⟩
theorem SS.setNew{i:Nat}{sn:Slot}{p:Addr}{G1 H1:Hp}(S:SS X ad G₀ G H ρ σ)(st:Step G H G1 H1)(n:H p=none)(r:SLi X.K ad G1 H1 sn (some (.ref p))):
  SS X ad G₀ G1 H1 (ρ.set i sn) (σ.set i (some (.ref p))):=by
 have S1:=S.step st
 have key: ∀(j:Nat) (sl:Slot),(ρ.set i sn)[j]? =some sl->(j=i/\sl=sn/\i<ρ.length)\/(j≠i/\ρ[j]? =some sl):=λj sl e=>by
  by_cases z:j=i
  ·subst z;have hl:j<ρ.length:=by have:=(av.mp e).1;rwa [List.length_set]at this
   rw[bg hl]at e;cases e;exact .inl ⟨rfl,rfl,hl⟩
  ·rw[ay (Ne.symm z)]at e;exact .inr ⟨z,e⟩
 -- no other slot holds the new list
 have other: ∀(j:Nat) (sl:Slot),ρ[j]? =some sl->sl.owns=true->σ[j]? ≠some (some (.ref p)):=λj sl ej w hj=>(S.sl.own_at ej w hj).2 n
 refine⟨S1.st,⟨by rw[List.length_set,List.length_set];exact S.sl.len,λj sl e'=>?_⟩,λj ys a e' w h=>?_,λj j' ys zs a e1 e2 w1 w2 h1 h2=>?_⟩
 ·rcases key j sl e' with ⟨q1,q2,hl⟩|⟨z,e'⟩
  ·rw[q1,q2];exact⟨some (.ref p),bg (by rw[<-S.sl.len];exact hl),r⟩
  ·obtain⟨ov,h1,h2⟩:=S1.sl.at_ j sl e';exact⟨ov,by rw[ay (Ne.symm z)];exact h1,h2⟩
 ·rcases key j _ e' with ⟨q1,_,hl⟩|⟨z,e'⟩
  ·rw[q1,bg (by rw[<-S.sl.len];exact hl)]at h
   cases h;exact S.st.sh.free n
  ·rw[ay (Ne.symm z)]at h;exact S.ow j ys a e' w h
 ·rcases key j _ e1 with ⟨q1,_,hl⟩|⟨z,f1⟩
  ·rcases key j' _ e2 with ⟨q2,_,_⟩|⟨z',f2⟩
   ·rw[q1,q2]
   ·rw[q1,bg (by rw[<-S.sl.len];exact hl)]at h1
    cases h1;rw[ay (Ne.symm z')]at h2;exact absurd h2 (other j' zs f2 w2)
  ·rcases key j' _ e2 with ⟨q2,_,hl⟩|⟨z',f2⟩
   ·rw[q2,bg (by rw[<-S.sl.len];exact hl)]at h2
    cases h2;rw[ay (Ne.symm z)]at h1;exact absurd h1 (other j ys f1 w1)
   ·rw[ay (Ne.symm z)]at h1;rw[ay (Ne.symm z')]at h2;exact S.dj j j' ys zs a f1 f2 w1 w2 h1 h2
theorem SS.setOw{i:Nat}{xs:List D}{p:Addr}{vs:List V}{G1 H1:Hp}(S:SS X ad G₀ G H ρ σ)(st:Step G H G1 H1)(n:H p=none)(m:G1 p=none)(e:H1 p=some (.lst vs))(r:aH X.K ad G1 xs vs):
  SS X ad G₀ G1 H1 (ρ.set i (.ow xs)) (σ.set i (some (.ref p))):=S.setNew st n ⟨p,vs,rfl,m,e,r⟩
theorem aIu{i:Nat}(S:SS X ad G₀ G H ρ σ)(hx:XA X ad Z E)(hr:OKo X ad G₀ (oW i f ρ) D' E):tE X ad f σ H λv H1=>D'.nx (σ.set i (some v)) H1:=by
 refine⟨G,ρ,E σ,S.st.gh,S.sl,hx.1 σ,?_⟩;unfold oW at hr
 cases e:f ρ with
 |ok d=>rw[e]at hr;exact λv G1 H1 st r=>hr _ G1 H1 ((S.step st).set r)
 |ow xs=>rw[e]at hr;exact λp vs G1 H1 st n m e' r=>hr _ G1 H1 (S.setOw st n m e' r)
 |ex c=>rw[e]at hr;exact λG1 H1 st=>hr σ G1 H1 (S.step st)
 |bad=>rw[e]at hr;exact hr
theorem aL0{c:Expr}{a b:List Stmt}(hc:MT X ad c f)(ha:MSs X ad Z a g)(hb:MSs X ad Z b h):MS X ad Z (.If c a b pos) (sIf f g h):=by
 refine PS.imp (aK1 hc ha hb) ?_;rintro D' σ H ⟨G₀,G,ρ,E,S,hx,hr⟩;unfold sIf at hr
 cases e:f ρ with
 |ok d=>
  rw[e]at hr
  cases d<;>try exact hr.elim
  rename_i k;refine⟨G,ρ,E σ,S.st.gh,S.sl,hx.1 σ,.inl ⟨k,e⟩,?_⟩;rw[e];intro v G1 H1 st r;unfold Rep at r;subst r;refine⟨k,rfl,?_⟩
  cases k with
  |true=>exact aB4 ⟨G₀,G1,ρ,E,S.step st,hx,hr⟩
  |false=>exact aDo ⟨G₀,G1,ρ,E,S.step st,hx,hr⟩
 |ow xs=>rw[e]at hr;exact hr.elim
 |ex k=>
  rw[e]at hr;refine⟨G,ρ,E σ,S.st.gh,S.sl,hx.1 σ,.inr ⟨k,e⟩,?_⟩;rw[e];exact λG1 H1 st=>hr σ G1 H1 (S.step st)
 |bad=>rw[e]at hr;exact hr.elim
theorem SS.shareG{i:Nat}{sl₀ sn:Slot}{a:Addr}{o:HO}(S:SS X ad G₀ G H ρ σ)(e:ρ[i]? =some sl₀)(w₀:sl₀.owns=true)(h1:σ[i]? =some (some (.ref a)))(h3:H a=some o)(hst:Step G₀ X.H₀ (upd G a o) H)(wn:sn.owns=false)
  (r:SLi X.K ad (upd G a o) H sn (some (.ref a))):SS X ad G₀ (upd G a o) H (ρ.set i sn) σ:=by
 have h2:G a=none:=(S.sl.own_at e w₀ h1).1
 have le:Same G (upd G a o):=Same.upd_new h2;have hl:i<ρ.length:=(av.mp e).1
 have key: ∀(j:Nat) (sl:Slot),(ρ.set i sn)[j]? =some sl->(j=i/\sl=sn)\/(j≠i/\ρ[j]? =some sl):=λj sl e=>by
  by_cases z:j=i
  ·subst z;rw[bg hl]at e;cases e;exact .inl ⟨rfl,rfl⟩
  ·rw[ay (Ne.symm z)]at e;exact .inr ⟨z,e⟩
 refine⟨hst,⟨by show(ρ.set i _).length=_;rw[List.length_set];exact S.sl.len,λj sl e'=>?_⟩,λj ys b e' w h=>?_,λj j' ys zs b e1 e2 w1 w2 k1 k2=>?_⟩
 ·rcases key j sl e' with ⟨q1,q2⟩|⟨z,e'⟩
  ·rw[q1,q2];exact⟨some (.ref a),h1,r⟩
  ·obtain⟨ov,k1,k2⟩:=S.sl.at_ j sl e';refine⟨ov,k1,?_⟩
   cases sl with
   |no=>trivial
   |sh d=>obtain⟨v,k3,k4⟩:=k2;exact⟨v,k3,k4.mono le⟩
   |ow ys=>
    obtain⟨b,ws,k3,k4,k5,k6⟩:=k2
    have ne:b≠a:=λq=>by
     subst q;subst k3;exact z (S.dj j i _ _ b e' e rfl w₀ k1 h1)
    exact⟨b,ws,k3,by rw[aO ne];exact k4,k5,k6.mono le⟩
 ·rcases key j _ e' with ⟨_,z⟩|⟨z,e'⟩
  ·rw[z,wn]at w;exact(ba w).elim
  ·exact S.ow j ys b e' w h
 ·rcases key j _ e1 with ⟨_,z⟩|⟨z,e1⟩
  ·rw[z,wn]at w1;exact(ba w1).elim
  ·rcases key j' _ e2 with ⟨_,z'⟩|⟨z',e2⟩
   ·rw[z',wn]at w2;exact(ba w2).elim
   ·exact S.dj j j' ys zs b e1 e2 w1 w2 k1 k2
theorem SS.frz1{i:Nat}(S:SS X ad G₀ G H ρ σ): ∃G',SS X ad G₀ G' H (SK.frz1 i ρ) σ/\Same G G':=by
 unfold SK.frz1
 cases e:ρ[i]? with
 |none=>exact⟨G,S,Same.refl _⟩
 |some sl=>
  cases sl with
  |no=>exact⟨G,S,Same.refl _⟩
  |sh d=>exact⟨G,S,Same.refl _⟩
  |ow xs=>
   obtain⟨a,vs,h1,h2,h3,h4⟩:=S.sl.ow e;have le:Same G (upd G a (.lst vs)):=Same.upd_new h2;exact⟨_,S.shareG e rfl h1 h3 (S.st.share (S.ow i _ a e rfl h1) h2 h3) rfl ⟨.ref a,rfl,by unfold Rep;exact⟨a,vs,rfl,SqL.of a9,h4.mono le⟩⟩,le⟩
theorem SS.frz{is:List Nat}: ∀{ρ:Rho} {G:Hp},SS X ad G₀ G H ρ σ->∃G',SS X ad G₀ G' H (SK.frz is ρ) σ/\Same G G':=by
 induction is with
 |nil=>intro ρ G S;exact⟨G,S,Same.refl _⟩
 |cons i is ih=>
  intro ρ G S;obtain⟨G1,S1,l1⟩:=S.frz1 (i:=i);obtain⟨G2,S2,l2⟩:=ih S1;exact⟨G2,S2,l1.trans l2⟩
theorem fT{is:List Nat}(h1:MS X ad Z st g):MS X ad Z st (dX is g):=by
 cases is with
 |nil=>exact h1
 |cons i is=>
  refine PS.imp h1 ?_;rintro D' σ H ⟨G₀,G,ρ,E,S,hx,hr⟩;obtain⟨G',S',_⟩:=S.frz (is:=i::is);exact⟨G₀,G',_,E,S',hx,hr⟩
end
section
variable {X:Cx} {ad:Ad} {Z:(St->Nat->Hp->Prop)->Prop} {bx:cc} {s:Shared} {σ:St} {H G G₀:Hp} {ρ:Rho} {D':Ends} {E:St->Nat->Hp->Prop} {pos pos':Pos} {e:Expr} {f:F} {g h:FS} {st:Stmt} {sts:List Stmt}
theorem SS.updG{i:Nat}{sl₀ sn:Slot}{a:Addr}{o:HO}(S:SS X ad G₀ G H ρ σ)(e:ρ[i]? =some sl₀)(w₀:sl₀.owns=true)(h1:σ[i]? =some (some (.ref a)))(r:SLi X.K ad G (upd H a o) sn (some (.ref a))):SS X ad G₀ G (upd H a o) (ρ.set i sn) σ:=by
 have n0:X.H₀ a=none:=S.ow i sl₀ a e w₀ h1
 have h2:G a=none:=(S.sl.own_at e w₀ h1).1
 have hl:i<ρ.length:=(av.mp e).1
 have key: ∀(j:Nat) (sl:Slot),(ρ.set i sn)[j]? =some sl->(j=i/\sl=sn)\/(j≠i/\ρ[j]? =some sl):=λj sl e=>by
  by_cases z:j=i
  ·subst z;rw[bg hl]at e;cases e;exact .inl ⟨rfl,rfl⟩
  ·rw[ay (Ne.symm z)]at e;exact .inr ⟨z,e⟩
 refine⟨pA S.st n0 h2,⟨by rw[List.length_set];exact S.sl.len,λj sl e'=>?_⟩,λj zs b e' w h=>?_,λj j' zs zs' b e1 e2 w1 w2 k1 k2=>?_⟩
 ·rcases key j sl e' with ⟨q1,q2⟩|⟨z,f1⟩
  ·rw[q1,q2];exact⟨some (.ref a),h1,r⟩
  ·obtain⟨ov,k1,k2⟩:=S.sl.at_ j sl f1;refine⟨ov,k1,?_⟩
   cases sl with
   |no=>trivial
   |sh d=>exact k2
   |ow zs=>
    obtain⟨b,vs',k3,k4,k5,k6⟩:=k2
    have ne:b≠a:=λq=>by
     subst q;subst k3;exact z (S.dj j i _ _ b f1 e rfl w₀ k1 h1)
    exact⟨b,vs',k3,k4,by rw[aO ne];exact k5,k6⟩
 ·rcases key j _ e' with ⟨q1,q2⟩|⟨z,f1⟩
  ·rw[q1,h1]at h;cases h;exact n0
  ·exact S.ow j zs b f1 w h
 ·rcases key j _ e1 with ⟨q1,_⟩|⟨z,f1⟩
  ·rcases key j' _ e2 with ⟨q2,_⟩|⟨z',f2⟩
   ·rw[q1,q2]
   ·rw[q1]at k1 ⊢;exact S.dj i j' _ zs' b e f2 w₀ w2 k1 k2
  ·rcases key j' _ e2 with ⟨q2,_⟩|⟨z',f2⟩
   ·rw[q2]at k2 ⊢;exact S.dj j i zs _ b f1 e w1 w₀ k1 k2
   ·exact S.dj j j' zs zs' b f1 f2 w1 w2 k1 k2
theorem SS.upd{i:Nat}{xs ys:List D}{a:Addr}{ws:List V}(S:SS X ad G₀ G H ρ σ)(e:ρ[i]? =some (.ow xs))(h1:σ[i]? =some (some (.ref a)))(h2:G a=none)(r:aH X.K ad G ys ws):SS X ad G₀ G (L2.upd H a (.lst ws)) (ρ.set i (.ow ys)) σ:=
 S.updG e rfl h1 ⟨a,ws,rfl,h2,a9,r⟩
theorem nD {cpos:Pos} (hs:starEach [e] X.env=(false,eval e X.env)::starEach [] X.env):((backTo cpos (starEach [e] X.env)).all (fun x=> !x.1)&&(backToKw cpos (keywordEach [] X.env)).all (fun x=>x.1.isSome)
   &&decide ([e].length+([]:List Keyword).length+(if([]:List Keyword).isEmpty then 0 else 1)<30))=true:=by
 rw[hs];rfl
theorem aIv{i:Nat}{x:Str}{p ap cp:Pos}(hN:X.N[i]? =some x)(hv:Vis X.env.scope x)(hd:(x==("__debug__":Str))=false)(hcd:(x==("__classdict__":Str))=false)(he:ME X ad e f)(hs:starEach [e] X.env=(false,eval e X.env)::starEach [] X.env)
  (hline:(ap.endLine==cp.line)=true):MS X ad Z (.Expr (.Call (.Attribute (.Name x p) "append" ap) [e] [] cp) pos) (aB7 i f):=by
 refine PS.imp (qT (aH1 (T:="list") PySem.F.plainAttrs_list PySem.F.slot_list_append PySem.F.type_list_append oR (j7 hN hv hd hcd) (cM he eK hs) rfl (nD hs) hline hs rfl) rfl) ?_;rintro D' σ H ⟨G₀,G,ρ,E,S,hx,hr⟩;unfold aB7 at hr
 cases q:ρ[i]? with
 |none=>rw[q]at hr;exact hr.elim
 |some sl=>
  rw[q]at hr
  cases sl with
  |no=>exact hr.elim
  |sh d=>exact hr.elim
  |ow xs=>
   obtain⟨a,vs,h1,h2,h3,h4⟩:=S.sl.ow q;refine⟨.ref a,h1,.inl ⟨rfl,vs,SqL.of h3⟩,?_⟩;refine iG S hx hr λv d G1 H1 st r k=>?_
   obtain⟨g1,h1'⟩:=fB st h2 h3;have k':OKo X ad G₀ (if xs.length<LIM then .nx (ρ.set i (.ow (xs++[d])))else .rt .bad) D' E:=k
   by_cases hc:xs.length<LIM
   ·rw[if_pos hc]at k';have r4:=h4.mono st.sg;refine⟨a,vs,v,rfl,rfl,h1',?_,k' σ G1 _ ((S.step st).upd q h1 g1 (r4.append (aH.cons r aH.nil)))⟩;rw[h4.length];exact bd hc (by decide)
   ·rw[if_neg hc]at k';exact k'.elim
def aOe(K:PySem.W.Frag):V->List V->Hp->VK->Prop:=λx vs H Q=>∃l b xs zs,x= .ref l/\vs=[.ref b]/\H l=some (.lst xs)/\SqL K H b zs/\xs.length+zs.length<=sizeLine/\Q .non (upd H l (.lst (xs++zs)))
theorem aIw:MtM X "list.extend" (aOe X.K):=by
 intro bx s σ H x vs v us Q I rx rv h;obtain⟨l,b,xs,zs,rfl,rfl,hH,hB,hz,q⟩:=h;cases rx;obtain⟨u,rfl,ru⟩:=rv.one;cases ru;obtain⟨z,its,n,r,hl,e⟩:=I.lstM hH;obtain⟨its2,r2,⟨⟨cls2,dd2,data2,sl2⟩,n2,e2,hc2,hdd2,hd2⟩,_⟩:=I.list hB
 simp only at hc2 hd2 hdd2
 subst hc2 hd2;have hl2:=r2.length
 have hsz:its.toArray.size+its2.toArray.size<=sizeLine:=by rw[au,au];lia
 have hlong: ¬(!its.toArray.isEmpty&&Builtin.List.listTooLong (its.toArray.size+its2.toArray.size))=true:=by
  rw[sL hsz,Bool.and_false];exact ba
 refine call_meets F.slot_list_extend ⟨_,e,rfl⟩ F.entry_list_extend (F.args_list_extend_2 _ _)
  (oT l its.toArray n b its2.toArray n2 dd2 sl2 hlong (by rw[au];lia) (by lia)) ⟨e,e2,?_⟩
 refine⟨.non,_,I.lset (its':=its++its2) hH e (by simp) (r.append r2) ?_,rfl,q⟩
 rw[bj]
 lia
theorem aIx{i:Nat}{x:Str}{p ap cp:Pos}(hN:X.N[i]? =some x)(hv:Vis X.env.scope x)(hd:(x==("__debug__":Str))=false)(hcd:(x==("__classdict__":Str))=false)(he:ME X ad e f)(hs:starEach [e] X.env=(false,eval e X.env)::starEach [] X.env)
  (hline:(ap.endLine==cp.line)=true):MS X ad Z (.Expr (.Call (.Attribute (.Name x p) "extend" ap) [e] [] cp) pos) (aB8 i f):=by
 refine PS.imp (qT (aH1 (T:="list") PySem.F.plainAttrs_list PySem.F.slot_list_extend PySem.F.type_list_extend aIw (j7 hN hv hd hcd) (cM he eK hs) rfl (nD hs) hline hs rfl) rfl) ?_;rintro D' σ H ⟨G₀,G,ρ,E,S,hx,hr⟩;unfold aB8 at hr
 cases q:ρ[i]? with
 |none=>rw[q]at hr;exact hr.elim
 |some sl=>
  rw[q]at hr
  cases sl with
  |no=>exact hr.elim
  |sh d=>exact hr.elim
  |ow xs=>
   obtain⟨a,vs,h1,h2,h3,h4⟩:=S.sl.ow q;refine⟨.ref a,h1,.inl ⟨rfl,vs,SqL.of h3⟩,?_⟩;refine iG S hx hr λv d G1 H1 st r k=>?_
   obtain⟨g1,h1'⟩:=fB st h2 h3
   cases d<;>try exact ax k
   rename_i ys
   have k':OKo X ad G₀ (if xs.length+ys.length<=LIM then .nx (ρ.set i (.ow (xs++ys)))else .rt .bad) D' E:=k
   by_cases hc:xs.length+ys.length<=LIM
   ·rw[if_pos hc]at k';have r4:=h4.mono st.sg;unfold Rep at r;obtain⟨b,ws,rfl,hq,rq⟩:=r;refine⟨a,b,vs,ws,rfl,rfl,h1',st.gh.seq hq,?_,k' σ G1 _ ((S.step st).upd q h1 g1 (r4.append rq))⟩;rw[h4.length,rq.length];exact Nat.le_trans hc (by decide)
   ·rw[if_neg hc]at k';exact k'.elim
structure ItG(X:Cx)(ad:Ad)(J:It)(G:Hp)(ds:List D):Prop where
 go: ∀(i:Nat) (G1 H1:Hp) (d:D),Same G G1->Same G1 H1->ds[i]? =some d->J.go i H1/\∀x H2,J.yld i H1 x H2->∃G2,Step G1 H1 G2 H2/\Rep X.K ad G2 d x
 stop: ∀(G1 H1:Hp),Same G G1->Same G1 H1->J.stop ds.length H1
def IGK(X:Cx)(ad:Ad)(G H:Hp)(r:R)(W:It->Hp->Prop)(E:Nat->Hp->Prop):Prop:=match r with
 |.ok d=>∃ds,items d=some ds/\∀J G' H',Step G H G' H'->ItG X ad J G' ds->W J H'
 |.ow xs=>∀J G' H',Step G H G' H'->ItG X ad J G' xs->W J H'
 |.ex c=>∀G' H',Step G H G' H'->E c H'
 |.bad=>False
def tIG(X:Cx)(ad:Ad)(f:F):TI:=λσ H W=>∃G ρ E,Same G H/\SL X.K ad G H ρ σ/\XP X ad σ E/\IGK X ad G H (f ρ) W E
abbrev MIG(X:Cx)(ad:Ad)(tg e:Expr)(f:F):Prop:=PI X tg e (tIG X ad f)
theorem aEr{a:Addr}{vs:List V}{ds:List D}(hq:SqT X.K G a vs)(r:aH X.K ad G ds vs):ItG X ad (Itt X.K a) G ds:=by
 refine⟨λi G1 H1 d s1 s2 e=>?_,λG1 H1 s1 s2=>⟨vs,s2.seqT (s1.seqT hq),by rw[r.length];exact aj _⟩⟩
 obtain⟨v,e1,r1⟩:=r.get e;refine⟨⟨vs,v,s2.seqT (s1.seqT hq),e1⟩,?_⟩;rintro x H2 ⟨rfl,y⟩
 have:=y vs (s2.seqT (s1.seqT hq))
 rw[e1]at this;cases this;exact⟨G1,Step.refl s2,r1.mono s1⟩
theorem aEs{a:Addr}{vs:List V}{ds:List D}(hq:SqL X.K G a vs)(r:aH X.K ad G ds vs):ItG X ad (Itl X.K a) G ds:=by
 refine⟨λi G1 H1 d s1 s2 e=>?_,λG1 H1 s1 s2=>⟨vs,s2.seq (s1.seq hq),by rw[r.length];exact aj _⟩⟩
 obtain⟨v,e1,r1⟩:=r.get e;refine⟨⟨vs,v,s2.seq (s1.seq hq),e1⟩,?_⟩;rintro x H2 ⟨rfl,y⟩
 have:=y vs (s2.seq (s1.seq hq))
 rw[e1]at this;cases this;exact⟨G1,Step.refl s2,r1.mono s1⟩
theorem aEt{lo:Int}{n:Nat}:ItG X ad (Itr lo n) G ((List.range n).map λ(i:Nat)=>D.int (lo+(i:Int))):=by
 refine⟨λi G1 H1 d s1 s2 e=>?_,λG1 H1 s1 s2=>by simp[Itr]⟩
 rw[List.getElem?_map]at e
 cases q:(List.range n)[i]? with
 |none=>rw[q]at e;cases e
 |some j=>
  rw[q]at e;obtain⟨hi,hj⟩:=av.mp q;rw[List.length_range]at hi;rw[List.getElem_range]at hj;subst hj;cases e;refine⟨hi,?_⟩;rintro x H2 ⟨rfl,rfl⟩;exact⟨G1,Step.refl s2,a8⟩
theorem nE{tg a:Expr}{f:F}(ha:ME X ad a f):MIG X ad tg a f:=by
 intro bx s σ H W I ⟨G,ρ,E,hG,hS,hx,hr⟩
 have key: ∀(d:D) (ds:List D),items d=some ds->(∀J G' H',Step G H G' H'->ItG X ad J G' ds->W J H')->∀u s1 v H1 G1,Inv X bx σ H1 s1->cD v u->Step G H G1 H1->Rep X.K ad G1 d v->wpAny (model X.prog X.w) X.A (pyIter u) (PIE X bx σ tg W) X.xe s1:=by
  intro d ds e hw u s1 v H1 G1 I1 r1 st q;obtain⟨p,vs,rfl,hq,rq⟩:=kP e q
  cases (show u=Value.ref p from r1)
  rcases hq with hq|hq
  ·obtain⟨its,rv,pt,hz⟩:=I1.tuple (st.gh.seqT hq);refine wpAny_pyIter_tuple (show s1.heap.IsTuple p its.toArray from pt) ?_
   refine⟨s1.heap.objs.size,[s1.heap.objs.size],_,_,H1,rfl,I1.kept (t':=s1.toks) λb o e=>af _ e,lQ p _,⟨_,ag _ rfl,rfl,rfl⟩,λb hb=>?_,hw _ G1 H1 st (aEr hq rq)⟩
   have e:b=s1.heap.objs.size:=by simpa using hb
   subst e;exact I1.fpOk (aj _) (I1.hok.fresh (aj _))
  ·obtain⟨its,rv,pt,hz⟩:=I1.list (st.gh.seq hq);refine wpAny_pyIter_list pt.isList ?_;refine⟨s1.heap.objs.size,[s1.heap.objs.size],_,_,H1,rfl,I1.kept (t':=s1.toks) λb o e=>af _ e,oD p _,⟨_,ag _ rfl,rfl,rfl⟩,λb hb=>?_,hw _ G1 H1 st (aEs hq rq)⟩
   have e:b=s1.heap.objs.size:=by simpa using hb
   subst e;exact I1.fpOk (aj _) (I1.hok.fresh (aj _))
 cases e:f ρ with
 |ok d=>
  rw[e]at hr;obtain⟨ds,e2,hw⟩:=hr;exact L2.thn (ha bx s σ H (λv H1=>∃G1,Step G H G1 H1/\Rep X.K ad G1 d v) I ⟨G,ρ,E,hG,hS,hx,by rw[e];exact λv G1 H1 st q=>⟨G1,st,q⟩⟩) λu s1 ⟨v,H1,I1,r1,G1,st,q⟩=>key d ds e2 hw u s1 v H1 G1 I1 r1 st q
 |ow l=>
  rw[e]at hr;exact L2.thn (ha bx s σ H (λv H1=>∃G1,Step G H G1 H1/\Rep X.K ad G1 (.lst l) v) I ⟨G,ρ,E,hG,hS,hx,by rw[e];exact λp vs G1 H1 st n m e' q=>dQ st n m e' q⟩) λu s1 ⟨v,H1,I1,r1,G1,st,q⟩=>key (.lst l) l rfl hr u s1 v H1 G1 I1 r1 st q
 |ex c=>
  rw[e]at hr;exact L2.thn (ha bx s σ H (λv H1=>False) I ⟨G,ρ,E,hG,hS,hx,by rw[e];exact hr⟩) λu s1 ⟨v,H1,I1,r1,q⟩=>q.elim
 |bad=>
  rw[e]at hr;exact ax hr
theorem wS{tg a:Expr}{f:F}{p:Pos}(hg:L2.Gl X "range")(hm:X.mg "range"=none)(ha:ME X ad a f)(hs:starEach [a] X.env=(false,eval a X.env)::starEach [] X.env):MIG X ad tg (.Call (.Name "range" p) [a] [] pos) (aV f):=by
 intro bx s σ H W I ⟨G,ρ,E,hG,hS,hx,hr⟩;refine oE (ta:=j9 (tE X ad f) aB3) hg hm (cM ha eK hs) hs bx s σ H W I ?_;show tE X ad f σ H λv H1=>∃j:Int,[v]=[.int j]/\ -(2^62)<=j/\j<2^62/\W (Itr 0 j.toNat) H1
 refine⟨G,ρ,E,hG,hS,hx,?_⟩;unfold aV at hr
 cases e:f ρ with
 |ok d=>
  rw[e]at hr
  cases d<;>try exact ax hr
  rename_i i
  have k':IGK X ad G H (if -100000<=i/\i<=100000 then .ok (.lst (n9 i.toNat))else .bad) W E:=hr
  by_cases hc: -100000<=i/\i<=100000
  ·rw[if_pos hc]at k';obtain⟨ds,e,hw⟩:=k';cases e;intro v G1 H1 st r;unfold Rep at r;subst r;refine⟨i,rfl,by lia,by lia,hw _ G1 H1 st ?_⟩
   rw[wQ];exact aEt
  ·rw[if_neg hc]at k';exact k'.elim
 |ow l=>rw[e]at hr;exact ax hr
 |ex c=>rw[e]at hr;exact hr
 |bad=>rw[e]at hr;exact hr
end
def gIs:List Nat->TGs
 |[]=>aK3
 |i::is=>aDf (jN i) (gIs is)
def aAp:List Nat->List V->St->St
 |i::is,v::vs,σ=>aAp is vs (σ.set i (some v))
 |_,_,σ=>σ
theorem wT: ∀{is:List Nat} {vs:List V} {σ:St} {H:Hp} {Q:St->Hp->Prop},vs.length=is.length->Q (aAp is vs σ) H->gIs is vs σ H Q
 |[],[],_,_,_,_,h=>⟨rfl,h⟩
 |i::is,v::vs,σ,H,Q,e,h=>⟨v,vs,rfl,wT (is:=is) (vs:=vs) (by simpa using e) h⟩
 |[],_::_,_,_,_,e,_=>by simp at e
 |_::_,[],_,_,_,e,_=>by simp at e
def gTs(K:PySem.W.Frag)(k:Nat)(is:List Nat):TG:=match k,is with
 |0,[i]=>jN i
 |k,is=>aHd K is.length (gIs is)
def aGt(X:Cx)(x:Str)(i:Nat):Prop:=X.N[i]? =some x/\Loc X.env.scope x/\(X.fn x=true\/X.env.scope.names.lookup x=some .local)
inductive NmsOk(X:Cx):List Str->List Nat->Prop
 |nil:NmsOk X [] []
 |cons {x:Str} {i:Nat} {xs:List Str} {is:List Nat}:aGt X x i->NmsOk X xs is->NmsOk X (x::xs) (i::is)
section
variable {X:Cx} {ad:Ad} {Z:(St->Nat->Hp->Prop)->Prop} {bx:cc} {s:Shared} {σ:St} {H G G₀:Hp} {ρ:Rho} {D':Ends} {E:St->Nat->Hp->Prop} {pos pos':Pos} {e it tg:Expr} {f:F} {g h:FS} {st:Stmt} {body:List Stmt}
theorem NmsOk.len: ∀{xs:List Str} {is:List Nat},NmsOk X xs is->is.length=xs.length
 |_,_,.nil=>rfl
 |_,_,.cons _ h=>by simp[NmsOk.len h]
theorem wU(hN:X.N.Nodup): ∀{es:List Expr} {xs:List Str} {is:List Nat},gE (λ(e:Expr)=>match e with|.Name x _=>some x|_=>none) es=some xs->NmsOk X xs is->PGs X es (gIs is)
 |[],xs,is,e,h=>by
  cases e;cases h;exact vO
 |a::es,xs,is,e,h=>by
  unfold gE at e
  cases a<;>try (cases e)
  rename_i x px
  simp only at e
  obtain⟨r,e1,e2⟩:=zMd e;subst e2
  cases h with
  |cons h1 h2=>exact sI (j8 hN h1.1 h1.2.1 h1.2.2) (wU hN e1 h2) rfl
theorem iX: ∀{es:List Expr} {xs:List Str},gE (λ(e:Expr)=>match e with|.Name x _=>some x|_=>none) es=some xs->(assignEach es X.env).length=xs.length/\(assignEach es X.env).findIdx? (·.1)=none
 |[],xs,e=>by cases e;exact⟨rfl,rfl⟩
 |a::es,xs,e=>by
  unfold gE at e
  cases a<;>try (cases e)
  rename_i x px
  simp only at e
  obtain⟨r,e1,e2⟩:=zMd e;subst e2;obtain⟨h1,h2⟩:=iX e1
  have q:assignEach (.Name x px::es) X.env=(false,assign (.Name x px) X.env)::assignEach es X.env:=rfl
  rw[q];refine⟨by simp[h1],?_⟩
  rw[List.findIdx?_cons];simp[h2]
theorem aIy{xs:List Str}{k:Nat}{is:List Nat}(hc:X.calm=true)(hN:X.N.Nodup)(e:cE tg=some (xs,k))(h:NmsOk X xs is):PG X tg (gTs X.K k is)/\(k=0/\is.length=1\/k≠0/\k=is.length):=by
 cases tg<;>try (cases e)
 ·rename_i x px
  cases h with
  |cons h1 h2=>
   cases h2;exact⟨j8 hN h1.1 h1.2.1 h1.2.2,.inl ⟨rfl,rfl⟩⟩
 ·rename_i es j px;unfold cE at e;obtain⟨ys,e1,e2⟩:=zBd e
  by_cases hl:2<=ys.length
  ·rw[if_pos hl]at e2;cases e2;obtain⟨q1,q2⟩:=iX (X:=X) e1;have hk:=h.len;refine⟨?_,.inr ⟨by lia,hk.symm⟩⟩
   have P:=aB0 (pos:=px) (k:=j) (n:=is.length) hc (wU hN e1 h) (by rw[q1,hk]) q2
   have:gTs X.K xs.length is=aHd X.K is.length (gIs is):=by
    unfold gTs
    cases is with
    |nil=>simp at hk;lia
    |cons i is=>
     cases hx:xs.length with
     |zero=>lia
     |succ n=>rfl
   rw[this];exact P
  ·rw[if_neg hl]at e2;cases e2
theorem SS.setN: ∀{is:List Nat} {ds:List D} {vs:List V} {ρ:Rho} {σ:St},SS X ad G₀ G H ρ σ->aH X.K ad G ds vs->SS X ad G₀ G H (SK.setN is ds ρ) (aAp is vs σ)
 |[],ds,vs,ρ,σ,S,r=>by
  have e1:SK.setN [] ds ρ=ρ:=by cases ds<;>rfl
  have e2:aAp [] vs σ=σ:=by cases vs<;>rfl
  rw[e1,e2];exact S
 |i::is,[],vs,ρ,σ,S,r=>by
  unfold aH at r;subst r;exact S
 |i::is,d::ds,vs,ρ,σ,S,r=>by
  unfold aH at r;obtain⟨v,vr,rfl,r1,r2⟩:=r;exact SS.setN (is:=is) (ds:=ds) (vs:=vr) (ρ:=ρ.set i (.sh d)) (σ:=σ.set i (some v)) (S.set r1) r2
theorem aCm{k:Nat}{is:List Nat}{d:D}{v:V}{ρ1:Rho}{Q:St->Hp->Prop}(hk:k=0/\is.length=1\/k≠0/\k=is.length)(e:qO is (k==0) d ρ=some ρ1)(S:SS X ad G₀ G H ρ σ)(r:Rep X.K ad G d v)(q: ∀σ1,SS X ad G₀ G H ρ1 σ1->Q σ1 H):gTs X.K k is v σ H Q:=by
 rcases hk with ⟨rfl,h1⟩|⟨h1,h2⟩
 ·obtain⟨i,rfl⟩:=List.length_eq_one_iff.mp h1;cases e;exact q _ (S.set r)
 ·have hb:(k==0)=false:=by simpa using h1
  rw[hb]at e
  have e0:qO is false d ρ=match(generalizing:=false) d with|.tup ds=>if ds.length=is.length then some (SK.setN is ds ρ)else none|_=>none:=by
   cases is with
   |nil=>rfl
   |cons _ _=>rfl
  have e':=e0.symm.trans e
  have hg:gTs X.K k is=aHd X.K is.length (gIs is):=by
   unfold gTs
   cases k with
   |zero=>exact absurd rfl h1
   |succ k=>rfl
  rw[hg]
  cases d<;>try (cases e')
  rename_i ds
  simp only at e'
  by_cases hl:ds.length=is.length
  ·rw[if_pos hl]at e';cases e';unfold Rep at r;obtain⟨a,vs,rfl,hq,rq⟩:=r;exact⟨a,vs,rfl,S.st.gh.seqT hq,by rw[rq.length,hl],wT (by rw[rq.length,hl]) (q _ (S.setN rq))⟩
  ·rw[if_neg hl]at e';cases e'
theorem aEu{α:Type}{ds:List α}{i:Nat}{d:α}(e:ds[i]? =some d):ds.drop i=d::ds.drop (i+1):=by
 obtain⟨h,rfl⟩:=av.mp e;exact List.drop_eq_getElem_cons h
theorem sX{J:It}{G' H':Hp}{ds:List D}{k:Nat}{is:List Nat}(hk:k=0/\is.length=1\/k≠0/\k=is.length)(S:SS X ad G₀ G' H' ρ σ)(hx:XA X ad Z E)(it:ItG X ad J G' ds)(hr:OKo X ad G₀ (gZ (qO is (k==0)) g ds ρ) D' E):
  ∃W:Nat->Nat->St->Hp->Prop,(∃m,W 0 m σ H')/\∀i m σ H,W i m σ H->
   (J.stop i H/\D'.nx σ H)\/(J.go i H/\∃N:St->Hp->Prop,(∀σ' H',N σ' H'->∃m',m'<m/\W (i+1) m' σ' H')/\∀x H',J.yld i H x H'->gTs X.K k is x σ H' λσ2 H2=>tS X ad Z g {D' with nx:=N,ct:=N,bk:=D'.nx} σ2 H2):=by
 refine⟨λi m σ H=>m=ds.length-i/\i<=ds.length/\∃G ρ,SS X ad G₀ G H ρ σ/\Same G' G/\OKo X ad G₀ (gZ (qO is (k==0)) g (ds.drop i) ρ) D' E,⟨_,rfl,bq _,G',ρ,S,Same.refl _,hr⟩,?_⟩
 rintro i m σ1 H1 ⟨rfl,hi,G1,ρ1,S1,sm,hr1⟩
 cases q:ds[i]? with
 |none=>
  have hl:ds.length<=i:=List.getElem?_eq_none_iff.mp q
  have:i=ds.length:=by lia
  subst this;refine .inl ⟨it.stop G1 H1 sm S1.st.gh,?_⟩;rw[List.drop_length]at hr1;exact hr1 σ1 G1 H1 S1
 |some d=>
  have hlt:i<ds.length:=(av.mp q).1;obtain⟨go,yl⟩:=it.go i G1 H1 d sm S1.st.gh q;refine .inr ⟨go,λσ' H'=>∃G ρ,SS X ad G₀ G H' ρ σ'/\Same G' G/\OKo X ad G₀ (gZ (qO is (k==0)) g (ds.drop (i+1)) ρ) D' E,λσ' H' ⟨Ga,ρa,Sa,sa,ra⟩=>⟨_,by lia,rfl,hlt,Ga,ρa,Sa,sa,ra⟩,λx H2 y=>?_⟩
  obtain⟨G2,st,r2⟩:=yl x H2 y;rw[aEu q]at hr1;unfold gZ at hr1
  cases et:qO is (k==0) d ρ1 with
  |none=>rw[et]at hr1;exact hr1.elim
  |some ρ2=>
   rw[et]at hr1;have S2:=S1.step st;refine aCm hk et S2 r2 λσ2 S3=>?_
   refine⟨G2,G2,ρ2,E,S3.here,hx,?_⟩
   have hr2:OKo X ad G₀ (match g ρ2 with
    |.nx ρ2=>gZ (qO is (k==0)) g (ds.drop (i+1)) ρ2
    |.ct ρ2=>gZ (qO is (k==0)) g (ds.drop (i+1)) ρ2
    |.bk ρ2=>.nx ρ2
    |.rt r=>.rt r
    |.ex c ρ2=>.ex c ρ2) D' E:=hr1
   cases eo:g ρ2 with
   |nx ρ3=>
    rw[eo]at hr2;exact λσ G H S4=>⟨G,ρ3,S4.up S3.st,(sm.trans st.sg).trans S4.st.sg,hr2⟩
   |ct ρ3=>
    rw[eo]at hr2;exact λσ G H S4=>⟨G,ρ3,S4.up S3.st,(sm.trans st.sg).trans S4.st.sg,hr2⟩
   |bk ρ3=>
    rw[eo]at hr2;exact λσ G H S4=>hr2 σ G H (S4.up S3.st)
   |ex c ρ3=>
    rw[eo]at hr2;exact λσ G H S4=>hr2 σ G H (S4.up S3.st)
   |rt r=>
    rw[eo]at hr2
    have:=hr2.rebase S3.st
    cases r<;>exact this
theorem aIz{k:Nat}{is:List Nat}{xs:List Str}(hp:PassesOwn (model X.prog X.w) X.A X.env X.xe)(hc:X.calm=true)(hN:X.N.Nodup)(hi:MIG X ad tg it f)(ht:cE tg=some (xs,k))(hn:NmsOk X xs is)(hb:MSs X ad Z body g)
  (hs: ∀x,foldedSetIterable it X.env x=pure x):MS X ad Z (.For tg it body [] pos) (zZ is (k==0) f g):=by
 obtain⟨P,hk⟩:=aIy hc hN ht hn;refine PS.imp (aHg hp hc hi P hb hs) ?_;rintro D' σ H ⟨G₀,G,ρ,E,S,hx,hr⟩;refine⟨G,ρ,E σ,S.st.gh,S.sl,hx.1 σ,?_⟩;unfold zZ iA at hr
 cases e:f ρ with
 |ok d=>
  rw[e]at hr
  have hr':OKo X ad G₀ (match items d with|some ds=>gZ (qO is (k==0)) g ds ρ|none=>.rt .bad) D' E:=hr
  cases e2:items d with
  |none=>rw[e2]at hr';exact hr'.elim
  |some ds=>
   rw[e2]at hr';exact⟨ds,e2,λJ G' H' st it=>sX hk (S.step st) hx it hr'⟩
 |ow xs=>
  rw[e]at hr;exact λJ G' H' st it=>sX hk (S.step st) hx it hr
 |ex c=>rw[e]at hr;exact λG1 H1 st=>hr σ G1 H1 (S.step st)
 |bad=>rw[e]at hr;exact hr
theorem aI0{st:Stmt}:MS X ad Z st aKp:=λ_ _ _ _ _ _ ⟨_,_,_,_,_,_,hr⟩=>ax hr
end
section
variable {X:Cx} {ad:Ad} {bx:cc} {s s3:Shared} {σ σ2:St} {H G G₀ H3 H':Hp} {ρ:Rho} {Q:VK} {D':Ends} {E:St->Nat->Hp->Prop} {pos pos' cpos:Pos} {elt it tg:Expr} {ifs:List Expr} {f fi fe:F} {fc:Option F} {sc:Scope} {k:Nat} {cs:List Nat} {xs:List Str}
theorem rS{s2:Shared}{h':Heap}(I3:Inv X bx σ H3 s3)(I2:Inv X bx σ2 H' s2)(hf:H' s3.heap.objs.size=none)(sb:Heap.SameBut s3.heap.objs.size s2.heap h'):Inv X bx σ2 H' {s2 with heap:=h'}:=by
 refine I2.turned (t':=s2.toks) (it:=s3.heap.objs.size) (λb o ne e=>(sb.2 b ne).trans e) hf ?_ (.inr I3.sz) (λx c h z=>?_) λp hp z=>?_
 ·intro z;obtain⟨m,hn,_⟩:=I3.loc;obtain⟨o,_,_,ho,_⟩:=hn;exact absurd (ah ho) (by rw[<-z];exact Nat.lt_irrefl _)
 ·obtain⟨v,o,ho,_⟩:=I3.cell x c h;exact absurd (ah ho) (by rw[z];exact Nat.lt_irrefl _)
 ·obtain⟨ho,_⟩:=I3.pin p hp;exact absurd (ah ho) (by rw[z];exact Nat.lt_irrefl _)
theorem aAq{h h':Heap}{a C:Addr}{m:Str->Option Value}(n:h.Ns C m)(sb:Heap.SameBut a h h')(ne:C≠a):h'.Ns C m:=by
 obtain⟨o,es,ep,ho,r⟩:=n;exact⟨o,es,ep,(sb.2 C ne).trans ho,r⟩
theorem aAr{U:Prop}(hw:U->∀ρ y,fe ρ≠ .ok y){C:Ctx}{i:Nat}{x:Str}(hN:X.N.Nodup)(hi:aGt X x i)(hc:X.calm=true)(S:CompSc X C sc xs cs)(hit:MI X ad tg it fi)(hset: ∀a b c,it≠ .Set a b c)(hxs:xs.length=if k=0 then 1 else k)
  (hg: ∀fp s3 H3 pins',PG (cX X (xs++bM sc) sc s3 H3 fp pins') tg (gTg X.K k)) (hts: ∀fp s3 H3 pins',MTs (cX X (xs++bM sc) sc s3 H3 fp pins') ad ifs fc) (he: ∀fp s3 H3 pins',ME (cX X (xs++bM sc) sc s3 H3 fp pins') ad elt fe)
  (hs:swapsWith (.ListComp elt [⟨tg,it,ifs,0⟩] sc cpos) (some (.Name x pos')) pos.line X.env=pure true):
  PS X (.Assign [.Name x pos'] (.ListComp elt [⟨tg,it,ifs,0⟩] sc cpos) pos) (aDg (tEW X ad U (aL k cs fi fc fe)) (jN i)):=by
 intro bx s σ H D' I ⟨G,ρ,E,hG,hS,hx,hr⟩;rw[exec_Assign_Name_used _ _ _ _ hs]
 have hcl:closureFor sc X.env=pure (qQ X.env.cells sc.names []):=lZ λx hx=>by
  obtain⟨c,h⟩:=I.ok.has x (S.fre x hx);rw[h];rfl
 refine aa (wpAny_standAt (aa ?_));show wpAny _ X.A (do let _<-comprehension (.ListComp elt [⟨tg,it,ifs,0⟩] sc cpos) sc X.env _ (newList []) false (eval it X.env) (some (assign (.Name x pos') X.env))) _ _ s
 refine aa (wpAny_mono (wpAny_comprehension_free (use:=some (assign (.Name x pos') X.env)) (Q:=λ_ s'=>SP X bx D' .next s') rfl (aEg hset) hcl S.kind S.names ?_) (λ_ s' hq=>ae (ae hq)) λ_ _ e=>e)
 refine L2.thn (hit bx s σ H _ I ⟨G,ρ,E,hG,hS,hx,aIt (W:=λJ H2=>∃G2 ds all,Step G H G2 H2/\ItH X ad J G2 H2 ds/\bL (cW k (iT cs ρ) fc fe) ds=some all/\RKW X.K ad U G2 H2 (.ow all) (λv H1=>jN i v σ H1 D'.nx) E) hr λJ G2 H2 ds all a b c d=>⟨G2,ds,all,a,b,c,d⟩⟩) λv s1 h1=>
  L2.thn h1 λitv s2 hz_=>?_
 obtain⟨itA,fp,tn,J,H2,e,I2,T,st2,f2,G2,ds,all,sp,hit,hgo,hr2⟩:=hz_;subst e;obtain⟨σc,l1,l2,l3⟩:=l4 (xs:=xs) (sc:=sc) (nt:=if k=0 then 1 else k) hxs S.N S.cs (λx h=>pC h) (hS.step sp) I2.len
 refine pB (σc:=σc) hw hc I2 T st2 f2 hit hgo sp.gh S.kind S.cell S.fre S.frl l1 l2 rfl l3 (hg fp) (hts fp) (he fp) λs3 s' H3 H' G' σ' D vs I3 f3 J' sp' hD gD hD' r' rn'=>?_
 obtain⟨m,hns,_⟩:=J'.loc;have I4:Inv X bx σ H' s':=aCk (fpO:=f3) I3 J' ⟨rfl,λ_ _=>rfl⟩
 show wpAny _ X.A (assign (.Name x pos') X.env (.ref D)) _ _ _;refine wpAny_assign_Name (oC I4 hN hi.1 hi.2.1 (v:=.ref D) rfl (λs'' I5 ⟨a,sb,ha⟩=>?_) hi.2.2)
 have ne:s3.heap.objs.size≠a:=by
  rcases ha with rfl|ha
  ·intro z;obtain⟨m',hn,_⟩:=I3.loc;obtain⟨o,_,_,ho,_⟩:=hn;exact absurd (ah ho) (by rw[<-z];exact Nat.lt_irrefl _)
  ·intro z;obtain⟨v,o,ho,_⟩:=I3.cell x a ha;exact absurd (ah ho) (by rw[<-z];exact Nat.lt_irrefl _)
 refine⟨m,aAq hns sb ne,λh' sb'=>?_⟩
 exact⟨σ.set i (some (.ref D)),H',rS I3 I5 J'.free sb',hr2 D vs G' H' sp' hD gD hD' r' rn'⟩
theorem aEv{C:Ctx}{i:Nat}{x:Str}(hN:X.N.Nodup)(hi:aGt X x i)(hc:X.calm=true)(S:CompSc X C sc xs cs)(hit:MI X ad tg it fi)(hset: ∀a b c,it≠ .Set a b c)(hxs:xs.length=if k=0 then 1 else k)
  (hg: ∀fp s3 H3 pins',PG (cX X (xs++bM sc) sc s3 H3 fp pins') tg (gTg X.K k)) (hts: ∀fp s3 H3 pins',MTs (cX X (xs++bM sc) sc s3 H3 fp pins') ad ifs fc) (he: ∀fp s3 H3 pins',ME (cX X (xs++bM sc) sc s3 H3 fp pins') ad elt fe)
  (hs:swapsWith (.ListComp elt [⟨tg,it,ifs,0⟩] sc cpos) (some (.Name x pos')) pos.line X.env=pure true):
  PS X (.Assign [.Name x pos'] (.ListComp elt [⟨tg,it,ifs,0⟩] sc cpos) pos) (aDg (tE X ad (aL k cs fi fc fe)) (jN i)):=
 PS.imp (aAr (U:=False) ax hN hi hc S hit hset hxs hg hts he hs) λD' σ H ⟨G,ρ,E,hG,hS,hx,hr⟩=>⟨G,ρ,E,hG,hS,hx,RK.w hr⟩
end
section
variable {X:Cx} {ad:Ad} {Z:(St->Nat->Hp->Prop)->Prop} {e:Expr} {f:F}
end
open PySem.W PySem.Calls Builtin Builtin.ObjectAttr Builtin.Getset_descriptor
section
variable {prog:Program} {w:World} {A:Around} {E:cb} {s:Shared} {K:Frag} {x C:Addr} {R:Result->Shared->Prop}
theorem mZ.ty{M:Model}{h:Heap}(I:mZ h x C):Looks M h (typeOf (.ref x)) (.ref C):=by
 obtain⟨o,vs,h1,h2,h3⟩:=I;exact h2▸(Looks.ld h1).andThen .now
theorem aEw{tp:Value}(X:K.In s.heap)(I:mZ s.heap x C)(hm:mroIn K C (.type "object")=some true)(h:R (.ok (.ret (.ref C))) s):
  codeAny (model prog w) A (.call (.builtin "getset_descriptor.__get__") ⟨[.builtin "object.__class__",.ref x,tp],[]⟩) R s:=by
 obtain⟨hh,g,dr,t,os⟩:=s;have L0:=I.ty (M:=model prog w);have L1:=looks_mroIn (M:=model prog w) X hm;refine codeAny_call_builtin KF.slot_gs.plain KF.entry_gs (KF.slot_gs.check _ _ _ _ _ _ _ _ KF.type_class (KF.args_gs _ _ _) ?_);unfold Builtin.«getset_descriptor.__get__» descrGet;rw[dga_obj];refine aa (ae ?_);unfold descrGetter descrCheckInstance descrNameAndClass isInstance;simp only[KF.owner_class]
 repeat lk
 refine⟨Code.quiet_builtin _ (by decide+kernel),codeAny_builtin KF.entry_class ?_⟩
 unfold Builtin.«object.__class__» shownTypeOf
 repeat lk
 exact h
theorem wV{M:Model}{nameV:Value}{Q:Unit->Shared->Prop}(X:K.In s.heap)(I:mZ s.heap x C)(hm:mroIn K C (.type "BaseException")=some true)(hq:Q () s):wpAny M A (checkBuiltinCall "BaseException.__getattribute__" ⟨[.ref x,nameV],[]⟩) Q E s:=by
 obtain⟨hh,g,dr,t,os⟩:=s
 have hk:builtinKind "BaseException.__getattribute__"=some .slot:=by decide+kernel
 have hsplit:splitId "BaseException.__getattribute__"=some ("BaseException","__getattribute__"):=by decide+kernel
 have L0:=I.ty (M:=M);have L1:=looks_mroIn (M:=M) X hm;have ha:=F.args_bexc_ga (.ref x) nameV;simp only[checkBuiltinCall,hk,hsplit];refine aa ?_;unfold isInstance;refine aa (L0.at (L1.at ?_))
 repeat (any_goals (first|assumption|wp_step))
theorem wW{tk:Tok}{Q:PySem.Fin->Shared->Prop}(X:K.In s.heap)(I:mZ s.heap x C)(hm:mroIn K C (.type "object")=some true)(ha:findIn K (.ref C) "__class__"=some (some (.builtin "object.__class__")))(hq:Q (.done (.ret (.ref C))) s):
  wpAny (model prog w) A (Builtin.«object.__getattribute__» ⟨[.ref x,.str "__class__" tk],[]⟩) Q E s:=by
 obtain⟨hh,g,d,t,os⟩:=s;have hT5:(⟨hh,g,d,t,os⟩:Shared).TypeIs (.builtin "object.__class__") "getset_descriptor":=F.typeOf_object_class;have f5:=F.typeOf_object_class;have f6:=F.slot_gs_get.lookup;have f7:=F.slot_gs_set.lookup;have L0:=I.ty (M:=model prog w);have L1:=looks_findIn (M:=model prog w) X ha;obtain⟨o,vs,hx,hc,hd⟩:=id I
 repeat (any_goals (first|assumption|(with_reducible refine wpAny_loadPart_at hx ?_;rw[hc])|with_reducible refine L1.at ?_|wp_step))
 refine aEw X I hm ?_
 repeat (any_goals (first|assumption|wp_step))
theorem wX{Q:Option Value->Shared->Prop}(X:K.In s.heap)(I:mZ s.heap x C)(hm:mroIn K C (.type "object")=some true)(hb:mroIn K C (.type "BaseException")=some true)(ha:findIn K (.ref C) "__class__"=some (some (.builtin "object.__class__")))
  (hg:findIn K (.ref C) "__getattribute__"=some (some (.builtin "BaseException.__getattribute__"))) (hn:findIn K (.ref C) "__getattr__"=some none) (h:Q (some (.ref C)) {s with toks:=s.toks+1}):
  wpAny (model prog w) A (getAttr? (.ref x) "__class__") Q E s:=by
 obtain⟨hh,g,d,t,os⟩:=s;have L0:=I.ty (M:=model prog w);have L1:=looks_findIn (M:=model prog w) X hg;have L2:=looks_findIn (M:=model prog w) X hn;have f3:=PySem.F.excAttr_ValueError.ga.bind (.ref x)
 have hx2:(Value.builtin "BaseException.__getattribute__"==Value.builtin "object.__getattribute__")=false:=by decide+kernel
 have hx1:(onTheHeap (Value.ref C)&&Value.builtin "BaseException.__getattribute__"==Value.builtin "object.__getattribute__")=false:=by rw[hx2];rfl
 obtain⟨o,vs,hx,hc,hd⟩:=id I;unfold getAttr? getAttrBy? getAttrBy
 repeat (any_goals (first|assumption|(with_reducible refine wpAny_loadPart_at hx ?_;rw[hc])|with_reducible refine L1.at ?_|with_reducible refine L2.at ?_|wp_step))
 refine codeAny_call_builtin PySem.F.excAttr_ValueError.ga.plain F.entry_bexc_ga (wV X I hb (wW X I hm ha ?_))
 repeat (any_goals (first|assumption|wp_step))
end
theorem _root_.L2.ObjOk.there{P:Program}{w:World}{H:Hp}{h:Heap}{a:Addr}{o:HO}(x:ObjOk P w H h a o): ∃ob,h.get? a=some ob:=by
 cases o with
 |lst xs=>obtain⟨_,_,_,_,e⟩:=x;exact⟨_,e⟩
 |tup xs=>obtain⟨_,_,_,⟨ob,e,_⟩,_⟩:=x;exact⟨_,e⟩
 |dK kvs=>obtain⟨_,_,_,_,o,_,_,e,_⟩:=x;exact⟨_,e⟩
 |dT kvs=>obtain⟨_,_,_,_,o,_,_,e,_⟩:=x;exact⟨_,e⟩
 |set S n=>obtain⟨o,_,_,_,e,_⟩:=x;exact⟨_,e⟩
 |ins C dx fs=>obtain⟨_,_,_,e,_⟩:=x;exact⟨_,e⟩
 |own y=>exact x
 |xd fs=>obtain⟨_,⟨_,_,_,e,_⟩,_⟩:=x;exact⟨_,e⟩
 |rng lo hi=>obtain⟨_,_,_,e⟩:=x;exact⟨_,e⟩
 |frz ob u=>obtain⟨e,_⟩:=x;exact⟨_,e⟩
 |tbl ps=>exact⟨_,(show h.get? a=some _ from x)⟩
 |met f y=>exact⟨_,(show h.get? a=some _ from x)⟩
 |ext φ=>obtain⟨_,e,_⟩:=x;exact e
section
variable {X:Cx} {ad:Ad} {bx:cc} {s:Shared} {σ:St} {H H':Hp} {B h':Heap} {ea:Addr} {cls a0:Value} {E₀:XK} {E:Nat->Hp->Prop}
structure DefX(X:Cx)(E₀:XK):Prop where
 ex:X.ex=[]
 stk:X.stack=X.env::X.outer
 fr:X.env.frame=some X.env.locals
 xe: ∀e s',wpAny (model X.prog X.w) X.A (leaving X.env e) (λ_ s''=>CXe X.prog X.w X.outer X.H₀ X.s₀ E₀ e s'') (λe' s''=>CXe X.prog X.w X.outer X.H₀ X.s₀ E₀ e' s'') s'->X.xe e s'
theorem sY(J:Inv X bx σ H s){b:Addr}{o:Obj}(e:X.s₀.heap.get? b=some o):b≠X.env.locals:=λz=>by
 have:=ah e
 rw[z]at this;exact absurd (bd this J.ok.above) (Nat.lt_irrefl _)
theorem wY(J:Inv X bx σ H s){b:Addr}{o:Obj}(e:X.s₀.heap.get? b=some o)(nf:b∉X.fs):b∉frs X.stack:=λz=>by
 rcases aq.mp (J.stkSub b z)with q|q
 ·exact sY J e q
 ·exact nf q
theorem aCn(T:DefX X E₀)(J:Inv X bx σ H' s)(fly:Heap.FlyingW B X.outer ea cls a0 h')(ff:s.heap.FunFrames B X.stack)(stays:B.StaysIn s.heap)(up:s.heap.UpToSlots h')
  (c8: ∀b o,X.s₀.heap.get? b=some o->b∉X.fs->∃o',B.get? b=some o') (c9: ∀b o,H' b=some o->∃o',B.get? b=some o') (ne:H' ea=none) (q:E₀ cls none H'):
  CXe X.prog X.w X.outer X.H₀ X.s₀ E₀ (.ref ea) {s with heap:=h'}:=by
 have nx: ∀b,b∉X.ex:=λb=>by rw[T.ex];simp
 have st2:B.StaysIn h':=fly.1
 have inB: ∀b o,s.heap.get? b=some o->(∃o',B.get? b=some o')->h'.get? b=some o:=λb o e ⟨o',e'⟩=>by
  have:=stays b o' e'
  rw[e]at this;cases this;exact st2 b o e'
 have frame: ∀b∈X.fs, ∀o,s.heap.get? b=some o->∃sl,h'.get? b=some {o with slots:=sl}:=λb hb o e=>by
  obtain⟨_,o2,e2,nf⟩:=ff.mem (b:=b) (by rw[T.stk];show b∈frs (X.env::X.outer);unfold frs;rw[List.filterMap_cons,T.fr];exact List.mem_cons_of_mem _ hb)
  rw[e]at e2;cases e2;exact up b o e nf
 refine⟨ea,cls,a0,H',B,rfl,J.os,J.bare,fly,⟨λb o e n hf _=>?_,λb o e n hf _=>?_,λb o e n _=>?_,λb o e _=>?_,J.base.tups,J.base.frzs,J.base.tbls⟩,λb o e=>?_,ne,c8,c9,q⟩
 ·exact inB b o (J.base.keep b o e n hf (nx b)) (c8 b o e hf)
 ·obtain⟨sl,e1⟩:=J.base.slot b o e n hf (nx b);obtain⟨sl',e2⟩:=frame b hf _ e1;exact⟨sl',e2⟩
 ·exact J.base.free b o e n (nx b)
 ·obtain⟨o',e1⟩:=J.base.there b o e (nx b)
  by_cases hf:b∈X.fs
  ·obtain⟨sl,e2⟩:=frame b hf _ e1;exact⟨_,e2⟩
  ·exact⟨o',inB b o' e1 (c8 b o e hf)⟩
 ·refine(J.hok b o e).stay (λc v hc e1=>?_) (λ_ z=>z) λ_ _ z=>z
  rcases hc with rfl|hc
  ·exact inB c v e1 (c9 c o e)
  ·exact inB c v e1 (c9 c _ hc)
theorem aI1(T:DefX X E₀):XP X ad σ (λc H'=>E₀ (.ref (ad.cls c)) none H'):=by
 intro bx H s e s' I hc;obtain⟨ea,cls,a0,H',B,rfl,ho,hg,fly,un,hok,ne,c8,c9,c,rfl,q⟩:=hc;have J:Inv X bx σ H' s':=I.call' (ch:=[]) ho un hok hg λb hb=>by simp at hb
 refine T.xe _ _ ?_
 have hfr:X.A.frames=some (X.env::X.outer):=by rw[<-T.stk];exact I.ok.frames
 rw[T.stk]at fly;refine wpAny_leaves_onW hfr T.fr fly λh' fly' up=>?_
 refine aCn T J fly' (by rw[T.stk];exact fly.2.2.1) fly.1 up (λb o e hf=>?_) c9 ne q
 obtain⟨o',e1⟩:=I.base.there b o e (by rw[T.ex];simp)
 exact c8 b o' e1 (wY I e hf)
theorem aAs{x:Str}{C:Addr}{np cpos pos kp:Pos}{msg:Str}{j:Nat}{D':Ends}(T:DefX X E₀)(hc:X.calm=true)(hg:L2.Gl X x)(hm:X.mg x=some (.ref C))(hd:(x==("__debug__":Str))=false)(hi:excIn X.K C [.type "ValueError",.type "Exception",.type "BaseException",.type "object"] "ValueError.__new__"=true)
  (I:Inv X bx σ H s) (q:E₀ (.ref C) none H):wpAny (model X.prog X.w) X.A (exec (.Raise (some (.Call (.Name x np) [.Constant (.str msg) j kp] [] cpos)) none pos) X.env) (SP X bx D') X.xe s:=by
 have obj: ∀h₀:Heap,X.K.In h₀->∃bm N nm q bs hdct sn sub ab col dd k0 k1 k2 k3 k5 mN,h₀.get? C=some (excClassObj nm q C N bs bm hdct sn sub ab col dd k0 k1 k2 k3 k5 "ValueError.__new__")/\h₀.Ns N mN/\mN "__init__"=none/\OwnTail h₀ [.type "ValueError",.type "Exception",.type "BaseException",.type "object"] bm:=by
  intro h₀ Z;have q:=hi;unfold excIn at q;split at q
  ·rename_i dd cd sl ho;split at q
   ·rename_i C' bm k0 k1 k2 k3 n k5 hm hs;simp only[ar,beq_iff_eq,Bool.not_eq_true']at q;obtain⟨⟨⟨⟨⟨rfl,rfl⟩,hdel⟩,ht⟩,hok⟩,hni⟩:=q;obtain⟨nm,bs,mro,ns,qn,hd,sn,sub,ab,col,del⟩:=cd
    dsimp only at hm hdel hok hni
    subst hm hdel
    have hsl:sl= #[k0,k1,k2,k3,some (.builtin "ValueError.__new__"),k5]:=by
     obtain⟨l⟩:=sl
     simp only at hs
     rw[hs]
    subst hsl;exact⟨bm,ns,nm,qn,bs,hd,sn,sub,ab,col,dd,k0,k1,k2,k3,k5,_,Z _ _ ho,.of_isNs (isNs_of_in Z hok),nsMap_none_of_in Z hok hni,tail_of_in Z ht⟩
   ·cases q
  ·cases q
 obtain⟨bm,N,nm,qn,bs,hdct,sn,sub,ab,col,dd,k0,k1,k2,k3,k5,mN,hC,hN,hni,hT⟩:=obj X.base I.ok.mod.kin
 refine wpAny_Raise_call_subT (C:=C) (nm:=nm) (q:=qn) (N:=N) (bs:=bs) (bm:=bm) (hdct:=hdct) (sn:=sn) (sub:=sub) (ab:=ab) (col:=col) (dd:=dd) (k0:=k0) (k1:=k1) (k2:=k2) (k3:=k3) (k5:=k5)
  PySem.F.excBase_ValueError (mN:=mN) (hT.hasType PySem.F.excBase_ValueError.hasBase) (I.ok.hd hc) rfl hni (mR I hg hm ⟨rfl,?_⟩ hd)
 refine Calls.evalArgs_plain (Calls.spliced_cons (Calls.Constant_str (k:=j) (pos:=kp) (Calls.spliced_nil ⟨rfl,(show 1<=sizeLine from by decide),?_,?_,?_,λh' e M=>?_⟩)))
 ·exact I.bk _ _ hC
 ·exact hN.keeps I.bk
 ·exact hT.keeps I.bk
 ·-- the frame is left
  have I1:Inv X bx σ H {s with toks:=s.toks+1}:=I.tok _
  have J:Inv X bx σ H {s with heap:=h',toks:=s.toks+1}:=I.kept (t':=s.toks+1) M.keeps
  refine T.xe _ _ ?_
  have hfr:X.A.frames=some (X.env::X.outer):=by rw[<-T.stk];exact I.ok.frames
  have ff:s.heap.FunFrames (hideAll s.heap (frs X.stack)) X.stack:=funFrames_hide I.stack λenv he a ea=>List.mem_filterMap.mpr ⟨env,he,ea⟩
  have fk:h'.FunFrames (hideAll s.heap (frs X.stack)) X.stack:=ff.of_keeps λb o hb _=>⟨o,M.keeps b o hb,rfl⟩
  have stays:(hideAll s.heap (frs X.stack)).StaysIn s.heap:=λb o e=>of_hideAll _ e
  have ff0:=ff;rw[T.stk]at ff0;have stays':(hideAll s.heap (frs (X.env::X.outer))).StaysIn s.heap:=λb o e=>of_hideAll _ e
  refine wpAny_leaves_madeW (h:=s.heap) (base:=hideAll s.heap (frs (X.env::X.outer))) hfr T.fr stays' ff0 M λh2 t fly _ _ up=>?_
  refine aCn T J fly (by rw[T.stk]at fk ⊢;exact fk) (λb o e=>M.keeps b o (of_hideAll _ e)) up (λb o e hf=>?_) (λb o e=>?_) ?_ q
  ·obtain⟨o',e1⟩:=I.base.there b o e (by rw[T.ex];simp)
   exact⟨o',hideAll_get _ e1 (by have:=wY I e hf;rwa [T.stk]at this)⟩
  ·obtain⟨o',e1⟩:=(I.hok b o e).there
   exact⟨o',hideAll_get _ e1 λz=>by
    have:=I.stkFree b (by rw[T.stk];exact z)
    rw[this]at e
    cases e⟩
  ·cases z:H e with
   |none=>rfl
   |some o=>
    obtain⟨o',e1⟩:=(I.hok e o z).there;rw[M.new]at e1;cases e1
end
section
variable {X:Cx} {ad:Ad} {bx:cc} {s:Shared} {σ:St} {H H':Hp} {B h':Heap} {ea:Addr} {cls a0:Value} {E₀:XK}
theorem aAt{M:Model}{A:Around}{E:cb}{i:Nat}{x:Str}{v:V}{Q:Unit->Shared->Prop}(I:Inv X bx σ H s)(hN:X.N.Nodup)(hi:X.N[i]? =some x)(hk:X.env.scope.names.lookup x=some .local)(hv:σ[i]? =some (some v))
  (h: ∀s',Inv X bx (σ.set i none) H s'->Q () s'):wpAny M A (unbindName X.env x) Q E s:=by
 obtain⟨m,hn,hl⟩:=id I.loc
 have hcls:(X.env.scope.kind== .class||(X.env.scope.kind== .module&&X.env.locals != X.env.globals))=false:=by rw[I.ok.kind];rfl
 have cne:=I.cne;obtain⟨u0,_,l0⟩:=hl i x v hi hv (.inl hk)
 have hm:m x=some u0:=by
  rcases l0 with ⟨_,e⟩|⟨k,_⟩
  ·exact e
  ·rcases k with k|k
   ·have:X.env.kindOf x=some .local:=hk
    rw[this]at k;cases k
   ·have:X.env.kindOf x=some .local:=hk
    rw[this]at k;cases k
 refine wpAny_unbindName_local hk hn hm hcls λh' u hn' hs=>?_
 obtain⟨oL,_,_,hoL,_⟩:=id hn;refine h {s with heap:=h'} ⟨I.ok,I.os,I.bare,⟨λb o e n hb hx=>?_,λb o e n hb hx=>?_,I.base.free,λb o e hx=>?_,I.base.tups,I.base.frzs,I.base.tbls⟩,⟨_,hn',λj y v' e1 e2 e3=>?_⟩,λy c e=>?_,I.free,I.freeC,λp hp=>?_,λb ob e=>?_,by simpa using I.len⟩
 ·exact(hs.2 b (sY I e)).trans (I.base.keep b o e n hb hx)
 ·obtain⟨sl,e1⟩:=I.base.slot b o e n hb hx;exact⟨sl,(hs.2 b (sY I e)).trans e1⟩
 ·obtain⟨o',e1⟩:=I.base.there b o e hx;exact⟨o',(hs.2 b (sY I e)).trans e1⟩
 ·by_cases hj:j=i
  ·subst hj;have hlt:j<σ.length:=(av.mp hv).1;rw[bg hlt]at e2;cases e2
  ·rw[ay (Ne.symm hj)]at e2;obtain⟨u',r',q⟩:=hl j y v' e1 e2 e3;refine⟨u',r',?_⟩;rcases q with ⟨k,e⟩|⟨k,c,e,z⟩
   ·refine .inl ⟨k,?_⟩
    have:y≠x:=λe=>hj (mQ hN e1 (e▸hi))
    simp[this,e]
   ·exact .inr ⟨k,c,e,z.sameBut hs (cne y c e)⟩
 ·obtain⟨w',z⟩:=I.cell y c e;exact⟨w',z.sameBut hs (cne y c e)⟩
 ·obtain⟨e,n,ne,nf,d⟩:=I.pin p hp;exact⟨(hs.2 p.1 ne).trans e,n,ne,nf,d⟩
 ·refine(I.hok b ob e).stay (λc w' hc q=>(hs.2 c ?_).trans q) (λ_ q=>q) λ_ _ q=>q
  rintro rfl;rcases hc with rfl|hc
  ·rw[I.free]at e;cases e
  ·rw[I.free]at hc;cases hc
theorem aL1{fs:List Addr}{h h1 h2:Heap}(un:Un fs [] H H' h h1)(stays:B.StaysIn h1)(st2:B.StaysIn h2)(up:h1.UpToSlots h2)(nf: ∀b∈fs, ∀o,h1.get? b=some o->∀vs,o.data≠ .fields vs)(c8: ∀b o,h.get? b=some o->b∉fs->∃o',B.get? b=some o'):Un fs [] H H' h h2:=by
 have inB: ∀b o,h1.get? b=some o->(∃o',B.get? b=some o')->h2.get? b=some o:=λb o e ⟨o',e'⟩=>by
  have:=stays b o' e'
  rw[e]at this;cases this;exact st2 b o e'
 refine⟨λb o e n hf hx=>inB b o (un.keep b o e n hf hx) (c8 b o e hf),λb o e n hf hx=>?_,un.free,λb o e hx=>?_,un.tups,un.frzs,un.tbls⟩
 ·obtain⟨sl,e1⟩:=un.slot b o e n hf hx;obtain⟨sl',e2⟩:=up b _ e1 (nf b hf _ e1);exact⟨sl',e2⟩
 ·obtain⟨o',e1⟩:=un.there b o e hx
  by_cases hf:b∈fs
  ·obtain⟨sl,e2⟩:=up b _ e1 (nf b hf _ e1);exact⟨_,e2⟩
  ·exact⟨o',inB b o' e1 (c8 b o e hf)⟩
theorem aI2{P:Program}{w:World}{h1 h2:Heap}(hok:HOk P w H' h1)(stays:B.StaysIn h1)(st2:B.StaysIn h2)(c9: ∀b o,H' b=some o->∃o',B.get? b=some o'):HOk P w H' h2:=by
 have inB: ∀b o,h1.get? b=some o->(∃o',B.get? b=some o')->h2.get? b=some o:=λb o e ⟨o',e'⟩=>by
  have:=stays b o' e'
  rw[e]at this;cases this;exact st2 b o e'
 intro b o e;refine(hok b o e).stay (λc v hc e1=>?_) (λ_ z=>z) λ_ _ z=>z
 rcases hc with rfl|hc
 ·exact inB c v e1 (c9 c o e)
 ·exact inB c v e1 (c9 c _ hc)
theorem _root_.L2.Inv.track{a:Addr}{o:HO}(J:Inv X bx σ H s)(hn:H a=none)(n0:X.s₀.heap.get? a=none)(hL:a≠X.env.locals)(hC: ∀x c,X.env.cells.lookup x=some c->c≠a)(hp: ∀p∈X.pn++bx,p.1≠a)
  (new:ObjOk X.prog X.w (upd H a o) s.heap a o):Inv X bx σ (upd H a o) s:=by
 refine⟨J.ok,J.os,J.bare,⟨J.base.keep,J.base.slot,λb ob e n hx=>?_,J.base.there,λb xs e=>?_,λb ob u e=>?_,λb ps e=>?_⟩,J.loc,J.cell,?_,λx c e=>?_,λp hq=>?_,λb u e=>?_,J.len⟩
 ·have:b≠a:=λz=>by rw[z,n0]at e;cases e
  rw[aO this];exact J.base.free b ob e n hx
 ·have e1:=J.base.tups b xs e;rw[aO (bJ e1 hn)];exact e1
 ·have e1:=J.base.frzs b ob u e;rw[aO (bJ e1 hn)];exact e1
 ·obtain⟨m,e1⟩:=J.base.tbls b ps e;exact⟨m,by rw[aO (bJ e1 hn)];exact e1⟩
 ·rw[aO (Ne.symm hL)];exact J.free
 ·rw[aO (hC x c e)];exact J.freeC x c e
 ·obtain⟨e,n,ne,nf,d⟩:=J.pin p hq;exact⟨e,by rw[aO (hp p hq)];exact n,ne,nf,d⟩
 ·by_cases hb:b=a
  ·subst hb;rw[a9]at e;cases e;exact new
  ·rw[aO hb]at e;exact(J.hok b u e).stay (λ_ _ _ q=>q) (λc q=>by rw[aO (bJ q hn)];exact q) λc xs q=>by rw[aO (bJ q hn)];exact q
theorem _root_.SK.SS.setNo{G₀ G:Hp}{ρ:Rho}{i:Nat}{ov:Option V}(S:SS X ad G₀ G H ρ σ):SS X ad G₀ G H (ρ.set i .no) (σ.set i ov):=by
 have key: ∀(j:Nat) (sl:Slot),(ρ.set i .no)[j]? =some sl->(j=i/\sl= .no/\i<ρ.length)\/(j≠i/\ρ[j]? =some sl):=λj sl e=>by
  by_cases z:j=i
  ·subst z;have hl:j<ρ.length:=by have:=(av.mp e).1;rwa [List.length_set]at this
   rw[bg hl]at e;cases e;exact .inl ⟨rfl,rfl,hl⟩
  ·rw[ay (Ne.symm z)]at e;exact .inr ⟨z,e⟩
 refine⟨S.st,⟨by rw[List.length_set,List.length_set];exact S.sl.len,λj sl e=>?_⟩,λj xs a e w h=>?_,λj j' xs ys a e e' w w' h h'=>?_⟩
 ·rcases key j sl e with ⟨rfl,rfl,hl⟩|⟨z,e⟩
  ·exact⟨ov,bg (by rw[<-S.sl.len];exact hl),trivial⟩
  ·obtain⟨ov',h1,h2⟩:=S.sl.at_ j sl e;exact⟨ov',by rw[ay (Ne.symm z)];exact h1,h2⟩
 ·rcases key j _ e with ⟨_,z,_⟩|⟨z,e⟩
  ·subst z;exact(ba w).elim
  ·rw[ay (Ne.symm z)]at h;exact S.ow j xs a e w h
 ·rcases key j _ e with ⟨_,z,_⟩|⟨z,e⟩
  ·subst z;exact(ba w).elim
  ·rcases key j' _ e' with ⟨_,z',_⟩|⟨z',e'⟩
   ·subst z';exact(ba w').elim
   ·rw[ay (Ne.symm z)]at h;rw[ay (Ne.symm z')]at h';exact S.dj j j' xs ys a e e' w w' h h'
end
def tX(X:Cx)(bx:cc)(D':Ends)(hd:ExceptHandler):Cx:=
 {X with pn:=X.pn++bx,xe:=λe s₁=>wpAny (model X.prog X.w) X.A (noteFrame e X.env) (λ_ s₂=>wpAny (model X.prog X.w) X.A (setFlight e none) (λ_ s₃=>wpAny (model X.prog X.w) X.A (handleBy e X.env [hd]) (SP X bx D') X.xe s₃) X.xe s₂) X.xe s₁}
section
variable {X:Cx} {ad:Ad} {bx pins':cc} {s:Shared} {σ:St} {H H':Hp} {B h':Heap} {ea:Addr} {cls a0:Value} {D':Ends} {hd:ExceptHandler}
theorem aL2(I:Inv X bx σ H s):Inv (tX X bx D' hd) [] σ H s:=
 ⟨⟨I.ok.mod,I.ok.kind,I.ok.glob,I.ok.blt,I.ok.above,I.ok.inj,I.ok.has,I.ok.cab,I.ok.hd,I.ok.frames,I.ok.stk,I.ok.exf,I.ok.bs,I.ok.bsz,I.ok.noex,I.ok.exfs,I.ok.funs,I.ok.frf⟩,I.os,I.bare,I.base,I.loc,I.cell,I.free,I.freeC,
  λp hp=>I.pin p (by have:p∈(X.pn++bx)++[]:=hp;rwa [List.append_nil]at this),I.hok,I.len⟩
theorem pE(I:Inv (tX X bx D' hd) pins' σ H s):Inv X bx σ H s:=
 ⟨⟨I.ok.mod,I.ok.kind,I.ok.glob,I.ok.blt,I.ok.above,I.ok.inj,I.ok.has,I.ok.cab,I.ok.hd,I.ok.frames,I.ok.stk,I.ok.exf,I.ok.bs,I.ok.bsz,I.ok.noex,I.ok.exfs,I.ok.funs,I.ok.frf⟩,I.os,I.bare,I.base,I.loc,I.cell,I.free,I.freeC,
  λp hp=>I.pin p (List.mem_append_left _ hp),I.hok,I.len⟩
structure Fram(X:Cx):Prop where
 ex:X.ex=[]
 stk:X.stack=X.env::X.outer
 fr:X.env.frame=some X.env.locals
theorem wZ{i j:Nat}{en x cx:Str}{cp xp ep ap hp':Pos}{c:Nat}(F0:Fram X)(hN:X.N.Nodup)(hi:X.N[i]? =some en)(hil:X.env.scope.names.lookup en=some .local)(hj:aGt X x j)(hij:i≠j)(hg:L2.Gl X cx)(hm:X.mg cx=some (.ref (ad.cls 0)))
  (hdb:(cx==("__debug__":Str))=false) (hde:(en==("__debug__":Str))=false) (hx:exmOne X.K (.ref (ad.cls c)) (.ref (ad.cls 0))=some true)
  (I:Inv X bx σ H s) {s':Shared} (ho:s'.os=s.os) (hgn:AllBare s'.gens) (fly:Heap.FlyingW B X.stack ea (.ref (ad.cls c)) a0 s'.heap) (un:Un (frs X.stack) [] H H' s.heap s'.heap) (hok:HOk X.prog X.w H' s'.heap) (ne:H' ea=none)
  (c8: ∀b o,s.heap.get? b=some o->b∉frs X.stack->∃o',B.get? b=some o') (c9: ∀b o,H' b=some o->∃o',B.get? b=some o')
  (q:D'.nx ((σ.set i none).set j (some (.ref ea))) (upd H' ea (aGr (ad.cls c) ea))):
  (tX X bx D' (.ExceptHandler (some (.Name cx cp)) (some en) [.Assign [.Name x xp] (.Name en ep) ap] hp')).xe (.ref ea) s':=by
 have hfr:X.A.frames=some (X.env::X.outer):=by rw[<-F0.stk];exact I.ok.frames
 have nfs: ∀{h:Heap},h.FunFrames B X.stack->∀b∈frs X.stack, ∀o,h.get? b=some o->∀vs,o.data≠ .fields vs:=λff b hb o e=>by
  obtain⟨_,o2,e2,nf⟩:=ff.mem (b:=b) hb;rw[e]at e2;cases e2;exact nf
 -- the invariant through the stations
 have inv: ∀h2:Heap,B.StaysIn h2->s'.heap.UpToSlots h2->Inv X bx σ H' {s' with heap:=h2}:=λh2 st2 up=>
  I.call' (ch:=[]) (s':={s' with heap:=h2}) ho (aL1 un fly.1 st2 up (nfs fly.2.2.1) c8) (aI2 hok fly.1 st2 c9) hgn λb hb=>by simp at hb
 have new0:s.heap.get? ea=none:=by
  cases e:s.heap.get? ea with
  |none=>rfl
  |some o=>
   by_cases hf:ea∈frs X.stack
   ·obtain⟨oe,vs,_,_,_,he,_,hd,_⟩:=fly.2.2.2;exact absurd hd (nfs fly.2.2.1 ea hf oe he vs)
   ·obtain⟨o',e'⟩:=c8 ea o e hf;rw[fly.2.1]at e';cases e'
 show wpAny (model X.prog X.w) X.A (noteFrame (.ref ea) X.env) _ X.xe s';have fly0:=fly;rw[F0.stk]at fly0;refine wpAny_looks_onW hfr F0.fr fly0 λh1 hheld up1=>?_
 refine wpAny_landsW hheld λh2 fly2 up2=>?_
 have up12:=up1.trans up2;have J2:=inv h2 fly2.1 up12;refine wpAny_handleBy_cons (codeAny_handlers_test ?_) (by intro z;cases z)
 refine Calls.Name_function_global J2.ok.kind hg (Calls.loadGlobal_global (by rw[J2.ok.glob];exact J2.mod.glob.keeps J2.bk) hm ?_) hdb
 have LT:Looks (model X.prog X.w) h2 (typeOf (.ref ea)) (.ref (ad.cls c)):=by
  obtain⟨oe,vs,_,_,_,he,⟨hc,_⟩,hd,_⟩:=fly2.2.2.2;exact hc▸(Looks.ld he).andThen .now
 refine(exm_one (K:=X.K) J2.kIn LT hx).at ?_;show codeAny _ _ _ _ _;refine codeAny_handlers_suite_as ?_;refine lands_againW fly2 λh3 fly3 up3=>?_
 have J3:=inv h3 fly3.1 (up12.trans up3)
 have exat:mZ h3 ea (ad.cls c):=by
  obtain⟨oe,vs,_,_,_,he,⟨hc,_⟩,hd,_⟩:=fly3.2.2.2;exact⟨oe,vs,he,hc,hd⟩
 have J4:Inv X bx σ (upd H' ea (aGr (ad.cls c) ea)) {s' with heap:=h3}:=by
  refine J3.track ne ?_ (λz=>?_) (λy d hd z=>?_) (λp hp z=>?_) ?_
  ·cases e:X.s₀.heap.get? ea with
   |none=>rfl
   |some o=>
    obtain⟨o',e1⟩:=I.base.there ea o e (by rw[F0.ex];simp)
    rw[new0]at e1;cases e1
  ·obtain⟨m,hn,_⟩:=I.loc;obtain⟨o,_,_,ho',_⟩:=hn;rw[<-z,new0]at ho';cases ho'
  ·obtain⟨v,o,ho',_⟩:=I.cell y d hd;rw[z,new0]at ho';cases ho'
  ·obtain⟨ho',_⟩:=I.pin p hp;rw[z,new0]at ho';cases ho'
  ·obtain⟨oe,vs,he,hc,hd⟩:=exat;refine⟨⟨oe,vs,he,hc,hd⟩,⟨oe,he⟩,?_⟩;rintro ha hb ⟨o1,v1,e1,e2,e3⟩ k;exact⟨o1,v1,k _ e1,e2,e3⟩
 -- e = the exception
 refine eX J4 hN hi (.inl hil) (v:=.ref ea) rfl (λs5 J5=>?_) (.inr hil)
 have hlt:i<σ.length:=by rw[J4.len];exact(av.mp hi).1
 -- x = e
 refine wpAny_execs_cons (wpAny_Assign_Name ?_ rfl);obtain⟨m5,hn5,hl5⟩:=J5.loc;obtain⟨u5,r5,l5⟩:=hl5 i en (.ref ea) hi (bg hlt) (.inl hil)
 cases (show u5=Value.ref ea from r5)
 have hm5:m5 en=some (.ref ea):=by
  have hk:X.env.kindOf en=some .local:=hil
  rcases l5 with ⟨_,e⟩|⟨k,_⟩
  ·exact e
  ·rcases k with k|k<;>(rw[hk]at k;cases k)
 refine wpAny_Name (wpAny_loadName_local J5.ok.kind hil hn5 hm5 ?_) hde;refine eX J5 hN hj.1 hj.2.1 (v:=.ref ea) rfl (λs6 J6=>?_) hj.2.2
 refine wpAny_execs_nil ?_
 -- e goes
 show wpAny _ _ (do bindName X.env en .none;unbindBehindTheSuite X.env en hp') _ _ s6
 refine aa (wpAny_bindName (eX J6 hN hi (.inl hil) (v:=.non) rfl (λs7 J7=>?_) (.inr hil)))
 unfold unbindBehindTheSuite;refine wpAny_onRaise (aAt J7 hN hi hil (v:=.non) (bg (by simpa using hlt)) λs8 J8=>?_)
 refine⟨_,_,J8,?_⟩
 have e1:((((σ.set i (some (.ref ea))).set j (some (.ref ea))).set i (some V.non)).set i none)=(σ.set i none).set j (some (.ref ea)):=by
  rw[List.set_set,List.set_comm _ _ hij.symm,List.set_set]
 rw[e1];exact q
theorem aI3{Z:(St->Nat->Hp->Prop)->Prop}{i j:Nat}{en x cx:Str}{cp xp ep ap hp' pos:Pos}{b:List Stmt}{g:FS}(F0:Fram X)(hN:X.N.Nodup)(hi:X.N[i]? =some en)(hil:X.env.scope.names.lookup en=some .local)(hj:aGt X x j)(hij:i≠j)(hg:L2.Gl X cx)(hm:X.mg cx=some (.ref (ad.cls 0)))
  (hdb:(cx==("__debug__":Str))=false) (hde:(en==("__debug__":Str))=false) (hx: ∀c,exmOne X.K (.ref (ad.cls c)) (.ref (ad.cls 0))=some true)
  (hb: ∀bx D',MSs (tX X bx D' (.ExceptHandler (some (.Name cx cp)) (some en) [.Assign [.Name x xp] (.Name en ep) ap] hp')) ad (λ_=>True) b g):
  MS X ad Z (.Try b [.ExceptHandler (some (.Name cx cp)) (some en) [.Assign [.Name x xp] (.Name en ep) ap] hp'] [] [] pos) (aB9 i j (λ_=>true) g):=by
 intro bx s σ H D' I ⟨G₀,G,ρ,E,S,hx',hr⟩;refine wpAny_Try_except ?_;have main:=hb bx D' [] s σ H D' (aL2 I) ⟨G₀,G,ρ,λσ c H=>∃ρ' G,SS X ad G₀ G H ρ' σ/\OKo X ad G₀ (.nx ((ρ'.set i .no).set j (.sh (.exc c)))) D' E,⟨S.st,S.sl,S.ow,S.dj⟩,⟨λσ=>?_,trivial⟩,?_⟩
 ·refine wpAny_mono main (λf s1 hs=>?_) λe s1 he=>he
  cases f with
  |next=>obtain⟨σ',H',J,q⟩:=hs;exact wpAny_execs_nil ⟨σ',H',pE J,q⟩
  |brk=>obtain⟨σ',H',J,q⟩:=hs;exact⟨σ',H',pE J,q⟩
  |cont=>obtain⟨σ',H',J,q⟩:=hs;exact⟨σ',H',pE J,q⟩
  |ret u=>obtain⟨v,σ',H',J,r,q⟩:=hs;exact⟨v,σ',H',pE J,r,q⟩
 ·intro pins2 H2 s2 e s' I2 hc;obtain⟨ea,cls,a0,H',B,rfl,ho,hgn,fly,un,hok,ne,c8,c9,c,rfl,ρ',G',S',ok⟩:=hc;refine wZ F0 hN hi hil hj hij hg hm hdb hde (hx c) (pE I2) ho hgn fly un hok ne c8 c9 ?_;have st:Step G' H' (upd G' ea (aGr (ad.cls c) ea)) (upd H' ea (aGr (ad.cls c) ea)):=Step.new S'.st.gh ne;refine ok _ _ _ (((S'.step st).setNo (i:=i) (ov:=none)).set ?_);unfold Rep;exact⟨ea,rfl,a9⟩
 ·unfold aB9 at hr
  cases e:g ρ with
  |nx ρ'=>rw[e]at hr;exact λσ G H S=>hr σ G H ⟨S.st,S.sl,S.ow,S.dj⟩
  |bk ρ'=>rw[e]at hr;exact λσ G H S=>hr σ G H ⟨S.st,S.sl,S.ow,S.dj⟩
  |ct ρ'=>rw[e]at hr;exact λσ G H S=>hr σ G H ⟨S.st,S.sl,S.ow,S.dj⟩
  |ex c ρ'=>
   rw[e]at hr;exact λσ G H S=>⟨ρ',G,⟨S.st,S.sl,S.ow,S.dj⟩,hr⟩
  |rt r=>
   rw[e]at hr
   cases r with
   |ok d=>exact hr
   |ow xs=>exact hr
   |ex c=>exact hr
   |bad=>exact hr
theorem aAu{E₀:XK}{x:Str}{c:Nat}{np cpos pos kp:Pos}{msg:Str}{j:Nat}(T:DefX X E₀)(hc:X.calm=true)(hg:L2.Gl X x)(hm:X.mg x=some (.ref (ad.cls c)))(hd:(x==("__debug__":Str))=false)(hi:excIn X.K (ad.cls c) [.type "ValueError",.type "Exception",.type "BaseException",.type "object"] "ValueError.__new__"=true):
  MS X ad (λE=>∀σ c H,E σ c H->E₀ (.ref (ad.cls c)) none H) (.Raise (some (.Call (.Name x np) [.Constant (.str msg) j kp] [] cpos)) none pos) (gW c):=by
 intro bx s σ H D' I ⟨G₀,G,ρ,E,S,hx',hr⟩;exact aAs T hc hg hm hd hi I (hx'.2 σ c H (hr σ G H S))
end
structure ExcCls(K:Frag)(C:Addr):Prop where
 is:(clsIn K C).isSome=true
 ob:mroIn K C (.type "object")=some true
 be:mroIn K C (.type "BaseException")=some true
 ca:findIn K (.ref C) "__class__"=some (some (.builtin "object.__class__"))
 ga:findIn K (.ref C) "__getattribute__"=some (some (.builtin "BaseException.__getattribute__"))
 gn:findIn K (.ref C) "__getattr__"=some none
theorem aAv{K:Frag}{x C:Addr}(T:ExcCls K C):KitX K (.ref x) (.ref C) (λh=>mZ h x C) where
 ty:=λ_ _ _ I=>I.ty
 it:=λ_ _ Z _=>by
  obtain⟨cdD,hcD⟩:=Option.isSome_iff_exists.mp T.is;unfold clsIn at hcD;split at hcD
  ·rename_i c' d' cd' sl' ho;intro A' Q' E' s' k q;unfold isType loadHead;exact aa (wpAny_loadPart (k _ _ (Z _ _ ho)) (ae q))
  ·cases hcD
 ne:=λh tp dd its n sl Z htp=>by
  obtain⟨cdD,hcD⟩:=Option.isSome_iff_exists.mp T.is;refine Bool.eq_false_iff.mpr λq=>?_
  have e:C=tp:=Value.ref.inj (beq_iff_eq.mp q)
  subst e;unfold clsIn at hcD;split at hcD
  ·rename_i c' d' cd' sl' ho;have z:=(Z _ _ ho).symm.trans htp;cases z
  ·cases hcD
 ca:=λZ I k=>wX Z I T.ob T.be T.ca T.ga T.gn k
def tyD(ad:Ad):D->Option Value
 |.non=>some (.type "NoneType")
 |.bl _=>some (.type "bool")
 |.int _=>some (.type "int")
 |.str _=>some (.type "str")
 |.tup _=>some (.type "tuple")
 |.lst _=>some (.type "list")
 |.exc c=>some (.ref (ad.cls c))
 |.fn _=>none
def aNe(X:Cx)(ad:Ad)(cv:Value)(p:D->Option Bool):Prop:= ∀d b,p d=some b->∃t,tyD ad d=some t/\kitOne X.K t cv=some b
section
variable {X:Cx} {ad:Ad} {bx:cc} {s:Shared} {σ:St} {H G:Hp} {ρ:Rho} {E:Nat->Hp->Prop} {pos p tp:Pos} {a:Expr} {f:F}
theorem w6{A:Around}{Q:cb}{Ex:cb}{d:D}{v:V}{u t cv:Value}{b:Bool}(hx: ∀c,ExcCls X.K (ad.cls c))(I:Inv X bx σ H s)(hG:Same G H)(q:Rep X.K ad G d v)(r:cD v u)(ht:tyD ad d=some t)(e:kitOne X.K t cv=some b)
  (h: ∀tk,Q (.bool b) {s with toks:=tk}):wpAny (model X.prog X.w) A (call (.builtin "isinstance") [u,cv]) Q Ex s:=by
 cases d with
 |non=>unfold Rep at q;subst q;cases (show u=Value.none from r);cases ht;exact kia_one kitx_none I.kIn True.intro e (by intro z;cases z) h
 |bl k=>unfold Rep at q;subst q;cases (show u=Value.bool k from r);cases ht;exact kia_one kitx_bool I.kIn True.intro e (by intro z;cases z) h
 |int k=>unfold Rep at q;subst q;obtain⟨t',rfl⟩:=r;cases ht;exact kia_one kitx_int I.kIn True.intro e (by intro z;cases z) h
 |str k=>unfold Rep at q;subst q;obtain⟨t',rfl⟩:=r;cases ht;exact kia_one kitx_str I.kIn True.intro e (by intro z;cases z) h
 |tup ds=>
  unfold Rep at q;obtain⟨p,vs,rfl,hp,_⟩:=q
  cases (show u=Value.ref p from r)
  cases ht;obtain⟨its,_,⟨o,h1,h2,_⟩,_⟩:=I.tuple (hG.seqT hp);exact kia_one kitx_tuple I.kIn ⟨o,h1,h2⟩ e (by intro z;cases z) h
 |lst ds=>
  unfold Rep at q;obtain⟨p,vs,rfl,hp,_⟩:=q
  cases (show u=Value.ref p from r)
  cases ht;obtain⟨its,_,⟨o,n,h1,h2,_⟩,_⟩:=I.list (hG.seq hp);exact kia_one kitx_list I.kIn ⟨o,h1,h2⟩ e (by intro z;cases z) h
 |exc c=>
  unfold Rep at q;obtain⟨p,rfl,hp⟩:=q
  cases (show u=Value.ref p from r)
  cases ht;obtain⟨ex,_,_⟩:=(show ObjOk X.prog X.w H s.heap p (aGr (ad.cls c) p) from I.hok p _ (hG _ _ hp))
  exact kia_one (aAv (hx c)) I.kIn ex e (by intro z;cases z) h
 |fn k=>cases ht
inductive ClNm(X:Cx)(t:Str)(cv:Value):Prop
 |blt (T:String):cv= .type T->L2.Gl X t->X.mg t=none->bootBuiltins t=some (.type T)->t≠"__name__"->(t==("__debug__":Str))=false->ClNm X t cv
 |own (C:Addr):cv= .ref C->L2.Gl X t->X.mg t=some (.ref C)->(t==("__debug__":Str))=false->ClNm X t cv
theorem ClNm.ev{t:Str}{cv:Value}{Ex:cb}{Q:cb}(c:ClNm X t cv)(I:Inv X bx σ H s)(h:Q cv s):wpAny (model X.prog X.w) X.A (eval (.Name t tp) X.env) Q Ex s:=by
 cases c with
 |blt T e g m b n d=>subst e;exact fK I g m b h n d
 |own C e g m d=>subst e;exact mR I g m h d
theorem w8{t:Str}{cv:Value}{P:D->Option Bool}(hx: ∀c,ExcCls X.K (ad.cls c))(hg:L2.Gl X "isinstance")(hm:X.mg "isinstance"=none)(c:ClNm X t cv)(k:aNe X ad cv P)(ha:ML X ad a f)
  (he:starEach [a,.Name t tp] X.env=(false,eval a X.env)::starEach [.Name t tp] X.env):ME X ad (.Call (.Name "isinstance" p) [a,.Name t tp] [] pos) (rIs P f):=by
 refine λbx s σ H Q I h9=>h9.el λG ρ E hG hS hx' hr=>?_
 refine wpAny_Call_Name_kw (fK (u:=.builtin "isinstance") I hg hm (by decide+kernel) ?_ (by decide) (by decide))
 refine PyProof.Rows.callWith_builtin1 ?_ he rfl;rw[he];refine Calls.spliced_cons (L2.thn (ha.lk bx s σ H G ρ _ Q E I hG hS hx' hr) λu s1 hz_=>?_)
 obtain⟨v,d,G1,H1,I1,r1,st,q,k1⟩:=hz_;refine Calls.spliced_cons (c.ev I1 (Calls.spliced_nil ?_))
 have k1':RK X.K ad G1 H1 (match P d with|some b=>.ok (.bl b)|none=>.bad) Q E:=k1
 cases e:P d with
 |none=>rw[e]at k1';exact k1'.elim
 |some b=>
  rw[e]at k1';obtain⟨ty,e1,e2⟩:=k d b e;have fin: ∀tk,EP X bx σ Q (.bool b) {s1 with toks:=tk}:=λtk=>⟨.bl b,H1,I1.tok tk,rfl,k1'.ok_now st.gh bP⟩
  rcases q with q|⟨a',vs,ds,rfl,rfl,g1,h1,rp⟩
  ·exact w6 hx I1 st.gh q r1 e1 e2 fin
  ·refine w6 (G:=upd G1 a' (.lst vs)) hx I1 (λb o e=>?_) ?_ r1 e1 e2 fin
   ·by_cases z:b=a'
    ·subst z;rw[a9]at e;rw[h1];exact e
    ·rw[aO z]at e;exact st.gh b o e
   ·unfold Rep;exact⟨a',vs,rfl,SqL.of a9,rp.mono (Same.upd_new g1)⟩
end
section
variable {X:Cx} {ad:Ad} {bx:cc} {s:Shared} {σ:St} {H G:Hp} {ρ:Rho} {Q:VK} {E:Nat->Hp->Prop} {pos p ap cp:Pos} {a b o:Expr} {f g:F}
def aI4(P:Program)(w:World)(K:PySem.W.Frag)(ad:Ad)(A:Addr)(kvs:List (Str×D)):Prop:=
 (A==sysModules)=false/\∃vs:List (Str×Value),(∃o es ep,K.lookup A=some o/\o.ExactDict/\o.data= .dict es ep/\KeysOf (PySem.strKind P w) es/\Pairs (PySem.strKind P w) es.toList vs/\(vs.map (·.1)).Nodup)/\
  Paired (λ(p:Str×D) (q:Str×Value)=>p.1=q.1/\∃v,cD v q.2/\∀G,Rep K ad G p.2 v) kvs vs
end
noncomputable def pF:Py->Str
 |.len=>"len"|.range=>"range"|.enum=>"enumerate"|.zip=>"zip"|.isin=>"isinstance"|.int=>"int"|.bool=>"bool"|.str=>"str"|.tuple=>"tuple"|.list=>"list"
 |.sum=>"sum"|.all=>"all"|.any=>"any"|.sorted=>"sorted"|.min=>"min"|.max=>"max"|.abs=>"abs"|.set=>"set"
def aNf(X:Cx)(ad:Ad)(x:Str):SK.Gl->Prop
 |.fn k n F=>∃r f,FnGood X ad r x n F f/\Room r X.A/\f=ad.fnA k
 |.exc c=>X.mg x=some (.ref (ad.cls c))/\c<ad.nb
 |.verr=>x="ValueError"/\X.mg x=none
 |.val d=>∃u v,X.mg x=some u/\cD v u/\∀G,Rep X.K ad G d v
 |.py p=>x=pF p/\X.mg x=none
 |.tbl kvs=>∃A,X.mg x=some (.ref A)/\aI4 X.prog X.w X.K ad A kvs
structure CtxOk(X:Cx)(ad:Ad)(C:SK.Ctx):Prop where
 N:X.N=C.N
 nd:X.N.Nodup
 vis: ∀x i,loc C x=some i->X.N[i]? =some x/\Vis X.env.scope x/\(x==("__debug__":Str))=false/\(x==("__classdict__":Str))=false
 gk: ∀x,C.sc.names.lookup x=some .globalImplicit->L2.Gl X x
 gt: ∀x g,C.tab.lookup x=some g->(x==("__debug__":Str))=false/\aNf X ad x g
 cap: ∀x i,fL C x=some i->X.env.kindOf x=some .cell\/X.env.kindOf x=some .free
 calm:X.calm=true
 un:X.A.units+62<cLine
 hd:X.A.handled=none
 exc: ∀c,ExcCls X.K (ad.cls c)
 kin: ∀c e,c<ad.nb->kitOne X.K (.ref (ad.cls e)) (.ref (ad.cls c))=some (hit c e)
 kve: ∀e,kitOne X.K (.ref (ad.cls e)) (.type "ValueError")=some true
 fnv: ∀j n F,C.fns[j]? =some (n,F)->∃r,FnAt X ad r n F (ad.fnA j)/\Room r X.A
section
variable {X:Cx} {ad:Ad} {C:SK.Ctx}
theorem aEx{x:Str}{g:SK.Gl}(h:glo C x=some g):C.sc.names.lookup x=some .globalImplicit/\C.tab.lookup x=some g:=by
 unfold glo at h;split at h
 ·rename_i e;exact⟨e,h⟩
 ·cases h
theorem CtxOk.gl(O:CtxOk X ad C){x:Str}{g:SK.Gl}(h:glo C x=some g):L2.Gl X x/\(x==("__debug__":Str))=false/\aNf X ad x g:=
 let ⟨a,b⟩:=aEx h
 ⟨O.gk x a,(O.gt x g b).1,(O.gt x g b).2⟩
theorem aI5{t:Str}{g:SK.Gl}{P:D->Option Bool}(O:CtxOk X ad C)(h:glo C t=some g)(e:isP g=some P): ∃cv,ClNm X t cv/\aNe X ad cv P:=by
 obtain⟨hg,hd,hk⟩:=O.gl h
 cases g with
 |fn _ _ _=>cases e
 |val _=>cases e
 |tbl _=>cases e
 |exc c=>
  cases e;obtain⟨hm,hc⟩:=hk;refine⟨.ref (ad.cls c),.own _ rfl hg hm hd,λd b hb=>?_⟩
  cases d<;>try (cases hb;done)
  rename_i k;cases hb;exact⟨_,rfl,O.kin c k hc⟩
 |verr=>
  cases e;obtain⟨hx,hm⟩:=hk;subst hx;refine⟨.type "ValueError",.blt "ValueError" rfl hg hm (by decide+kernel) (by decide) hd,λd b hb=>?_⟩
  cases d<;>try (cases hb;done)
  rename_i k;cases hb;refine⟨_,rfl,?_⟩;rw[O.kve k]
  congr 1
  unfold hit;simp
 |py p=>
  obtain⟨hx,hm⟩:=hk
  cases p<;>try (cases e;done)
  all_goals
   cases e;subst hx
  ·refine⟨.type "int",.blt "int" rfl hg hm (by decide+kernel) (by decide) hd,λd b hb=>?_⟩
   cases d<;>first|(cases hb;done)|(cases hb;exact⟨_,rfl,by rfl⟩)
  ·refine⟨.type "bool",.blt "bool" rfl hg hm (by decide+kernel) (by decide) hd,λd b hb=>?_⟩
   cases d<;>first|(cases hb;done)|(cases hb;exact⟨_,rfl,by rfl⟩)
  ·refine⟨.type "str",.blt "str" rfl hg hm (by decide+kernel) (by decide) hd,λd b hb=>?_⟩
   cases d<;>first|(cases hb;done)|(cases hb;exact⟨_,rfl,by rfl⟩)
  ·refine⟨.type "tuple",.blt "tuple" rfl hg hm (by decide+kernel) (by decide) hd,λd b hb=>?_⟩
   cases d<;>first|(cases hb;done)|(cases hb;exact⟨_,rfl,by rfl⟩)
  ·refine⟨.type "list",.blt "list" rfl hg hm (by decide+kernel) (by decide) hd,λd b hb=>?_⟩
   cases d<;>first|(cases hb;done)|(cases hb;exact⟨_,rfl,by rfl⟩)
theorem dN{x:Str}{k:NameKind}{l:List (Str×NameKind)}(h:(l.lookup x==some k)=true):l.lookup x=some k:=by simpa using h
theorem iY{sc:Scope}{xs:List Str}(h:kH sc xs=true):sc.kind= .function/\(oX sc=[]\/(oX sc=xs/\xs.length=1))/\(∀x∈xs,sc.names.lookup x=some (if(oX sc).isEmpty then .local else .cell))/\(∀y∈sc.names,y.2= .local->sc.names.lookup y.1=some .local)/\
  (xs++bM sc).Nodup/\(∀x∈xs++bM sc,(x==("__debug__":Str))=false/\(x==("__classdict__":Str))=false)/\∀x∈bM sc,sc.names.lookup x=some .free:=by
 unfold kH at h;simp only[ar]at h;obtain⟨⟨⟨⟨⟨⟨h1,h2⟩,h3⟩,h4⟩,h5⟩,h6⟩,h7⟩:=h;refine⟨by simpa using h1,by simpa using h2,λx hx=>?_,λy hy z=>?_,of_decide_eq_true h5,λx hx=>?_,λx hx=>?_⟩
 ·exact dN (zAd h3 x hx)
 ·have:=zAd h4 y hy
  rw[z]at this;simpa using this
 ·have:=zAd h6 x hx
  simpa using this
 ·exact dN (zAd h7 x hx)
theorem w9{x:Str}{N:List Str}{i:Nat}(h:idx x N=some i):x∈N:=List.mem_of_getElem? (kT h)
theorem xA{x:Str}{i:Nat}(h:loc C x=some i):idx x C.N=some i/\(C.sc.names.lookup x=some .local\/C.sc.names.lookup x=some .cell\/C.sc.names.lookup x=some .free):=by
 unfold loc at h;split at h
 ·rename_i e;exact⟨h,.inl e⟩
 ·rename_i e;exact⟨h,.inr (.inl e)⟩
 ·rename_i e;exact⟨h,.inr (.inr e)⟩
 ·cases h
theorem l7{x:Str}{i:Nat}(h:fL C x=some i):idx x C.N=some i/\(C.sc.names.lookup x=some .cell\/C.sc.names.lookup x=some .free):=by
 unfold fL at h;split at h
 ·rename_i e;exact⟨h,.inl e⟩
 ·rename_i e;exact⟨h,.inr e⟩
 ·cases h
theorem sZ{α β:Type}{f:α->Option β}: ∀{l:List α} {r:List β},gE f l=some r->∀a∈l, ∃b,f a=some b
 |[],_,_,a,ha=>by cases ha
 |x::l,r,h,a,ha=>by
  unfold gE at h
  cases e:f x with
  |none=>rw[e]at h;cases h
  |some y=>
   rw[e]at h;obtain⟨r',h1,_⟩:=zMd h;rcases aq.mp ha with rfl|ha
   ·exact⟨y,e⟩
   ·exact sZ h1 a ha
theorem l8{x:Str}{k:NameKind}{l:List (Str×NameKind)}(h:l.lookup x=some k):(x,k)∈l:=PySem.mem_of_lookup h
theorem tD{x:Str}{sc:Scope}(h:(x,NameKind.free)∈sc.names):x∈bM sc:=by
 unfold bM;exact ao.mpr ⟨(x,.free),List.mem_filter.mpr ⟨h,by simp⟩,rfl⟩
theorem xB{sc:Scope}{xs:List Str}{cs:List Nat}(O:CtxOk X ad C)(h:kH sc xs=true)(hc:gE (λx=>fL C x) (bM sc)=some cs):CompSc X C sc xs cs:=by
 obtain⟨h1,h2,h3,h4,h5,h6,h7⟩:=iY h
 have hC:Cel sc:=by
  rcases h2 with z|⟨z,l⟩
  ·exact .inl z
  ·obtain⟨x,rfl⟩:=List.length_eq_one_iff.mp l
   have:=h3 x (.head _)
   rw[z]at this;exact .inr ⟨x,z,this⟩
 refine⟨h1,hC,h4,λx hx=>?_,λx hx=>h7 x (tD hx),O.N,hc⟩
 obtain⟨i,e⟩:=sZ hc x (tD hx);exact O.cap x i e
theorem aEy{tg:Expr}{xs:List Str}{k:Nat}{x:Str}(hN:X.N.Nodup)(e:cE tg=some (xs,k))(hx:xs=[x])(h1:X.N[0]? =some x)(h2:X.env.scope.names.lookup x=some .cell)(h3:X.fn x=true):PG X tg (gTg X.K k):=by
 subst hx
 cases tg<;>try (cases e)
 ·exact j8 hN h1 (.inr h2) (.inl h3)
 ·rename_i es j px;unfold cE at e;obtain⟨ys,e1,e2⟩:=zBd e
  by_cases hl:2<=ys.length
  ·rw[if_pos hl]at e2;cases e2;exact absurd hl (by simp)
  ·rw[if_neg hl]at e2;cases e2
theorem aI6{sc:Scope}{xs:List Str}{cs:List Nat}{s3:Shared}{H3:Hp}{fp:List Addr}{bx:cc}(O:CtxOk X ad C)(h:kH sc xs=true)(hc:gE (λx=>fL C x) (bM sc)=some cs):
  CtxOk (cX X (xs++bM sc) sc s3 H3 fp bx) ad {C with sc:=sc,N:=xs++bM sc}:=by
 obtain⟨h1,h2,h3,h4,h5,h6,h7⟩:=iY h
 have rl: ∀x,(relabel sc X.env).names.lookup x=(sc.names.lookup x).map (λk=>if(k==NameKind.free&&X.env.scope.kind== .function&&X.env.kindOf x==some .cell)then NameKind.cell else k):=λx=>b7
 have fr: ∀x,sc.names.lookup x=some .free->(relabel sc X.env).names.lookup x=some .cell\/(relabel sc X.env).names.lookup x=some .free:=λx e=>by
  rw[rl x,e];simp only[Option.map];split
  ·exact .inl rfl
  ·exact .inr rfl
 have nc: ∀x,sc.names.lookup x=some .cell->(relabel sc X.env).names.lookup x=some .cell:=λx e=>by rw[rl x,e];rfl
 refine⟨rfl,h5,λx i e=>?_,λx e=>?_,λx g e=>?_,λx i e=>?_,O.calm,O.un,O.hd,O.exc,O.kin,O.kve,λj n F e=>let ⟨r,T,hr⟩:=O.fnv j n F e;⟨r,⟨T.kp,T.ok⟩,hr⟩⟩
 ·obtain⟨e1,e2⟩:=xA e;have hm:=w9 e1;refine⟨kT e1,?_,(h6 x hm).1,(h6 x hm).2⟩;rcases e2 with e2|e2|e2
  ·refine .inl ?_
   show(relabel sc X.env).names.lookup x=some .local
   rw[rl x]
   have:sc.names.lookup x=some .local:=e2
   rw[this];rfl
  ·exact .inr (.inl (nc x e2))
  ·rcases fr x e2 with z|z
   ·exact .inr (.inl z)
   ·exact .inr (.inr z)
 ·show(relabel sc X.env).names.lookup x=some .globalImplicit
  rw[rl x]
  have:sc.names.lookup x=some .globalImplicit:=e
  rw[this];rfl
 ·obtain⟨e1,e2⟩:=O.gt x g e;refine⟨e1,?_⟩
  cases g with
  |fn k n F=>
   obtain⟨r,f,T,hr,hf⟩:=e2;exact⟨r,f,⟨T.mg,T.kp,T.ok⟩,hr,hf⟩
  |exc c=>exact e2
  |verr=>exact e2
  |val d=>exact e2
  |tbl kvs=>exact e2
  |py p=>exact e2
 ·obtain⟨e1,e2⟩:=l7 e;rcases e2 with e2|e2
  ·exact .inl (nc x e2)
  ·exact fr x e2
end
section
variable {prog:Program} {w:World} {A:Around} {Ex:cb} {s:Shared}
theorem uU{it t:Addr}{i:Nat}{items:Array Value}{x:Value}{Q:cb}(hit:s.heap.IsTupleIter it t i)(ht:s.heap.IsTuple t items)(hx:items[i]? =some x)
  (hQ: ∀h',h'.IsTupleIter it t (i+1)->Heap.SameBut it s.heap h'->Q x {s with heap:=h'}):wpAny (model prog w) A (Builtin.SmallTypes.nextOf (.ref it)) Q Ex s:=by
 obtain⟨o,o1,o2,o3⟩:=id hit;obtain⟨u,u1,_,nu,u2⟩:=ht;unfold Builtin.SmallTypes.nextOf;refine aa (wpAny_callSpecial?_slot (name:=Str.ofString "__next__") hit.typeIs F.slot_tuple_iterator_next (wpAny_call_entry F.slot_tuple_iterator_next hit.typeIs F.entry_tuple_iterator_next ?_ (F.args_tuple_iterator_next_1 _)));show wpAny _ _ (field (.ref it) 0 >>= _) _ _ s;refine aa (wpAny_field o1 o3 (x:=.ref t) rfl ?_);show wpAny _ _ (if(Value.ref t==Value.none)=true then _ else _) _ _ s;rw[if_neg (show ¬((Value.ref t==Value.none)=true) from ba)]
 show wpAny _ _ (field (.ref it) 1 >>= _) _ _ s;refine aa (wpAny_field o1 o3 (x:=.int i 0) rfl ?_);show wpAny _ _ (seqItems? (.ref t) >>= _) _ _ s;refine aa (wpAny_seqItems u1 u2 ?_);simp only[Int.toNat_natCast,hx];refine aa (wpAny_setField o1 o3 (by simp) (ae ⟨x,rfl,ae (hQ _ ?_ (Heap.SameBut.update ..))⟩))
 exact⟨_,Heap.get?_update_self _ o1 (Obj.isFreed_of_fields (Obj.data_mapFields o3 _)),(Obj.cls_mapFields ..).trans o2,by rw[Obj.data_mapFields o3];simp[rawInt]⟩
theorem xC{it t:Addr}{i:Nat}{items:Array Value}{Q:cb}(hh:A.handled=none)(hit:s.heap.IsTupleIter it t i)(ht:s.heap.IsTuple t items)(hx:items[i]? =none)
  (hE: ∀h' e,Heap.ExtBut it s.heap h'->(∃o,h'.get? e=some o/\o.cls= .type "StopIteration")->Ex (.ref e) {s with heap:=h'}):wpAny (model prog w) A (Builtin.SmallTypes.nextOf (.ref it)) Q Ex s:=by
 obtain⟨o,o1,o2,o3⟩:=id hit;obtain⟨u,u1,_,nu,u2⟩:=ht;unfold Builtin.SmallTypes.nextOf;refine aa (wpAny_callSpecial?_slot (name:=Str.ofString "__next__") hit.typeIs F.slot_tuple_iterator_next (wpAny_call_entry F.slot_tuple_iterator_next hit.typeIs F.entry_tuple_iterator_next ?_ (F.args_tuple_iterator_next_1 _)));show wpAny _ _ (field (.ref it) 0 >>= _) _ _ s;refine aa (wpAny_field o1 o3 (x:=.ref t) rfl ?_);show wpAny _ _ (if(Value.ref t==Value.none)=true then _ else _) _ _ s;rw[if_neg (show ¬((Value.ref t==Value.none)=true) from ba)]
 show wpAny _ _ (field (.ref it) 1 >>= _) _ _ s;refine aa (wpAny_field o1 o3 (x:=.int i 0) rfl ?_);show wpAny _ _ (seqItems? (.ref t) >>= _) _ _ s;refine aa (wpAny_seqItems u1 u2 ?_);simp only[Int.toNat_natCast,hx];refine aa (wpAny_rule (aa (wpAny_setField o1 o3 (by simp) ?_)))
 show wpAny _ _ (newExc (.type "StopIteration") [] >>= _) _ _ _;refine aa ?_;simp only[newExc,newTuple];refine aa (wpAny_newObj_type ?_ (by size_fits));refine aa (m:=firstArgMember _ _) (wpAny_of_eq (a:=Value.none) (by first|rfl|(simp only[firstArgMember];rfl)) ?_)
 refine wpAny_newObj_type ?_ (by size_fits);simp only[raiseNew]
 refine aa (wpAny_handled ?_)
 first|rw[show A.in1.handled=none from hh]|rw[hh]
 refine aa (ae (wpAny_throw ?_));refine hE _ _ (λb ob ne e=>?_) ⟨_,ag _ rfl,rfl⟩
 exact af _ (af _ ((Heap.get?_update_other _ _ (Ne.symm ne)).trans e))
end
section
variable {prog:Program} {w:World} {A:Around} {Ex:cb} {s:Shared}
end
theorem pG{n l m:Nat}(a:l<n)(b:m<n):ZipApart (n+4) (n+2) (n+3) n (n+1) l m:=by
 constructor<;>(intro h;have h2:(_:Nat)=_:=h;revert h2;lia)
theorem dU{X:Cx}{bx:cc}{σ:L2.St}{H:Hp}{s:Shared}{h':Heap}{t':Nat}{fp:List Addr}(I:Inv X bx σ H s)(k: ∀b o,b∉fp->s.heap.get? b=some o->h'.get? b=some o)(hf: ∀b∈fp,n6 X bx H b):Inv X bx σ H {s with heap:=h',toks:=t'}:=by
 have nit: ∀b u,H b=some u->b∉fp:=λb u e z=>by rw[(hf b z).1]at e;cases e
 refine I.step (g':=s.gens) (d':=s.drawn) (ch:=fp) (λb hb=>?_) (λb o _ _ hc e _=>k b o hc e) (λb o _ _ hc e _=>⟨o.slots,k b o hc e⟩) (λ_ _ _ _ n=>n)
  (λb o hc e=>⟨o,k b o hc e⟩) (λ_ _ e=>e) (λ_ _ _ e=>e) (λb ps e=>⟨#[],by rw[e];simp⟩) (λm hm=>?_) (λb u e=>?_) I.bare
 ·obtain⟨_,f1,_,f3,f4,f5⟩:=hf b hb;exact⟨f3,f1,f4,f5⟩
 ·obtain⟨o,es,ep,ho,r⟩:=hm;exact⟨o,es,ep,k _ o (λz=>(hf _ z).2.1 rfl) ho,r⟩
 ·refine(I.hok b u e).stay (λc v hc q=>k c v ?_ q) (λ_ q=>q) λ_ _ q=>q
  rcases hc with z|z
  ·rw[z];exact nit b u e
  ·exact nit c _ z
section
variable {prog:Program} {w:World} {A:Around} {Ex:cb} {s:Shared}
theorem uV{It:Heap->Nat->Prop}{e it:Addr}{i:Nat}{x old:Value}{Q:Option Value->Shared->Prop}(he:IsEnum s.heap e it i old)(hne:e≠it)
  (hn: ∀(A':Around) (E':cb) (Q':cb),(∀h',It h' (i+1)->Heap.SameBut it s.heap h'->Q' x {s with heap:=h'})->wpAny (model prog w) A' (Builtin.SmallTypes.nextOf (.ref it)) Q' E' s)
  (hk: ∀h h',It h (i+1)->(∀o,h.get? it=some o->h'.get? it=some o)->It h' (i+1))
  (hQ: ∀h',IsEnumOut h' e it ((i:Int)+1) x s.heap.objs.size->It h' (i+1)->h'.get? s.heap.objs.size=some {cls:=.type "tuple",data:=.seq #[.int i s.toks,x]}->h'.objs.size=s.heap.objs.size+1->
   (∀b o,b≠e->b≠it->s.heap.get? b=some o->h'.get? b=some o)->Q (some (.ref s.heap.objs.size)) {s with heap:=h',toks:=s.toks+1}):wpAny (model prog w) A (pyNext (.ref e)) Q Ex s:=by
 have hT:s.TypeIs (.ref e) "enumerate":=⟨_,he,rfl⟩;unfold pyNext;refine aa (wpAny_attempt (wpAny_callSpecial?_slot (name:=Str.ofString "__next__") hT F.slot_enumerate_next (wpAny_call_entry F.slot_enumerate_next hT F.entry_enumerate_next ?_ (F.args_enumerate_next_1 _))));obtain⟨hp,g,d,tk,os⟩:=s;show wpAny _ _ (field (.ref e) 2 >>= _) _ _ _;refine aa (wpAny_field he rfl (x:=.ref it) rfl (aa (hn _ _ _ λg1 t1 s1=>?_)))
 replace s1:Heap.SameBut it hp g1:=s1;have e1:IsEnum g1 e it i old:=(s1.2 e hne).trans he;show wpAny _ _ (field (.ref e) 3 >>= _) _ _ ⟨g1,g,d,tk,os⟩;refine aa (wpAny_field e1 rfl (x:=rawInt i) rfl ?_);show wpAny _ _ (field (.ref e) 4 >>= _) _ _ ⟨g1,g,d,tk,os⟩;refine aa (wpAny_field e1 rfl (x:=.none) rfl ?_);show wpAny _ _ (mkInt i >>= _) _ _ ⟨g1,g,d,tk,os⟩;refine aa (wpAny_mkInt ?_);show wpAny _ _ (setField (.ref e) 3 (rawInt ((i:Int)+1)) >>= _) _ _ ⟨g1,g,d,tk+1,os⟩;refine aa (wpAny_setField_rec e1 (by simp) λg2 e2 s2=>?_)
 replace s2:Heap.SameBut e g1 g2:=s2;replace e2:IsEnum g2 e it ((i:Int)+1) old:=e2;show wpAny _ _ (setField (.ref e) 4 .none >>= _) _ _ ⟨g2,g,d,tk+1,os⟩;refine aa (wpAny_setField_rec e2 (by simp) λg3 e3 s3=>?_)
 replace s3:Heap.SameBut e g2 g3:=s3;replace e3:IsEnum g3 e it ((i:Int)+1) old:=e3;show wpAny _ _ (newTuple [.int i tk,x] >>= _) _ _ ⟨g3,g,d,tk+1,os⟩;refine aa (wpAny_newTuple ?_);have e4:IsEnum (g3.push {cls:=.type "tuple",data:=.seq #[.int i tk,x]}) e it ((i:Int)+1) old:=af _ e3;generalize hg4:g3.push {cls:=.type "tuple",data:=.seq #[.int i tk,x]}=g4 at e4
 have hsz:g3.objs.size=hp.objs.size:=by rw[s3.1,s2.1,s1.1]
 have le:e<hp.objs.size:=ah he
 have t4:g4.get? hp.objs.size=some {cls:=.type "tuple",data:=.seq #[.int i tk,x]}:=by rw[<-hg4, <-hsz];exact ag _ rfl
 have z4:g4.objs.size=hp.objs.size+1:=by rw[<-hg4,ai,hsz]
 have k4: ∀b o,b≠e->b≠it->hp.get? b=some o->g4.get? b=some o:=λb o n1 n2 q=>by
  rw[<-hg4];exact af _ ((s3.2 b n1).trans ((s2.2 b n1).trans ((s1.2 b n2).trans q)))
 have i4:It g4 (i+1):=hk g1 g4 t1 λo q=>by rw[<-hg4];exact af _ ((s3.2 it hne.symm).trans ((s2.2 it hne.symm).trans q))
 show wpAny _ _ (Builtin.SmallTypes.ownedTupleIsFree (.ref e) >>= _) _ _ ⟨g4,g,d,tk+1,os⟩;rw[hsz];refine aa ?_;unfold Builtin.SmallTypes.ownedTupleIsFree;refine aa (wpAny_field e4 rfl (x:=.none) rfl (ae ?_));simp only[if_true];refine aa (wpAny_rule (aa (wpAny_field e4 rfl (x:=old) rfl (aa (wpAny_setField_rec e4 (by simp) λg5 e5 s5=>?_)))))
 replace s5:Heap.SameBut e g4 g5:=s5;replace e5:IsEnum g5 e it ((i:Int)+1) x:=e5;show wpAny _ _ (Builtin.SmallTypes.ownedTupleHandOut (.ref e) (.ref hp.objs.size) >>= _) _ _ ⟨g5,g,d,tk+1,os⟩;refine aa ?_;unfold Builtin.SmallTypes.ownedTupleHandOut;refine aa (wpAny_setField_rec e5 (by simp) λg6 e6 s6=>?_)
 replace s6:Heap.SameBut e g5 g6:=s6;replace e6:IsEnumOut g6 e it ((i:Int)+1) x hp.objs.size:=e6;refine wpAny_setField_rec e6 (by simp) λg7 e7 s7=>?_
 replace s7:Heap.SameBut e g6 g7:=s7;replace e7:IsEnumOut g7 e it ((i:Int)+1) x hp.objs.size:=e7
 have up: ∀b o,b≠e->g4.get? b=some o->g7.get? b=some o:=λb o n q=>(s7.2 b n).trans ((s6.2 b n).trans ((s5.2 b n).trans q))
 refine aa (wpAny_letGo (ae ⟨_,rfl,ae (hQ g7 e7 (hk g4 g7 i4 λo q=>up it o hne.symm q) (up _ _ (Nat.ne_of_gt le) t4) ?_ λb o n1 n2 q=>up b o n1 (k4 b o n1 n2 q))⟩))
 rw[s7.1,s6.1,s5.1,z4]
theorem xD{e it:Addr}{i:Nat}{old:Value}{Q:Option Value->Shared->Prop}(he:IsEnum s.heap e it i old)
  (hn: ∀(A':Around) (E':cb) (Q':cb),A'.handled=A.handled->(∀h' x,Heap.ExtBut it s.heap h'->(∃o,h'.get? x=some o/\o.cls= .type "StopIteration")->E' (.ref x) {s with heap:=h'})->wpAny (model prog w) A' (Builtin.SmallTypes.nextOf (.ref it)) Q' E' s)
  (hQ: ∀h',Heap.ExtBut it s.heap h'->Q none {s with heap:=h'}):wpAny (model prog w) A (pyNext (.ref e)) Q Ex s:=by
 have hT:s.TypeIs (.ref e) "enumerate":=⟨_,he,rfl⟩;unfold pyNext;refine aa (wpAny_attempt (wpAny_callSpecial?_slot (name:=Str.ofString "__next__") hT F.slot_enumerate_next (wpAny_call_entry F.slot_enumerate_next hT F.entry_enumerate_next ?_ (F.args_enumerate_next_1 _))));show wpAny _ _ (field (.ref e) 2 >>= _) _ _ _;refine aa (wpAny_field he rfl (x:=.ref it) rfl (aa (hn _ _ _ rfl λh' x k q=>?_)))
 obtain⟨o,ho,hc⟩:=q;exact aa (wpAny_isInstance (T:="StopIteration") (b:=true) ⟨o,ho,hc⟩ isSubtype_stop (ae (hQ _ k)))
end
noncomputable abbrev eh(h:Heap)(T:String)(l:Addr):Heap:=(h.push {cls:=.type T,data:=.fields #[.ref l,.int 0 0]}).push {cls:=.type "enumerate",data:=.fields #[.none,.bool false,.ref h.objs.size,rawInt 0,.none,.none]}
open AutoSeq1 (wpAny_loadPart') in
theorem xE(l:Addr)(xs:Array Value)(n:Nat)(dd:Option Addr)(sl:Array (Option Value)):Meets (Builtin.«enumerate.__new__» ⟨[.type "enumerate",.ref l],[]⟩) (λ_ R s=>s.heap.get? l=some {cls:=.type "tuple",dict:=dd,data:=.seq xs n,slots:=sl}/\
  R (.ok (.ret (.ref (s.heap.objs.size+1)))) {s with heap:=eh s.heap "tuple_iterator" l}):=
 .of_wp λprog w A R s h=>by
  obtain⟨hp,g,d,tk,os⟩:=s;obtain⟨hl,h⟩:=h;have hsub:=sub_enumerate;have q1:Heap.IsTuple (Shared.heap ⟨hp,g,d,tk,os⟩) l xs:=⟨_,hl,rfl,n,rfl⟩;rw[<-show(hp.push {cls:=.type "tuple_iterator",data:=.fields #[.ref l,.int 0 0]}).objs.size=hp.objs.size+1 from ai ..]at h
  wp_walk using wpAny_loadPart' hl
  refine wpAny_stack_any λst=>ae ?_
  split
  ·rename_i c _ _ _ _ _
   cases (c==Value.type "enumerate")
   ·wp_walk using wpAny_loadPart' hl,wpAny_pyIter_tuple q1
    exact⟨_,rfl,h⟩
   ·wp_walk using wpAny_loadPart' hl,wpAny_pyIter_tuple q1
    exact⟨_,rfl,h⟩
  ·wp_walk using wpAny_loadPart' hl,wpAny_pyIter_tuple q1
   exact⟨_,rfl,h⟩
open AutoSeq1 (wpAny_loadPart') in
theorem xF(l:Addr)(xs:Array Value)(n:Nat)(dd:Option Addr)(sl:Array (Option Value)):Meets (Builtin.«enumerate.__new__» ⟨[.type "enumerate",.ref l],[]⟩) (λ_ R s=>s.heap.get? l=some {cls:=.type "list",dict:=dd,data:=.seq xs n,slots:=sl}/\
  R (.ok (.ret (.ref (s.heap.objs.size+1)))) {s with heap:=eh s.heap "list_iterator" l}):=
 .of_wp λprog w A R s h=>by
  obtain⟨hp,g,d,tk,os⟩:=s;obtain⟨hl,h⟩:=h;have hsub:=sub_enumerate;have q1:Heap.IsList (Shared.heap ⟨hp,g,d,tk,os⟩) l xs:=⟨_,hl,rfl,n,rfl⟩;rw[<-show(hp.push {cls:=.type "list_iterator",data:=.fields #[.ref l,.int 0 0]}).objs.size=hp.objs.size+1 from ai ..]at h
  wp_walk using wpAny_loadPart' hl
  refine wpAny_stack_any λst=>ae ?_
  split
  ·rename_i c _ _ _ _ _
   cases (c==Value.type "enumerate")
   ·wp_walk using wpAny_loadPart' hl,wpAny_pyIter_list q1
    exact⟨_,rfl,h⟩
   ·wp_walk using wpAny_loadPart' hl,wpAny_pyIter_list q1
    exact⟨_,rfl,h⟩
  ·wp_walk using wpAny_loadPart' hl,wpAny_pyIter_list q1
   exact⟨_,rfl,h⟩
section
variable {prog:Program} {w:World} {A:Around} {Ex:cb} {s:Shared}
theorem uW{l:Addr}{xs:Array Value}{Q:cb}(hl:s.heap.IsTuple l xs)
  (h: ∀h',IsEnum h' (s.heap.objs.size+1) s.heap.objs.size 0 .none->h'.IsTupleIter s.heap.objs.size l 0->h'.objs.size=s.heap.objs.size+2->(∀b o,s.heap.get? b=some o->h'.get? b=some o)->Q (.ref (s.heap.objs.size+1)) {s with heap:=h'}):
  wpAny (model prog w) A (call (.type "enumerate") [.ref l]) Q Ex s:=by
 obtain⟨⟨c,dd,da,sl⟩,e1,e2,n,e3⟩:=hl
 simp only at e2 e3;subst e2 e3
 refine callType_new F.called_enumerate (by decide) (F.typeCall_enumerate_1 _) (F.newCall_enumerate_1 _) (λobj=>F.args_object_init_2 obj _) F.entry_enumerate_new (xE l xs n dd sl) ⟨e1,?_⟩
 have hz:(s.heap.push {cls:=.type "tuple_iterator",data:=.fields #[.ref l,.int 0 0]}).objs.size=s.heap.objs.size+1:=ai ..;have he:IsEnum (eh s.heap "tuple_iterator" l) (s.heap.objs.size+1) s.heap.objs.size 0 .none:=by rw[<-hz];exact ag _ rfl
 exact⟨⟨_,he,rfl⟩,h _ he ⟨_,af _ (ag _ rfl),rfl,rfl⟩ (by rw[ai,hz]) λb o x=>af _ (af _ x)⟩
theorem uX{l:Addr}{xs:Array Value}{Q:cb}(hl:s.heap.IsList l xs)
  (h: ∀h',IsEnum h' (s.heap.objs.size+1) s.heap.objs.size 0 .none->h'.IsListIter s.heap.objs.size l 0->h'.objs.size=s.heap.objs.size+2->(∀b o,s.heap.get? b=some o->h'.get? b=some o)->Q (.ref (s.heap.objs.size+1)) {s with heap:=h'}):
  wpAny (model prog w) A (call (.type "enumerate") [.ref l]) Q Ex s:=by
 obtain⟨⟨c,dd,da,sl⟩,e1,e2,n,e3⟩:=hl
 simp only at e2 e3;subst e2 e3
 refine callType_new F.called_enumerate (by decide) (F.typeCall_enumerate_1 _) (F.newCall_enumerate_1 _) (λobj=>F.args_object_init_2 obj _) F.entry_enumerate_new (xF l xs n dd sl) ⟨e1,?_⟩
 have hz:(s.heap.push {cls:=.type "list_iterator",data:=.fields #[.ref l,.int 0 0]}).objs.size=s.heap.objs.size+1:=ai ..;have he:IsEnum (eh s.heap "list_iterator" l) (s.heap.objs.size+1) s.heap.objs.size 0 .none:=by rw[<-hz];exact ag _ rfl
 exact⟨⟨_,he,rfl⟩,h _ he ⟨_,af _ (ag _ rfl),rfl,rfl⟩ (by rw[ai,hz]) λb o x=>af _ (af _ x)⟩
end
def SqA(t:Bool)(K:PySem.W.Frag)(H:Hp)(a:Addr)(xs:List V):Prop:=match t with
 |true=>SqT K H a xs
 |false=>SqL K H a xs
def ItA(t:Bool)(h:Heap)(it l:Addr)(i:Nat):Prop:=match t with
 |true=>h.IsTupleIter it l i
 |false=>h.IsListIter it l i
def SeA(t:Bool)(h:Heap)(l:Addr)(xs:Array Value):Prop:=match t with
 |true=>h.IsTuple l xs
 |false=>h.IsList l xs
section
variable {X:Cx} {bx:cc} {σ:L2.St} {H:Hp} {s:Shared} {t:Bool}
theorem cZ{a:Addr}{xs:List V}(I:Inv X bx σ H s)(h:SqA t X.K H a xs): ∃its:List Value,bZ xs its/\SeA t s.heap a its.toArray/\xs.length<=sizeLine:=by
 cases t with
 |true=>
  obtain⟨its,r,p,z⟩:=I.tuple h;exact⟨its,r,p,z⟩
 |false=>
  obtain⟨its,r,p,z⟩:=I.list h;exact⟨its,r,p.isList,z⟩
theorem hU{a:Addr}{xs ys:List V}(I:Inv X bx σ H s)(h:SqA t X.K H a xs)(h':SqA t X.K H a ys):xs=ys:=by
 cases t with
 |true=>exact I.tuple_inj h h'
 |false=>exact I.list_inj h h'
theorem aG{K:PySem.W.Frag}{H H':Hp}{a:Addr}{xs:List V}(e:Same H H')(h:SqA t K H a xs):SqA t K H' a xs:=by
 cases t with
 |true=>exact e.seqT h
 |false=>exact e.seq h
theorem bH{h h':Heap}{it l:Addr}{i:Nat}(q:ItA t h it l i)(k: ∀o,h.get? it=some o->h'.get? it=some o):ItA t h' it l i:=by
 cases t with
 |true=>obtain⟨o,e,r⟩:=q;exact⟨o,k o e,r⟩
 |false=>obtain⟨o,e,r⟩:=q;exact⟨o,k o e,r⟩
theorem xG{h:Heap}{it l:Addr}{i:Nat}(q:ItA t h it l i): ∃o,h.get? it=some o/\∀v,o.data≠ .cell v:=by
 cases t with
 |true=>obtain⟨o,e,_,d⟩:=q;exact⟨o,e,λv z=>by rw[d]at z;cases z⟩
 |false=>obtain⟨o,e,_,d⟩:=q;exact⟨o,e,λv z=>by rw[d]at z;cases z⟩
theorem dO{prog:Program}{w:World}{A:Around}{Ex:cb}{it l:Addr}{i:Nat}{xs:Array Value}{x:Value}{Q:cb}(q:ItA t s.heap it l i)(hl:SeA t s.heap l xs)(hx:xs[i]? =some x)
  (hQ: ∀h',ItA t h' it l (i+1)->Heap.SameBut it s.heap h'->Q x {s with heap:=h'}):wpAny (model prog w) A (Builtin.SmallTypes.nextOf (.ref it)) Q Ex s:=by
 cases t with
 |true=>exact uU q hl hx hQ
 |false=>exact wpAny_nextOf_list_item q hl hx hQ
theorem fU{prog:Program}{w:World}{A:Around}{Ex:cb}{it l:Addr}{i:Nat}{xs:Array Value}{Q:cb}(hh:A.handled=none)(q:ItA t s.heap it l i)(hl:SeA t s.heap l xs)(hx:xs[i]? =none)
  (hE: ∀h' e,Heap.ExtBut it s.heap h'->(∃o,h'.get? e=some o/\o.cls= .type "StopIteration")->Ex (.ref e) {s with heap:=h'}):wpAny (model prog w) A (Builtin.SmallTypes.nextOf (.ref it)) Q Ex s:=by
 cases t with
 |true=>exact xC hh q hl hx hE
 |false=>exact wpAny_nextOf_list_end hh q hl hx hE
end
def Ite(t:Bool)(K:PySem.W.Frag)(l:Addr):It:=
 ⟨λi H=>∃xs x,SqA t K H l xs/\xs[i]? =some x,
  λi H v H'=>∃p x,H p=none/\v= .ref p/\(∀xs,SqA t K H l xs->xs[i]? =some x)/\H'=upd H p (.tup [.int i,x]),
  λi H=>∃xs,SqA t K H l xs/\xs.length<=i⟩
theorem xH{P:Program}{w:World}{K:PySem.W.Frag}{es:List Expr}{x1}{tp:Pos}{t:Bool}{e it l:Addr}(hne:e≠it):
  Turn P w K (.Tuple es x1 tp) (Ite t K l) [e,it] e (λi h=>(∃old,IsEnum h e it i old)/\ItA t h it l i) where
 mem:=by simp
 obj:=λi h st b hb=>by
  obtain⟨⟨old,z1⟩,z2⟩:=st;simp only[aq,List.not_mem_nil,or_false]at hb;rcases hb with rfl|rfl
  ·exact⟨_,z1,λv e=>by cases e⟩
  ·exact xG z2
 keep:=λi h h' st k=>by
  obtain⟨⟨old,z1⟩,z2⟩:=st;exact⟨⟨old,k _ (by simp) _ z1⟩,bH z2 λo q=>k _ (by simp) o q⟩
 item:=by
  intro X hP hw hK hc i bx s σ H E I hf st hg;subst hP hw hK;obtain⟨xs,x,q1,hx⟩:=hg;obtain⟨us,r1,p1,_⟩:=cZ I q1;obtain⟨u,hu,ru⟩:=r1.get hx;obtain⟨⟨old,z1⟩,z2⟩:=st;have te:e<s.heap.objs.size:=ah z1;have ti:it<s.heap.objs.size:=by obtain⟨o,q,_⟩:=xG z2;exact ah q
  refine uV (It:=λh j=>ItA t h it l j) (x:=u) z1 hne (λA' E' Q' hq=>dO z2 p1 (by simpa using hu) hq) (λh h' a k=>bH a k) λh' a1 a2 a3 a4 a5=>⟨_,rfl,?_⟩
  have hfr:H s.heap.objs.size=none:=I.hok.fresh (aj _)
  have Ia:Inv X bx σ (upd H s.heap.objs.size (.tup [.int i,x])) {s with heap:=s.heap.push {cls:=.type "tuple",data:=.seq #[.int i s.toks,u]},toks:=s.toks+1}:=
   I.laid (t':=s.toks+1) (λb o e=>af _ e) (aj _) (show ObjOk X.prog X.w _ _ _ (.tup [.int i,x]) from⟨by rw[sizeLine_eq];simp,[.int i s.toks,u],.cons ⟨_,rfl⟩ (.cons ru .nil),⟨_,ag _ rfl,rfl,_,rfl⟩,⟨_,ag _ rfl,rfl⟩⟩)
  have hnew: ∀b∈[e,it],b≠s.heap.objs.size:=λb hb=>by
   simp only[aq,List.not_mem_nil,or_false]at hb;rcases hb with rfl|rfl
   ·exact bf te
   ·exact bf ti
  have hf2: ∀b∈[e,it],n6 X bx (upd H s.heap.objs.size (.tup [.int i,x])) b:=λb hb=>⟨by rw[aO (hnew b hb)];exact(hf b hb).1,(hf b hb).2⟩
  have Ib:Inv X bx σ (upd H s.heap.objs.size (.tup [.int i,x])) {s with heap:=h',toks:=s.toks+1}:=by
   refine dU (s:={s with heap:=s.heap.push {cls:=.type "tuple",data:=.seq #[.int i s.toks,u]},toks:=s.toks+1}) (t':=s.toks+1) Ia (λb o hb q=>?_) hf2
   simp only[aq,List.not_mem_nil,or_false,not_or]at hb
   by_cases hq:b=s.heap.objs.size
   ·subst hq;rw[show(s.heap.push {cls:=.type "tuple",data:=.seq #[.int i s.toks,u]}).get? s.heap.objs.size=some _ from ag _ rfl]at q
    cases q;exact a3
   ·exact a5 b o hb.1 hb.2 ((Heap.get?_push_ne _ b _ hq).symm.trans q)
  refine wpAny_letOwnedTupleGo_enum a1 λh2 b1 b2=>?_
  have Ic:Inv X bx σ (upd H s.heap.objs.size (.tup [.int i,x])) {s with heap:=h2,toks:=s.toks+1}:=dU (s:={s with heap:=h',toks:=s.toks+1}) (t':=s.toks+1) Ib (λb o hb q=>(b2.2 b (λz=>hb (by simp[z]))).trans q) hf2
  refine⟨.ref s.heap.objs.size,_,Ic,rfl,⟨_,x,hfr,rfl,λxs' hx'=>by rw[hU I hx' q1];exact hx,rfl⟩,⟨⟨u,?_⟩,bH a2 λo q=>(b2.2 it hne.symm).trans q⟩,λb hb=>(hf2 b hb).1⟩
  rw[Int.natCast_add];exact b1
 done:=by
  intro X hP hw hK hc i bx s σ H E I hf st hg;subst hP hw hK;obtain⟨xs,q1,hx⟩:=hg;obtain⟨us,r1,p1,_⟩:=cZ I q1;obtain⟨⟨old,z1⟩,z2⟩:=st;have n1:=r1.length;refine xD z1 (λA' E' Q' ha hq=>fU (ha.trans (I.ok.hd hc)) z2 p1 (by simp;lia) hq) λh' k=>⟨rfl,dU (t':=s.toks) I (λb o hb q=>?_) hf⟩
  simp only[aq,List.not_mem_nil,or_false,not_or]at hb;exact k b o hb.2 q
 self:=λ_ _ _ _ _ st h=>by
  obtain⟨⟨old,z1⟩,_⟩:=st;exact wpAny_pyIter_enum z1 h
theorem uY{prog:Program}{w:World}{A:Around}{Ex:cb}{s:Shared}{t:Bool}{l:Addr}{xs:Array Value}{Q:cb}(hl:SeA t s.heap l xs)
  (h: ∀h',IsEnum h' (s.heap.objs.size+1) s.heap.objs.size 0 .none->ItA t h' s.heap.objs.size l 0->h'.objs.size=s.heap.objs.size+2->(∀b o,s.heap.get? b=some o->h'.get? b=some o)->Q (.ref (s.heap.objs.size+1)) {s with heap:=h'}):
  wpAny (model prog w) A (call (.type "enumerate") [.ref l]) Q Ex s:=by
 cases t with
 |true=>exact uW hl h
 |false=>exact uX hl h
theorem nF{t:Bool}{h h':Heap}{l:Addr}{it:Array Value}(q:SeA t h l it)(k: ∀o,h.get? l=some o->h'.get? l=some o):SeA t h' l it:=by
 cases t with
 |true=>obtain⟨o,e1,e2⟩:=q;exact⟨o,k o e1,e2⟩
 |false=>obtain⟨o,e1,e2⟩:=q;exact⟨o,k o e1,e2⟩
theorem nG{t:Bool}{h:Heap}{it l:Addr}{k:Nat}(x:ItA t h it l k): ∃o,h.get? it=some o/\o.data= .fields #[.ref l,.int k 0]:=by
 cases t with
 |true=>obtain⟨o,a,_,c⟩:=x;exact⟨o,a,c⟩
 |false=>obtain⟨o,a,_,c⟩:=x;exact⟨o,a,c⟩
section
variable {prog:Program} {w:World} {A:Around} {Ex:cb} {s:Shared} {t t2:Bool}
theorem pH{z TI TO i1 i2 l1 l2:Addr}{k1 k2:Nat}{xs ys:Array Value}{x y a b:Value}{Q:Option Value->Shared->Prop}(D:ZipApart z TI TO i1 i2 l1 l2)(hz:IsZip s.heap z TI TO .none)(hTI:IsPair s.heap TI (.ref i1) (.ref i2))(hTO:IsPair s.heap TO a b)
  (h1:ItA t s.heap i1 l1 k1) (h2:ItA t2 s.heap i2 l2 k2) (hl1:SeA t s.heap l1 xs) (hl2:SeA t2 s.heap l2 ys) (hx:xs[k1]? =some x) (hy:ys[k2]? =some y)
  (hQ: ∀h',IsZip h' z TI TO (rawInt s.heap.objs.size)->IsPair h' TO x y->ItA t h' i1 l1 (k1+1)->ItA t2 h' i2 l2 (k2+1)->IsPair h' s.heap.objs.size x y->h'.objs.size=s.heap.objs.size+1->
   (∀c o,c≠z->c≠TO->c≠i1->c≠i2->s.heap.get? c=some o->h'.get? c=some o)->Q (some (.ref s.heap.objs.size)) {s with heap:=h'}):wpAny (model prog w) A (pyNext (.ref z)) Q Ex s:=by
 have hT:s.TypeIs (.ref z) "zip":=⟨_,hz,rfl⟩;have isT: ∀{t:Bool} {h h':Heap} {it l:Addr} {k:Nat} {c:Addr},ItA t h it l k->Heap.SameBut c h h'->it≠c->ItA t h' it l k:=λq sb ne=>bH q λo e=>(sb.2 _ ne).trans e
 have isU: ∀{t:Bool} {h h':Heap} {l:Addr} {it:Array Value} {c:Addr},SeA t h l it->Heap.SameBut c h h'->l≠c->SeA t h' l it:=λq sb ne=>nF q λo e=>(sb.2 _ ne).trans e
 unfold pyNext;refine aa (wpAny_attempt (wpAny_callSpecial?_slot (name:=Str.ofString "__next__") hT F.slot_zip_next (wpAny_call_entry F.slot_zip_next hT F.entry_zip_next ?_ (F.args_zip_next_1 _))));show wpAny _ _ (field (.ref z) 2 >>= _) _ _ _;refine aa (wpAny_field hz rfl (x:=.bool false) rfl ?_);show wpAny _ _ (field (.ref z) 3 >>= _) _ _ _;refine aa (wpAny_field hz rfl (x:=.ref TI) rfl (aa (wpAny_seqItems hTI rfl ?_)));show wpAny _ _ (Builtin.SmallTypes.ownedTupleIsFree (.ref z) >>= _) _ _ _;refine aa ?_;unfold Builtin.SmallTypes.ownedTupleIsFree;refine aa (wpAny_field hz rfl (x:=.none) rfl (ae ?_));simp only[if_true];refine aa (wpAny_rule (aa (wpAny_field hz rfl (x:=.ref TO) rfl (aa (wpAny_setField_rec hz (by simp) λg1 z1 s1=>?_)))))
 replace z1:IsZip g1 z TI TO .ellipsis:=z1;refine aa ?_;simp only[List.zipIdx_cons,List.zipIdx_nil,List.forIn_cons,List.forIn_nil];refine aa (aa (wpAny_onRaise ?_));show wpAny _ _ (Builtin.SmallTypes.nextOf (.ref i1) >>= _) _ _ _;refine aa (dO (isT h1 s1 D.i1z) (isU hl1 s1 D.l1z) hx λg2 p2 s2=>ae ?_)
 have o2:IsPair g2 TO a b:=(s2.2 _ D.TOi1).trans ((s1.2 _ D.TOz).trans hTO);refine aa (wpAny_seqItems o2 rfl (aa (wpAny_updateSeq_pair o2 λg3 o3 s3=>?_)))
 replace o3:IsPair g3 TO x b:=o3;refine aa (wpAny_letGo (ae (aa (aa (wpAny_onRaise ?_)))));show wpAny _ _ (Builtin.SmallTypes.nextOf (.ref i2) >>= _) _ _ _;refine aa (dO (isT (isT (isT h2 s1 D.i2z) s2 D.i12.symm) s3 D.TOi2.symm) (isU (isU (isU hl2 s1 D.l2z) s2 D.l2i1) s3 D.l2TO) hy λg4 p4 s4=>ae ?_)
 have o4:IsPair g4 TO x b:=(s4.2 _ D.TOi2).trans o3;refine aa (wpAny_seqItems o4 rfl (aa (wpAny_updateSeq_pair o4 λg5 o5 s5=>?_)))
 replace o5:IsPair g5 TO x y:=o5;refine aa (wpAny_letGo (ae (ae (aa (wpAny_seqItems o5 rfl (aa (wpAny_newTuple ?_)))))))
 have hsz:g5.objs.size=s.heap.objs.size:=by rw[s5.1,s4.1,s3.1,s2.1,s1.1]
 have z5:IsZip g5 z TI TO .ellipsis:=(s5.2 _ D.TOz.symm).trans ((s4.2 _ D.i2z.symm).trans ((s3.2 _ D.TOz.symm).trans ((s2.2 _ D.i1z.symm).trans z1)))
 have k5: ∀c o,c≠z->c≠TO->c≠i1->c≠i2->s.heap.get? c=some o->g5.get? c=some o:=λc o c1 c2 c3 c4 e=>(s5.2 _ c2).trans ((s4.2 _ c4).trans ((s3.2 _ c2).trans ((s2.2 _ c3).trans ((s1.2 _ c1).trans e))))
 have q1:ItA t g5 i1 l1 (k1+1):=isT (isT (isT p2 s3 D.TOi1.symm) s4 D.i12) s5 D.TOi1.symm;have q2:ItA t2 g5 i2 l2 (k2+1):=isT p4 s5 D.TOi2.symm;have lz:z<g5.objs.size:=ah z5;show wpAny _ _ (Builtin.SmallTypes.ownedTupleHandOut (.ref z) (.ref g5.objs.size) >>= _) _ _ _;refine aa ?_;unfold Builtin.SmallTypes.ownedTupleHandOut;have z6:IsZip (g5.push {cls:=.type "tuple",data:=.seq #[x,y]}) z TI TO .ellipsis:=af _ z5;refine aa (wpAny_setField_rec z6 (by simp) λg7 z7 s7=>?_)
 replace z7:IsZip g7 z TI TO (rawInt g5.objs.size):=z7;refine wpAny_setField_rec z7 (by simp) λg8 z8 s8=>?_
 replace z8:IsZip g8 z TI TO (rawInt g5.objs.size):=z8
 have up: ∀c o,c≠z->g5.get? c=some o->g8.get? c=some o:=λc o c1 e=>(s8.2 _ c1).trans ((s7.2 _ c1).trans (af _ e))
 have t8:IsPair g8 g5.objs.size x y:=(s8.2 _ (Nat.ne_of_gt lz)).trans ((s7.2 _ (Nat.ne_of_gt lz)).trans (ag _ rfl))
 have n8:g8.objs.size=g5.objs.size+1:=by rw[s8.1,s7.1,ai]
 rw[hsz]at z8 t8 n8;refine ae ⟨_,rfl,ae ?_⟩;show Q (some (.ref g5.objs.size)) _;rw[hsz];refine hQ g8 z8 (up _ _ D.TOz o5) ?_ ?_ t8 n8 λc o c1 c2 c3 c4 e=>up c o c1 (k5 c o c1 c2 c3 c4 e)
 ·exact bH q1 λo e=>up _ o D.i1z e
 ·exact bH q2 λo e=>up _ o D.i2z e
theorem tF{z TI TO i1 i2 l1 l2:Addr}{k1 k2:Nat}{xs ys:Array Value}{a b:Value}{Q:Option Value->Shared->Prop}(hh:A.handled=none)(D:ZipApart z TI TO i1 i2 l1 l2)(hz:IsZip s.heap z TI TO .none)(hTI:IsPair s.heap TI (.ref i1) (.ref i2))(hTO:IsPair s.heap TO a b)
  (h1:ItA t s.heap i1 l1 k1) (h2:ItA t2 s.heap i2 l2 k2) (hl1:SeA t s.heap l1 xs) (hl2:SeA t2 s.heap l2 ys) (he:xs[k1]? =none\/ys[k2]? =none)
  (hQ: ∀h',(∀c o,c≠z->c≠TO->c≠i1->c≠i2->s.heap.get? c=some o->h'.get? c=some o)->Q none {s with heap:=h'}):wpAny (model prog w) A (pyNext (.ref z)) Q Ex s:=by
 have hT:s.TypeIs (.ref z) "zip":=⟨_,hz,rfl⟩;have isT: ∀{t:Bool} {h h':Heap} {it l:Addr} {k:Nat} {c:Addr},ItA t h it l k->Heap.SameBut c h h'->it≠c->ItA t h' it l k:=λq sb ne=>bH q λo e=>(sb.2 _ ne).trans e
 have isU: ∀{t:Bool} {h h':Heap} {l:Addr} {it:Array Value} {c:Addr},SeA t h l it->Heap.SameBut c h h'->l≠c->SeA t h' l it:=λq sb ne=>nF q λo e=>(sb.2 _ ne).trans e
 unfold pyNext
 have fin: ∀(h':Heap) (e:Addr),(∀c o,c≠z->c≠TO->c≠i1->c≠i2->s.heap.get? c=some o->h'.get? c=some o)->(∃o,h'.get? e=some o/\o.cls= .type "StopIteration")->wpAny (model prog w) A (do if(<-isInstance (.ref e) (.type "StopIteration"))=true then pure none else throw (.ref e)) Q Ex {s with heap:=h'}:=λh' e kk he=>by
  obtain⟨o,ho,hc⟩:=he;exact aa (wpAny_isInstance (T:="StopIteration") (b:=true) ⟨o,ho,hc⟩ isSubtype_stop (ae (hQ _ kk)))
 refine aa (wpAny_attempt (wpAny_callSpecial?_slot (name:=Str.ofString "__next__") hT F.slot_zip_next (wpAny_call_entry F.slot_zip_next hT F.entry_zip_next ?_ (F.args_zip_next_1 _))));show wpAny _ _ (field (.ref z) 2 >>= _) _ _ _;refine aa (wpAny_field hz rfl (x:=.bool false) rfl ?_);show wpAny _ _ (field (.ref z) 3 >>= _) _ _ _;refine aa (wpAny_field hz rfl (x:=.ref TI) rfl (aa (wpAny_seqItems hTI rfl ?_)));show wpAny _ _ (Builtin.SmallTypes.ownedTupleIsFree (.ref z) >>= _) _ _ _;refine aa ?_;unfold Builtin.SmallTypes.ownedTupleIsFree;refine aa (wpAny_field hz rfl (x:=.none) rfl (ae ?_));simp only[if_true];refine aa (wpAny_rule (aa (wpAny_field hz rfl (x:=.ref TO) rfl (aa (wpAny_setField_rec hz (by simp) λg1 z1 s1=>?_)))))
 replace z1:IsZip g1 z TI TO .ellipsis:=z1;refine aa ?_;simp only[List.zipIdx_cons,List.zipIdx_nil,List.forIn_cons,List.forIn_nil];refine aa (aa (wpAny_onRaise ?_));show wpAny _ _ (Builtin.SmallTypes.nextOf (.ref i1) >>= _) _ _ _
 cases hx:xs[k1]? with
 |none=>
  refine aa (fU hh (isT h1 s1 D.i1z) (isU hl1 s1 D.l1z) hx λg2 e s2 he=>?_)
  obtain⟨oe,q1,q2⟩:=he;have z2:IsZip g2 z TI TO .ellipsis:=s2 _ _ D.i1z.symm z1;have ez:e≠z:=λx=>by subst x;rw[z2]at q1;cases q1;simp at q2
  exact wpAny_setField_rec z2 (by simp) λg3 _ s3=>fin g3 e (λc o c1 _ c3 _ x=>(s3.2 _ c1).trans (s2 _ _ c3 ((s1.2 _ c1).trans x))) ⟨oe,(s3.2 _ ez).trans q1,q2⟩
 |some x=>
  have hy:ys[k2]? =none:=he.resolve_left λh=>by rw[hx]at h;cases h
  refine aa (dO (isT h1 s1 D.i1z) (isU hl1 s1 D.l1z) hx λg2 p2 s2=>ae ?_)
  have o2:IsPair g2 TO a b:=(s2.2 _ D.TOi1).trans ((s1.2 _ D.TOz).trans hTO);refine aa (wpAny_seqItems o2 rfl (aa (wpAny_updateSeq_pair o2 λg3 o3 s3=>?_)))
  refine aa (wpAny_letGo (ae (aa (aa (wpAny_onRaise ?_)))));show wpAny _ _ (Builtin.SmallTypes.nextOf (.ref i2) >>= _) _ _ _;refine aa (fU hh (isT (isT (isT h2 s1 D.i2z) s2 D.i12.symm) s3 D.TOi2.symm) (isU (isU (isU hl2 s1 D.l2z) s2 D.l2i1) s3 D.l2TO) hy λg4 e s4 he=>?_)
  obtain⟨oe,q1,q2⟩:=he;have z4:IsZip g4 z TI TO .ellipsis:=s4 _ _ D.i2z.symm ((s3.2 _ D.TOz.symm).trans ((s2.2 _ D.i1z.symm).trans z1));have ez:e≠z:=λx=>by subst x;rw[z4]at q1;cases q1;simp at q2
  exact wpAny_setField_rec z4 (by simp) λg5 _ s5=>fin g5 e (λc o c1 c2 c3 c4 x=>(s5.2 _ c1).trans (s4 _ _ c4 ((s3.2 _ c2).trans ((s2.2 _ c3).trans ((s1.2 _ c1).trans x))))) ⟨oe,(s5.2 _ ez).trans q1,q2⟩
end
noncomputable def itC(t:Bool):String:=if t then "tuple_iterator" else "list_iterator"
abbrev zg1(t:Bool)(h:Heap)(l:Addr):Heap:=h.push {cls:=.type (itC t),data:=.fields #[.ref l,.int 0 0]}
abbrev zg3(t t2:Bool)(h:Heap)(l m:Addr):Heap:=(zg1 t2 (zg1 t h l) m).push {cls:=.type "tuple",data:=.seq #[.ref h.objs.size,.ref (zg1 t h l).objs.size]}
abbrev zg4(t t2:Bool)(h:Heap)(l m:Addr):Heap:=(zg3 t t2 h l m).push {cls:=.type "tuple",data:=.seq #[.none,.none]}
abbrev zg5(t t2:Bool)(h:Heap)(l m:Addr):Heap:=(zg4 t t2 h l m).push {cls:=.type "zip",data:=.fields #[.none,.bool false,.bool false,.ref (zg1 t2 (zg1 t h l) m).objs.size,.ref (zg3 t t2 h l m).objs.size]}
theorem aAw(t t2:Bool)(l m:Addr)(xs ys:Array Value):Meets (Builtin.«zip.__new__» ⟨[.type "zip",.ref l,.ref m],[]⟩) (λ_ R s=>SeA t s.heap l xs/\SeA t2 s.heap m ys/\R (.ok (.ret (.ref (zg4 t t2 s.heap l m).objs.size))) {s with heap:=zg5 t t2 s.heap l m}):=
 .of_wp λprog w A R s h=>by
  obtain⟨hp,g,d,tk,os⟩:=s;obtain⟨t1,t2',h⟩:=h;have hsub:=sub_zip
  cases t with
  |true=>
   have q1:Heap.IsTuple (Shared.heap ⟨hp,g,d,tk,os⟩) l xs:=t1
   cases t2 with
   |true=>
    have q2:Heap.IsTuple (Shared.heap ⟨hp.push {cls:=.type "tuple_iterator",data:=.fields #[.ref l,.int 0 0]},g,d,tk,os⟩) m ys:=Heap.IsTuple.push t2' _
    wp_walk using wpAny_pyIter_tuple q1,wpAny_pyIter_tuple q2
    exact⟨_,rfl,h⟩
   |false=>
    have q2:Heap.IsList (Shared.heap ⟨hp.push {cls:=.type "tuple_iterator",data:=.fields #[.ref l,.int 0 0]},g,d,tk,os⟩) m ys:=Heap.IsList.push t2' _
    wp_walk using wpAny_pyIter_tuple q1,wpAny_pyIter_list q2
    exact⟨_,rfl,h⟩
  |false=>
   have q1:Heap.IsList (Shared.heap ⟨hp,g,d,tk,os⟩) l xs:=t1
   cases t2 with
   |true=>
    have q2:Heap.IsTuple (Shared.heap ⟨hp.push {cls:=.type "list_iterator",data:=.fields #[.ref l,.int 0 0]},g,d,tk,os⟩) m ys:=Heap.IsTuple.push t2' _
    wp_walk using wpAny_pyIter_list q1,wpAny_pyIter_tuple q2
    exact⟨_,rfl,h⟩
   |false=>
    have q2:Heap.IsList (Shared.heap ⟨hp.push {cls:=.type "list_iterator",data:=.fields #[.ref l,.int 0 0]},g,d,tk,os⟩) m ys:=Heap.IsList.push t2' _
    wp_walk using wpAny_pyIter_list q1,wpAny_pyIter_list q2
    exact⟨_,rfl,h⟩
section
variable {prog:Program} {w:World} {A:Around} {Ex:cb} {s:Shared} {t t2:Bool}
theorem xI{t:Bool}{h:Heap}{it l:Addr}(e:h.get? it=some {cls:=.type (itC t),data:=.fields #[.ref l,.int 0 0]}):ItA t h it l 0:=by
 cases t with
 |true=>exact⟨_,e,rfl,rfl⟩
 |false=>exact⟨_,e,rfl,rfl⟩
theorem pI{l m:Addr}{xs ys:Array Value}{Q:cb}(t1:SeA t s.heap l xs)(t2':SeA t2 s.heap m ys)
  (h: ∀h',IsZip h' (s.heap.objs.size+4) (s.heap.objs.size+2) (s.heap.objs.size+3) .none->IsPair h' (s.heap.objs.size+2) (.ref s.heap.objs.size) (.ref (s.heap.objs.size+1))->IsPair h' (s.heap.objs.size+3) .none .none->
   ItA t h' s.heap.objs.size l 0->ItA t2 h' (s.heap.objs.size+1) m 0->h'.objs.size=s.heap.objs.size+5->(∀c o,s.heap.get? c=some o->h'.get? c=some o)->Q (.ref (s.heap.objs.size+4)) {s with heap:=h'}):
  wpAny (model prog w) A (call (.type "zip") [.ref l,.ref m]) Q Ex s:=by
 refine callType_new F.called_zip (by decide) (F.typeCall_zip_2 _ _) (F.newCall_zip_2 _ _) (λobj=>F.args_object_init_3 obj _ _) F.entry_zip_new (aAw t t2 l m xs ys) ⟨t1,t2',?_⟩
 have n1:(zg1 t s.heap l).objs.size=s.heap.objs.size+1:=ai ..
 have n2:(zg1 t2 (zg1 t s.heap l) m).objs.size=s.heap.objs.size+2:=by rw[ai,n1]
 have n3:(zg3 t t2 s.heap l m).objs.size=s.heap.objs.size+3:=by rw[ai,n2]
 have n4:(zg4 t t2 s.heap l m).objs.size=s.heap.objs.size+4:=by rw[ai,n3]
 have n5:(zg5 t t2 s.heap l m).objs.size=s.heap.objs.size+5:=by rw[ai,n4]
 have up: ∀{h:Heap} {o:Obj} {c:Addr} {x:Obj},h.get? c=some x->(h.push o).get? c=some x:=λe=>af _ e
 have g5:(zg5 t t2 s.heap l m).get? (zg4 t t2 s.heap l m).objs.size=some _:=ag _ rfl
 have g4:(zg5 t t2 s.heap l m).get? (zg3 t t2 s.heap l m).objs.size=some _:=up (ag _ rfl)
 have g3:(zg5 t t2 s.heap l m).get? (zg1 t2 (zg1 t s.heap l) m).objs.size=some _:=up (up (ag _ rfl))
 have g2:(zg5 t t2 s.heap l m).get? (zg1 t s.heap l).objs.size=some _:=up (up (up (ag _ rfl)))
 have g1:(zg5 t t2 s.heap l m).get? s.heap.objs.size=some _:=up (up (up (up (ag _ rfl))))
 show _/\_;rw[n2,n3,n4]at g5;rw[n1,n2]at g3;rw[n3]at g4;rw[n1]at g2;rw[n4];exact⟨⟨_,g5,rfl⟩,h _ g5 g3 g4 (xI g1) (xI g2) n5 λc o x=>up (up (up (up (up x))))⟩
end
def aCo(t t2:Bool)(K:PySem.W.Frag)(l m:Addr):It:=
 ⟨λi H=>∃xs ys x y,SqA t K H l xs/\SqA t2 K H m ys/\xs[i]? =some x/\ys[i]? =some y,
  λi H v H'=>∃p x y,H p=none/\v= .ref p/\(∀xs,SqA t K H l xs->xs[i]? =some x)/\(∀ys,SqA t2 K H m ys->ys[i]? =some y)/\H'=upd H p (.tup [x,y]),
  λi H=>∃xs ys,SqA t K H l xs/\SqA t2 K H m ys/\(xs.length<=i\/ys.length<=i)⟩
theorem xJ{t t2:Bool}{P:Program}{w:World}{K:PySem.W.Frag}{es:List Expr}{x1}{tp:Pos}{z TI TO i1 i2 l m:Addr}(D:ZipApart z TI TO i1 i2 l m):
  Turn P w K (.Tuple es x1 tp) (aCo t t2 K l m) [z,TI,TO,i1,i2] z (λi h=>IsZip h z TI TO .none/\IsPair h TI (.ref i1) (.ref i2)/\(∃a b,IsPair h TO a b)/\ItA t h i1 l i/\ItA t2 h i2 m i) where
 mem:=by simp
 obj:=λi h st b hb=>by
  obtain⟨z1,z2,⟨a,c,z3⟩,y4,y5⟩:=st;obtain⟨o4,z4,d4⟩:=nG y4;obtain⟨o5,z5,d5⟩:=nG y5;simp only[aq,List.not_mem_nil,or_false]at hb;rcases hb with rfl|rfl|rfl|rfl|rfl
  ·exact⟨_,z1,λv e=>by cases e⟩
  ·exact⟨_,z2,λv e=>by cases e⟩
  ·exact⟨_,z3,λv e=>by cases e⟩
  ·exact⟨_,z4,λv e=>by rw[d4]at e;cases e⟩
  ·exact⟨_,z5,λv e=>by rw[d5]at e;cases e⟩
 keep:=λi h h' st k=>by
  obtain⟨z1,z2,⟨a,c,z3⟩,y4,y5⟩:=st;exact⟨k _ (by simp) _ z1,k _ (by simp) _ z2,⟨a,c,k _ (by simp) _ z3⟩,bH y4 λo e=>k _ (by simp) o e,bH y5 λo e=>k _ (by simp) o e⟩
 item:=by
  intro X hP hw hK hc i bx s σ H E I hf st hg;subst hP hw hK;obtain⟨xs,ys,x,y,q1,q2,hx,hy⟩:=hg;obtain⟨us,r1,p1,_⟩:=cZ I q1;obtain⟨vs,r2,p2,_⟩:=cZ I q2;obtain⟨u,hu,ru⟩:=r1.get hx;obtain⟨v,hv,rv⟩:=r2.get hy;obtain⟨z1,z2,⟨a,c,z3⟩,z4,z5⟩:=st;have tI:TI<s.heap.objs.size:=ah z2;have tz:z<s.heap.objs.size:=ah z1;have tO:TO<s.heap.objs.size:=ah z3;have t4:i1<s.heap.objs.size:=by obtain⟨o,e,_⟩:=nG z4;exact ah e
  have t5:i2<s.heap.objs.size:=by obtain⟨o,e,_⟩:=nG z5;exact ah e
  refine pH D z1 z2 z3 z4 z5 p1 p2 (x:=u) (y:=v) (by simpa using hu) (by simpa using hv) λh' a1 a2 a3 a4 a5 a6 a7=>⟨_,rfl,?_⟩
  have hfr:H s.heap.objs.size=none:=I.hok.fresh (aj _)
  -- the pair, laid
  have Ia:Inv X bx σ (upd H s.heap.objs.size (.tup [x,y])) {s with heap:=s.heap.push {cls:=.type "tuple",data:=.seq #[u,v]} }:=
   I.laid (t':=s.toks) (λb o e=>af _ e) (aj _) (show ObjOk X.prog X.w _ _ _ (.tup [x,y]) from⟨by rw[sizeLine_eq];simp,[u,v],.cons ru (.cons rv .nil),⟨_,ag _ rfl,rfl,_,rfl⟩,⟨_,ag _ rfl,rfl⟩⟩)
  have hne: ∀b∈[z,TI,TO,i1,i2],b≠s.heap.objs.size:=λb hb=>by
   simp only[aq,List.not_mem_nil,or_false]at hb;rcases hb with rfl|rfl|rfl|rfl|rfl
   ·exact bf tz
   ·exact bf tI
   ·exact bf tO
   ·exact bf t4
   ·exact bf t5
  have hf2: ∀b∈[z,TI,TO,i1,i2],n6 X bx (upd H s.heap.objs.size (.tup [x,y])) b:=λb hb=>⟨by rw[aO (hne b hb)];exact(hf b hb).1,(hf b hb).2⟩
  have Ib:Inv X bx σ (upd H s.heap.objs.size (.tup [x,y])) {s with heap:=h'}:=by
   refine dU (s:={s with heap:=s.heap.push {cls:=.type "tuple",data:=.seq #[u,v]} }) (t':=s.toks) Ia (λb o hb e=>?_) hf2
   simp only[aq,List.not_mem_nil,or_false,not_or]at hb
   by_cases hq:b=s.heap.objs.size
   ·subst hq;rw[show(s.heap.push {cls:=.type "tuple",data:=.seq #[u,v]}).get? s.heap.objs.size=some _ from ag _ rfl]at e
    cases e;exact a5
   ·have e2:s.heap.get? b=some o:=by
     exact(Heap.get?_push_ne _ b _ hq).symm.trans e
    exact a7 b o hb.1 hb.2.2.1 hb.2.2.2.1 hb.2.2.2.2 e2
  refine wpAny_letOwnedTupleGo_zip a1 λh2 b1 b2=>?_
  have Ic:Inv X bx σ (upd H s.heap.objs.size (.tup [x,y])) {s with heap:=h2}:=dU (s:={s with heap:=h'}) (t':=s.toks) Ib (λb o hb e=>(b2.2 b (λq=>hb (by simp[q]))).trans e) hf2
  refine⟨.ref s.heap.objs.size,_,Ic,rfl,⟨_,x,y,hfr,rfl,λxs' hx'=>by rw[hU I hx' q1];exact hx,λys' hy'=>by rw[hU I hy' q2];exact hy,rfl⟩,⟨b1,?_,⟨u,v,?_⟩,?_,?_⟩,λb hb=>(hf2 b hb).1⟩
  ·exact(b2.2 _ D.TIz).trans (a7 _ _ D.TIz D.TITO D.TIi1 D.TIi2 z2)
  ·exact(b2.2 _ D.TOz).trans a2
  ·exact bH a3 λo e=>(b2.2 _ D.i1z).trans e
  ·exact bH a4 λo e=>(b2.2 _ D.i2z).trans e
 done:=by
  intro X hP hw hK hc i bx s σ H E I hf st hg;subst hP hw hK;obtain⟨xs,ys,q1,q2,hx⟩:=hg;obtain⟨us,r1,p1,_⟩:=cZ I q1;obtain⟨vs,r2,p2,_⟩:=cZ I q2;obtain⟨z1,z2,⟨a,c,z3⟩,z4,z5⟩:=st;have n1:=r1.length;have n2:=r2.length;refine tF (I.ok.hd hc) D z1 z2 z3 z4 z5 p1 p2 (hx.elim (λh=>.inl (by simp;lia)) λh=>.inr (by simp;lia)) λh' k=>⟨rfl,dU (t':=s.toks) I (λb o hb e=>?_) hf⟩
  simp only[aq,List.not_mem_nil,or_false,not_or]at hb;exact k b o hb.1 hb.2.2.1 hb.2.2.2.1 hb.2.2.2.2 e
 self:=λ_ _ _ _ _ st h=>wpAny_pyIter_zip st.1 h
section
variable {X:Cx} {ad:Ad} {bx:cc} {s:Shared} {σ:St} {H G:Hp} {ρ:Rho} {Q:VK} {E:Nat->Hp->Prop} {pos p ap cp:Pos} {o a b c tg:Expr} {f g h:F}
theorem aEz{G1 H1:Hp}{x:V}{ds:List D}(e:Same G1 H1)(q:Seq X ad G1 H1 (.lst ds) x): ∃l xs,x= .ref l/\SqL X.K H1 l xs/\aH X.K ad G1 ds xs:=by
 rcases q with q|⟨l,vs,ds',e1,e2,e3,e4,e5⟩
 ·unfold Rep at q;obtain⟨l,vs,rfl,h1,h2⟩:=q;exact⟨l,vs,rfl,e.seq h1,h2⟩
 ·cases e1;exact⟨l,vs,e2,SqL.of e4,e5⟩
theorem xK{m:Str}{id:String}{r:Fn}(slot:PySem.Slot "list" m id)(hty:typeOf (.builtin id)=pure (.type "method_descriptor"))
  (ho:ML X ad o f) (ha:ME X ad a g) (hs:starEach [a] X.env=(false,eval a X.env)::starEach [] X.env) (hbase:attributeBase o m X.env (eval o X.env)=eval o X.env) (hline:(ap.endLine==cp.line)=true)
  (hm: ∀(bx:cc) (s:Shared) (σ:St) (H G:Hp) (l:Addr) (xs:List V) (ds:List D) (y:D) (v:V) (u:Value) (Q:VK) (E:Nat->Hp->Prop),Inv X bx σ H s->Same G H->SqL X.K H l xs->aH X.K ad G ds xs->Rep X.K ad G y v->cD v u->
   RK X.K ad G H (r [.lst ds,y]) Q E->wpAny (model X.prog X.w) X.A (call (.builtin id) [.ref l,u]) (EP X bx σ Q) X.xe s):ME X ad (.Call (.Attribute o m ap) [a] [] cp) (rC r f g):=by
 refine λbx s σ H Q I h9=>h9.el λG ρ E hG hS hx hr=>?_
 refine wpAny_Call_method_late hbase (nD hs) hline rfl (L2.thn (ho.lk bx s σ H G ρ _ Q E I hG hS hx hr) λv s1 hz_=>?_)
 obtain⟨x,d,G1,H1,I1,r1,st1,q1,k1⟩:=hz_
 cases d<;>try exact ax k1
 rename_i ds;obtain⟨l,xs,rfl,hq,rq⟩:=aEz st1.gh q1
 cases (show v=Value.ref l from r1)
 obtain⟨its,rv,pl,_⟩:=I1.list hq;obtain⟨ob,n,e1,e2,e3,e4⟩:=pl;refine⟨"list",id,PySem.F.plainAttrs_list,slot,hty,⟨ob,e1,e2⟩,λa' ea=>by cases ea;exact⟨ob,e1,e3⟩,?_⟩
 rw[hs];refine Calls.callWith_builtin rfl (Calls.evalArgs_plain (Calls.spliced_cons (L2.thn (ha.thn I1 st1.gh (hS.step st1) hx k1) λu s2 ⟨w,y,G2,H2,I2,r2,st2,q2,k2⟩=>Calls.spliced_nil ?_)))
 exact hm bx s2 σ H2 G2 l xs ds y w u Q E I2 st2.gh (st2.sh.seq hq) (rq.mono st2.sg) q2 r2 k2
theorem aAx(hu:X.A.units+62<cLine)(ho:ML X ad o f)(ha:ME X ad a g)(hs:starEach [a] X.env=(false,eval a X.env)::starEach [] X.env)(hbase:attributeBase o "count" X.env (eval o X.env)=eval o X.env)(hline:(ap.endLine==cp.line)=true):
  ME X ad (.Call (.Attribute o "count" ap) [a] [] cp) (rC sM f g):=by
 refine xK PySem.F.slot_list_count PySem.F.type_list_count ho ha hs hbase hline ?_;intro bx s σ H G l xs ds y v u Q E I hG hq rq q r k
 have k':RK X.K ad G H (if lU y ds then .ok (.int ((ds.countP λz=>deq z y):Nat))else .bad) Q E:=k
 by_cases hc:lU y ds=true
 ·rw[if_pos hc]at k';obtain⟨its,rv,⟨⟨cls,dd,data,sl⟩,n,e1,e2,e3,e4⟩,_⟩:=I.list hq
  simp only at e2 e3 e4
  subst e2 e4;obtain⟨e,he,_,hcount,_⟩:=lX hu I hG hc q r rq rv;refine call_meets PySem.F.slot_list_count ⟨_,e1,rfl⟩ PySem.F.entry_list_count (PySem.F.args_list_count_2 _ _) (SeqAt.list_countAt l its.toArray n dd sl u e) ⟨e1,he,?_⟩;refine⟨.int _,H,I.tok _,⟨_,rfl⟩,?_⟩;rw[<-hcount]at k';exact k'.ok_now hG a8
 ·rw[if_neg hc]at k';exact k'.elim
theorem aAy(hu:X.A.units+62<cLine)(ho:ML X ad o f)(ha:ME X ad a g)(hs:starEach [a] X.env=(false,eval a X.env)::starEach [] X.env)(hbase:attributeBase o "index" X.env (eval o X.env)=eval o X.env)(hline:(ap.endLine==cp.line)=true):
  ME X ad (.Call (.Attribute o "index" ap) [a] [] cp) (rC sN f g):=by
 refine xK PySem.F.slot_list_index PySem.F.type_list_index ho ha hs hbase hline ?_;intro bx s σ H G l xs ds y v u Q E I hG hq rq q r k
 have k':RK X.K ad G H (if lU y ds then(match ds.findIdx? λz=>deq z y with|some k=>.ok (.int (k:Nat))|none=>.bad)else .bad) Q E:=k
 by_cases hc:lU y ds=true
 ·rw[if_pos hc]at k';obtain⟨its,rv,⟨⟨cls,dd,data,sl⟩,n,e1,e2,e3,e4⟩,hz⟩:=I.list hq
  simp only at e2 e3 e4
  subst e2 e4;obtain⟨e,he,_,_,hfind⟩:=lX hu I hG hc q r rq rv
  cases hf:ds.findIdx? λz=>deq z y with
  |none=>rw[hf]at k';exact k'.elim
  |some j=>
   rw[hf]at k' hfind;obtain⟨hj,hit,hno⟩:=List.findIdx?_eq_some_iff_getElem.mp hfind;have hl:=rv.length;refine call_meets PySem.F.slot_list_index ⟨_,e1,rfl⟩ PySem.F.entry_list_index (PySem.F.args_list_index_2 _ _) (SeqAt.list_indexAt l its.toArray n dd sl u e j (by simpa using hj) ?_ (by simpa using hit) (λm hm hlt=>by simpa using hno m hlt)) ⟨e1,he,?_⟩
   ·have:(sizeLine:Nat)<2^63-1:=by decide
    lia
   ·exact⟨.int _,H,I.tok _,⟨_,rfl⟩,k'.ok_now hG a8⟩
 ·rw[if_neg hc]at k';exact k'.elim
theorem nH{f:F}{k:D->R}{W:It->Hp->Prop}{Q':VK}(hG:Same G H)(hS:SL X.K ad G H ρ σ)(hx:XP X ad σ E)(hr:IGK X ad G H ((f ρ).bind k) W E)
  (q: ∀v d G1 H1,Step G H G1 H1->Rep X.K ad G1 d v->IGK X ad G1 H1 (k d) W E->Q' v H1):tE X ad f σ H Q':=by
 have ikst: ∀{r:R} {G1 H1:Hp},IGK X ad G H r W E->Step G H G1 H1->IGK X ad G1 H1 r W E:=λ{r G1 H1} h st=>by
  cases r with
  |ok d=>obtain⟨ds,e,h⟩:=h;exact⟨ds,e,λJ G' H' st' hi=>h J G' H' (st.trans st') hi⟩
  |ow l=>exact λJ G' H' st' hi=>h J G' H' (st.trans st') hi
  |ex c=>exact λG' H' st'=>h G' H' (st.trans st')
  |bad=>exact h
 refine⟨G,ρ,E,hG,hS,hx,?_⟩
 cases e:f ρ with
 |ok d=>
  rw[e]at hr;exact λv G1 H1 st r=>q v d G1 H1 st r (ikst hr st)
 |ow xs=>
  rw[e]at hr;intro p vs G1 H1 st n m e' r;obtain⟨G2,st2,r2⟩:=dQ (X:=X) (ad:=ad) st n m e' r;exact q _ _ G2 H1 st2 r2 (ikst hr st2)
 |ex c=>
  rw[e]at hr;exact hr
 |bad=>
  rw[e]at hr;exact hr
def iZp(K:PySem.W.Frag)(ta:TA):TI:=λσ H R=>ta σ H λvs H1=>∃t t2 l m xs ys,vs=[.ref l,.ref m]/\SqA t K H1 l xs/\SqA t2 K H1 m ys/\(xs.length<=sizeLine->R (aCo t t2 K l m) H1)
theorem aCp{es:List Expr}{kt}{tp:Pos}{ta:TA}(hg:L2.Gl X "zip")(hm:X.mg "zip"=none)(ha:PA X [a,b] ta)(he:starEach [a,b] X.env=(false,eval a X.env)::starEach [b] X.env)(he2:starEach [b] X.env=(false,eval b X.env)::starEach [] X.env):
  PI X (.Tuple es kt tp) (.Call (.Name "zip" p) [a,b] [] pos) (iZp X.K ta):=by
 intro bx s σ H R I h;refine Call_ (fK (u:=.type "zip") I hg hm (by decide+kernel) (PyProof.Rows.callWith_type1 (L2.thn (ha pos bx s σ H _ I h) λus s1 ⟨vs,H1,I1,r1,q1⟩=>?_) he (by rw[he2];rfl)) (by decide) (by decide))
 obtain⟨t,t2,l,m,xs,ys,rfl,hq1,hq2,q⟩:=q1;obtain⟨u,v,rfl,ru,rv⟩:=r1.two
 cases (show u=Value.ref l from ru)
 cases (show v=Value.ref m from rv)
 obtain⟨its,_,p1,z1⟩:=cZ I1 hq1;obtain⟨its2,_,p2,_⟩:=cZ I1 hq2;refine pI p1 p2 λh' a1 a2 a3 a4 a5 a6 a7=>wpAny_pyIter_zip a1 ?_
 have l1:l<s1.heap.objs.size:=by cases t<;>(obtain⟨o,e,_⟩:=p1;exact ah e)
 have l2:m<s1.heap.objs.size:=by cases t2<;>(obtain⟨o,e,_⟩:=p2;exact ah e)
 refine⟨s1.heap.objs.size+4,[s1.heap.objs.size+4,s1.heap.objs.size+2,s1.heap.objs.size+3,s1.heap.objs.size,s1.heap.objs.size+1],_,aCo t t2 X.K l m,H1,rfl,I1.kept (t':=s1.toks) a7,xJ (pG l1 l2),⟨a1,a2,⟨_,_,a3⟩,a4,a5⟩,λb hb=>?_,q z1⟩
 have hb':s1.heap.objs.size<=b:=by
  simp only[aq,List.not_mem_nil,or_false]at hb;rcases hb with rfl|rfl|rfl|rfl|rfl
  ·exact Nat.le_add_right _ 4
  ·exact Nat.le_add_right _ 2
  ·exact Nat.le_add_right _ 3
  ·exact aj _
  ·exact Nat.le_add_right _ 1
 exact I1.fpOk hb' (I1.hok.fresh hb')
theorem xL{ds es:List D}{i:Nat}{d:D}(e:((ds.zip es).map λp=>D.tup [p.1,p.2])[i]? =some d): ∃x y,ds[i]? =some x/\es[i]? =some y/\d= .tup [x,y]:=by
 rw[List.getElem?_map]at e
 cases q:(ds.zip es)[i]? with
 |none=>rw[q]at e;cases e
 |some p=>
  rw[q]at e;rw[List.getElem?_zip_eq_some]at q;exact⟨p.1,p.2,q.1,q.2,(Option.some.inj e).symm⟩
def isA:Bool->List D->D->Prop
 |true,ds,d=>d= .tup ds
 |false,ds,d=>d= .lst ds
theorem iZ{t:Bool}{G1:Hp}{d:D}{v:V}{ds:List D}(c:isA t ds d)(r:Rep X.K ad G1 d v): ∃l vs,v= .ref l/\SqA t X.K G1 l vs/\aH X.K ad G1 ds vs:=by
 cases t with
 |true=>cases c;unfold Rep at r;exact r
 |false=>cases c;unfold Rep at r;exact r
theorem tG{t t2:Bool}{G1 H1 H2:Hp}{l m:Addr}{i:Nat}{vs ws:List V}{ds es:List D}{d:D}{x:V}(h1:SqA t X.K G1 l vs)(r1:aH X.K ad G1 ds vs)(h2:SqA t2 X.K G1 m ws)(r2:aH X.K ad G1 es ws)(hg:Same G1 H1)(e:((ds.zip es).map λp=>D.tup [p.1,p.2])[i]? =some d):
  (aCo t t2 X.K l m).go i H1/\∀x H2,(aCo t t2 X.K l m).yld i H1 x H2->∃G2,Step G1 H1 G2 H2/\Rep X.K ad G2 d x:=by
 obtain⟨x,y,e1,e2,rfl⟩:=xL e;obtain⟨v,g1,q1⟩:=r1.get e1;obtain⟨w,g2,q2⟩:=r2.get e2;refine⟨⟨vs,ws,v,w,aG hg h1,aG hg h2,g1,g2⟩,?_⟩;rintro x' H2' ⟨p,x2,y2,hn,rfl,b1,b2,rfl⟩;have c1:=b1 vs (aG hg h1);rw[g1]at c1;cases c1;have c2:=b2 ws (aG hg h2);rw[g2]at c2;cases c2;refine⟨upd G1 p (.tup [v,w]),Step.new hg hn,?_⟩;have sm:Same G1 (upd G1 p (.tup [v,w])):=Same.upd_new (hg.free hn);unfold Rep;exact⟨p,[v,w],rfl,SqT.of a9,aH.cons (q1.mono sm) (aH.cons (q2.mono sm) aH.nil)⟩
theorem tH{t t2:Bool}{G1 H1:Hp}{l m:Addr}{vs ws:List V}{ds es:List D}(h1:SqA t X.K H1 l vs)(n1:vs.length=ds.length)(h2:SqA t2 X.K H1 m ws)(n2:ws.length=es.length):(aCo t t2 X.K l m).stop ((ds.zip es).map λp=>D.tup [p.1,p.2]).length H1:=by
 refine⟨vs,ws,h1,h2,?_⟩;simp only[am,List.length_zip]
 lia
theorem aI7{es:List Expr}{kt}{tp:Pos}(hg:L2.Gl X "zip")(hm:X.mg "zip"=none)(ha:ME X ad a f)(hb:ME X ad b g)(he:starEach [a,b] X.env=(false,eval a X.env)::starEach [b] X.env)(he2:starEach [b] X.env=(false,eval b X.env)::starEach [] X.env):
  MI X ad (.Tuple es kt tp) (.Call (.Name "zip" p) [a,b] [] pos) (mW f g):=by
 intro bx s σ H W I ⟨G,ρ,E,hG,hS,hx,hr⟩;refine aCp (ta:=j9 (tE X ad f) (j9 (tE X ad g) aB3)) hg hm (cM ha (cM hb eK he2) he) he he2 bx s σ H W I ?_;show tE X ad f σ H λv H1=>tE X ad g σ H1 λv2 H2=>∃t t2 l m xs ys,[v,v2]=[.ref l,.ref m]/\SqA t X.K H2 l xs/\SqA t2 X.K H2 m ys/\(xs.length<=sizeLine->W (aCo t t2 X.K l m) H2)
 refine nC hG hS hx hr λv d G1 H1 st r k=>?_
 refine nC st.gh (hS.step st) hx k λv2 d2 G2 H2 st2 r2 k2=>?_
 obtain⟨t,t2,ds,es',c1,c2,k2⟩: ∃t t2 ds es',isA t ds d/\isA t2 es' d2/\IK X ad G2 H2 (.ok (.lst ((ds.zip es').map λp=>D.tup [p.1,p.2]))) W E:=by
  cases d<;>try exact ax k2
  ·cases d2<;>try exact ax k2
   ·exact⟨true,true,_,_,rfl,rfl,k2⟩
   ·exact⟨true,false,_,_,rfl,rfl,k2⟩
  ·cases d2<;>try exact ax k2
   ·exact⟨false,true,_,_,rfl,rfl,k2⟩
   ·exact⟨false,false,_,_,rfl,rfl,k2⟩
 obtain⟨al,e,hw⟩:=k2;cases e;obtain⟨l,vs,rfl,q1,y1⟩:=iZ c1 r;obtain⟨m,ws,rfl,q2,y2⟩:=iZ c2 r2;have q1':=aG st2.sg q1;have y1':=y1.mono st2.sg;refine⟨t,t2,l,m,vs,ws,rfl,aG st2.gh q1',aG st2.gh q2,λfew=>hw _ G2 H2 (Step.refl st2.gh) ⟨λi G3 H3 d' s3 e=>?_,λG3 H3 s3=>tH (G1:=G3) (aG s3.sh (aG st2.gh q1')) y1'.length (aG s3.sh (aG st2.gh q2)) y2.length,?_⟩⟩
 ·exact tG (H2:=H3) (x:=.ref l) (aG s3.sg q1') (y1'.mono s3.sg) (aG s3.sg q2) (y2.mono s3.sg) s3.gh e
 ·have:=y1'.length
  simp only[am,List.length_zip]
  lia
theorem aE0{es:List Expr}{kt}{tp:Pos}(hg:L2.Gl X "zip")(hm:X.mg "zip"=none)(ha:ME X ad a f)(hb:ME X ad b g)(he:starEach [a,b] X.env=(false,eval a X.env)::starEach [b] X.env)(he2:starEach [b] X.env=(false,eval b X.env)::starEach [] X.env):
  MIG X ad (.Tuple es kt tp) (.Call (.Name "zip" p) [a,b] [] pos) (mW f g):=by
 intro bx s σ H W I ⟨G,ρ,E,hG,hS,hx,hr⟩;refine aCp (ta:=j9 (tE X ad f) (j9 (tE X ad g) aB3)) hg hm (cM ha (cM hb eK he2) he) he he2 bx s σ H W I ?_;show tE X ad f σ H λv H1=>tE X ad g σ H1 λv2 H2=>∃t t2 l m xs ys,[v,v2]=[.ref l,.ref m]/\SqA t X.K H2 l xs/\SqA t2 X.K H2 m ys/\(xs.length<=sizeLine->W (aCo t t2 X.K l m) H2)
 refine nH hG hS hx hr λv d G1 H1 st r k=>?_
 refine nH st.gh (hS.step st) hx k λv2 d2 G2 H2 st2 r2 k2=>?_
 obtain⟨t,t2,ds,es',c1,c2,k2⟩: ∃t t2 ds es',isA t ds d/\isA t2 es' d2/\IGK X ad G2 H2 (.ok (.lst ((ds.zip es').map λp=>D.tup [p.1,p.2]))) W E:=by
  cases d<;>try exact ax k2
  ·cases d2<;>try exact ax k2
   ·exact⟨true,true,_,_,rfl,rfl,k2⟩
   ·exact⟨true,false,_,_,rfl,rfl,k2⟩
  ·cases d2<;>try exact ax k2
   ·exact⟨false,true,_,_,rfl,rfl,k2⟩
   ·exact⟨false,false,_,_,rfl,rfl,k2⟩
 obtain⟨al,e,hw⟩:=k2;cases e;obtain⟨l,vs,rfl,q1,y1⟩:=iZ c1 r;obtain⟨m,ws,rfl,q2,y2⟩:=iZ c2 r2;have q1':=aG st2.sg q1;have y1':=y1.mono st2.sg;refine⟨t,t2,l,m,vs,ws,rfl,aG st2.gh q1',aG st2.gh q2,λfew=>hw _ G2 H2 (Step.refl st2.gh) ⟨λi G3 H3 d' s3 s4 e=>?_,λG3 H3 s3 s4=>tH (G1:=G3) (aG s4 (aG s3 q1')) y1'.length (aG s4 (aG s3 q2)) y2.length⟩⟩
 exact tG (H2:=H3) (x:=.ref l) (aG s3 q1') (y1'.mono s3) (aG s3 q2) (y2.mono s3) s4 e
def iEn(K:PySem.W.Frag)(ta:TA):TI:=λσ H R=>ta σ H λvs H1=>∃t l xs,vs=[.ref l]/\SqA t K H1 l xs/\(xs.length<=sizeLine->R (Ite t K l) H1)
theorem xM{es:List Expr}{kt}{tp:Pos}{ta:TA}(hg:L2.Gl X "enumerate")(hm:X.mg "enumerate"=none)(ha:PA X [a] ta)(he:starEach [a] X.env=(false,eval a X.env)::starEach [] X.env):
  PI X (.Tuple es kt tp) (.Call (.Name "enumerate" p) [a] [] pos) (iEn X.K ta):=by
 intro bx s σ H R I h;refine Call_ (fK (u:=.type "enumerate") I hg hm (by decide+kernel) (PyProof.Rows.callWith_type1 (L2.thn (ha pos bx s σ H _ I h) λus s1 ⟨vs,H1,I1,r1,q1⟩=>?_) he rfl) (by decide) (by decide))
 obtain⟨t,l,xs,rfl,hq,q⟩:=q1;obtain⟨u,rfl,ru⟩:=r1.one
 cases (show u=Value.ref l from ru)
 obtain⟨its,_,p1,z1⟩:=cZ I1 hq;refine uY p1 λh' a1 a2 a3 a4=>wpAny_pyIter_enum a1 ?_
 refine⟨s1.heap.objs.size+1,[s1.heap.objs.size+1,s1.heap.objs.size],_,Ite t X.K l,H1,rfl,I1.kept (t':=s1.toks) a4,xH (Nat.succ_ne_self _),⟨⟨_,a1⟩,a2⟩,λb hb=>?_,q z1⟩
 have hb':s1.heap.objs.size<=b:=by
  simp only[aq,List.not_mem_nil,or_false]at hb;rcases hb with rfl|rfl
  ·exact Nat.le_succ _
  ·exact aj _
 exact I1.fpOk hb' (I1.hok.fresh hb')
theorem pJ{G1:Hp}{d:D}{v:V}{ds:List D}(r:Rep X.K ad G1 d v)(e:items d=some ds): ∃t l vs,v= .ref l/\SqA t X.K G1 l vs/\aH X.K ad G1 ds vs:=by
 cases d<;>try (cases e;done)
 ·cases e;unfold Rep at r;obtain⟨l,vs,rfl,q,t⟩:=r;exact⟨true,l,vs,rfl,q,t⟩
 ·cases e;unfold Rep at r;obtain⟨l,vs,rfl,q,t⟩:=r;exact⟨false,l,vs,rfl,q,t⟩
theorem tJ{t:Bool}{G1 H1:Hp}{l:Addr}{i:Nat}{vs:List V}{ds:List D}{d:D}(h1:SqA t X.K G1 l vs)(r1:aH X.K ad G1 ds vs)(hg:Same G1 H1)(e:(ds.zipIdx.map λp=>D.tup [.int (p.2:Nat),p.1])[i]? =some d):
  (Ite t X.K l).go i H1/\∀x H2,(Ite t X.K l).yld i H1 x H2->∃G2,Step G1 H1 G2 H2/\Rep X.K ad G2 d x:=by
 rw[List.getElem?_map,List.getElem?_zipIdx]at e
 cases q:ds[i]? with
 |none=>rw[q]at e;cases e
 |some x=>
  rw[q]at e;have e2:=(Option.some.inj e).symm;simp only[Nat.zero_add]at e2;subst e2;obtain⟨v,g1,q1⟩:=r1.get q;refine⟨⟨vs,v,aG hg h1,g1⟩,?_⟩;rintro x' H2' ⟨p,x2,hn,rfl,b1,rfl⟩;have c1:=b1 vs (aG hg h1);rw[g1]at c1;cases c1;refine⟨upd G1 p (.tup [.int i,v]),Step.new hg hn,?_⟩;have sm:Same G1 (upd G1 p (.tup [.int i,v])):=Same.upd_new (hg.free hn);unfold Rep;exact⟨p,[.int i,v],rfl,SqT.of a9,aH.cons a8 (aH.cons (q1.mono sm) aH.nil)⟩
theorem aE1{es:List Expr}{kt}{tp:Pos}(hg:L2.Gl X "enumerate")(hm:X.mg "enumerate"=none)(ha:ME X ad a f)(he:starEach [a] X.env=(false,eval a X.env)::starEach [] X.env):
  MI X ad (.Tuple es kt tp) (.Call (.Name "enumerate" p) [a] [] pos) (oV f):=by
 intro bx s σ H W I ⟨G,ρ,E,hG,hS,hx,hr⟩;refine xM (ta:=j9 (tE X ad f) aB3) hg hm (cM ha eK he) he bx s σ H W I ?_;show tE X ad f σ H λv H1=>∃t l xs,[v]=[.ref l]/\SqA t X.K H1 l xs/\(xs.length<=sizeLine->W (Ite t X.K l) H1)
 refine nC hG hS hx hr λv d G1 H1 st r k=>?_
 have k':IK X ad G1 H1 (match items d with|some xs=>.ok (.lst (xs.zipIdx.map λp=>D.tup [.int (p.2:Nat),p.1]))|none=>.bad) W E:=k
 cases e:items d with
 |none=>rw[e]at k';exact k'.elim
 |some ds=>
  rw[e]at k';obtain⟨al,e2,hw⟩:=k';cases e2;obtain⟨t,l,vs,rfl,q1,t1⟩:=pJ r e;have n1:=t1.length;refine⟨t,l,vs,rfl,aG st.gh q1,λfew=>hw _ G1 H1 (Step.refl st.gh) ⟨λi G3 H3 d' s3 e=>tJ (aG s3.sg q1) (t1.mono s3.sg) s3.gh e,λG3 H3 s3=>⟨vs,aG s3.sh (aG st.gh q1),by simp;lia⟩,by simp;lia⟩⟩
theorem aAz{es:List Expr}{kt}{tp:Pos}(hg:L2.Gl X "enumerate")(hm:X.mg "enumerate"=none)(ha:ME X ad a f)(he:starEach [a] X.env=(false,eval a X.env)::starEach [] X.env):
  MIG X ad (.Tuple es kt tp) (.Call (.Name "enumerate" p) [a] [] pos) (oV f):=by
 intro bx s σ H W I ⟨G,ρ,E,hG,hS,hx,hr⟩;refine xM (ta:=j9 (tE X ad f) aB3) hg hm (cM ha eK he) he bx s σ H W I ?_;show tE X ad f σ H λv H1=>∃t l xs,[v]=[.ref l]/\SqA t X.K H1 l xs/\(xs.length<=sizeLine->W (Ite t X.K l) H1)
 refine nH hG hS hx hr λv d G1 H1 st r k=>?_
 have k':IGK X ad G1 H1 (match items d with|some xs=>.ok (.lst (xs.zipIdx.map λp=>D.tup [.int (p.2:Nat),p.1]))|none=>.bad) W E:=k
 cases e:items d with
 |none=>rw[e]at k';exact k'.elim
 |some ds=>
  rw[e]at k';obtain⟨al,e2,hw⟩:=k';cases e2;obtain⟨t,l,vs,rfl,q1,t1⟩:=pJ r e;have n1:=t1.length;refine⟨t,l,vs,rfl,aG st.gh q1,λfew=>hw _ G1 H1 (Step.refl st.gh) ⟨λi G3 H3 d' s3 s4 e=>tJ (aG s3 q1) (t1.mono s3) s4 e,λG3 H3 s3 s4=>⟨vs,aG s4 (aG s3 q1),by simp;lia⟩⟩⟩
theorem aA0(hc:MT X ad c h)(ha:MT X ad a f)(hb:MT X ad b g):MT X ad (.IfExp c a b pos) (rIf h f g):=by
 refine λbx s σ H Q I h9=>h9.el λG ρ E hG hS hx ht hr=>?_
 have hr':RK X.K ad G H ((h ρ).bind λx=>match x with|.bl true=>f ρ|.bl false=>g ρ|_=>.bad) (λv H'=>∃b,v= .bl b/\Q b H') E:=hr
 have ht':kN ((h ρ).bind λx=>match x with|.bl true=>f ρ|.bl false=>g ρ|_=>.bad):=ht
 have e:isTrue (.IfExp c a b pos) X.env (eval (.IfExp c a b pos) X.env)=(do if<-isTrue c X.env (eval c X.env)then isTrue a X.env (eval a X.env)else isTrue b X.env (eval b X.env)):=rfl
 rw[e];refine aa ?_;rcases eZ ht' with ⟨d,e1,ht2⟩|⟨xs,e1,ht2⟩|⟨k,e1⟩
 ·cases d<;>try exact(bW ht2).elim
  rename_i k;rw[e1]at hr';refine L2.thn (hc bx s σ H (λb H1=>b=k/\∃G1,Step G H G1 H1) I ⟨G,ρ,E,hG,hS,hx,.inl ⟨k,e1⟩,?_⟩) λb s1 ⟨H1,I1,e2,G1,st⟩=>?_
  ·rw[e1];intro v G1 H1 st r;unfold Rep at r;subst r;exact⟨k,rfl,rfl,G1,st⟩
  ·subst e2
   cases b with
   |true=>exact wpAny_ite_true (by decide) (ha bx s1 σ H1 Q I1 ⟨G1,ρ,E,st.gh,hS.step st,hx,ht2,RK.step hr' st⟩)
   |false=>exact wpAny_ite_false (by decide) (hb bx s1 σ H1 Q I1 ⟨G1,ρ,E,st.gh,hS.step st,hx,ht2,RK.step hr' st⟩)
 ·exact(bW ht2).elim
 ·rw[e1]at hr';refine L2.thn (hc bx s σ H (λb H1=>False) I ⟨G,ρ,E,hG,hS,hx,.inr ⟨k,e1⟩,?_⟩) λb s1 ⟨H1,I1,z⟩=>z.elim
  rw[e1];exact hr'
end
section
variable {X:Cx} {ad:Ad} {bx:cc} {s:Shared} {σ:St} {H G:Hp} {ρ:Rho} {Q:VK} {E:Nat->Hp->Prop} {pos p p2 pos2:Pos} {a:Expr} {f:F}
end
section
variable {prog:Program} {w:World} {A:Around} {Ex:cb} {s:Shared}
end
section
variable {X:Cx} {ad:Ad}
theorem xN: ∀{us:List Value} {ns:List Int},IntsAre us ns->bZ (ns.map V.int) us
 |_,_,.nil=>.nil
 |_,_,.cons n t h=>.cons ⟨t,rfl⟩ (xN h)
theorem aA1: ∀{ds:List D} {ns:List Int},eF ds=some ns->ds=ns.map D.int
 |[],ns,h=>by cases h;rfl
 |d::r,ns,h=>by
  cases d<;>try (cases h;done)
  rename_i i;obtain⟨ms,h1,rfl⟩:=zMd (show(eF r).map (i:: ·)=some ns from h)
  rw[aA1 h1];rfl
theorem xO{G:Hp}: ∀{ns:List Int} {vs:List V},aH X.K ad G (ns.map D.int) vs->vs=ns.map V.int
 |[],vs,h=>by unfold aH at h;exact h
 |n::r,vs,h=>by
  unfold aH at h;obtain⟨v,rs,rfl,h1,h2⟩:=h;unfold Rep at h1;rw[h1,xO h2];rfl
end
section
variable {prog:Program} {w:World} {A:Around} {Ex:cb} {s:Shared}
end
section
variable {prog:Program} {w:World} {A:Around} {Ex:cb} {s:Shared}
end
section
variable {X:Cx} {ad:Ad} {pos p p2 pos2:Pos} {a:Expr} {f:F}
end
section
variable {X:Cx} {ad:Ad}
end
section
variable {prog:Program} {w:World} {A:Around} {Ex:cb} {s:Shared}
end
section
variable {prog:Program} {w:World} {A:Around} {Ex:cb} {s:Shared}
end
section
open AutoSeq1 (wpAny_loadPart')
open MeetsSeq MeetsSeq2 MeetsSeq3 SeqRoads2 SeqAt
end
section
variable {X:Cx} {ad:Ad} {bx:cc} {s:Shared} {σ:St} {H G:Hp} {ρ:Rho} {Q:VK} {E:Nat->Hp->Prop} {pos p ap cp tp:Pos} {o a b c tg:Expr} {f g h:F}
theorem aE2(ho:ME X ad o f)(hbase:attributeBase o "bit_length" X.env (eval o X.env)=eval o X.env)(hline:(ap.endLine==cp.line)=true):ME X ad (.Call (.Attribute o "bit_length" ap) [] [] cp) (aB aH4 [f]):=by
 refine λbx s σ H Q I h9=>h9.el λG ρ E hG hS hx hr=>?_
 unfold aB at hr;rw[jT]at hr;refine wpAny_Call_method_late hbase (by rfl) hline rfl (L2.thn (ho.thn I hG hS hx hr) λv s1 hz_=>?_)
 obtain⟨x,d,G1,H1,I1,r1,st1,q1,k1⟩:=hz_
 cases d<;>try exact ax k1
 rename_i i;unfold Rep at q1;subst q1;obtain⟨t,rfl⟩:=r1;have k2:RK X.K ad G1 H1 (.ok (.int (Builtin.Int.intBits i))) Q E:=k1;refine⟨"int","int.bit_length",PySem.F.plainAttrs_int,PySem.F.slot_int_bit_length,PySem.F.type_int_bit_length,typeIs_int s1 i t,(λa' ea=>by cases ea),?_⟩
 refine PyProof.Rows.callWith_method0 ?_;exact call_int_bit_length ⟨.int _,H1,I1.tok _,⟨_,rfl⟩,k2.ok_now st1.gh a8⟩
theorem aI8(ha:ME X ad a f)(he: ∀whole,isTrue a X.env whole=(do let v<-whole;standAt a.pos;holding [v] (truthy v))):MT X ad a (aDq f):=by
 refine λbx s σ H Q I h9=>h9.el λG ρ E hG hS hx ht hr=>?_
 refine isTrue_plain (L2.thn (ha.thn I hG hS hx hr) λv s1 ⟨x,d,G1,H1,I1,r1,st1,q1,k1⟩=>?_) (he _)
 cases d<;>try exact ax k1
 ·rename_i b
  have k2:RK X.K ad G1 H1 (.ok (.bl b)) (λv H'=>∃b,v= .bl b/\Q b H') E:=k1
  unfold Rep at q1;subst q1;cases r1;obtain⟨b',e,q⟩:=k2.ok_now st1.gh (by unfold Rep;rfl)
  cases e;exact wpAny_truthy_bool ⟨H1,I1,q⟩
 ·rename_i ds
  have k2:RK X.K ad G1 H1 (.ok (.bl (!ds.isEmpty))) (λv H'=>∃b,v= .bl b/\Q b H') E:=k1
  unfold Rep at q1;obtain⟨l,xs,rfl,hq,rq⟩:=q1
  cases (show v=Value.ref l from r1)
  obtain⟨its,rv,ht2,hz⟩:=I1.list (st1.gh.seq hq);have hl:=rv.length;have hlen:=rq.length
  have:(sizeLine:Nat)<2^63-1:=by decide
  refine wpAny_truthy_list ht2.isList (by simp only[au];lia) ?_
  obtain⟨b',e,q⟩:=k2.ok_now st1.gh (v:=.bl (!ds.isEmpty)) (by unfold Rep;rfl)
  cases e
  have e2:(!its.toArray.isEmpty)= !ds.isEmpty:=by
   have e3:ds.length=its.length:=by lia
   cases ds with
   |nil=>cases its with
    |nil=>rfl
    |cons _ _=>simp at e3
   |cons _ _=>cases its with
    |nil=>simp at e3
    |cons _ _=>rfl
  rw[e2];exact⟨H1,I1.kept (t':=s1.toks+1+1) (λ_ _ q=>q),q⟩
theorem aL3(c1:ME X ad c f)(c2:MT X ad c f):MT X ad c (if z9 c then aDq f else f):=by
 cases c<;>first|exact c2|exact aI8 c1 (λ_=>rfl)
end
section
variable {X:Cx} {ad:Ad} {Z:(St->Nat->Hp->Prop)->Prop} {bx:cc} {s:Shared} {σ:St} {H G G₀:Hp} {ρ:Rho} {D':Ends} {E:St->Nat->Hp->Prop} {pos pos':Pos} {e:Expr} {f:F} {g h:FS} {st:Stmt} {sts:List Stmt}
mutual
theorem Rep.less{K:PySem.W.Frag}{G G2:Hp}(le: ∀b xs,Rd G b (.tup xs)->G2 b=G b): ∀{d:D} {v:V},noL d=true->Rep K ad G d v->Rep K ad G2 d v
 |.non,_,_,h=>h
 |.bl _,_,_,h=>h
 |.int _,_,_,h=>h
 |.str _,_,_,h=>h
 |.tup ds,v,n,h=>by
  unfold Rep at h ⊢;obtain⟨a,vs,h1,h2,h3⟩:=h;refine⟨a,vs,h1,?_,aH.less le n h3⟩;rcases h2 with h2|h2
  ·refine .inl ?_
   have:=le a vs h2
   unfold Rd at h2 ⊢;rw[this];exact h2
  ·exact .inr h2
 |.lst _,_,n,_=>by cases n
 |.exc _,_,n,_=>by cases n
 |.fn _,_,n,_=>by cases n
theorem aH.less{K:PySem.W.Frag}{G G2:Hp}(le: ∀b xs,Rd G b (.tup xs)->G2 b=G b): ∀{ds:List D} {vs:List V},aKo ds=true->aH K ad G ds vs->aH K ad G2 ds vs
 |[],_,_,h=>h
 |d::ds,vs,n,h=>by
  unfold aH at h ⊢;obtain⟨v,r,h1,h2,h3⟩:=h
  have n':(noL d&&aKo ds)=true:=n
  rw[ar]at n';exact⟨v,r,h1,Rep.less le n'.1 h2,aH.less le n'.2 h3⟩
end
end
abbrev kW(h:Heap)(z TI TO T:Addr)(f:Bool):Prop:=h.get? z=some {cls:=.type "zip",dict:=none,data:=.fields #[rawInt T,.bool f,.bool false,.ref TI,.ref TO],slots:= #[]}
section
variable {prog:Program} {w:World} {A:Around} {Ex:cb} {s:Shared} {t t2:Bool}
theorem aI9{a:Addr}{o:Obj}{Q:Option Obj->Shared->Prop}(ho:s.heap.get? a=some o)(h:Q (some o) s):wpAny (model prog w) A (loadIfAlive a) Q Ex s:=by
 have h':Q (s.heap.get? a) s:=by rw[ho];exact h
 exact λ_ _ _=>h'
theorem aJa{z TI TO T:Addr}{f:Bool}{o:Obj}{Q:Bool->Shared->Prop}(hz:kW s.heap z TI TO T f)(hT:s.heap.get? T=some o)(hQ: ∀h',kW h' z TI TO T true->Heap.SameBut z s.heap h'->Q false {s with heap:=h'}):
  wpAny (model prog w) A (Builtin.SmallTypes.ownedTupleIsFree (.ref z)) Q Ex s:=by
 unfold Builtin.SmallTypes.ownedTupleIsFree;refine aa (wpAny_field hz rfl (x:=rawInt T) rfl ?_);show wpAny _ _ (loadIfAlive ((T:Int).toNat) >>= _) _ _ _;rw[Int.toNat_natCast];refine aa (aI9 hT ?_);simp only[Option.isNone_some,aw,if_false];refine aa (wpAny_field hz rfl (x:=.bool f) rfl ?_)
 cases f with
 |true=>
  rw[if_neg (show ¬((Value.bool true != Value.bool true)=true) from ba)]
  exact ae (hQ s.heap hz (Heap.SameBut.refl _ _))
 |false=>
  rw[if_pos (show(Value.bool false != Value.bool true)=true from rfl)]
  refine aa (wpAny_setField_rec hz (by simp) λh₃ he₃ hs₃=>?_)
  exact ae (hQ h₃ he₃ hs₃)
theorem xP{z TI TO i1 i2 l1 l2 T:Addr}{f:Bool}{o:Obj}{k1 k2:Nat}{xs ys:Array Value}{x y:Value}{Q:Option Value->Shared->Prop}(D:ZipApart z TI TO i1 i2 l1 l2)(hz:kW s.heap z TI TO T f)(hT:s.heap.get? T=some o)(hTI:IsPair s.heap TI (.ref i1) (.ref i2))
  (h1:ItA t s.heap i1 l1 k1) (h2:ItA t2 s.heap i2 l2 k2) (hl1:SeA t s.heap l1 xs) (hl2:SeA t2 s.heap l2 ys) (hx:xs[k1]? =some x) (hy:ys[k2]? =some y)
  (hQ: ∀h',kW h' z TI TO T true->ItA t h' i1 l1 (k1+1)->ItA t2 h' i2 l2 (k2+1)->IsPair h' s.heap.objs.size x y->h'.objs.size=s.heap.objs.size+1->
   (∀c o,c≠z->c≠i1->c≠i2->s.heap.get? c=some o->h'.get? c=some o)->Q (some (.ref s.heap.objs.size)) {s with heap:=h'}):wpAny (model prog w) A (pyNext (.ref z)) Q Ex s:=by
 have hTy:s.TypeIs (.ref z) "zip":=⟨_,hz,rfl⟩;have isT: ∀{t:Bool} {h h':Heap} {it l:Addr} {k:Nat} {c:Addr},ItA t h it l k->Heap.SameBut c h h'->it≠c->ItA t h' it l k:=λq sb ne=>bH q λo e=>(sb.2 _ ne).trans e
 have isU: ∀{t:Bool} {h h':Heap} {l:Addr} {it:Array Value} {c:Addr},SeA t h l it->Heap.SameBut c h h'->l≠c->SeA t h' l it:=λq sb ne=>nF q λo e=>(sb.2 _ ne).trans e
 unfold pyNext;refine aa (wpAny_attempt (wpAny_callSpecial?_slot (name:=Str.ofString "__next__") hTy F.slot_zip_next (wpAny_call_entry F.slot_zip_next hTy F.entry_zip_next ?_ (F.args_zip_next_1 _))));show wpAny _ _ (field (.ref z) 2 >>= _) _ _ _;refine aa (wpAny_field hz rfl (x:=.bool false) rfl ?_);show wpAny _ _ (field (.ref z) 3 >>= _) _ _ _;refine aa (wpAny_field hz rfl (x:=.ref TI) rfl (aa (wpAny_seqItems hTI rfl ?_)));show wpAny _ _ (Builtin.SmallTypes.ownedTupleIsFree (.ref z) >>= _) _ _ _;refine aa (aJa hz hT λg1 z1 s1=>?_)
 simp only[aw,if_false];refine aa ?_;simp only[Array.forIn_toList,List.forIn_toArray,List.forIn_cons,List.forIn_nil];refine aa (aa (wpAny_holding ?_));show wpAny _ _ (Builtin.SmallTypes.nextOf (.ref i1) >>= _) _ _ _;refine aa (dO (isT h1 s1 D.i1z) (isU hl1 s1 D.l1z) hx λg2 p2 s2=>ae ?_)
 refine ae (aa (aa (wpAny_holding ?_)));show wpAny _ _ (Builtin.SmallTypes.nextOf (.ref i2) >>= _) _ _ _;refine aa (dO (isT (isT h2 s1 D.i2z) s2 D.i12.symm) (isU (isU hl2 s1 D.l2z) s2 D.l2i1) hy λg4 p4 s4=>ae ?_)
 refine ae (ae (aa (wpAny_newTuple (hsz:=by rw[sizeLine_eq];simp) ?_)))
 have hsz:g4.objs.size=s.heap.objs.size:=by rw[s4.1,s2.1,s1.1]
 have z5:kW g4 z TI TO T true:=(s4.2 _ D.i2z.symm).trans ((s2.2 _ D.i1z.symm).trans z1)
 have k5: ∀c o,c≠z->c≠i1->c≠i2->s.heap.get? c=some o->g4.get? c=some o:=λc o c1 c3 c4 e=>(s4.2 _ c4).trans ((s2.2 _ c3).trans ((s1.2 _ c1).trans e))
 have up: ∀{c:Addr} {x':Obj},g4.get? c=some x'->(g4.push {cls:=.type "tuple",data:=.seq #[x,y]}).get? c=some x':=λe=>af _ e
 refine ae ⟨_,rfl,ae ?_⟩;show Q (some (.ref g4.objs.size)) _;rw[hsz];refine hQ _ (up z5) ?_ ?_ (by rw[<-hsz];exact ag _ rfl) (by rw[ai,hsz]) λc o c1 c3 c4 e=>up (k5 c o c1 c3 c4 e)
 ·exact bH (isT p2 s4 D.i12) λo e=>up e
 ·exact bH p4 λo e=>up e
theorem aA2{z TI TO i1 i2 l1 l2 T:Addr}{f:Bool}{o:Obj}{k1 k2:Nat}{xs ys:Array Value}{Q:Option Value->Shared->Prop}(hh:A.handled=none)(D:ZipApart z TI TO i1 i2 l1 l2)(hz:kW s.heap z TI TO T f)(hT:s.heap.get? T=some o)(hTI:IsPair s.heap TI (.ref i1) (.ref i2))
  (h1:ItA t s.heap i1 l1 k1) (h2:ItA t2 s.heap i2 l2 k2) (hl1:SeA t s.heap l1 xs) (hl2:SeA t2 s.heap l2 ys) (he:xs[k1]? =none\/ys[k2]? =none)
  (hQ: ∀h',(∀c o,c≠z->c≠TO->c≠i1->c≠i2->s.heap.get? c=some o->h'.get? c=some o)->Q none {s with heap:=h'}):wpAny (model prog w) A (pyNext (.ref z)) Q Ex s:=by
 have hTy:s.TypeIs (.ref z) "zip":=⟨_,hz,rfl⟩;have isT: ∀{t:Bool} {h h':Heap} {it l:Addr} {k:Nat} {c:Addr},ItA t h it l k->Heap.SameBut c h h'->it≠c->ItA t h' it l k:=λq sb ne=>bH q λo e=>(sb.2 _ ne).trans e
 have isU: ∀{t:Bool} {h h':Heap} {l:Addr} {it:Array Value} {c:Addr},SeA t h l it->Heap.SameBut c h h'->l≠c->SeA t h' l it:=λq sb ne=>nF q λo e=>(sb.2 _ ne).trans e
 unfold pyNext
 have fin: ∀(h':Heap) (e:Addr),(∀c o,c≠z->c≠TO->c≠i1->c≠i2->s.heap.get? c=some o->h'.get? c=some o)->(∃o,h'.get? e=some o/\o.cls= .type "StopIteration")->wpAny (model prog w) A (do if(<-isInstance (.ref e) (.type "StopIteration"))=true then pure none else throw (.ref e)) Q Ex {s with heap:=h'}:=λh' e kk he=>by
  obtain⟨o,ho,hc⟩:=he;exact aa (wpAny_isInstance (T:="StopIteration") (b:=true) ⟨o,ho,hc⟩ isSubtype_stop (ae (hQ _ kk)))
 refine aa (wpAny_attempt (wpAny_callSpecial?_slot (name:=Str.ofString "__next__") hTy F.slot_zip_next (wpAny_call_entry F.slot_zip_next hTy F.entry_zip_next ?_ (F.args_zip_next_1 _))));show wpAny _ _ (field (.ref z) 2 >>= _) _ _ _;refine aa (wpAny_field hz rfl (x:=.bool false) rfl ?_);show wpAny _ _ (field (.ref z) 3 >>= _) _ _ _;refine aa (wpAny_field hz rfl (x:=.ref TI) rfl (aa (wpAny_seqItems hTI rfl ?_)));show wpAny _ _ (Builtin.SmallTypes.ownedTupleIsFree (.ref z) >>= _) _ _ _;refine aa (aJa hz hT λg1 z1 s1=>?_)
 simp only[aw,if_false];refine aa ?_;simp only[Array.forIn_toList,List.forIn_toArray,List.forIn_cons,List.forIn_nil];refine aa (aa (wpAny_holding ?_));show wpAny _ _ (Builtin.SmallTypes.nextOf (.ref i1) >>= _) _ _ _
 cases hx:xs[k1]? with
 |none=>
  refine aa (fU hh (isT h1 s1 D.i1z) (isU hl1 s1 D.l1z) hx λg2 e s2 he=>?_)
  exact fin g2 e (λc o c1 _ c3 _ x=>s2 _ _ c3 ((s1.2 _ c1).trans x)) he
 |some x=>
  have hy:ys[k2]? =none:=he.resolve_left λh=>by rw[hx]at h;cases h
  refine aa (dO (isT h1 s1 D.i1z) (isU hl1 s1 D.l1z) hx λg2 p2 s2=>ae ?_)
  refine ae (aa (aa (wpAny_holding ?_)));show wpAny _ _ (Builtin.SmallTypes.nextOf (.ref i2) >>= _) _ _ _;refine aa (fU hh (isT (isT h2 s1 D.i2z) s2 D.i12.symm) (isU (isU hl2 s1 D.l2z) s2 D.l2i1) hy λg4 e s4 he=>?_)
  exact fin g4 e (λc o c1 c2 c3 c4 x=>s4 _ _ c4 ((s2.2 _ c3).trans ((s1.2 _ c1).trans x))) he
end
def ZS(t t2:Bool)(z TI TO i1 i2 l m N:Addr)(i:Nat)(h:Heap):Prop:=
 (IsZip h z TI TO .none\/∃T f o,kW h z TI TO T f/\N<=T/\h.get? T=some o)/\IsPair h TI (.ref i1) (.ref i2)/\(∃a b,IsPair h TO a b)/\ItA t h i1 l i/\ItA t2 h i2 m i
structure ZB(z TI TO i1 i2 N:Addr):Prop where
 z:z<N
 TI:TI<N
 TO:TO<N
 i1:i1<N
 i2:i2<N
section
variable {prog:Program} {w:World} {A:Around} {Ex:cb} {s:Shared} {t t2:Bool} {z TI TO i1 i2 l m N:Addr}
theorem ZS.keep{h h':Heap}{i:Nat}(B:ZB z TI TO i1 i2 N)(q:ZS t t2 z TI TO i1 i2 l m N i h)(k: ∀c o,(c=z\/c=TI\/c=TO\/c=i1\/c=i2\/N<=c)->h.get? c=some o->h'.get? c=some o):ZS t t2 z TI TO i1 i2 l m N i h':=by
 obtain⟨q0,q1,⟨a,b,q2⟩,q3,q4⟩:=q;refine⟨?_,k _ _ (by simp) q1,⟨a,b,k _ _ (by simp) q2⟩,bH q3 λo e=>k _ o (by simp) e,bH q4 λo e=>k _ o (by simp) e⟩
 rcases q0 with q0|⟨T,f,o,q0,hN,hT⟩
 ·exact .inl (k _ _ (by simp) q0)
 ·exact .inr ⟨T,f,o,k _ _ (by simp) q0,hN,k _ _ (by simp[hN]) hT⟩
theorem aE3{i:Nat}{xs ys:Array Value}{x y:Value}{Q:Option Value->Shared->Prop}(D:ZipApart z TI TO i1 i2 l m)(B:ZB z TI TO i1 i2 N)(hN:N<=s.heap.objs.size)(q:ZS t t2 z TI TO i1 i2 l m N i s.heap)
  (hl1:SeA t s.heap l xs) (hl2:SeA t2 s.heap m ys) (hx:xs[i]? =some x) (hy:ys[i]? =some y)
  (hQ: ∀h',ZS t t2 z TI TO i1 i2 l m N (i+1) h'->IsPair h' s.heap.objs.size x y->h'.objs.size=s.heap.objs.size+1->
   (∀c o,c≠z->c≠TO->c≠i1->c≠i2->s.heap.get? c=some o->h'.get? c=some o)->Q (some (.ref s.heap.objs.size)) {s with heap:=h'}):wpAny (model prog w) A (pyNext (.ref z)) Q Ex s:=by
 obtain⟨q0,q1,⟨a,b,q2⟩,q3,q4⟩:=q;rcases q0 with q0|⟨T,f,o,q0,hT,hTo⟩
 ·refine pH D q0 q1 q2 q3 q4 hl1 hl2 hx hy λh' a1 a2 a3 a4 a5 a6 a7=>hQ h' ⟨.inr ⟨_,false,_,a1,hN,a5⟩,a7 _ _ D.TIz D.TITO D.TIi1 D.TIi2 q1,⟨_,_,a2⟩,a3,a4⟩ a5 a6 a7
 ·have bz:=B.z;have b1:=B.i1;have b2:=B.i2;have b3:=B.TO;refine xP D q0 hTo q1 q3 q4 hl1 hl2 hx hy λh' a1 a3 a4 a5 a6 a7=>hQ h' ⟨.inr ⟨T,true,_,a1,hT,a7 _ _ ?_ ?_ ?_ hTo⟩,a7 _ _ D.TIz D.TIi1 D.TIi2 q1,⟨_,_,a7 _ _ D.TOz D.TOi1 D.TOi2 q2⟩,a3,a4⟩ a5 a6 λc o c1 c2 c3 c4 e=>a7 c o c1 c3 c4 e
  ·exact Nat.ne_of_gt (bd bz hT)
  ·exact Nat.ne_of_gt (bd b1 hT)
  ·exact Nat.ne_of_gt (bd b2 hT)
theorem aJb{i:Nat}{xs ys:Array Value}{Q:Option Value->Shared->Prop}(hh:A.handled=none)(D:ZipApart z TI TO i1 i2 l m)(q:ZS t t2 z TI TO i1 i2 l m N i s.heap)
  (hl1:SeA t s.heap l xs) (hl2:SeA t2 s.heap m ys) (he:xs[i]? =none\/ys[i]? =none)
  (hQ: ∀h',(∀c o,c≠z->c≠TO->c≠i1->c≠i2->s.heap.get? c=some o->h'.get? c=some o)->Q none {s with heap:=h'}):wpAny (model prog w) A (pyNext (.ref z)) Q Ex s:=by
 obtain⟨q0,q1,⟨a,b,q2⟩,q3,q4⟩:=q;rcases q0 with q0|⟨T,f,o,q0,hT,hTo⟩
 ·exact tF hh D q0 q1 q2 q3 q4 hl1 hl2 he hQ
 ·exact aA2 hh D q0 hTo q1 q3 q4 hl1 hl2 he hQ
end
theorem Step.put{G H G' H':Hp}{S:Addr}{o:HO}(st:Step G H G' H')(n:H S=none)(g:G' S=none):Step G H G' (upd H' S o):=
 ⟨st.sg,λb u e=>by rw[aO (bJ e g)];exact st.gh b u e,λb u e=>by rw[aO (bJ e n)];exact st.sh b u e,st.nw⟩
section
variable {X:Cx} {ad:Ad} {bx:cc} {σ:L2.St} {t t2:Bool} {z TI TO i1 i2 l m N S:Addr} {A:Around} {R:Result->Shared->Prop}
noncomputable abbrev pD(ds es:List D):List D:=(ds.zip es).map λp=>D.tup [p.1,p.2]
theorem aA3(hh:A.handled=none)(D:ZipApart z TI TO i1 i2 l m)(B:ZB z TI TO i1 i2 N)(hSN:S<N)(res:Value){G0 H0:Hp}{ds es:List SK.D}{xs ys:List V}(hq1:SqA t X.K G0 l xs)(hq2:SqA t2 X.K G0 m ys)(hr1:aH X.K ad G0 ds xs)(hr2:aH X.K ad G0 es ys)(hS0:H0 S=none):
  ∀(k i:Nat) (G H:Hp) (s:Shared) (acc:Array Value) (c:Nat) (vs:List V),(pD ds es).length-i=k->i<=(pD ds es).length->N<=s.heap.objs.size->Inv X bx σ H s->(∀b∈[z,TI,TO,i1,i2],n6 X bx H b)->Step G0 H0 G H->G S=none->H S=some (.lst vs)->
   ZS t t2 z TI TO i1 i2 l m N i s.heap->s.heap.get? S=some {cls:=.type "list",dict:=none,data:=.seq acc c,slots:= #[]}->bZ vs acc.toList->aH X.K ad G ((pD ds es).take i) vs->
   (∀s' G' H' vs',Inv X bx σ H' s'->Step G0 H0 G' H'->G' S=none->H' S=some (.lst vs')->aH X.K ad G' (pD ds es) vs'->R (.ok (.ret res)) s')->
   codeAny (model X.prog X.w) A (.builtin "list.extend.loop" ⟨[.ref S,.ref z,res],[]⟩) R s:=by
 intro k
 induction k with
 |zero=>
  intro i G H s acc c vs hk hi hN I hf st gS hS zs hSo hv hr hR
  have hin:i=(pD ds es).length:=by lia
  obtain⟨us,r1,p1,_⟩:=cZ I (aG st.gh (aG st.sg hq1));obtain⟨ws,r2,p2,_⟩:=cZ I (aG st.gh (aG st.sg hq2));have n1:=r1.length;have n2:=r2.length;have n3:=hr1.length;have n4:=hr2.length;refine codeAny_builtin F.entry_extend_loop ?_;rw[Around.under_plainId F.plain_extend_loop _];show wpAny _ A.in1 (pyNext (.ref z) >>= _) _ _ s;refine aa (aJb hh D zs p1 p2 ?_ λh' kp=>?_)
  ·simp only[pD,am,List.length_zip]at hin
   by_cases q:us.length<=i
   ·exact .inl (by simpa using q)
   ·exact .inr (by simp;lia)
  ·have I2:Inv X bx σ H {s with heap:=h'}:=dU (t':=s.toks) I (λb o hb e=>by
    simp only[aq,List.not_mem_nil,or_false,not_or]at hb;exact kp b o hb.1 hb.2.2.1 hb.2.2.2.1 hb.2.2.2.2 e) hf
   refine ae (hR _ G H vs I2 st gS hS ?_);rw[hin,List.take_length]at hr;exact hr
 |succ k ih=>
  intro i G H s acc c vs hk hi hN I hf st gS hS zs hSo hv hr hR;have hlt:i<(pD ds es).length:=by lia
  obtain⟨us,r1,p1,z1⟩:=cZ I (aG st.gh (aG st.sg hq1));obtain⟨ws,r2,p2,_⟩:=cZ I (aG st.gh (aG st.sg hq2));obtain⟨d1,d2,e1,e2,hd⟩:=xL (az hlt);obtain⟨x,g1,q1⟩:=hr1.get e1;obtain⟨y,g2,q2⟩:=hr2.get e2;obtain⟨u,hu,ru⟩:=r1.get g1;obtain⟨v,hw,rv⟩:=r2.get g2;have n3:=hr1.length
  have nv:vs.length=i:=by rw[hr.length,List.length_take];lia
  have na:acc.size=i:=by have:=hv.length;simp at this;lia
  have il:i+1<=sizeLine:=by simp only[pD,am,List.length_zip]at hlt;lia
  refine codeAny_builtin F.entry_extend_loop ?_;rw[Around.under_plainId F.plain_extend_loop _];show wpAny _ A.in1 (pyNext (.ref z) >>= _) _ _ s;refine aa (aE3 D B hN zs p1 p2 (x:=u) (y:=v) (by simpa using hu) (by simpa using hw) λh' zs' a5 a6 a7=>?_)
  have hfr:H s.heap.objs.size=none:=I.hok.fresh (aj _)
  have Ia:Inv X bx σ (upd H s.heap.objs.size (.tup [x,y])) {s with heap:=s.heap.push {cls:=.type "tuple",data:=.seq #[u,v]} }:=
   I.laid (t':=s.toks) (λb o e=>af _ e) (aj _) (show ObjOk X.prog X.w _ _ _ (.tup [x,y]) from⟨by rw[sizeLine_eq];simp,[u,v],.cons ru (.cons rv .nil),⟨_,ag _ rfl,rfl,_,rfl⟩,⟨_,ag _ rfl,rfl⟩⟩)
  have bz:=B.z;have b1:=B.i1;have b2:=B.i2;have b3:=B.TO;have b4:=B.TI
  have hne: ∀b∈[z,TI,TO,i1,i2],b≠s.heap.objs.size:=λb hb=>by
   simp only[aq,List.not_mem_nil,or_false]at hb;rcases hb with rfl|rfl|rfl|rfl|rfl
   ·exact bf (bd bz hN)
   ·exact bf (bd b4 hN)
   ·exact bf (bd b3 hN)
   ·exact bf (bd b1 hN)
   ·exact bf (bd b2 hN)
  have hSp:S≠s.heap.objs.size:=bf (bd hSN hN)
  have hSf: ∀b∈[z,TI,TO,i1,i2],b≠S:=λb hb e=>by
   have:=(hf b hb).1
   rw[e,hS]at this;cases this
  have hf2: ∀b∈[z,TI,TO,i1,i2],n6 X bx (upd H s.heap.objs.size (.tup [x,y])) b:=λb hb=>⟨by rw[aO (hne b hb)];exact(hf b hb).1,(hf b hb).2⟩
  have Ib:Inv X bx σ (upd H s.heap.objs.size (.tup [x,y])) {s with heap:=h'}:=by
   refine dU (s:={s with heap:=s.heap.push {cls:=.type "tuple",data:=.seq #[u,v]} }) (t':=s.toks) Ia (λb o hb e=>?_) hf2
   simp only[aq,List.not_mem_nil,or_false,not_or]at hb
   by_cases hq:b=s.heap.objs.size
   ·subst hq;rw[show(s.heap.push {cls:=.type "tuple",data:=.seq #[u,v]}).get? s.heap.objs.size=some _ from ag _ rfl]at e
    cases e;exact a5
   ·have e2:s.heap.get? b=some o:=by
     exact(Heap.get?_push_ne _ b _ hq).symm.trans e
    exact a7 b o hb.1 hb.2.2.1 hb.2.2.2.1 hb.2.2.2.2 e2
  have hS1:(upd H s.heap.objs.size (.tup [x,y])) S=some (.lst vs):=by rw[aO hSp];exact hS
  have hSo':h'.get? S=some {cls:=.type "list",dict:=none,data:=.seq acc c,slots:= #[]}:=a7 S _ (Ne.symm (hSf z (by simp))) (Ne.symm (hSf TO (by simp))) (Ne.symm (hSf i1 (by simp))) (Ne.symm (hSf i2 (by simp))) hSo
  have st1:Step G H (upd G s.heap.objs.size (.tup [x,y])) (upd H s.heap.objs.size (.tup [x,y])):=Step.new st.gh hfr
  have rp:Rep X.K ad (upd G s.heap.objs.size (.tup [x,y])) (.tup [d1,d2]) (.ref s.heap.objs.size):=by
   unfold Rep;exact⟨_,[x,y],rfl,SqT.of a9,aH.cons (q1.mono (st.sg.trans st1.sg)) (aH.cons (q2.mono (st.sg.trans st1.sg)) aH.nil)⟩
  have gS1:(upd G s.heap.objs.size (.tup [x,y])) S=none:=by rw[aO hSp];exact gS
  show wpAny _ A.in1 (updateSeq S (·.push (.ref s.heap.objs.size)) >>= _) _ _ _
  refine aa ?_
  have vR:bZ (vs++[.ref s.heap.objs.size]) (acc.push (.ref s.heap.objs.size)).toList:=by
   rw[Array.toList_push];exact hv.append (.cons rfl .nil)
  refine wpAny_updateSeq hSo' rfl (ae ⟨plainId_quiet F.plain_extend_loop _,ih (i+1) (upd G s.heap.objs.size (.tup [x,y])) (upd (upd H s.heap.objs.size (.tup [x,y])) S (.lst (vs++[.ref s.heap.objs.size]))) _ (acc.push (.ref s.heap.objs.size)) _ (vs++[.ref s.heap.objs.size]) (by lia) hlt ?_ ?_ ?_ ((st.trans st1).put hS0 gS1) gS1 a9 (ZS.keep B zs' λc o hc e=>?_) (Heap.get?_update_self _ hSo' rfl) vR ?_ hR⟩)
   (by rw[na];lia) (by show(acc.push _).size<=sizeLine+1;rw[Array.size_push,na];lia)
  ·show N<=(h'.update S _).objs.size;rw[Heap.size_update,a6];exact Nat.le_succ_of_le hN
  ·refine Inv.write (t':=s.toks) Ib (x:=S) (e:=S) (by rw[hS1];trivial) (.inl rfl) (λb o hb e=>(Heap.get?_update_other _ _ (Ne.symm hb)).trans e) ⟨_,Heap.get?_update_self _ hSo' rfl⟩ ?_
   exact show ObjOk X.prog X.w _ _ _ (.lst _) from⟨by simp;lia,(acc.push (.ref s.heap.objs.size)).toList,_,vR,by rw[Array.toArray_toList];exact Heap.get?_update_self (Obj.mapSeq (·.push (.ref s.heap.objs.size))) hSo' rfl⟩
  ·intro b hb;refine⟨?_,(hf2 b hb).2⟩;rw[aO (hSf b hb)];exact(hf2 b hb).1
  ·refine(Heap.get?_update_other _ _ (λq:S=c=>?_)).trans e
   subst q;rcases hc with hc|hc|hc|hc|hc|hc
   ·exact hSf z (by simp) hc.symm
   ·exact hSf TI (by simp) hc.symm
   ·exact hSf TO (by simp) hc.symm
   ·exact hSf i1 (by simp) hc.symm
   ·exact hSf i2 (by simp) hc.symm
   ·exact absurd hSN (Nat.not_lt.mpr hc)
  ·rw[List.take_succ,az hlt,hd];exact(hr.mono st1.sg).append (aH.cons rp aH.nil)
end
theorem uZ:typeLookup (.type "zip") "__len__"=pure none:=by rw[typeLookup_type,builtinLookup_eq_fast];kernel_rfl
theorem rT:typeLookup (.type "zip") "__length_hint__"=pure none:=by rw[typeLookup_type,builtinLookup_eq_fast];kernel_rfl
section
variable {prog:Program} {w:World} {A:Around} {s:Shared} {R:Result->Shared->Prop}
theorem aE4{z TI TO S:Addr}{c₀:Nat}{res:Value}(hz:IsZip s.heap z TI TO .none)(hS:s.heap.get? S=some {cls:=.type "list",data:=.seq #[] c₀})
  (hL: ∀h' c,(∀b o,b≠S->s.heap.get? b=some o->h'.get? b=some o)->h'.objs.size=s.heap.objs.size->h'.get? S=some {cls:=.type "list",dict:=none,data:=.seq #[] c,slots:= #[]}->codeAny (model prog w) A (.builtin "list.extend.loop" ⟨[.ref S,.ref z,res],[]⟩) R {s with heap:=h'}):
  wpAny (model prog w) A.in1 (Builtin.List.listExtendWith (.ref S) (.ref z) res)
   (λfin s'=>match fin with|.done f=>R (.ok f) s'|.again c'=>c'.quiet=true/\codeAny (model prog w) A c' R s') (λe s'=>R (.error e) s') s:=by
 have hSI:S≠z:=λe=>by rw[e,hz]at hS;simp at hS
 have hT:s.TypeIs (.ref z) "zip":=⟨_,hz,rfl⟩;unfold Builtin.List.listExtendWith;refine aa (wpAny_typeOf hT ?_)
 have h1:Builtin.List.listSameRef (.ref S) (.ref z)=false:=by simp[Builtin.List.listSameRef,hSI]
 have h2:(Value.type "zip"==Value.type "list")=false:=by decide
 have h3:(Value.type "zip"==Value.type "tuple")=false:=by decide
 simp only[h1,h2,h3,Bool.or_false,aw,if_false];refine aa (wpAny_pyIter_zip hz ?_);refine aa (wpAny_holding ?_);unfold Builtin.List.listLengthHint;refine aa (wpAny_specialOf hT uZ ?_);show wpAny _ A.in1 (specialOf (Value.ref z) (Str.ofString "__length_hint__") >>= _) _ _ _;refine aa (wpAny_specialOf hT rT ?_);refine ae ?_
 show wpAny _ A.in1 (rule "list.extend.makes-room" >>= λ_=>Builtin.List.listTouch (.ref S) >>= λ_=>
  again (.builtin "list.extend.loop" ⟨[.ref S,.ref z,res],[]⟩)) _ _ _
 refine aa (wpAny_rule ?_);refine aa ?_;show wpAny _ A.in1 (updateSeq S (·.push .none) >>= λ_=>updateSeq S (·.pop)) _ _ _
 refine aa (wpAny_updateSeq hS rfl ?_);have hS₂:=Heap.get?_update_self (Obj.mapSeq (·.push Value.none)) hS rfl
 refine wpAny_updateSeq (hz:=by seq_fits) hS₂ rfl ?_
 have hS₃:=Heap.get?_update_self (Obj.mapSeq (·.pop)) hS₂ rfl
 have oth: ∀b o,b≠S->s.heap.get? b=some o->((s.heap.update S (Obj.mapSeq (·.push Value.none))).update S (Obj.mapSeq (·.pop))).get? b=some o:=
  λb o hb e=>(Heap.get?_update_other _ _ (Ne.symm hb)).trans ((Heap.get?_update_other _ _ (Ne.symm hb)).trans e)
 exact ae ⟨plainId_quiet F.plain_extend_loop _,hL _ _ oth (by rw[Heap.size_update,Heap.size_update]) hS₃⟩
theorem aA4{z TI TO S:Addr}(hz:IsZip s.heap z TI TO .none)(hS:s.heap.get? S=some {cls:=.type "list",data:=.seq #[]})
  (hL: ∀h' c,(∀b o,b≠S->s.heap.get? b=some o->h'.get? b=some o)->h'.objs.size=s.heap.objs.size->h'.get? S=some {cls:=.type "list",dict:=none,data:=.seq #[] c,slots:= #[]}->codeAny (model prog w) A (.builtin "list.extend.loop" ⟨[.ref S,.ref z,.none],[]⟩) R {s with heap:=h'}):
  wpAny (model prog w) A.in1 (Builtin.«list.__init__» ⟨[.ref S,.ref z],[]⟩)
   (λfin s'=>match fin with|.done f=>R (.ok f) s'|.again c'=>c'.quiet=true/\codeAny (model prog w) A c' R s') (λe s'=>R (.error e) s') s:=by
 have hSI:S≠z:=λe=>by rw[e,hz]at hS;simp at hS
 show wpAny _ _ (do let old<-Builtin.List.listItems (.ref S);Builtin.List.listUpdate (.ref S) (λ_=> #[]);letGo old.toList.reverse;Builtin.List.listExtendWith (.ref S) (.ref z) .none) _ _ s
 refine aa ?_;unfold Builtin.List.listItems;refine aa (wpAny_seqItems hS rfl (ae ?_));show wpAny _ _ (updateSeq S (λ_=> #[]) >>= λ_=>letGo (#[]:Array Value).toList.reverse >>= λ_=>Builtin.List.listExtendWith (.ref S) (.ref z) .none) _ _ s
 refine aa (wpAny_updateSeq hS rfl ?_);have hS₂:=Heap.get?_update_self (Obj.mapSeq (λ_=>(#[]:Array Value))) hS rfl
 have oth: ∀b o,b≠S->s.heap.get? b=some o->(s.heap.update S (Obj.mapSeq (λ_=>(#[]:Array Value)))).get? b=some o:=
  λb o hb e=>(Heap.get?_update_other _ _ (Ne.symm hb)).trans e
 refine aa (wpAny_letGo ?_);refine aE4 (oth z _ (Ne.symm hSI) hz) hS₂ λh' c hk hn hS'=>?_
 exact hL h' c (λb o hb e=>hk b o hb (oth b o hb e)) (by rw[hn];exact Heap.size_update ..) hS'
end
section
variable {X:Cx} {ad:Ad} {bx:cc} {s:Shared} {σ:St} {H G:Hp} {ρ:Rho} {Q:VK} {E:Nat->Hp->Prop} {pos p p2 pos2:Pos} {a b:Expr} {f g:F} {t t2:Bool}
theorem nI{l m:Addr}{ds es:List D}{xs ys:List V}(hc:X.calm=true)(I:Inv X bx σ H s)(hG:Same G H)(hq1:SqA t X.K G l xs)(hq2:SqA t2 X.K G m ys)(hr1:aH X.K ad G ds xs)(hr2:aH X.K ad G es ys)(k:RK X.K ad G H (.ow (pD ds es)) Q E):
  wpAny (model X.prog X.w) X.A (call (.type "zip") [.ref l,.ref m]) (λv s1=>wpAny (model X.prog X.w) X.A (call (.type "list") [v]) (EP X bx σ Q) X.xe s1) X.xe s:=by
 obtain⟨us,_,p1,_⟩:=cZ I (aG hG hq1);obtain⟨ws,_,p2,_⟩:=cZ I (aG hG hq2);refine pI p1 p2 λh1 a1 a2 a3 a4 a5 a6 a7=>?_
 have l1:l<s.heap.objs.size:=by cases t<;>(obtain⟨o,e,_⟩:=p1;exact ah e)
 have l2:m<s.heap.objs.size:=by cases t2<;>(obtain⟨o,e,_⟩:=p2;exact ah e)
 refine callType_codes (Q₁:=λobj s₁=>obj= .ref h1.objs.size/\s₁={s with heap:=h1.push {cls:=.type "list",data:=.seq #[]} }) F.called_list (F.typeCall_list_1 _) F.entry_list_init
  (code_list_new _ ⟨rfl,rfl⟩) λobj s₁ h₁=>?_
 obtain⟨rfl,rfl⟩:=h₁;have hS:(h1.push {cls:=.type "list",data:=.seq #[]}).get? h1.objs.size=some {cls:=.type "list",data:=.seq #[]}:=ag _ rfl;have a1':IsZip (h1.push {cls:=.type "list",data:=.seq #[]}) _ _ _ .none:=af _ a1;refine⟨⟨_,hS,rfl⟩,F.args_list_init_2 _ _,aA4 (A:=X.A.in1) a1' hS λh2 c hk hn hS2=>?_⟩
 have ge: ∀b,s.heap.objs.size<=b->n6 X bx H b:=λb hb=>I.fpOk hb (I.hok.fresh hb)
 have nS:H h1.objs.size=none:=I.hok.fresh (by rw[a6];exact Nat.le_add_right _ _)
 have up: ∀b o,h1.get? b=some o->h2.get? b=some o:=λb o e=>hk b o (bf (ah e)) (af _ e)
 have I2:Inv X bx σ (upd H h1.objs.size (.lst [])) {s with heap:=h2}:=
  I.laid (t':=s.toks) (λb o e=>up b o (a7 b o e)) (by rw[a6];exact Nat.le_add_right _ _) (show ObjOk X.prog X.w _ h2 _ (.lst []) from⟨by simp,[],c,.nil,hS2⟩)
 have hN2:h2.objs.size=s.heap.objs.size+6:=by rw[hn,ai,a6]
 refine aA3 (A:=X.A.in1) (ad:=ad) (G0:=G) (H0:=H) (N:=s.heap.objs.size+6) (I.ok.hd hc) (pG l1 l2) ⟨?_,?_,?_,?_,?_⟩ ?_ .none hq1 hq2 hr1 hr2 nS _ 0 G _ {s with heap:=h2} #[] c [] rfl (bq _) (Nat.le_of_eq hN2.symm) I2 (λb hb=>?_) (Step.own hG nS) (hG.free nS) a9
  ⟨.inl (up _ _ a1),up _ _ a2,⟨_,_,up _ _ a3⟩,bH a4 λo e=>up _ o e,bH a5 λo e=>up _ o e⟩ hS2 .nil aH.nil λs' G' H' vs' I' st' gS' hS' r'=>?_
 ·exact Nat.add_lt_add_left (by decide) _
 ·exact Nat.add_lt_add_left (by decide) _
 ·exact Nat.add_lt_add_left (by decide) _
 ·exact Nat.lt_add_of_pos_right (by decide)
 ·exact Nat.add_lt_add_left (by decide) _
 ·rw[a6];exact Nat.add_lt_add_left (by decide) _
 ·have hb':s.heap.objs.size<=b/\b≠s.heap.objs.size+5:=by
   simp only[aq,List.not_mem_nil,or_false]at hb;rcases hb with rfl|rfl|rfl|rfl|rfl<;>exact⟨by simp,by simp⟩
  exact⟨by rw[aO (by rw[a6];exact hb'.2)];exact(ge b hb'.1).1,(ge b hb'.1).2⟩
 ·exact⟨rfl,.ref h1.objs.size,H',I',rfl,k _ vs' G' H' st' nS gS' hS' r'⟩
def zl:D->D->R
 |.tup xs,.tup ys=>.ow (pD xs ys)
 |.lst xs,.lst ys=>.ow (pD xs ys)
 |.lst xs,.tup ys=>.ow (pD xs ys)
 |.tup xs,.lst ys=>.ow (pD xs ys)
 |_,_=>.bad
theorem aE5{f g:F}{ρ:Rho}:aB rD [mW f g] ρ=(f ρ).bind λx=>(g ρ).bind λy=>zl x y:=by
 unfold aB lK args args mW
 cases f ρ with
 |ok x=>
  cases g ρ with
  |ok y=>cases x<;>cases y<;>rfl
  |ow ys=>cases x<;>rfl
  |ex c=>rfl
  |bad=>rfl
 |ow xs=>
  cases g ρ with
  |ok y=>cases y<;>rfl
  |ow ys=>rfl
  |ex c=>rfl
  |bad=>rfl
 |ex c=>rfl
 |bad=>rfl
theorem rV(hg:L2.Gl X "zip")(hm:X.mg "zip"=none)(hgl:L2.Gl X "list")(hml:X.mg "list"=none)(hc:X.calm=true)(ha:ME X ad a f)(hb:ME X ad b g)(he:starEach [a,b] X.env=(false,eval a X.env)::starEach [b] X.env)(he2:starEach [b] X.env=(false,eval b X.env)::starEach [] X.env):
  ME X ad (.Call (.Name "list" p) [.Call (.Name "zip" p2) [a,b] [] pos2] [] pos) (aB rD [mW f g]):=by
 refine λbx s σ H Q I h9=>h9.el λG ρ E hG hS hx hr=>?_
 rw[aE5]at hr;refine Call_ (fK (u:=.type "list") I hgl hml (by decide+kernel) (PyProof.Rows.callWith_type1 ?_ rfl rfl) (by decide) (by decide))
 refine Calls.spliced_cons ?_;refine Call_ (fK (u:=.type "zip") I hg hm (by decide+kernel) (PyProof.Rows.callWith_type1 ?_ he (by rw[he2];rfl)) (by decide) (by decide))
 rw[he];refine Calls.spliced_cons (L2.thn (ha.thn I hG hS hx hr) λu s1 ⟨v,d,G1,H1,I1,r1,st,q,k1⟩=>?_)
 rw[he2];refine Calls.spliced_cons (L2.thn (hb.thn I1 st.gh (hS.step st) hx k1) λu2 s2 ⟨v2,d2,G2,H2,I2,r2,st2,q2,k2⟩=>Calls.spliced_nil ?_)
 obtain⟨t,t2,ds,es,c1,c2,k3⟩: ∃t t2 ds es,isA t ds d/\isA t2 es d2/\RK X.K ad G2 H2 (.ow (pD ds es)) Q E:=by
  cases d<;>try exact ax k2
  ·cases d2<;>try exact ax k2
   ·exact⟨true,true,_,_,rfl,rfl,k2⟩
   ·exact⟨true,false,_,_,rfl,rfl,k2⟩
  ·cases d2<;>try exact ax k2
   ·exact⟨false,true,_,_,rfl,rfl,k2⟩
   ·exact⟨false,false,_,_,rfl,rfl,k2⟩
 obtain⟨l,xs,rfl,s1',w1⟩:=iZ c1 (q.mono st2.sg);obtain⟨m,ys,rfl,s2',w2⟩:=iZ c2 q2
 cases (show u=Value.ref l from r1)
 cases (show u2=Value.ref m from r2)
 exact L2.thn (nI hc I2 st2.gh s1' s2' w1 w2 k3) λv s3 h3=>Calls.spliced_nil h3
end
theorem nJ(xs:Array Nat)(j:Nat)(hm: ∀a b,a<=b->b<xs.size->xs.getD b j<j->xs.getD a j<j): ∀fuel lo hi,hi-lo<=fuel->lo<=hi->hi<=xs.size->(∀k,k<lo->xs.getD k j<j)->(∀k,hi<=k->k<xs.size->¬xs.getD k j<j)->
  SetTable.below.go xs j fuel lo hi<=xs.size/\(∀k,k<SetTable.below.go xs j fuel lo hi->xs.getD k j<j)/\(∀k,SetTable.below.go xs j fuel lo hi<=k->k<xs.size->¬xs.getD k j<j)
 |0,lo,hi,hf,hl,hh,h1,h2=>by
  have:lo=hi:=by lia
  subst this;exact⟨hh,h1,h2⟩
 |fuel+1,lo,hi,hf,hl,hh,h1,h2=>by
  unfold SetTable.below.go
  by_cases hlt:lo<hi
  ·rw[if_pos hlt]
   dsimp only
   by_cases hq:xs.getD ((lo+hi)/2) j<j
   ·rw[if_pos hq];exact nJ xs j hm fuel _ hi (by lia) (by lia) hh (λk hk=>hm k _ (by lia) (by lia) hq) h2
   ·rw[if_neg hq];exact nJ xs j hm fuel lo _ (by lia) (by lia) (by lia) h1 λk hk hs z=>hq (hm _ k hk hs z)
  ·rw[if_neg hlt]
   have:lo=hi:=by lia
   subst this;exact⟨hh,h1,h2⟩
theorem jV{ps:List Nat}(hr:ps.Pairwise (· < ·))(j:Nat):SetTable.below ps.toArray j<=ps.length/\(∀k (hk:k<ps.length),k<SetTable.below ps.toArray j->ps[k]<j)/\(∀k (hk:k<ps.length),SetTable.below ps.toArray j<=k->j<=ps[k]):=by
 have gd: ∀k (hk:k<ps.length),ps.toArray.getD k j=ps[k]:=λk hk=>by simp[Array.getD,hk]
 have hm: ∀a b,a<=b->b<ps.toArray.size->ps.toArray.getD b j<j->ps.toArray.getD a j<j:=λa b hab hb h=>by
  have hb':b<ps.length:=by simpa using hb
  rw[gd b hb']at h;rw[gd a (by lia)]
  rcases Nat.lt_or_eq_of_le hab with z|z
  ·have:=List.pairwise_iff_getElem.mp hr a b (by lia) hb' z;lia
  ·subst z;exact h
 have:=nJ ps.toArray j hm ps.toArray.size 0 ps.toArray.size (by lia) (by lia) (by lia) (λk hk=>by lia) (λk h1 h2=>by lia)
 obtain⟨a,b,c⟩:=this
 have a':SetTable.below ps.toArray j<=ps.toArray.size:=a
 rw[au]at a';refine⟨a',λk hk h=>?_,λk hk h=>?_⟩
 ·have:=b k h;rw[gd k hk]at this;exact this
 ·have:=c k h (by simpa using hk);rw[gd k hk]at this;lia
theorem aA5{ps:List Nat}(hr:ps.Pairwise (· < ·))(i:Nat)(hi:i<ps.length):SetTable.below ps.toArray (ps[i]+1)=i+1:=by
 obtain⟨a,b,c⟩:=jV hr (ps[i]+1)
 have h1: ¬SetTable.below ps.toArray (ps[i]+1)<=i:=λh=>by have:=c i hi h;lia
 have h2: ¬i+1<SetTable.below ps.toArray (ps[i]+1):=λh=>by
  have:=b (i+1) (by lia) h
  have:=List.pairwise_iff_getElem.mp hr i (i+1) hi (by lia) (by lia)
  lia
 lia
theorem u6{ps:List Nat}(hr:ps.Pairwise (· < ·)):SetTable.below ps.toArray 0=0:=by
 obtain⟨a,b,c⟩:=jV hr 0;rcases Nat.eq_zero_or_pos (SetTable.below ps.toArray 0)with z|z
 ·exact z
 ·have:=b 0 (by lia) z;lia
theorem xQ{ps:List Nat}(hr:ps.Pairwise (· < ·)){j:Nat}(hj:j∉ps): ∃qs:List Nat,SetTable.insertAt ps.toArray (SetTable.below ps.toArray j) j=qs.toArray/\qs.Pairwise (· < ·)/\qs.Perm (j::ps):=by
 obtain⟨a,b,c⟩:=jV hr j;refine⟨ps.take (SetTable.below ps.toArray j)++j::ps.drop (SetTable.below ps.toArray j),?_,?_,?_⟩
 ·apply Array.toList_inj.mp;rw[SetTable.toList_insertAt]
 ·rw[List.pairwise_append,List.pairwise_cons];refine⟨hr.sublist (List.take_sublist _ _),⟨λx hx=>?_,hr.sublist (List.drop_sublist _ _)⟩,λx hx y hy=>?_⟩
  ·obtain⟨k,hk,rfl⟩:=List.getElem_of_mem hx;rw[List.getElem_drop];rw[List.length_drop]at hk
   have:=c (SetTable.below ps.toArray j+k) (by lia) (by lia)
   rcases Nat.lt_or_eq_of_le this with z|z
   ·exact z
   ·exact absurd (by rw[z];exact List.getElem_mem _) hj
  ·obtain⟨k,hk,rfl⟩:=List.getElem_of_mem hx;rw[List.getElem_take];rw[List.length_take]at hk;have h1:=b k (by lia) (by lia)
   rcases aq.mp hy with rfl|hy
   ·exact h1
   ·obtain⟨l,hl,rfl⟩:=List.getElem_of_mem hy;rw[List.getElem_drop];rw[List.length_drop]at hl
    have:=c (SetTable.below ps.toArray j+l) (by lia) (by lia)
    lia
 ·exact List.perm_middle.trans (List.Perm.of_eq (by rw[List.take_append_drop]))
noncomputable def tab(m mv:Nat)(ps:List Nat):SetTable:={mask:=m,place:=ps.toArray,dummies:= #[],finger:=0,led:=true,moves:=mv,plain:=true}
noncomputable def tbl(m mv:Nat)(led:Bool)(ps:List Nat):SetTable:={mask:=m,place:=ps.toArray,dummies:= #[],finger:=0,led:=led,moves:=mv,plain:=true}
def adv(m:Nat)(p:SetTable.Probe):SetTable.Probe:=(tab m 0 []).advance p
def pr(m:Nat)(h:Int):Nat->SetTable.Probe
 |0=>(tab m 0 []).probeStart h
 |k+1=>adv m (pr m h k)
theorem aCq(m:Nat)(h:Int): ∀k,(pr m h k).dummy=none
 |0=>rfl
 |k+1=>by
  have ih:=aCq m h k
  show(adv m (pr m h k)).dummy=none
  unfold adv SetTable.advance;split
  ·exact ih
  ·exact ih
def lp(m:Nat)(h:Int):Nat->Nat×Nat
 |0=>(SetTable.bits h % (m+1),SetTable.bits h)
 |r+1=>SetTable.leap m (lp m h r).1 (lp m h r).2
theorem tK(m:Nat)(h:Int)(k:Nat): ∀a,a<=(pr m h k).more->pr m h (k+a)={pr m h k with j:=(pr m h k).j+a,more:=(pr m h k).more-a}
 |0,_=>rfl
 |a+1,ha=>by
  have ih:=tK m h k a (by lia)
  show adv m (pr m h (k+a))=_;rw[ih];unfold adv SetTable.advance;rw[if_pos (by dsimp only;lia)]
  dsimp only
  congr 1
theorem aJc(m:Nat)(h:Int): ∀r, ∃k,k<=10*r/\pr m h k={j:=(lp m h r).1,more:=SetTable.runEnd m (lp m h r).1-(lp m h r).1,i:=(lp m h r).1,perturb:=(lp m h r).2,dummy:=none}
 |0=>⟨0,aj _,rfl⟩
 |r+1=>by
  obtain⟨k,hk,e⟩:=aJc m h r
  have hm:(pr m h k).more<=9:=by
   rw[e];show SetTable.runEnd m (lp m h r).1-(lp m h r).1<=9;unfold SetTable.runEnd
   split<;>lia
  refine⟨k+(pr m h k).more+1,by lia,?_⟩
  show adv m (pr m h (k+(pr m h k).more))=_;rw[tK m h k _ (aj _)];unfold adv SetTable.advance;rw[if_neg (by dsimp only;lia),e]
  rfl
theorem xR(m:Nat)(h:Int): ∀r,(lp m h r).2=SetTable.bits h/32^r
 |0=>by simp[lp]
 |r+1=>by
  show(lp m h r).2/32=_
  rw[xR m h r,Nat.div_div_eq_div_mul,Nat.pow_succ]
theorem aE6(h:Int):SetTable.bits h<2^64:=by
 unfold SetTable.bits;have h1:=Int.emod_lt_of_pos h (show(0:Int)<2^64 by decide)
 have h2:=Int.emod_nonneg h (show(2^64:Int)≠0 by decide)
 have e:(2^64:Int)=((2^64:Nat):Int):=by decide
 lia
noncomputable def fx(m x:Nat):Nat:=(x*5+1) % (m+1)
def itf(m:Nat):Nat->Nat->Nat
 |0,x=>x
 |s+1,x=>fx m (itf m s x)
theorem kX(m:Nat)(a x:Nat): ∀b,itf m (a+b) x=itf m b (itf m a x)
 |0=>rfl
 |b+1=>by
  show fx m (itf m (a+b) x)=fx m (itf m b (itf m a x));rw[kX m a x b]
theorem rW(m:Nat)(h:Int): ∀s,(lp m h (13+s)).1=itf m s (lp m h 13).1
 |0=>rfl
 |s+1=>by
  show((lp m h (13+s)).1*5+1+(lp m h (13+s)).2/32) % (m+1)=_
  have e:(lp m h (13+s)).2=0:=by
   rw[xR];refine Nat.div_eq_of_lt (bd (aE6 h) ?_);rw[Nat.pow_add]
   have:1<=32^s:=Nat.pow_pos (by decide)
   have e:(2:Nat)^64<=32^13:=by decide
   calc 2^64<=32^13*1:=by lia
    _<=32^13*32^s:=Nat.mul_le_mul_left _ this
  rw[e,rW m h s];rfl
theorem aE7(m:Nat)(h:Int)(r:Nat):(lp m h r).1<m+1:=by
 cases r with
 |zero=>exact Nat.mod_lt _ (Nat.succ_pos _)
 |succ r=>exact Nat.mod_lt _ (Nat.succ_pos _)
def Cyc(m:Nat):Prop:=(∀j,j<=m->∃s,s<=m/\itf m s 0=j)/\itf m (m+1) 0=0
theorem Cyc.go{m:Nat}(c:Cyc m){i j:Nat}(hi:i<=m)(hj:j<=m): ∃s,s<=m/\itf m s i=j:=by
 obtain⟨a,ha,ea⟩:=c.1 i hi;obtain⟨b,hb,eb⟩:=c.1 j hj
 by_cases h:a<=b
 ·refine⟨b-a,by lia,?_⟩
  rw[<-ea, <-kX,show a+(b-a)=b by lia,eb]
 ·refine⟨(m+1-a)+b,by lia,?_⟩
  have e1:itf m (m+1-a) i=0:=by rw[<-ea, <-kX,show a+(m+1-a)=m+1 by lia];exact c.2
  rw[kX,e1,eb]
def orb(m:Nat):Nat->Nat->List Nat
 |0,_=>[]
 |n+1,x=>x::orb m n (fx m x)
theorem xS(m:Nat){j:Nat}: ∀(n x:Nat),j∈orb m n x->∃s,s<n/\itf m s x=j
 |0,_,h=>by cases h
 |n+1,x,h=>by
  rcases aq.mp h with h|h
  ·exact⟨0,by lia,h.symm⟩
  ·obtain⟨s,h1,h2⟩:=xS m n (fx m x) h;refine⟨1+s,by lia,?_⟩
   rw[kX];exact h2
theorem Cyc.of{m:Nat}(h:((List.range (m+1)).all λj=>(orb m (m+1) 0).contains j)=true)(h2:itf m (m+1) 0=0):Cyc m:=
 ⟨λj hj=>by
  have:=zAd h j (zPd (by lia))
  obtain⟨s,h1,e⟩:=xS m _ _ (List.contains_iff_mem.mp this);exact⟨s,by lia,e⟩,h2⟩
theorem aOf:Cyc 7:=.of (by kernel_rfl) (by kernel_rfl)
theorem aL4:Cyc 31:=.of (by kernel_rfl) (by kernel_rfl)
theorem aJd:Cyc 127:=.of (by kernel_rfl) (by kernel_rfl)
theorem aJe:Cyc 511:=.of (by kernel_rfl) (by kernel_rfl)
theorem aJf{m:Nat}(c:Cyc m)(h:Int){j:Nat}(hj:j<=m): ∃k,k<10*SetTable.turns m/\(pr m h k).j=j:=by
 have hl:=aE7 m h 13;obtain⟨s,h1,h2⟩:=c.go (i:=(lp m h 13).1) (by lia) hj
 obtain⟨k,k1,k2⟩:=aJc m h (13+s);refine⟨k,by unfold SetTable.turns;lia,?_⟩
 rw[k2]
 show(lp m h (13+s)).1=j
 rw[rW,h2]
theorem aE8{m mv:Nat}{led:Bool}{ps:List Nat}(hr:ps.Pairwise (· < ·)){i:Nat}(hi:i<ps.length):(tbl m mv led ps).slot ps[i]= .live i:=by
 have e:SetTable.below ps.toArray ps[i]=i:=by
  obtain⟨a,b,c⟩:=jV hr ps[i]
  have h1: ¬SetTable.below ps.toArray ps[i]<i:=λh=>by
   have:=c (SetTable.below ps.toArray ps[i]) (by lia) (aj _)
   have:=List.pairwise_iff_getElem.mp hr _ i (by lia) hi h
   lia
  have h2: ¬i<SetTable.below ps.toArray ps[i]:=λh=>by
   have:=b i hi h;lia
  lia
 unfold SetTable.slot
 dsimp only[tbl]
 rw[e];simp[hi]
theorem aA6{m mv:Nat}{led:Bool}{ps:List Nat}{j:Nat}(hj:j∉ps):(tbl m mv led ps).slot j= .empty:=by
 unfold SetTable.slot
 have e1:((tbl m mv led ps).place[SetTable.below (tbl m mv led ps).place j]? ==some j)=false:=by
  cases q:(tbl m mv led ps).place[SetTable.below (tbl m mv led ps).place j]? with
  |none=>rfl
  |some x=>
   have:x∈ps:=by
    have:=Array.mem_of_getElem? q
    simpa[tbl]using this
   have:x≠j:=λe=>hj (e▸this)
   simpa using this
 dsimp only
 rw[e1];rfl
theorem jW{P:Nat->Prop}: ∀(d k K:Nat),K-k=d->k<=K->P K->∃a,k<=a/\a<=K/\P a/\∀b,k<=b->b<a->¬P b
 |0,k,K,hd,hk,h=>by
  have:k=K:=by lia
  subst this;exact⟨k,aj _,aj _,h,λb h1 h2=>by lia⟩
 |d+1,k,K,hd,hk,h=>by
  by_cases z:P k
  ·exact⟨k,aj _,hk,z,λb h1 h2=>by lia⟩
  ·obtain⟨a,h1,h2,h3,h4⟩:=jW d (k+1) K (by lia) (by lia) h
   refine⟨a,by lia,h2,h3,λb b1 b2=>?_⟩
   by_cases e:b=k
   ·subst e;exact z
   ·exact h4 b (by lia) b2
theorem aE9{m mv:Nat}{led:Bool}{ps:List Nat}{hashAt:Nat->Int}{h:Int}: ∀(d k a fuel:Nat),a-k=d->k<=a->a<k+fuel->(∀b,k<=b->b<a->∃i,(tbl m mv led ps).slot (pr m h b).j= .live i/\hashAt i≠h)->
  ∃f,SetTable.probe.go (tbl m mv led ps) hashAt h fuel (pr m h k)=SetTable.probe.go (tbl m mv led ps) hashAt h (f+1) (pr m h a)
 |0,k,a,fuel,hd,hk,hf,_=>by
  have:k=a:=by lia
  subst this;exact⟨fuel-1,by rw[show fuel-1+1=fuel by lia]⟩
 |d+1,k,a,fuel,hd,hk,hf,H=>by
  obtain⟨fu,rfl⟩: ∃fu,fuel=fu+1:=⟨fuel-1,by lia⟩
  obtain⟨f,e⟩:=aE9 (m:=m) (mv:=mv) (led:=led) (ps:=ps) (hashAt:=hashAt) (h:=h) d (k+1) a fu (by lia) (by lia) (by lia) λb h1 h2=>H b (by lia) h2
  refine⟨f,?_⟩;rw[<-e];obtain⟨i,h1,h2⟩:=H k (aj _) (by lia)
  rw[SetTable.probe.go,h1]
  dsimp only
  rw[if_neg (by simpa using h2)]
  rfl
theorem aJg{m mv:Nat}{led:Bool}{ps:List Nat}{hashAt:Nat->Int}{h:Int}{k a fuel:Nat}(hk:k<=a)(hf:a<k+fuel)(H: ∀b,k<=b->b<a->∃i,(tbl m mv led ps).slot (pr m h b).j= .live i/\hashAt i≠h)(he:(tbl m mv led ps).slot (pr m h a).j= .empty):
  SetTable.probe.go (tbl m mv led ps) hashAt h fuel (pr m h k)=some (.empty (pr m h a).j none):=by
 obtain⟨f,e⟩:=aE9 (led:=led) (mv:=mv) _ k a fuel rfl hk hf H;rw[e,SetTable.probe.go,he]
 dsimp only
 rw[aCq]
theorem aJh{m mv:Nat}{led:Bool}{ps:List Nat}{hashAt:Nat->Int}{h:Int}{k a fuel i:Nat}(hk:k<=a)(hf:a<k+fuel)(H: ∀b,k<=b->b<a->∃i,(tbl m mv led ps).slot (pr m h b).j= .live i/\hashAt i≠h)(he:(tbl m mv led ps).slot (pr m h a).j= .live i)(hi:hashAt i=h):
  SetTable.probe.go (tbl m mv led ps) hashAt h fuel (pr m h k)=some (.candidate (pr m h a).j i (pr m h (a+1))):=by
 obtain⟨f,e⟩:=aE9 (led:=led) (mv:=mv) _ k a fuel rfl hk hf H;rw[e,SetTable.probe.go,he]
 dsimp only
 rw[if_pos (by simpa using hi)]
 rfl
def Rch(m:Nat)(h:Int)(ps:List Nat)(p:Nat):Prop:= ∃k,k<10*SetTable.turns m/\(pr m h k).j=p/\∀b,b<k->(pr m h b).j∈ps
theorem Rch.mono{m:Nat}{h:Int}{ps qs:List Nat}{p:Nat}(r:Rch m h ps p)(s: ∀x∈ps,x∈qs):Rch m h qs p:=by
 obtain⟨k,h1,h2,h3⟩:=r;exact⟨k,h1,h2,λb hb=>s _ (h3 b hb)⟩
theorem aCr: ∀{l q:List Nat},l.Nodup->(∀x∈l,x∈q)->l.length<=q.length
 |[],_,_,_=>bq _
 |a::l,q,hn,hs=>by
  have h1:=List.nodup_cons.mp hn;have ma:=hs a (.head _)
  have:=aCr (l:=l) (q:=q.erase a) h1.2 λx hx=>(List.mem_erase_of_ne (λe:x=a=>h1.1 (e▸hx))).mpr (hs x (.tail _ hx))
  rw[List.length_erase_of_mem ma]at this
  have:=List.length_pos_of_mem ma
  simp only[bo]
  lia
theorem xT{m:Nat}(c:Cyc m)(h:Int){ps:List Nat}(hl:ps.length<=m): ∃k,k<10*SetTable.turns m/\(pr m h k).j∉ps/\∀b,b<k->(pr m h b).j∈ps:=by
 have ex: ∃j,j<=m/\j∉ps:=by
  refine Classical.byContradiction λhn=>?_
  have hs: ∀j∈List.range (m+1),j∈ps:=λj hj=>by
   refine Classical.byContradiction λz=>hn ⟨j,?_,z⟩
   have:=zRd hj;lia
  have:=aCr (List.nodup_range (n:=m+1)) hs
  rw[List.length_range]at this
  lia
 obtain⟨j,hj,hn⟩:=ex;obtain⟨K,k1,k2⟩:=aJf c h hj;obtain⟨a,_,a2,a3,a4⟩:=jW (P:=λb=>(pr m h b).j∉ps) _ 0 K rfl (bq _) (by rw[k2];exact hn)
 exact⟨a,by lia,a3,λb hb=>Classical.byContradiction (a4 b (bq _) hb)⟩
theorem aA7{m:Nat}(h:Int)(k:Nat):(pr m h k).j<=m:=by
 suffices q:(pr m h k).j+(pr m h k).more<=m by lia
 have re: ∀i,i<=m->i+(SetTable.runEnd m i-i)<=m:=λi hi=>by
  unfold SetTable.runEnd;split<;>lia
 induction k with
 |zero=>
  have:=aE7 m h 0
  exact re _ (by show(lp m h 0).1<=m;lia)
 |succ k ih=>
  show(adv m (pr m h k)).j+(adv m (pr m h k)).more<=m
  unfold adv SetTable.advance;split
  ·dsimp only;lia
  ·have:(SetTable.leap m (pr m h k).i (pr m h k).perturb).1<m+1:=Nat.mod_lt _ (Nat.succ_pos _)
   exact re _ (by show(SetTable.leap m (pr m h k).i (pr m h k).perturb).1<=m;lia)
def Oc(owner:Array (Option Nat))(j:Nat):Prop:=(owner.getD j (some 0)).isNone=false
theorem aFa{m:Nat}{h:Int}{owner:Array (Option Nat)}{R:Nat}(hR:R<SetTable.turns m)(he: ¬Oc owner (lp m h R).1): ∀(d r k:Nat),R-r=d->r<=R->pr m h k={j:=(lp m h r).1,more:=SetTable.runEnd m (lp m h r).1-(lp m h r).1,i:=(lp m h r).1,perturb:=(lp m h r).2,dummy:=none}->k<=10*r->(∀b,b<k->Oc owner (pr m h b).j)->
  ∃K,K<10*SetTable.turns m/\SetTable.layClean.free m owner (SetTable.turns m-r) (lp m h r).1 (lp m h r).2=some (pr m h K).j/\¬Oc owner (pr m h K).j/\∀b,b<K->Oc owner (pr m h b).j:=by
 intro d
 induction d with
 |zero=>
  intro r k hd hr hp hk hb
  have:r=R:=by lia
  subst this
  have h0:(pr m h k).j=(lp m h r).1:=by rw[hp]
  refine⟨k,by lia,?_,by rw[h0];exact he,hb⟩
  obtain⟨fu,e⟩: ∃fu,SetTable.turns m-r=fu+1:=⟨SetTable.turns m-r-1,by lia⟩
  rw[e,SetTable.layClean.free]
  have hf:(List.range (SetTable.runEnd m (lp m h r).1+1-(lp m h r).1)).find? (λk=>(owner.getD ((lp m h r).1+k) (some 0)).isNone)=some 0:=by
   rw[List.find?_range_eq_some];refine⟨?_,zPd ?_,λj hj=>by lia⟩
   ·unfold Oc at he;simpa using he
   ·unfold SetTable.runEnd;split<;>lia
  rw[hf,h0];rfl
 |succ d ih=>
  intro r k hd hr hp hk hb
  have hm:(pr m h k).more=SetTable.runEnd m (lp m h r).1-(lp m h r).1:=by rw[hp]
  have hj:(pr m h k).j=(lp m h r).1:=by rw[hp]
  have h9:(pr m h k).more<=9:=by rw[hm];unfold SetTable.runEnd;split<;>lia
  have hge:(lp m h r).1<=SetTable.runEnd m (lp m h r).1:=by unfold SetTable.runEnd;split<;>lia
  have run: ∀a,a<=(pr m h k).more->(pr m h (k+a)).j=(lp m h r).1+a:=λa ha=>by rw[tK m h k a ha, <-hj]
  obtain⟨fu,e⟩: ∃fu,SetTable.turns m-r=fu+1:=⟨SetTable.turns m-r-1,by lia⟩
  rw[e,SetTable.layClean.free]
  cases hf:(List.range (SetTable.runEnd m (lp m h r).1+1-(lp m h r).1)).find? (λk=>(owner.getD ((lp m h r).1+k) (some 0)).isNone)with
  |some a=>
   rw[List.find?_range_eq_some]at hf;obtain⟨f1,f2,f3⟩:=hf;have f2:=zRd f2;have hra:=run a (by lia)
   refine⟨k+a,by lia,by rw[hra],?_,λb hb'=>?_⟩
   ·rw[hra];unfold Oc;rw[f1];decide
   ·by_cases z:b<k
    ·exact hb b z
    ·obtain⟨c,rfl⟩: ∃c,b=k+c:=⟨b-k,by lia⟩
     rw[run c (by lia)]
     have:=f3 c (by lia)
     unfold Oc;simpa using this
  |none=>
   dsimp only
   rw[List.find?_range_eq_none]at hf
   have hall: ∀a,a<=(pr m h k).more->Oc owner (pr m h (k+a)).j:=λa ha=>by
    rw[run a ha]
    have:=hf a (by lia)
    unfold Oc;simpa using this
   have:=ih (r+1) (k+(pr m h k).more+1) (by lia) (by lia) ?_ (by lia) (λb hb'=>?_)
   ·rw[show SetTable.turns m-(r+1)=fu by lia]at this
    exact this
   ·show adv m (pr m h (k+(pr m h k).more))=_;rw[tK m h k _ (aj _)];unfold adv SetTable.advance;rw[if_neg (by dsimp only;lia),hp]
    rfl
   ·by_cases z:b<k
    ·exact hb b z
    ·obtain⟨c,rfl⟩: ∃c,b=k+c:=⟨b-k,by lia⟩
     exact hall c (by lia)
structure LayI(m:Nat)(hs:List Int)(owner:Array (Option Nat))(pl:List Nat):Prop where
 sz:owner.size=m+1
 len:pl.length=hs.length
 nd:pl.Nodup
 le: ∀p∈pl,p<=m
 own: ∀j,j<=m->owner.getD j none=pl.findIdx? (· ==j)
 rch: ∀(k:Nat) (h:Int) (p:Nat),hs[k]? =some h->pl[k]? =some p->Rch m h pl p
theorem iH{pl:List Nat}{j:Nat}:pl.findIdx? (· ==j)=none↔j∉pl:=by
 rw[List.findIdx?_eq_none_iff];constructor
 ·intro h hm
  have:=h j hm
  simp at this
 ·intro h x hx
  have:x≠j:=λe=>h (e▸hx)
  simpa using this
theorem LayI.oc{m:Nat}{hs:List Int}{owner:Array (Option Nat)}{pl:List Nat}(L:LayI m hs owner pl){j:Nat}(hj:j<=m):Oc owner j↔j∈pl:=by
 have e:owner.getD j (some 0)=owner.getD j none:=by
  have:j<owner.size:=by rw[L.sz];lia
  simp[Array.getD,this]
 unfold Oc;rw[e,L.own j hj];constructor
 ·intro h;refine Classical.byContradiction λz=>?_
  rw[iH.mpr z]at h;cases h
 ·intro h
  cases q:pl.findIdx? (· ==j)with
  |none=>exact absurd h (iH.mp q)
  |some _=>rfl
theorem LayI.step{m:Nat}(c:Cyc m){hs:List Int}{owner:Array (Option Nat)}{pl:List Nat}(L:LayI m hs owner pl)(hl:hs.length<=m)(h:Int):
  ∃j,SetTable.layClean.free m owner (SetTable.turns m) (SetTable.bits h % (m+1)) (SetTable.bits h)=some j/\LayI m (hs++[h]) (owner.setIfInBounds j (some hs.length)) (pl++[j]):=by
 -- an empty leap
 obtain⟨k0,_,n0,_⟩:=xT c h (ps:=pl) (by rw[L.len];exact hl)
 have hq:=aA7 (m:=m) h k0;have l13:=aE7 m h 13;obtain⟨s,s1,s2⟩:=c.go (i:=(lp m h 13).1) (by lia) hq
 have he: ¬Oc owner (lp m h (13+s)).1:=by
  rw[rW,s2,L.oc hq];exact n0
 obtain⟨K,k1,k2,k3,k4⟩:=aFa (owner:=owner) (R:=13+s) (by unfold SetTable.turns;lia) he _ 0 0 rfl (by lia) rfl (aj _) (λb hb=>by lia)
 have kj:=aA7 (m:=m) h K;have nj:(pr m h K).j∉pl:=λz=>k3 ((L.oc kj).mpr z)
 refine⟨(pr m h K).j,k2,by simp[L.sz],by simp[L.len],?_,λp hp=>?_,λj hj=>?_,λk h' p e1 e2=>?_⟩
 ·rw[List.nodup_append];refine⟨L.nd,by simp,λa ha b hb=>?_⟩
  have:b=(pr m h K).j:=by simpa using hb
  subst this;exact λe=>nj (e▸ha)
 ·rcases List.mem_append.mp hp with hp|hp
  ·exact L.le p hp
  ·have:p=(pr m h K).j:=by simpa using hp
   subst this;exact kj
 ·have hjs:j<owner.size:=by rw[L.sz];lia
  rw[List.findIdx?_append]
  by_cases z:(pr m h K).j=j
  ·subst z;rw[iH.mpr nj];simp[Array.getD,hjs,L.len]
  ·have h1:(owner.setIfInBounds (pr m h K).j (some hs.length)).getD j none=owner.getD j none:=by
    simp[Array.getD,hjs,Array.getElem_setIfInBounds,z]
   rw[h1,L.own j hj]
   have h2:List.findIdx? (· ==j) [(pr m h K).j]=none:=by
    rw[iH];simpa using λe=>z e.symm
   rw[h2];simp
 ·have mono: ∀x∈pl,x∈pl++[(pr m h K).j]:=λx hx=>List.mem_append.mpr (.inl hx)
  by_cases z:k<hs.length
  ·rw[bt z]at e1;rw[bt (by rw[L.len];exact z)]at e2
   exact(L.rch k h' p e1 e2).mono mono
  ·have hk:k<(hs++[h]).length:=(av.mp e1).1
   have:k=hs.length:=by simp at hk;lia
   subst this;rw[bh (aj _)]at e1;rw[bh (by rw[L.len];exact aj _),L.len]at e2
   simp at e1 e2
   subst e1 e2;exact⟨K,k1,rfl,λb hb=>mono _ ((L.oc (aA7 h b)).mp (k4 b hb))⟩
noncomputable def aJi(m:Nat)(acc:Option (Array (Option Nat)×Nat))(h:Int):Option (Array (Option Nat)×Nat):=do
 let (owner,k)<-acc;let j<-SetTable.layClean.free m owner (SetTable.turns m) (SetTable.bits h % (m+1)) (SetTable.bits h)
 pure (owner.setIfInBounds j (some k),k+1)
theorem xU{m:Nat}(c:Cyc m): ∀(eA hs:List Int) (owner:Array (Option Nat)) (pl:List Nat),LayI m hs owner pl->hs.length+eA.length<=m+1->
  ∃owner' pl',eA.foldl (aJi m) (some (owner,hs.length))=some (owner',(hs++eA).length)/\LayI m (hs++eA) owner' pl'
 |[],hs,owner,pl,L,_=>⟨owner,pl,by simp,by simpa using L⟩
 |h::eA,hs,owner,pl,L,hl=>by
  simp only[bo]at hl;obtain⟨j,e,L'⟩:=L.step c (by lia) h
  obtain⟨o',p',e',L''⟩:=xU c eA (hs++[h]) _ _ L' (by simp;lia)
  refine⟨o',p',?_,by simpa using L''⟩
  rw[List.foldl_cons]
  have:aJi m (some (owner,hs.length)) h=some (owner.setIfInBounds j (some hs.length),(hs++[h]).length):=by
   unfold aJi
   show(SetTable.layClean.free m owner (SetTable.turns m) (SetTable.bits h % (m+1)) (SetTable.bits h)).bind _=_
   rw[e];simp
  rw[this,e'];simp
theorem LayI.new(m:Nat):LayI m [] (Array.replicate (m+1) none) []:=by
 refine⟨by simp,rfl,List.nodup_nil,nofun,λj hj=>?_,λk h p e=>by simp at e⟩
 simp[Array.getD]
theorem rX{m:Nat}(c:Cyc m)(hs:List Int)(hl:hs.length<=m+1): ∃owner pl,SetTable.layClean m hs.toArray=some owner/\LayI m hs owner pl:=by
 obtain⟨o,p,e,L⟩:=xU c hs [] _ _ (LayI.new m) (by simpa using hl)
 refine⟨o,p,?_,by simpa using L⟩
 unfold SetTable.layClean
 show(hs.toArray.foldl (aJi m) (some (Array.replicate (m+1) none,0))).map (·.1)=some o
 rw[List.foldl_toArray']
 ·have e':hs.foldl (aJi m) (some (Array.replicate (m+1) none,0))=some (o,hs.length):=by simpa using e
  rw[e'];rfl
 ·simp
structure TI(m:Nat)(L:List (Nat×Int×Value)):Prop where
 up:(L.map (·.1)).Pairwise (· < ·)
 le: ∀x∈L,x.1<=m
 rch: ∀x∈L,Rch m x.2.1 (L.map (·.1)) x.1
noncomputable def eC(m:Nat)(pl:List Nat)(es:List (Int×Value)):List (Nat×Int×Value):=(List.range (m+1)).filterMap λj=>(pl.findIdx? (· ==j)).bind λk=>es[k]?.map λe=>(j,e)
theorem aL5: ∀(m:Nat) {f:Nat->Option (Nat×Int×Value)} (hf: ∀j x,f j=some x->x.1=j) (l:List Nat),l.Pairwise (· < ·)->((l.filterMap f).map (·.1)).Pairwise (· < ·):=by
 intro m f hf l h;rw[List.map_filterMap];refine List.Pairwise.filterMap _ (λa a' haa b hb b' hb'=>?_) h
 obtain⟨x,e1,e2⟩:=zMd hb;obtain⟨y,e3,e4⟩:=zMd hb';rw[<-e2, <-e4,hf _ _ e1,hf _ _ e3];exact haa
theorem tM{m:Nat}{pl:List Nat}{es:List (Int×Value)}(hn:pl.Nodup)(hle: ∀p∈pl,p<=m)(hl:pl.length=es.length)(x:Nat×Int×Value):x∈eC m pl es↔x∈pl.zip es:=by
 unfold eC;rw[List.mem_filterMap];constructor
 ·rintro⟨j,_,h⟩;obtain⟨k,e1,e2⟩:=zBd h;obtain⟨e,e3,rfl⟩:=zMd e2;rw[List.findIdx?_eq_some_iff_getElem]at e1;obtain⟨h1,h2,_⟩:=e1
  have:pl[k]=j:=by simpa using h2
  obtain⟨h3,h4⟩:=av.mp e3;rw[List.mem_iff_getElem];refine⟨k,by simp;lia,?_⟩
  rw[List.getElem_zip,this,h4]
 ·intro h;obtain⟨k,hk,rfl⟩:=List.getElem_of_mem h;rw[List.getElem_zip];have hk1:k<pl.length:=by simp at hk;lia
  have hk2:k<es.length:=by simp at hk;lia
  refine⟨pl[k],zPd (Nat.lt_succ_of_le (hle _ (List.getElem_mem _))),?_⟩
  have e1:pl.findIdx? (· ==pl[k])=some k:=by
   rw[List.findIdx?_eq_some_iff_getElem];refine⟨hk1,by simp,λj hj=>?_⟩
   have:pl[j]≠pl[k]:=λe=>by
    have:=(List.getElem_inj hn).mp e
    lia
   simpa using this
  rw[e1];simp[hk2]
theorem aFb{m:Nat}{hs:List Int}{owner:Array (Option Nat)}{pl:List Nat}(L:LayI m hs owner pl){es:List (Int×Value)}(he:es.map (·.1)=hs):TI m (eC m pl es)/\((eC m pl es).map (·.2)).Perm es/\((eC m pl es).map (·.1)).Perm pl:=by
 have hl:pl.length=es.length:=by rw[L.len, <-he,am]
 have up:((eC m pl es).map (·.1)).Pairwise (· < ·):=aL5 m (λj x h=>by
  obtain⟨k,e1,e2⟩:=zBd h;obtain⟨e,e3,rfl⟩:=zMd e2
  rfl) _ List.pairwise_lt_range
 have z1:(pl.zip es).map (·.1)=pl:=List.map_fst_zip (by lia)
 have z2:(pl.zip es).map (·.2)=es:=List.map_snd_zip (by lia)
 have nd1:(eC m pl es).Nodup:=by
  have:((eC m pl es).map (·.1)).Nodup:=up.imp λh e=>by lia
  exact List.Pairwise.of_map (·.1) (λa b h e=>h (congrArg _ e)) this
 have nd2:(pl.zip es).Nodup:=by
  have:((pl.zip es).map (·.1)).Nodup:=by rw[z1];exact L.nd
  exact List.Pairwise.of_map (·.1) (λa b h e=>h (congrArg _ e)) this
 have pe:(eC m pl es).Perm (pl.zip es):=(List.perm_ext_iff_of_nodup nd1 nd2).mpr λx=>tM L.nd L.le hl x
 have p1:((eC m pl es).map (·.1)).Perm pl:=by have:=pe.map (·.1);rwa [z1]at this
 refine⟨⟨up,λx hx=>?_,λx hx=>?_⟩,by have:=pe.map (·.2);rwa [z2]at this,p1⟩
 ·exact L.le _ (p1.mem_iff.mp (ao.mpr ⟨x,hx,rfl⟩))
 ·have hx':=(tM L.nd L.le hl x).mp hx;obtain⟨k,hk,rfl⟩:=List.getElem_of_mem hx';rw[List.getElem_zip];have hk1:k<pl.length:=by simp at hk;lia
  have hk2:k<es.length:=by simp at hk;lia
  refine(L.rch k es[k].1 pl[k] ?_ (az hk1)).mono λy hy=>p1.mem_iff.mpr hy
  rw[<-he];simp[hk2]
theorem aFc{m f mv:Nat}{led:Bool}(c:Cyc m){es:List (Int×Value)}(hl:es.length<=m+1): ∃(L:List (Nat×Int×Value)) (order:Array Nat),SetTable.laid m 0 mv led true (es.map (·.1)).toArray=some (tbl m mv led (L.map (·.1)),order)/\order.filterMap (es.toArray[·]?)=(L.map (·.2)).toArray/\TI m L/\(L.map (·.2)).Perm es:=by
 obtain⟨owner,pl,e,LI⟩:=rX c (es.map (·.1)) (by simpa using hl)
 obtain⟨t1,t2,t3⟩:=aFb LI rfl
 have hl':pl.length=es.length:=by rw[LI.len,am]
 have live: ∀j∈List.range (m+1),(owner.getD j none).map (j,·)=(pl.findIdx? (· ==j)).map (j,·):=λj hj=>by
  rw[LI.own j (by have:=zRd hj;lia)]
 refine⟨eC m pl es,(((List.range (m+1)).filterMap λj=>(pl.findIdx? (· ==j)).map (j,·)).map (·.2)).toArray,?_,?_,t1,t2⟩
 ·unfold SetTable.laid;rw[e];show some (_,_)=_
  have e1:((List.range (m+1)).filterMap λj=>(owner.getD j none).map (j,·))=(List.range (m+1)).filterMap λj=>(pl.findIdx? (· ==j)).map (j,·):=by
   have gen: ∀l:List Nat,(∀j∈l,(owner.getD j none).map (j,·)=(pl.findIdx? (· ==j)).map (j,·))->(l.filterMap λj=>(owner.getD j none).map (j,·))=l.filterMap λj=>(pl.findIdx? (· ==j)).map (j,·):=λl=>by
    induction l with
    |nil=>intro _;rfl
    |cons a l ih=>
     intro h;rw[List.filterMap_cons,List.filterMap_cons,h a (.head _),ih λj hj=>h j (.tail _ hj)]
   exact gen _ live
  rw[e1]
  have e2:((List.range (m+1)).filterMap λj=>(pl.findIdx? (· ==j)).map (j,·)).map (·.1)=(eC m pl es).map (·.1):=by
   unfold eC;rw[List.map_filterMap,List.map_filterMap]
   congr 1
   funext j
   cases q:pl.findIdx? (· ==j)with
   |none=>rfl
   |some k=>
    rw[List.findIdx?_eq_some_iff_getElem]at q;obtain⟨h1,_⟩:=q
    have:k<es.length:=by lia
    simp[this]
  rw[e2];rfl
 ·apply Array.toList_inj.mp;rw[Array.toList_filterMap];unfold eC;rw[List.filterMap_map,List.map_filterMap,List.filterMap_filterMap]
  congr 1
  funext j
  cases q:pl.findIdx? (· ==j)with
  |none=>rfl
  |some k=>cases q2:es[k]? <;>simp[q2]
mutual
noncomputable def hk:PyData->Bool
 |.none=>true
 |.int _=>true
 |.tuple xs=>hks xs
 |_=>false
noncomputable def hks:List PyData->Bool
 |[]=>true
 |x::xs=>hk x&&hks xs
end
mutual
def hsh:PyData->Int
 |.none=>0xFCA86420
 |.int i=>hashInt i
 |.tuple xs=>reduceHash (Builtin.Tuple.tupleHashOf (aFd xs))
 |_=>0
def aFd:List PyData->List Int
 |[]=>[]
 |x::xs=>hsh x::aFd xs
end
mutual
theorem tN: ∀d:PyData,hk d=true->d.canLay0=true
 |.none,_=>rfl
 |.int _,_=>rfl
 |.tuple xs,h=>by
  rw[hk]at h;rw[PyData.canLay0];exact xV xs h
 |.bool _,h=>by simp[hk]at h
 |.str _,h=>by simp[hk]at h
 |.list _,h=>by simp[hk]at h
 |.dict _,h=>by simp[hk]at h
theorem xV: ∀xs:List PyData,hks xs=true->PyData.canLayAll0 xs=true
 |[],_=>rfl
 |x::xs,h=>by
  rw[hks,ar]at h;rw[PyData.canLayAll0,tN x h.1,xV xs h.2];rfl
end
mutual
theorem xW: ∀d1 d2:PyData,hk d1=true->hk d2=true->PyData.eqv d1 d2=true->d1=d2
 |.none,d2,_,h2,e=>by cases d2<;>simp[hk]at h2<;>simp[PyData.eqv]at e ⊢
 |.int i,d2,_,h2,e=>by cases d2<;>simp[hk]at h2<;>simp[PyData.eqv]at e ⊢<;>exact e
 |.tuple xs,d2,h1,h2,e=>by
  cases d2<;>simp[hk]at h2<;>simp[PyData.eqv]at e
  rename_i ys;rw[tP xs ys (by simpa[hk]using h1) h2 e]
 |.bool _,_,h,_,_=>by simp[hk]at h
 |.str _,_,h,_,_=>by simp[hk]at h
 |.list _,_,h,_,_=>by simp[hk]at h
 |.dict _,_,h,_,_=>by simp[hk]at h
theorem tP: ∀xs ys:List PyData,hks xs=true->hks ys=true->PyData.eqvAll xs ys=true->xs=ys
 |[],[],_,_,_=>rfl
 |[],_::_,_,_,e=>by simp[PyData.eqvAll]at e
 |_::_,[],_,_,e=>by simp[PyData.eqvAll]at e
 |x::xs,y::ys,h1,h2,e=>by
  rw[hks,ar]at h1 h2;rw[PyData.eqvAll,ar]at e;rw[xW x y h1.1 h2.1 e.1,tP xs ys h1.2 h2.2 e.2]
end
section
variable {prog:Program} {w:World}
theorem pK{A:Around}{s:Shared}{Q:Int->Shared->Prop}{E:cb}(h:Q 0xFCA86420 {s with toks:=s.toks+1}):wpAny (model prog w) A (pyHash .none) Q E s:=by
 have hT:s.TypeIs .none "NoneType":=rfl;unfold pyHash pyHashByItsType;refine aa (wpAny_cRoomFor_or (.inl rfl) ?_);refine aa (wpAny_specialOf hT F.slot_NoneType_hash.lookup ?_);show wpAny _ _ (if(some (Value.builtin "NoneType.__hash__")==some Value.none)=true then _ else _) Q E s
 rw[if_neg (by rw[beq_builtin_none];exact ba)]
 refine aa (wpAny_specialOf hT F.slot_NoneType_hash.lookup ?_);show wpAny _ _ (callSpecialIfBoundUnlessNone? .none "__hash__" _ >>= _) Q E s;refine aa (wpAny_callSpecialIfBoundUnlessNone?_slot hT F.slot_NoneType_hash (wpAny_call_entry F.slot_NoneType_hash hT F.entry_NoneType_hash ?_ (F.args_NoneType_hash_1 _)));show wpAny _ _ (retInt 0xFCA86420) _ _ s;refine wpAny_ret_mkInt ?_;exact ae h
mutual
def dr:PyData->Nat
 |.tuple xs=>drs xs+1
 |_=>1
def drs:List PyData->Nat
 |[]=>0
 |x::xs=>dr x+drs xs
end
theorem aFe: ∀(n:Nat) (d:PyData) (v:Value) (as:List Addr) (A:Around) (s:Shared) (Q:Int->Shared->Prop) (E:cb),hk d=true->d.depth<=n->Reads s.heap v d as->A.units+n<cLine->Q (hsh d) {s with toks:=s.toks+dr d}->wpAny (model prog w) A (pyHash v) Q E s:=by
 intro n
 induction n with
 |zero=>
  intro d v as A s Q E hd hn hr hu h
  cases hr with
  |none=>exact pK (by simpa[hsh,dr]using h)
  |int i t=>exact wpAny_pyHash_int (by simpa[hsh,dr]using h)
  |bool b=>cases hd
  |str x t=>cases hd
  |list=>cases hd
  |tuple=>simp[PyData.depth]at hn
  |dict=>cases hd
 |succ n ih=>
  intro d v as A s Q E hd hn hr hu h
  cases hr with
  |none=>exact pK (by simpa[hsh,dr]using h)
  |int i t=>exact wpAny_pyHash_int (by simpa[hsh,dr]using h)
  |bool b=>cases hd
  |str x t=>cases hd
  |list=>cases hd
  |dict=>cases hd
  |@tuple a o vs k xs as ho hc hdat hall=>
   have hT:s.TypeIs (.ref a) "tuple":=⟨o,ho,hc⟩
   have hd':hks xs=true:=by simpa[hk]using hd
   have hn':PyData.depthAll xs<=n:=by simp only[PyData.depth]at hn;lia
   unfold pyHash;unfold pyHashByItsType;refine aa (wpAny_cRoomFor_or (.inr (by lia)) ?_)
   refine aa (wpAny_specialOf hT F.slot_tuple_hash.lookup ?_);show wpAny _ _ (if(some (Value.builtin "tuple.__hash__")==some Value.none)=true then _ else _) Q E s
   rw[if_neg (by rw[beq_builtin_none];exact ba)]
   refine aa (wpAny_specialOf hT F.slot_tuple_hash.lookup ?_);show wpAny _ _ (callSpecialIfBoundUnlessNone? (.ref a) "__hash__" _ >>= _) Q E s;refine aa (wpAny_callSpecialIfBoundUnlessNone?_slot hT F.slot_tuple_hash (wpAny_call_entry F.slot_tuple_hash hT F.entry_tuple_hash ?_ (F.args_tuple_hash_1 _)));show wpAny _ _ (Builtin.Tuple.tupleItemsOf (.ref a) >>= _) _ _ s;refine aa (wpAny_tupleItemsOf ho hdat ?_);refine aa ?_;rw[<-Array.forIn_toList]
   refine wpAny_forIn_list _
    (λeA (b:Array Int) s'=>∃ds bs tk,ReadsAll s.heap eA ds bs/\hks ds=true/\PyData.depthAll ds<=n/\aFd xs=b.toList++aFd ds/\s.toks+drs xs=tk+drs ds/\s'={s with toks:=tk})
    _ ?_ ?_ _ _ ⟨xs,as,s.toks,hall,hd',hn',rfl,rfl,rfl⟩
   ·rintro x eA b s' ⟨ds,bs,tk,hra,k1,k2,k3,k4,rfl⟩
    cases hra with
    |@cons _ _ d1 ds1 as1 bs1 r1 r2=>
     simp only[hks,ar]at k1;simp only[PyData.depthAll]at k2;refine aa (ih d1 x as1 _ _ _ _ k1.1 (by lia) r1 (by have:=A.in1_units;lia) ?_)
     have k5:s.toks+drs xs=tk+dr d1+drs ds1:=by rw[k4];simp only[drs];lia
     first
      |exact ae ⟨ds1,bs1,_,r2,k1.2,by lia,by rw[k3];simp[aFd],k5,rfl⟩
      |exact aa (ae (ae ⟨ds1,bs1,_,r2,k1.2,by lia,by rw[k3];simp[aFd],k5,rfl⟩))
   ·rintro b s' ⟨ds,bs,tk,hra,k1,k2,k3,k4,rfl⟩;cases hra;simp only[aFd,List.append_nil]at k3;have h':=h;simp only[hsh,k3,dr,show s.toks+(drs xs+1)=tk+1 from by simp only[drs]at k4;lia]at h'
    show wpAny _ _ (retInt (Builtin.Tuple.tupleHashOf b.toList)) _ _ _;refine wpAny_ret_mkInt ?_;show wpAny _ _ (if(decide (-(2:Int)^63<=Builtin.Tuple.tupleHashOf b.toList)&&decide (Builtin.Tuple.tupleHashOf b.toList<2^63))=true then _ else _) Q E _
    unfold reduceHash at h'
    by_cases hr:(decide (-(2:Int)^63<=Builtin.Tuple.tupleHashOf b.toList)&&decide (Builtin.Tuple.tupleHashOf b.toList<2^63))=true
    ·rw[if_pos hr];rw[if_pos hr]at h';exact ae h'
    ·rw[if_neg hr];rw[if_neg hr]at h';exact aa (wpAny_rule (ae h'))
theorem aFf(n:Nat)(d:PyData)(v:Value)(as:List Addr)(A:Around)(s:Shared)(Q:Int->Shared->Prop)(E:cb)(h1:hk d=true)(h2:d.depth<=n)(h3:Reads s.heap v d as)(h4:A.units+n<cLine)(h: ∀tk,s.toks<=tk->Q (hsh d) {s with toks:=tk}):wpAny (model prog w) A (pyHash v) Q E s:=
 aFe n d v as A s Q E h1 h2 h3 h4 (h _ (Nat.le_add_right _ _))
theorem tQ: ∀(n:Nat) (d:PyData) (v:Value) (as:List Addr) (A:Around) (s:Shared) (Q:Bool->Shared->Prop) (E:cb),hk d=true->d.depth<=n->Reads s.heap v d as->Q true s->wpAny (model prog w) A (eqIsQuiet n v) Q E s:=by
 intro n
 induction n with
 |zero=>
  intro d v as A s Q E hd hn hr h
  cases hr with
  |tuple=>simp[PyData.depth]at hn
  |none=>rw[eqIsQuiet_byValue _ rfl];exact ae h
  |int i t=>rw[eqIsQuiet_byValue _ rfl];exact ae h
  |bool b=>cases hd
  |str x t=>cases hd
  |list=>cases hd
  |dict=>cases hd
 |succ n ih=>
  intro d v as A s Q E hd hn hr h
  cases hr with
  |none=>rw[eqIsQuiet_byValue _ rfl];exact ae h
  |int i t=>rw[eqIsQuiet_byValue _ rfl];exact ae h
  |bool b=>cases hd
  |str x t=>cases hd
  |list=>cases hd
  |dict=>cases hd
  |@tuple a o vs k xs as ho hc hdat hall=>
   have hT:s.TypeIs (.ref a) "tuple":=⟨o,ho,hc⟩
   have hd':hks xs=true:=by simpa[hk]using hd
   have hn':PyData.depthAll xs<=n:=by simp only[PyData.depth]at hn;lia
   unfold eqIsQuiet;refine aa (wpAny_specialOf hT F.slot_tuple_eq.lookup ?_);show wpAny _ _ (isInstance (.ref a) (.type "tuple") >>= _) _ _ s;refine aa (wpAny_isInstance hT isSubtype_tuple_tuple ?_);simp only[Bool.not_true,aw,if_false];refine aa (wpAny_seqItems ho hdat ?_);refine aa ?_;show wpAny _ _ (forIn vs _ _) _ _ s;rw[<-Array.forIn_toList];refine wpAny_forIn_list _ (λeA r s'=>r.1=none/\s'=s/\∃ds bs,ReadsAll s.heap eA ds bs/\hks ds=true/\PyData.depthAll ds<=n) _ ?_ ?_ _ _ ⟨rfl,rfl,xs,as,hall,hd',hn'⟩
   ·rintro x eA r s' ⟨hr,rfl,ds,bs,hra,k1,k2⟩
    cases hra with
    |@cons _ _ d1 ds1 as1 bs1 r1 r2=>
     simp only[hks,ar]at k1;simp only[PyData.depthAll]at k2;refine aa (ih d1 x as1 _ _ _ _ k1.1 (by lia) r1 ?_)
     simp only[Bool.not_true,aw,if_false];exact ae ⟨rfl,rfl,ds1,bs1,r2,k1.2,by lia⟩
   ·rintro⟨r1,r2⟩ s' ⟨hr,rfl,_⟩
    simp only at hr
    subst hr;exact ae h
theorem tR: ∀(n:Nat) (d:PyData) (v:Value) (as:List Addr) (A:Around) (s:Shared) (Q:Bool->Shared->Prop) (E:cb),hk d=true->d.depth<=n->Reads s.heap v d as->Q false s->wpAny (model prog w) A (ofAClassStatement n v) Q E s:=by
 intro n
 induction n with
 |zero=>
  intro d v as A s Q E hd hn hr h
  cases hr with
  |tuple=>simp[PyData.depth]at hn
  |none=>exact ae h
  |int i t=>exact ae h
  |bool b=>cases hd
  |str x t=>cases hd
  |list=>cases hd
  |dict=>cases hd
 |succ n ih=>
  intro d v as A s Q E hd hn hr h
  cases hr with
  |none=>exact ae h
  |int i t=>exact ae h
  |bool b=>cases hd
  |str x t=>cases hd
  |list=>cases hd
  |dict=>cases hd
  |@tuple a o vs k xs as ho hc hdat hall=>
   have hT:s.TypeIs (.ref a) "tuple":=⟨o,ho,hc⟩
   have hd':hks xs=true:=by simpa[hk]using hd
   have hn':PyData.depthAll xs<=n:=by simp only[PyData.depth]at hn;lia
   unfold ofAClassStatement;refine aa (wpAny_typeOf hT ?_)
   dsimp only
   rw[if_pos (by decide)]
   refine aa (ae ?_);simp only[Bool.not_true,aw,if_false];refine aa (wpAny_seqItems ho hdat ?_)
   dsimp only
   refine aa ?_;show wpAny _ _ (forIn vs _ _) _ _ s;rw[<-Array.forIn_toList];refine wpAny_forIn_list _ (λeA r s'=>r.1=none/\s'=s/\∃ds bs,ReadsAll s.heap eA ds bs/\hks ds=true/\PyData.depthAll ds<=n) _ ?_ ?_ _ _ ⟨rfl,rfl,xs,as,hall,hd',hn'⟩
   ·rintro x eA r s' ⟨hr,rfl,ds,bs,hra,k1,k2⟩
    cases hra with
    |@cons _ _ d1 ds1 as1 bs1 r1 r2=>
     simp only[hks,ar]at k1;simp only[PyData.depthAll]at k2;refine aa (ih d1 x as1 _ _ _ _ k1.1 (by lia) r1 ?_)
     simp only[aw,if_false];exact ae ⟨rfl,rfl,ds1,bs1,r2,k1.2,by lia⟩
   ·rintro⟨r1,r2⟩ s' ⟨hr,rfl,_⟩
    simp only at hr
    subst hr;exact ae h
theorem aA8: ∀(n:Nat) (d:PyData) (v:Value) (as:List Addr) (A:Around) (s:Shared) (Q:Bool->Shared->Prop) (E:cb),hk d=true->d.depth<=n->Reads s.heap v d as->Q true s->wpAny (model prog w) A (hashByValue n v) Q E s:=by
 intro n
 induction n with
 |zero=>
  intro d v as A s Q E hd hn hr h
  cases hr with
  |tuple=>simp[PyData.depth]at hn
  |none=>exact ae h
  |int i t=>exact ae h
  |bool b=>cases hd
  |str x t=>cases hd
  |list=>cases hd
  |dict=>cases hd
 |succ n ih=>
  intro d v as A s Q E hd hn hr h
  cases hr with
  |none=>exact ae h
  |int i t=>exact ae h
  |bool b=>cases hd
  |str x t=>cases hd
  |list=>cases hd
  |dict=>cases hd
  |@tuple a o vs k xs as ho hc hdat hall=>
   have hT:s.TypeIs (.ref a) "tuple":=⟨o,ho,hc⟩
   have hd':hks xs=true:=by simpa[hk]using hd
   have hn':PyData.depthAll xs<=n:=by simp only[PyData.depth]at hn;lia
   unfold hashByValue;refine aa (wpAny_specialOf hT F.slot_tuple_hash.lookup ?_);show wpAny _ _ (seqItems? (.ref a) >>= _) _ _ s;refine aa (wpAny_seqItems ho hdat ?_);refine aa ?_;show wpAny _ _ (forIn vs _ _) _ _ s;rw[<-Array.forIn_toList];refine wpAny_forIn_list _ (λeA r s'=>r.1=none/\s'=s/\∃ds bs,ReadsAll s.heap eA ds bs/\hks ds=true/\PyData.depthAll ds<=n) _ ?_ ?_ _ _ ⟨rfl,rfl,xs,as,hall,hd',hn'⟩
   ·rintro x eA r s' ⟨hr,rfl,ds,bs,hra,k1,k2⟩
    cases hra with
    |@cons _ _ d1 ds1 as1 bs1 r1 r2=>
     simp only[hks,ar]at k1;simp only[PyData.depthAll]at k2;refine aa (ih d1 x as1 _ _ _ _ k1.1 (by lia) r1 ?_)
     simp only[Bool.not_true,aw,if_false];exact ae ⟨rfl,rfl,ds1,bs1,r2,k1.2,by lia⟩
   ·rintro⟨r1,r2⟩ s' ⟨hr,rfl,_⟩
    simp only at hr
    subst hr;exact ae h
end
theorem pL: ∀(hs:List Nat),hs.Nodup->(∀h∈hs,h<17)->((List.range 32).filter λj=>decide (j∈hs)).Perm hs
 |[],_,_=>by simp
 |h::hs,hn,h16=>by
  have hn':=List.nodup_cons.mp hn;have ih:=pL hs hn'.2 λx hx=>h16 x (.tail _ hx)
  have one:(List.range 32).filter (λj=>decide (j=h))=[h]:=by
   have hh:=h16 h (.head _)
   have: ∀x<17,(List.range 32).filter (λj=>decide (j=x))=[x]:=by decide
   exact this h hh
  have sp:=(List.filter_append_perm (λj=>decide (j=h)) ((List.range 32).filter λj=>decide (j∈h::hs))).symm
  refine sp.trans ?_;rw[List.filter_filter,List.filter_filter]
  have a1:(List.range 32).filter (λa=>decide (a=h)&&decide (a∈h::hs))=[h]:=by
   rw[<-one];refine List.filter_congr λa _=>?_
   by_cases q:a=h<;>simp[q]
  have a2:(List.range 32).filter (λa=>(!decide (a=h))&&decide (a∈h::hs))=(List.range 32).filter λj=>decide (j∈hs):=by
   refine List.filter_congr λa _=>?_
   by_cases q:a=h
   ·subst q;simp[hn'.1]
   ·simp[q]
  rw[a1,a2];exact ih.cons h
def KH(q:SetTable×Array Int)(hs:List Nat):Prop:=
 ∃es ps:List Nat,q.2=(es.map Int.ofNat).toArray/\es.Perm hs/\ps.Pairwise (· < ·)/\ps.length=es.length/\((q.1=tab 7 0 ps/\(∀p∈ps,p<8)/\es.length<=4)\/(q.1=tab 31 1 ps/\ps.Perm es))
noncomputable def eP(es:Array (Int×Value))(ep:Nat)(t:SetTable):Obj:={cls:=.type "set",dict:=none,data:=.set es ep t}
def aOg(prog:Program)(w:World)(h:Heap)(a:Addr)(vs:List Value)(ns:List Nat):Prop:=
 ∃es ep t,h.get? a=some (eP es ep t)/\(es.toList.map (·.2)).Perm vs/\ElemsOf (intKind prog w) es.toList/\t.fits es.size=true/\(w.params.followText "set-order"=false->KH (t,es.map (·.1)) ns)
section
variable {prog:Program} {w:World} {A:Around} {E:cb} {s:Shared}
theorem pM{a:Addr}{es es':Array (Int×Value)}{ep:Nat}{t t':SetTable}{Q:Unit->Shared->Prop}(ho:s.heap.get? a=some (eP es ep t))(hz:es'.size<scanBound)
  (h: ∀h',Heap.SameBut a s.heap h'->h'.get? a=some (eP es' (ep+1) t')->Q () {s with heap:=h'}):wpAny (model prog w) A (storeSet a es' t') Q E s:=by
 refine wpAny_storeSet_of ho rfl ?_ (fits_of_scanBound hz);refine h _ (Heap.SameBut.update ..) ?_
 have:=Heap.get?_update_self (Obj.putSet es' t') ho rfl
 exact this
end
abbrev Ln:=List (Nat×Int×Value)
def aJj(L:Ln)(m mv ep:Nat)(led:Bool):Obj:=eP (L.map (·.2)).toArray ep (tbl m mv led (L.map (·.1)))
theorem l9{L:Ln}{m mv:Nat}{led:Bool}(h:L.length<=m):(tbl m mv led (L.map (·.1))).fits ((L.map (·.2)).toArray).size=true:=by
 unfold SetTable.fits SetTable.fill;simp[tbl,h]
theorem tU{L:Ln}{m mv:Nat}{led:Bool}(hT:TI m L){e:Nat×Int×Value}(he:e∈L): ∃i,(tbl m mv led (L.map (·.1))).slot e.1= .live i/\L[i]? =some e:=by
 obtain⟨i,hi,rfl⟩:=List.getElem_of_mem he;have hi':i<(L.map (·.1)).length:=by simpa using hi
 refine⟨i,?_,az hi⟩
 have:=aE8 (m:=m) (mv:=mv) (led:=led) hT.up hi'
 rwa [List.getElem_map]at this
section
variable {prog:Program} {w:World} {A:Around} {E:cb} {s:Shared}
theorem pN{a x:Addr}{L:Ln}{m mv ep:Nat}{led:Bool}{h:Int}{eqf:Nat×Int×Value->Bool}{Q:SetFound->Shared->Prop}(ho:s.heap.get? a=some (aJj L m mv ep led))(hT:TI m L)(hl:L.length<=m)(hodd:m % 2=1)
  (hEq: ∀e∈L,SeqAt.EqAt A s e.2.2 (.ref x) (eqf e)) (hR: ∀e∈L, ∃b,e.2.2= .ref b)
  (hS:led=false->∀(l:List Value) (Q':Bool->Shared->Prop),(∀y∈l, ∃e∈L,e.2.2=y)->Q' false s->wpAny (model prog w) A (searchCouldBeSeen (.ref x) l) Q' E s):
  ∀(n k fuel:Nat) (K:Nat) (stand:Option SetTable.Probe),K-k=n->k<=K->n<fuel->K<10*SetTable.turns m->stand.getD ((tbl m mv led (L.map (·.1))).probeStart h)=pr m h k->
   (∀b,b<K->∃e∈L,(pr m h b).j=e.1/\(e.2.1=h->eqf e=false))->
   (((pr m h K).j∉L.map (·.1)/\Q (.free (pr m h K).j false) s)\/(∃e∈L,(pr m h K).j=e.1/\e.2.1=h/\eqf e=true/\Q (.there none) s))->
   wpAny (model prog w) A (setSearchFrom a (.ref x) h true fuel stand) Q E s:=by
 intro n
 induction n using Nat.strongRecOn with
 |ind n ih=>
  intro k fuel K stand hn hk hf hK hst hb hend;obtain⟨fu,rfl⟩: ∃fu,fuel=fu+1:=⟨fuel-1,by lia⟩
  unfold setSearchFrom;refine aa (wpAny_setState_of ho rfl (l9 hl) ?_)
  dsimp only
  have hg:(tbl m mv led (L.map (·.1))).gaveWay=false:=by
   show(m % 2==0)=false
   rw[hodd];rfl
  rw[hg];simp only[aw,↓reduceIte];rw[hst]
  -- the first place that counts
  obtain⟨c,c1,c2,c3,c4⟩:=jW (P:=λb=>(pr m h b).j∉L.map (·.1)\/∃e∈L,(pr m h b).j=e.1/\e.2.1=h) _ k K rfl hk (by
   rcases hend with z|⟨e,z1,z2,z3,_⟩
   ·exact .inl z.1
   ·exact .inr ⟨e,z1,z2,z3⟩)
  have hpre: ∀b,k<=b->b<c->∃i,(tbl m mv led (L.map (·.1))).slot (pr m h b).j= .live i/\(((L.map (·.2)).toArray[i]?.map (·.1)).getD 0)≠h:=λb b1 b2=>by
   obtain⟨e,e1,e2,_⟩:=hb b (by lia)
   obtain⟨i,i1,i2⟩:=tU (mv:=mv) (led:=led) hT e1;refine⟨i,by rw[e2];exact i1,λz=>c4 b b1 b2 (.inr ⟨e,e1,e2,?_⟩)⟩
   simpa[i2]using z
  have hfl:c<k+10*SetTable.turns m:=by lia
  rcases c3 with c3|⟨e,e1,e2,e3⟩
  ·-- empty
   have ce:c=K:=by
    refine Classical.byContradiction λz=>?_
    obtain⟨e,e1,e2,_⟩:=hb c (by lia)
    exact c3 (by rw[e2];exact ao.mpr ⟨e,e1,rfl⟩)
   subst ce
   have hp:(tbl m mv led (L.map (·.1))).probe (λi=>((L.map (·.2)).toArray[i]?.map (·.1)).getD 0) h (pr m h k)=some (.empty (pr m h c).j none):=aJg c1 hfl hpre (aA6 c3)
   erw [hp]
   dsimp only
   rcases hend with z|⟨e,z1,z2,_⟩
   ·exact ae z.2
   ·exact absurd (by rw[z2];exact ao.mpr ⟨e,z1,rfl⟩) c3
  ·obtain⟨i,i1,i2⟩:=tU (mv:=mv) (led:=led) hT e1
   have hi:(L.map (·.2)).toArray[i]? =some e.2:=by simp[i2]
   have hp:(tbl m mv led (L.map (·.1))).probe (λi=>((L.map (·.2)).toArray[i]?.map (·.1)).getD 0) h (pr m h k)=some (.candidate (pr m h c).j i (pr m h (c+1))):=aJh c1 hfl hpre (by rw[e2];exact i1) (by rw[hi];exact e3)
   erw [hp]
   dsimp only
   have eA:wpAny (model prog w) A (do
     let some (_,y):=(L.map (·.2)).toArray[i]?|unsupported "internal:set-entry"
     let equal<-holding [y] (eqBool y (.ref x));let (es',_,t')<-setState a
     if true&&equal then return .there none
     let some same:=t'.sameMemory (tbl m mv led (L.map (·.1))).moves (tbl m mv led (L.map (·.1))).mask|unsupported "set.changed-during-lookup:is-the-new-block-at-the-old-address"
     let still<-match(if same then t'.slot (pr m h c).j else .empty)with
      |.live i'=>match es'[i']? with
       |some (_,y')=>do pure (if<-isSame y' y then some i' else none)
       |none=>pure none
      |_=>pure none
     match still with
     |none=>rule "set.search.anew";setSearchFrom a (.ref x) h true fu none
     |some i'=>if equal then return .there (some i')else setSearchFrom a (.ref x) h true fu (some (pr m h (c+1)))) Q E s:=by
    rw[hi];obtain⟨ep',eh,ev⟩:=e
    dsimp only
    refine aa (wpAny_holding (hEq _ e1 _ _ _ _ ?_));refine aa (wpAny_setState_of ho rfl (l9 hl) ?_)
    dsimp only
    cases hq:eqf (ep',eh,ev)with
    |true=>
     simp only[Bool.and_self,↓reduceIte]
     have ce:c=K:=by
      refine Classical.byContradiction λz=>?_
      obtain⟨e',e1',e2',e3'⟩:=hb c (by lia)
      have:e'=(ep',eh,ev):=by
       obtain⟨j,j1,j2⟩:=tU (mv:=mv) (led:=led) hT e1';rw[<-e2',e2,i1]at j1;cases j1;exact Option.some.inj (j2.symm.trans i2)
      subst this;rw[e3' e3]at hq;cases hq
     subst ce;rcases hend with z|⟨e',z1,z2,z3,z4,z5⟩
     ·exact absurd (by rw[e2];exact ao.mpr ⟨_,e1,rfl⟩) z.1
     ·exact ae z5
    |false=>
     simp only[Bool.and_false,aw,↓reduceIte]
     have hsm:(tbl m mv led (L.map (·.1))).sameMemory (tbl m mv led (L.map (·.1))).moves (tbl m mv led (L.map (·.1))).mask=some true:=by
      unfold SetTable.sameMemory;rw[if_pos (by simp)]
     rw[hsm];simp only[↓reduceIte];rw[e2,i1]
     dsimp only
     rw[hi]
     dsimp only
     obtain⟨b,rfl⟩:=hR _ e1;refine aa (wpAny_isSame_ref_self ?_);simp only[↓reduceIte];refine aa (ae ?_)
     dsimp only
     have ck:c<K:=by
      refine Nat.lt_of_le_of_ne c2 λz=>?_
      subst z;rcases hend with z|⟨e',z1,z2,z3,z4,z5⟩
      ·exact z.1 (by rw[e2];exact ao.mpr ⟨_,e1,rfl⟩)
      ·have:e'=(ep',eh,Value.ref b):=by
        obtain⟨j,j1,j2⟩:=tU (mv:=mv) (led:=led) hT z1;rw[<-z2,e2,i1]at j1;cases j1;exact Option.some.inj (j2.symm.trans i2)
       subst this;rw[z4]at hq;cases hq
     exact ih (K-(c+1)) (by lia) (c+1) fu K _ rfl (by lia) (by lia) hK rfl hb hend
   cases led with
   |true=>exact eA
   |false=>
    have hled:(tbl m mv false (L.map (·.1))).led=false:=rfl
    rw[hled];simp only[Bool.not_false,↓reduceIte];refine aa (hS rfl _ _ (λy hy=>?_) ?_)
    ·obtain⟨q,q1,q2⟩:=ao.mp hy
     have:q∈L.map (·.2):=by
      have:=(Array.mem_toList_iff.mp q1)
      have:=(Array.mem_filter.mp this).1
      simpa using this
     obtain⟨e',m1,m2⟩:=ao.mp this;exact⟨e',m1,by rw[m2,q2]⟩
    ·simp only[aw,↓reduceIte];exact eA
end
def Ms(m:Nat):Prop:=m=7\/m=31\/m=127\/m=511
theorem Ms.cyc{m:Nat}(h:Ms m):Cyc m:=by
 rcases h with rfl|rfl|rfl|rfl
 ·exact aOf
 ·exact aL4
 ·exact aJd
 ·exact aJe
theorem Ms.odd{m:Nat}(h:Ms m):m % 2=1:=by rcases h with rfl|rfl|rfl|rfl<;>rfl
def Key(h:Heap)(d:PyData)(v:Value):Prop:=(∃b,v= .ref b)/\hk d=true/\d.depth<=8/\∃as,Reads h v d as
section
variable {prog:Program} {w:World} {A:Around} {E:cb} {s:Shared}
theorem aFg{x:Addr}{d:PyData}(hx:Key s.heap d (.ref x))(l:List Value)(Q:Bool->Shared->Prop)(hl: ∀y∈l, ∃d',Key s.heap d' y)(h:Q false s):wpAny (model prog w) A (searchCouldBeSeen (.ref x) l) Q E s:=by
 obtain⟨_,hd,hn,as,hr⟩:=hx;unfold searchCouldBeSeen;refine aa ?_;refine wpAny_forIn_list _ (λeA r s'=>r.1=none/\s'=s/\∀y∈eA, ∃d',Key s.heap d' y) _ ?_ ?_ _ _ ⟨rfl,rfl,hl⟩
 ·rintro y eA r s' ⟨hr',rfl,hall⟩;obtain⟨d',⟨b,rfl⟩,hd',hn',as',r2⟩:=hall y (.head _);have hall': ∀y∈eA, ∃d',Key s'.heap d' y:=λy hy=>hall y (.tail _ hy)
  dsimp only[carriedByValue]
  simp only[Bool.and_self,Bool.or_false];split
  ·exact ae ⟨rfl,rfl,hall'⟩
  ·refine aa (tQ 8 d _ as _ _ _ _ hd hn hr ?_);simp only[Bool.not_true,aw,if_false];refine aa (tQ 8 d' _ as' _ _ _ _ hd' hn' r2 ?_);simp only[Bool.not_true,aw,if_false];refine aa (tR 8 d _ as _ _ _ _ hd hn hr ?_);simp only[aw,if_false];refine aa (tR 8 d' _ as' _ _ _ _ hd' hn' r2 ?_);simp only[aw,if_false];exact ae ⟨rfl,rfl,hall'⟩
 ·rintro⟨r1,r2⟩ s' ⟨hr',rfl,_⟩
  simp only at hr'
  subst hr';exact ae h
noncomputable def iI(L:Ln)(j:Nat)(h:Int)(v:Value):Ln:=L.take (SetTable.below (L.map (·.1)).toArray j)++(j,h,v)::L.drop (SetTable.below (L.map (·.1)).toArray j)
theorem mB(L:Ln)(j:Nat)(h:Int)(v:Value):(iI L j h v).Perm ((j,h,v)::L):=List.perm_middle.trans (List.Perm.of_eq (by rw[List.take_append_drop]))
theorem aL6{L:Ln}{m mv j:Nat}{led:Bool}(h:Int)(v:Value):(tbl m mv led (L.map (·.1))).put j=(tbl m mv led ((iI L j h v).map (·.1)),SetTable.below (L.map (·.1)).toArray j):=by
 unfold SetTable.put;refine Prod.ext ?_ rfl
 show({tbl m mv led (L.map (·.1))with place:=SetTable.insertAt (L.map (·.1)).toArray (SetTable.below (L.map (·.1)).toArray j) j,dummies:= #[]}:SetTable)=_
 have e:SetTable.insertAt (L.map (·.1)).toArray (SetTable.below (L.map (·.1)).toArray j) j=((iI L j h v).map (·.1)).toArray:=by
  apply Array.toList_inj.mp;rw[SetTable.toList_insertAt];simp[iI]
 rw[e];rfl
theorem aL7{L:Ln}{j:Nat}(h:Int)(v:Value):SetTable.insertAt (L.map (·.2)).toArray (SetTable.below (L.map (·.1)).toArray j) (h,v)=((iI L j h v).map (·.2)).toArray:=by
 apply Array.toList_inj.mp;rw[SetTable.toList_insertAt];simp[iI]
theorem TI.add{L:Ln}{m K:Nat}{h:Int}(hT:TI m L)(v:Value)(h1:K<10*SetTable.turns m)(h2:(pr m h K).j∉L.map (·.1))(h3: ∀b,b<K->(pr m h b).j∈L.map (·.1)):TI m (iI L (pr m h K).j h v):=by
 have pe:=mB L (pr m h K).j h v;have sub: ∀y∈L.map (·.1),y∈(iI L (pr m h K).j h v).map (·.1):=λy hy=>(pe.map (·.1)).mem_iff.mpr (.tail _ hy)
 refine⟨?_,λx hx=>?_,λx hx=>?_⟩
 ·obtain⟨qs,e,r,_⟩:=xQ hT.up h2
  have:(iI L (pr m h K).j h v).map (·.1)=qs:=by
   have e2:SetTable.insertAt (L.map (·.1)).toArray (SetTable.below (L.map (·.1)).toArray (pr m h K).j) (pr m h K).j=((iI L (pr m h K).j h v).map (·.1)).toArray:=by
    apply Array.toList_inj.mp;rw[SetTable.toList_insertAt];simp[iI]
   have:=e2.symm.trans e
   simpa using this
  rw[this];exact r
 ·rcases aq.mp (pe.mem_iff.mp hx)with rfl|hx
  ·exact aA7 h K
  ·exact hT.le x hx
 ·rcases aq.mp (pe.mem_iff.mp hx)with rfl|hx
  ·exact⟨K,h1,rfl,λb hb=>sub _ (h3 b hb)⟩
  ·exact(hT.rch x hx).mono sub
theorem aFh{a x:Addr}{L:Ln}{m mv ep:Nat}{led:Bool}{d:PyData}{Q:Bool->Shared->Prop}(hu:A.units+8<cLine)(ho:s.heap.get? a=some (aJj L m mv ep led))(hT:TI m L)(hm:Ms m)(hl:L.length*5<m*3)(h76:L.length<306)
  (hx:Key s.heap d (.ref x)) (hE: ∀e∈L, ∃d',Key s.heap d' e.2.2/\e.2.1=hsh d')
  (old:(∃e∈L, ∃d',Key s.heap d' e.2.2/\PyData.eqv d' d=true)->Q false s)
  (new:(∀e∈L, ∀d',Key s.heap d' e.2.2->PyData.eqv d' d=false)->∀(h':Heap) (L':Ln) (m' mv' ep':Nat),Heap.SameBut a s.heap h'->h'.get? a=some (aJj L' m' mv' ep' led)->TI m' L'->Ms m'->L'.length*5<m'*3->(L'.map (·.2)).Perm ((hsh d,.ref x)::L.map (·.2))->Q true {s with heap:=h'}):
  wpAny (model prog w) A (setAddHashed a (.ref x) (hsh d)) Q E s:=by
 have hlm:L.length<=m:=by rcases hm with rfl|rfl|rfl|rfl<;>lia
 have hbs:byScan (.ref x) (L.map (·.2)).toArray=false:=rfl
 unfold setAddHashed setAddHashedIn;refine wpAny_holding (aa (wpAny_setState_of ho rfl (l9 hlm) ?_))
 dsimp only
 rw[hbs];simp only[aw,↓reduceIte];obtain⟨_,hd,hn,as,hr⟩:=id hx
 -- what is compared
 have lay: ∀{d:PyData},hk d=true->d.canLay0=true:=by
  intro d;exact tN d
 obtain⟨eqf,hef⟩: ∃eqf:Nat×Int×Value->Bool, ∀e,eqf e=true↔ ∃d',Key s.heap d' e.2.2/\PyData.eqv d' d=true:=⟨λe=> @decide _ (Classical.propDecidable (∃d',Key s.heap d' e.2.2/\PyData.eqv d' d=true)),λe=>by simp⟩
 have uniq: ∀{v:Value} {d1 d2:PyData},Key s.heap d1 v->Key s.heap d2 v->d1=d2:=λ{v d1 d2} k1 k2=>by
  obtain⟨_,a1,_,b1,c1⟩:=k1;obtain⟨_,a2,_,b2,c2⟩:=k2;exact SeqAt.Reads.unique d1 d2 v b1 b2 (lay a1) c1 c2
 have hEq: ∀e∈L,SeqAt.EqAt A s e.2.2 (.ref x) (eqf e):=λe he=>by
  obtain⟨d',k',_⟩:=hE e he;obtain⟨_,a2,a3,b2,c2⟩:=id k'
  have:=SeqAt.eqAt_reads d' d A s e.2.2 (.ref x) b2 as c2 hr (lay a2) (lay hd) (by lia)
  have ee:eqf e=PyData.eqv d' d:=by
   cases z:PyData.eqv d' d with
   |true=>exact(hef e).mpr ⟨d',k',z⟩
   |false=>
    refine Bool.eq_false_iff.mpr λt=>?_
    obtain⟨d2,k2,z2⟩:=(hef e).mp t;rw[uniq k2 k',z]at z2;cases z2
  rw[ee];exact this
 have hS:led=false->∀(l:List Value) (Q':Bool->Shared->Prop),(∀y∈l, ∃e∈L,e.2.2=y)->Q' false s->wpAny (model prog w) A (searchCouldBeSeen (.ref x) l) Q' E s:=λ_ l Q' hl' hq'=>aFg hx l Q' (λy hy=>by
  obtain⟨e,he,rfl⟩:=hl' y hy;obtain⟨d',k',_⟩:=hE e he;exact⟨d',k'⟩) hq'
 have hRf: ∀e∈L, ∃b,e.2.2= .ref b:=λe he=>by
  obtain⟨d',k',_⟩:=hE e he;exact k'.1
 unfold setSearch
 by_cases hin: ∃e∈L, ∃d',Key s.heap d' e.2.2/\PyData.eqv d' d=true
 ·-- it is there
  obtain⟨e,he,d',k',z⟩:=id hin
  have eh:e.2.1=hsh d:=by
   obtain⟨d2,k2,e2⟩:=hE e he;rw[e2,uniq k2 k',xW d' d k'.2.1 hd z]
  obtain⟨K0,r1,r2,r3⟩:=hT.rch e he;rw[eh]at r2 r3;obtain⟨c,c1,c2,c3,c4⟩:=jW (P:=λb=>∃e∈L,(pr m (hsh d) b).j=e.1/\e.2.1=hsh d/\eqf e=true) _ 0 K0 rfl (bq _) ⟨e,he,r2,eh,(hef e).mpr ⟨d',k',z⟩⟩
  refine aa (pN ho hT hlm hm.odd hEq hRf hS _ 0 100000 c none rfl (bq _) (by have:SetTable.turns m=m+15:=rfl;rcases hm with rfl|rfl|rfl|rfl<;>lia) (by lia) rfl (λb hb=>?_) (.inr ?_))
  ·obtain⟨e',m1,m2⟩:=ao.mp (r3 b (by lia))
   refine⟨e',m1,m2.symm,λq=>?_⟩
   cases ef:eqf e' with
   |false=>rfl
   |true=>exact absurd ⟨e',m1,m2.symm,q,ef⟩ (c4 b (bq _) hb)
  ·obtain⟨e',m1,m2,m3,m4⟩:=c3;exact⟨e',m1,m2,m3,m4,ae (old hin)⟩
 ·-- it is new
  obtain⟨K,k1,k2,k3⟩:=xT hm.cyc (hsh d) (ps:=L.map (·.1)) (by simpa using hlm)
  have hno: ∀e∈L, ∀d',Key s.heap d' e.2.2->PyData.eqv d' d=false:=λe he d' k'=>by
   cases z:PyData.eqv d' d with
   |false=>rfl
   |true=>exact absurd ⟨e,he,d',k',z⟩ hin
  refine aa (pN ho hT hlm hm.odd hEq hRf hS _ 0 100000 K none rfl (bq _) (by have:SetTable.turns m=m+15:=rfl;rcases hm with rfl|rfl|rfl|rfl<;>lia) k1 rfl (λb hb=>?_) (.inl ⟨k2,?_⟩))
  ·obtain⟨e',m1,m2⟩:=ao.mp (k3 b hb);refine⟨e',m1,m2.symm,λq=>Bool.eq_false_iff.mpr λt=>?_⟩
   obtain⟨d',k',z⟩:=(hef e').mp t;rw[hno e' m1 d' k']at z;cases z
  ·dsimp only
   refine aa (wpAny_setState_of ho rfl (l9 hlm) ?_)
   dsimp only
   rw[aL6 (hsh d) (.ref x)]
   dsimp only
   have hp:(tbl m mv led ((iI L (pr m (hsh d) K).j (hsh d) (.ref x)).map (·.1))).plain=true:=rfl
   rw[hp];simp only[↓reduceIte];refine aa (aA8 8 d _ as _ _ _ _ hd hn hr ?_);simp only[↓reduceIte];rw[aL7];have T1:=hT.add (.ref x) k1 k2 k3;have pe:=mB L (pr m (hsh d) K).j (hsh d) (.ref x)
   have len1:(iI L (pr m (hsh d) K).j (hsh d) (.ref x)).length=L.length+1:=by rw[pe.length_eq];rfl
   have pe2:=pe.map (·.2)
   generalize iI L (pr m (hsh d) K).j (hsh d) (.ref x)=L1 at T1 pe len1 pe2 ⊢;have hsz1:((L1.map (·.2)).toArray).size<scanBound:=by simp[len1,scanBound];lia
   refine aa (pM ho hsz1 λh1 sb1 ho1=>?_)
   have hfull:(tbl m mv led (L1.map (·.1))).tooFull=decide ((L.length+1)*5≥m*3):=by
    unfold SetTable.tooFull SetTable.fill;simp[tbl,len1]
   rw[hfull]
   by_cases hf:(L.length+1)*5≥m*3
   ·rw[decide_eq_true hf];simp only[Bool.not_false,Bool.and_self,↓reduceIte]
    obtain⟨m',hm',hsz,hsl,hcap⟩: ∃m',Ms m'/\SetTable.sizeAbove (SetTable.grown ((L.map (·.2)).toArray.size+1))-1=m'/\SetTable.sizeAbove (SetTable.grown ((L.map (·.2)).toArray.size+1))<=512/\(L.length+1)*5<m'*3:=by
     have e0:(L.map (·.2)).toArray.size=L.length:=by simp
     rw[e0];rcases hm with rfl|rfl|rfl|rfl
     ·have:L.length=4:=by lia
      rw[this];exact⟨31,.inr (.inl rfl),by decide,by decide,by decide⟩
     ·have:L.length=18:=by lia
      rw[this];exact⟨127,.inr (.inr (.inl rfl)),by decide,by decide,by decide⟩
     ·have:L.length=76:=by lia
      rw[this];exact⟨511,.inr (.inr (.inr rfl)),by decide,by decide,by decide⟩
     ·lia
    have hlm1:L1.length<=m:=by rw[len1];rcases hm with rfl|rfl|rfl|rfl<;>lia
    unfold setRelay
    have ho1':h1.get? a=some (aJj L1 m mv (ep+1) led):=ho1
    refine aa (aa (wpAny_setState_of ho1' rfl (l9 hlm1) ?_))
    dsimp only
    rw[if_neg (by rw[sizeLine_eq];lia)]
    have hrl:(tbl m mv led (L1.map (·.1))).relaid ((L1.map (·.2)).toArray.map (·.1)) (SetTable.grown ((L.map (·.2)).toArray.size+1))=SetTable.laid m' 0 ((tbl m mv led (L1.map (·.1))).movedTo m') led true ((L1.map (·.2)).map (·.1)).toArray:=by
     unfold SetTable.relaid;rw[hsz,List.map_toArray];rfl
    obtain⟨L2,order,g1,g2,g3,g4⟩:=aFc (m:=m') (f:=0) (mv:=(tbl m mv led (L1.map (·.1))).movedTo m') (led:=led) hm'.cyc (es:=L1.map (·.2)) (by rw[am,len1];rcases hm' with rfl|rfl|rfl|rfl<;>lia)
    rw[hrl,g1]
    have aAg:L2.length=L.length+1:=by have:=g4.length_eq;simp[len1]at this;exact this
    have hz2:((L2.map (·.2)).toArray).size=((L1.map (·.2)).toArray).size:=by simp[aAg,len1]
    refine aa ?_;show wpAny _ _ (if((order.filterMap ((L1.map (·.2)).toArray[·]?)).size != ((L1.map (·.2)).toArray).size)=true then _ else _) _ _ _
    rw[g2,hz2];simp only[bne_self_eq_false,aw,↓reduceIte];refine ae ?_
    dsimp only
    refine pM (s:={s with heap:=h1}) ho1 (by rw[hz2];exact hsz1) λh2 sb2 ho2=>ae ?_
    exact new hno h2 L2 m' _ _ (sb1.trans sb2) ho2 g3 hm' (by rw[aAg];exact hcap) (g4.trans pe2)
   ·rw[decide_eq_false hf];simp only[Bool.not_false,Bool.and_false,aw,↓reduceIte];exact ae (new hno h1 L1 m mv _ sb1 ho1 T1 hm (by rw[len1];lia) pe2)
end
mutual
theorem iJ: ∀{x y:D},same x y=true->(cO x).length=(cO y).length
 |.int _,y,h=>by cases y<;>simp[same]at h;rfl
 |.tup xs,y,h=>by
  cases y<;>simp[same]at h
  simp only[cO];exact pO h
 |.non,_,h=>by simp[same]at h
 |.bl _,_,h=>by simp[same]at h
 |.str _,_,h=>by simp[same]at h
 |.lst _,_,h=>by simp[same]at h
 |.exc _,_,h=>by simp[same]at h
 |.fn _,_,h=>by simp[same]at h
theorem pO: ∀{xs ys:List D},bK xs ys=true->(dM xs).length=(dM ys).length
 |[],[],_=>rfl
 |[],_::_,h=>by simp[bK]at h
 |_::_,[],h=>by simp[bK]at h
 |x::xs,y::ys,h=>by
  simp only[bK,ar]at h;simp only[dM,bj,iJ h.1,pO h.2]
end
mutual
theorem jX: ∀{x y:D},same x y=true->cO x=cO y->x=y
 |.int _,y,h,e=>by cases y<;>simp[same]at h;simpa[cO]using e
 |.tup xs,y,h,e=>by
  cases y<;>simp[same]at h
  simp only[cO]at e;rw[pP h e]
 |.non,_,h,_=>by simp[same]at h
 |.bl _,_,h,_=>by simp[same]at h
 |.str _,_,h,_=>by simp[same]at h
 |.lst _,_,h,_=>by simp[same]at h
 |.exc _,_,h,_=>by simp[same]at h
 |.fn _,_,h,_=>by simp[same]at h
theorem pP: ∀{xs ys:List D},bK xs ys=true->dM xs=dM ys->xs=ys
 |[],[],_,_=>rfl
 |[],_::_,h,_=>by simp[bK]at h
 |_::_,[],h,_=>by simp[bK]at h
 |x::xs,y::ys,h,e=>by
  simp only[bK,ar]at h;simp only[dM]at e;obtain⟨e1,e2⟩:=List.append_inj e (iJ h.1);rw[jX h.1 e1,pP h.2 e2]
end
mutual
theorem gG: ∀{x y:D},same x y=true->deq x y=(cO x==cO y)
 |.int i,y,h=>by
  cases y<;>simp[same]at h
  simp[deq,cO]
 |.tup xs,y,h=>by
  cases y<;>simp[same]at h
  simp only[deq,cO];exact pQ h
 |.non,_,h=>by simp[same]at h
 |.bl _,_,h=>by simp[same]at h
 |.str _,_,h=>by simp[same]at h
 |.lst _,_,h=>by simp[same]at h
 |.exc _,_,h=>by simp[same]at h
 |.fn _,_,h=>by simp[same]at h
theorem pQ: ∀{xs ys:List D},bK xs ys=true->qZ xs ys=(dM xs==dM ys)
 |[],[],_=>rfl
 |[],_::_,h=>by simp[bK]at h
 |_::_,[],h=>by simp[bK]at h
 |x::xs,y::ys,h=>by
  simp only[bK,ar]at h;simp only[qZ,dM,gG h.1,pQ h.2];rw[Bool.eq_iff_iff];simp only[ar,beq_iff_eq];constructor
  ·rintro⟨a,b⟩;rw[a,b]
  ·intro e;exact List.append_inj e (iJ h.1)
end
mutual
theorem i3: ∀{x:D},same x x=true->hk (bU x)=true
 |.int _,_=>by simp[bU,hk]
 |.tup xs,h=>by
  simp only[bU,hk];exact tV (by simpa[same]using h)
 |.non,h=>by simp[same]at h
 |.bl _,h=>by simp[same]at h
 |.str _,h=>by simp[same]at h
 |.lst _,h=>by simp[same]at h
 |.exc _,h=>by simp[same]at h
 |.fn _,h=>by simp[same]at h
theorem tV: ∀{xs:List D},bK xs xs=true->hks (aZ xs)=true
 |[],_=>by simp[aZ,hks]
 |x::xs,h=>by
  simp only[bK,ar]at h;simp[aZ,hks,i3 h.1,tV h.2]
end
mutual
theorem b8: ∀{x:D},same x x=true->plain x=true
 |.int _,_=>by simp[plain]
 |.tup xs,h=>by
  simp only[plain];exact kY (by simpa[same]using h)
 |.non,h=>by simp[same]at h
 |.bl _,h=>by simp[same]at h
 |.str _,h=>by simp[same]at h
 |.lst _,h=>by simp[same]at h
 |.exc _,h=>by simp[same]at h
 |.fn _,h=>by simp[same]at h
theorem kY: ∀{xs:List D},bK xs xs=true->aK xs=true
 |[],_=>by simp[aK]
 |x::xs,h=>by
  simp only[bK,ar]at h;simp[aK,b8 h.1,kY h.2]
end
mutual
theorem pR: ∀{x y:D},same x y=true->same y y=true/\same x x=true/\dep y=dep x
 |.int _,y,h=>by cases y<;>simp[same]at h;simp[same,dep]
 |.tup xs,y,h=>by
  cases y<;>simp[same]at h
  simp only[same,dep]
  have:=xX h
  exact⟨this.1,this.2.1,by rw[this.2.2]⟩
 |.non,_,h=>by simp[same]at h
 |.bl _,_,h=>by simp[same]at h
 |.str _,_,h=>by simp[same]at h
 |.lst _,_,h=>by simp[same]at h
 |.exc _,_,h=>by simp[same]at h
 |.fn _,_,h=>by simp[same]at h
theorem xX: ∀{xs ys:List D},bK xs ys=true->bK ys ys=true/\bK xs xs=true/\mV ys=mV xs
 |[],[],_=>⟨rfl,rfl,rfl⟩
 |[],_::_,h=>by simp[bK]at h
 |_::_,[],h=>by simp[bK]at h
 |x::xs,y::ys,h=>by
  simp only[bK,ar]at h;have a:=pR h.1;have b:=xX h.2;simp only[bK,mV,a.1,b.1,a.2.1,b.2.1,a.2.2,b.2.2,Bool.and_self,and_self]
end
mutual
theorem xY: ∀{x y z:D},same x y=true->same x z=true->same y z=true
 |.int _,y,z,h,k=>by cases y<;>simp[same]at h;cases z<;>simp[same]at k;rfl
 |.tup xs,y,z,h,k=>by
  cases y<;>simp[same]at h
  cases z<;>simp[same]at k
  simp only[same];exact tW h k
 |.non,_,_,h,_=>by simp[same]at h
 |.bl _,_,_,h,_=>by simp[same]at h
 |.str _,_,_,h,_=>by simp[same]at h
 |.lst _,_,_,h,_=>by simp[same]at h
 |.exc _,_,_,h,_=>by simp[same]at h
 |.fn _,_,_,h,_=>by simp[same]at h
theorem tW: ∀{xs ys zs:List D},bK xs ys=true->bK xs zs=true->bK ys zs=true
 |[],[],[],_,_=>rfl
 |[],_::_,_,h,_=>by simp[bK]at h
 |[],[],_::_,_,h=>by simp[bK]at h
 |_::_,[],_,h,_=>by simp[bK]at h
 |_::_,_::_,[],_,h=>by simp[bK]at h
 |x::xs,y::ys,z::zs,h,k=>by
  simp only[bK,ar]at h k ⊢;exact⟨xY h.1 k.1,tW h.2 k.2⟩
end
theorem nK: ∀{a b:List Int} {r t:List Int},a.length=b.length->eN (a++r) (b++t)=if a=b then eN r t else eN a b
 |[],[],_,_,_=>by simp
 |[],_::_,_,_,h=>by simp at h
 |_::_,[],_,_,h=>by simp at h
 |x::a,y::b,r,t,h=>by
  have ih:=nK (a:=a) (b:=b) (r:=r) (t:=t) (by simpa using h)
  simp only[List.cons_append,eN]
  by_cases e:x=y
  ·subst e;simp only[↓reduceIte,ih,List.cons.injEq,true_and]
  ·simp[e]
theorem mC: ∀{xs ys:List D},bK xs ys=true->xs.length=ys.length
 |[],[],_=>rfl
 |[],_::_,h=>by simp[bK]at h
 |_::_,[],h=>by simp[bK]at h
 |x::xs,y::ys,h=>by
  simp only[bK,ar]at h;simp[mC h.2]
section
variable {prog:Program} {w:World}
theorem aL8: ∀(n:Nat) (x y:D) (u v:Value) (as bs:List Addr) (A:Around) (s:Shared) (Q:cb) (E:cb),same x y=true->dep x<=n->Reads s.heap u (bU x) as->Reads s.heap v (bU y) bs->A.units+n<cLine->Q (.bool (ltD x y)) s->wpAny (model prog w) A (richCompare .Lt u v) Q E s:=by
 intro n
 have hint: ∀(i j:Int) (u v:Value) (as bs:List Addr) (A:Around) (s:Shared) (Q:cb) (E:cb),Reads s.heap u (bU (.int i)) as->Reads s.heap v (bU (.int j)) bs->Q (.bool (ltD (.int i) (.int j))) s->wpAny (model prog w) A (richCompare .Lt u v) Q E s:=by
  intro i j u v as bs A s Q E r1 r2 h;simp only[bU]at r1 r2;cases r1;cases r2
  have e:ltD (.int i) (.int j)=decide (i<j):=by
   unfold ltD cO eN
   by_cases z:i=j
   ·subst z;simp[eN]
   ·simp[z]
  rw[e]at h;exact wpAny_lt_int h
 induction n with
 |zero=>
  intro x y u v as bs A s Q E hs hn r1 r2 hu h
  cases x<;>try (simp[same]at hs;done)
  ·cases y<;>simp[same]at hs
   exact hint _ _ u v as bs A s Q E r1 r2 h
  ·simp[dep]at hn
 |succ n ih=>
  intro x y u v as bs A s Q E hs hn r1 r2 hu h
  cases x<;>try (simp[same]at hs;done)
  ·cases y<;>simp[same]at hs
   exact hint _ _ u v as bs A s Q E r1 r2 h
  ·rename_i xs
   cases y<;>simp[same]at hs
   rename_i ys;simp only[dep]at hn
   have h':Q (.bool (eN (dM xs) (dM ys))) s:=by
    have:ltD (.tup xs) (.tup ys)=eN (dM xs) (dM ys):=by simp[ltD,cO]
    rw[<-this];exact h
   simp only[bU]at r1 r2
   cases r1 with
   |@tuple a oa us na _ as1 ho1 hc1 hd1 ra=>
    cases r2 with
    |@tuple b ob vs nb _ bs1 ho2 hc2 hd2 rb=>
     have hT1:s.TypeIs (.ref a) "tuple":=⟨oa,ho1,hc1⟩;have hT2:s.TypeIs (.ref b) "tuple":=⟨ob,ho2,hc2⟩;refine wpAny_richCompare_same_room (op:=.Lt) hT1 hT2 PySem.F.slot_tuple_lt (wpAny_call_entry PySem.F.slot_tuple_lt hT1 PySem.F.entry_tuple_lt ?_ (PySem.F.args_tuple_lt_2 _ _)) (by lia)
     show wpAny _ _ (isInstance (.ref b) (.type "tuple") >>= _) _ _ s;refine aa (wpAny_isInstance hT2 isSubtype_tuple_tuple ?_);simp only[Bool.not_true,aw,if_false];refine aa (wpAny_tupleItemsOf ho1 hd1 ?_);refine aa (wpAny_tupleItemsOf ho2 hd2 ?_);refine aa ?_
     refine wpAny_forIn_list _
      (λeA r s'=>r.1=none/\s'=s/\∃xs' ys' us' vs' as' bs',eA=List.zip us' vs'/\ReadsAll s.heap us' (aZ xs') as'/\ReadsAll s.heap vs' (aZ ys') bs'/\bK xs' ys'=true/\mV xs'<=n/\eN (dM xs') (dM ys')=eN (dM xs) (dM ys))
      _ ?_ ?_ _ _ ⟨rfl,rfl,xs,ys,us.toList,vs.toList,as,bs,rfl,ra,rb,hs,by lia,rfl⟩
     ·rintro⟨p,q⟩ eA r s' ⟨hr,rfl,xs',ys',us',vs',as',bs',hz,ra',rb',hs',hn',hl'⟩
      cases xs' with
      |nil=>
       simp only[aZ]at ra';cases ra'
       simp at hz
      |cons x1 xs1=>
       cases ys' with
       |nil=>simp[bK]at hs'
       |cons y1 ys1=>
        simp only[aZ]at ra' rb'
        cases ra' with
        |@cons u1 us1 _ _ a1 a2 ru ra2=>
         cases rb' with
         |@cons v1 vs1 _ _ b1 b2 rv rb2=>
          simp only[List.zip_cons_cons,List.cons.injEq,Prod.mk.injEq]at hz;obtain⟨⟨rfl,rfl⟩,rfl⟩:=hz;simp only[bK,ar]at hs';simp only[mV]at hn';obtain⟨s1,s2,s3⟩:=pR hs'.1;have p1:=b8 s2;have p2:=b8 s1;have heq:=SeqAt.eqAt_reads (bU x1) (bU y1) A.in1 s' p q a1 b1 ru rv (fM p1) (fM p2) (by rw[fN,fN];have:=A.in1_units;lia)
          rw[eG x1 y1 p1 p2,gG hs'.1]at heq;refine aa (heq prog w _ _ ?_);simp only[dM]at hl';rw[nK (iJ hs'.1)]at hl'
          by_cases hk:cO x1=cO y1
          ·rw[if_pos hk]at hl';rw[hk];simp only[beq_self_eq_true,Bool.not_true,aw,if_false];exact ae ⟨rfl,rfl,xs1,ys1,us1,vs1,a2,b2,rfl,ra2,rb2,hs'.2,by lia,hl'⟩
          ·rw[if_neg hk]at hl'
           have e:(cO x1==cO y1)=false:=by simpa using hk
           rw[e];simp only[Bool.not_false,if_true];refine aa (wpAny_rule (aa (ih x1 y1 p q a1 b1 A.in1 s' _ _ hs'.1 (by lia) ru rv (by have:=A.in1_units;lia) ?_)))
           refine aa (ae (ae (ae ?_)))
           have:ltD x1 y1=eN (dM xs) (dM ys):=hl'
           rw[this];exact⟨_,rfl,(λe=>nomatch e),h'⟩
     ·rintro⟨r1,r2⟩ s' ⟨hr,rfl,xs',ys',us',vs',as',bs',hz,ra',rb',hs',hn',hl'⟩
      simp only at hr
      subst hr;refine ae ?_
      cases xs' with
      |cons x1 xs1=>
       cases ys' with
       |nil=>simp[bK]at hs'
       |cons y1 ys1=>
        simp only[aZ]at ra' rb';cases ra';cases rb'
        simp at hz
      |nil=>
       cases ys' with
       |cons y1 ys1=>simp[bK]at hs'
       |nil=>
        have hsz:us.size=vs.size:=by
         have l1:=SeqAt.ReadsAll.length _ _ _ ra;have l2:=SeqAt.ReadsAll.length _ _ _ rb
         have:=mC hs
         have e1: ∀l:List D,(aZ l).length=l.length:=λl=>by induction l with|nil=>rfl|cons a l ih=>simp[aZ,ih]
         rw[e1]at l1 l2
         have q:us.toList.length=vs.toList.length:=by rw[l1,l2];exact this
         simpa using q
        have e:eN (dM xs) (dM ys)=false:=by rw[<-hl'];rfl
        rw[e]at h';refine⟨_,rfl,(λe=>nomatch e),?_⟩
        show Q (.bool (decide (us.size<vs.size))) s';rw[hsz,decide_eq_false (Nat.lt_irrefl _)];exact h'
end
section
variable {O:KeyOrd} {key:Nat->O.α} {n:Nat} {cmp:Nat->Nat->(Bool->Shared->Prop)->Shared->Prop} {s:Shared}
noncomputable def PK(key:Nat->O.α)(p:Array Nat)(i:Nat):O.α:=key (p.getD i 0)
def Gd(n:Nat)(p:Array Nat):Prop:=p.Perm (List.toArray (List.range n))
theorem Gd.size{p:Array Nat}(g:Gd n p):p.size=n:=by rw[Array.Perm.size_eq g];simp
theorem Gd.lt{p:Array Nat}(g:Gd n p){i:Nat}(hi:i<n):p.getD i 0<n:=by
 have h:i<p.size:=by rw[g.size];exact hi
 have e:p.getD i 0=p[i]:=by simp[Array.getD,h]
 have m:p[i]∈p:=Array.getElem_mem h
 have:=(Array.Perm.mem_iff g).mp m
 rw[e];simpa using this
def Srt(key:Nat->O.α)(p:Array Nat)(m:Nat):Prop:= ∀i j,i<=j->j<m->O.kle (PK key p i) (PK key p j)
def Cm(key:Nat->O.α)(n:Nat)(cmp:Nat->Nat->(Bool->Shared->Prop)->Shared->Prop)(s:Shared):Prop:= ∀i j (C:Bool->Shared->Prop),i<n->j<n->C (O.blt (key i) (key j)) s->cmp i j C s
end
noncomputable def rK1(r:Keyed->Nat)(xs:Array Keyed)(i:Nat):Nat:=match xs[i]? with
 |some p=>r p
 |none=>0
structure SB(κ:SortKind)(a₀:Array Keyed)(st:SortSt):Prop where
 perm:(arrOf st).Perm a₀
 kind:kindOf st=κ
 failed:failedOf st=none
theorem fC{r:Keyed->Nat}{xs ys:Array Keyed}{i j:Nat}(h:xs[i]? =ys[j]?):rK1 r xs i=rK1 r ys j:=by unfold rK1;rw[h]
theorem pS{r:Keyed->Nat}{xs:Array Keyed}{i:Nat}(h:i<xs.size):rK1 r xs i=r xs[i]:=by unfold rK1;rw[getElem?_pos xs i h]
section
variable {prog:Program} {w:World} {A:Around} {E:cb} {s:Shared} {κ:SortKind} {a₀:Array Keyed} {r:Keyed->Nat}
theorem SB.size{st:SortSt}(h:SB κ a₀ st):(arrOf st).size=a₀.size:=h.perm.size_eq
theorem SB.set{st:SortSt}(h:SB κ a₀ st){xs:Array Keyed}(hp:xs.Perm (arrOf st)):SB κ a₀ (setArr st xs):=⟨hp.trans h.perm,h.kind,h.failed⟩
theorem SB.mem{st:SortSt}(h:SB κ a₀ st){i:Nat}(hi:i<(arrOf st).size):(arrOf st)[i]∈a₀.toList:=(Array.perm_iff_toList_perm.mp h.perm).mem_iff.mp (by simp)
def u7(prog:Program)(w:World)(A:Around)(s:Shared)(κ:SortKind)(a₀:Array Keyed)(r:Keyed->Nat):Prop:=
 (∀x y,x∈a₀.toList->y∈a₀.toList->wpAny (model prog w) A (keyLt' κ x.1 y.1) (λb s'=>s'=s/\b=decide (r x<r y)) (λ_ _=>False) s)/\(a₀.toList.map r).Nodup
theorem SB.ne{st:SortSt}(C:u7 prog w A s κ a₀ r)(h:SB κ a₀ st){i j:Nat}(hi:i<a₀.size)(hj:j<a₀.size)(n:i≠j):rK1 r (arrOf st) i≠rK1 r (arrOf st) j:=by
 have p:((arrOf st).toList.map r).Nodup:=(((Array.perm_iff_toList_perm.mp h.perm).map r).nodup_iff).mpr C.2;have z:=h.size;have hi':i<(arrOf st).size:=by lia
 have hj':j<(arrOf st).size:=by lia
 rw[pS hi',pS hj'];intro e
 have:=List.pairwise_iff_getElem.mp p
 rcases Nat.lt_or_gt_of_ne n with l|l
 ·exact this i j (by simpa using hi') (by simpa using hj') l (by simpa using e)
 ·exact this j i (by simpa using hj') (by simpa using hi') l (by simpa using e.symm)
theorem xZ(C:u7 prog w A s κ a₀ r){st:SortSt}{x y:Keyed}{Q:Option Bool->SortSt->Prop}(hB:SB κ a₀ st)(hx:x∈a₀.toList)(hy:y∈a₀.toList)(h:Q (some (decide (r x<r y))) st):wpS (model prog w) A E s (lt' x y) Q st:=by
 rw[lt'_eq];refine wpS_bind (wpS_get ?_);rw[hB.kind];refine wpS_bind (wpS_lift (wpAny_attempt (wpAny_mono (C.1 x y hx hy) (λb s' hb=>?_) λ_ _ hF=>hF.elim)))
 obtain⟨rfl,rfl⟩:=hb;exact⟨rfl,wpS_pure h⟩
theorem bN{st:SortSt}{arr:Array Keyed}{i:Nat}{Q:Keyed->SortSt->Prop}(hi:i<arr.size)(h:Q arr[i] st):wpS (model prog w) A E s (elem' arr i) Q st:=by
 rw[elem'_eq,getElem?_pos arr i hi];exact wpS_pure h
theorem i5(C:u7 prog w A s κ a₀ r){st:SortSt}{i j:Nat}{Q:Option Bool->SortSt->Prop}(hB:SB κ a₀ st)(hi:i<a₀.size)(hj:j<a₀.size)
  (h:Q (some (decide (rK1 r (arrOf st) i<rK1 r (arrOf st) j))) st):wpS (model prog w) A E s (ltAt' i j) Q st:=by
 have z:=hB.size;have hi':i<(arrOf st).size:=by lia
 have hj':j<(arrOf st).size:=by lia
 rw[ltAt'_eq];refine wpS_bind (wpS_get ?_);refine wpS_bind (bN hi' (wpS_bind (bN hj' (xZ C hB (hB.mem hi') (hB.mem hj') ?_))));rw[pS hi',pS hj']at h;exact h
theorem pT{xs:Array Keyed}{src d:Nat}(hs:src<xs.size)(hd:d<=src)(k:Nat):rK1 r (bubble xs src d) k=if k=src-d then rK1 r xs src else if src-d<k/\k<=src then rK1 r xs (k-1)else rK1 r xs k:=by
 have e:=getElem?_bubble hs d hd k;split at e
 ·rename_i h1;rw[if_pos h1];exact fC e
 ·rename_i h1;rw[if_neg h1];split at e
  ·rename_i h2;rw[if_pos h2];exact fC e
  ·rename_i h2;rw[if_neg h2];exact fC e
theorem pU{xs:Array Keyed}{i j:Nat}(hj:j<=xs.size)(k:Nat):rK1 r (mirror xs i j ((j-i)/2)) k=if i<=k/\k<j then rK1 r xs (i+j-1-k)else rK1 r xs k:=by
 have e:=getElem?_mirror_all (i:=i) hj k;split at e
 ·rename_i h1;rw[if_pos h1];exact fC e
 ·rename_i h1;rw[if_neg h1];exact fC e
def Up(r:Keyed->Nat)(xs:Array Keyed)(a b:Nat):Prop:= ∀i j,a<=i->i<j->j<b->rK1 r xs i<rK1 r xs j
def Dn(r:Keyed->Nat)(xs:Array Keyed)(a b:Nat):Prop:= ∀i j,a<=i->i<j->j<b->rK1 r xs j<rK1 r xs i
def qR(xs ys:Array Keyed)(a b:Nat):Prop:= ∀k,k<a\/b<=k->xs[k]? =ys[k]?
theorem qR.refl{xs:Array Keyed}{a b:Nat}:qR xs xs a b:=λ_ _=>rfl
theorem aJk(C:u7 prog w A s κ a₀ r){st:SortSt}{lo n ok:Nat}{Q:Bool->SortSt->Prop}(hn:lo+n<=a₀.size)(hok:ok<=n)(hB:SB κ a₀ st)(hs:Up r (arrOf st) lo (lo+ok))
  (h: ∀st',SB κ a₀ st'->Up r (arrOf st') lo (lo+n)->qR (arrOf st') (arrOf st) lo (lo+n)->pendingOf st'=pendingOf st->Q true st'):wpS (model prog w) A E s (binarySort' lo n ok) Q st:=by
 rw[binarySort'_eq]
 refine wpS_bind (wpS_mono (wpS_forRange (I:=λk c st'=>c=(none,())/\SB κ a₀ st'/\Up r (arrOf st') lo (lo+min k n)/\qR (arrOf st') (arrOf st) lo (lo+n)/\pendingOf st'=pendingOf st)
  (Q:=λc st'=>c=(none,())/\SB κ a₀ st'/\Up r (arrOf st') lo (lo+n)/\qR (arrOf st') (arrOf st) lo (lo+n)/\pendingOf st'=pendingOf st) ?step ?fin ?init) ?post)
 case post=>
  rintro c st' ⟨rfl,hB',hs',ho,hp⟩;exact wpS_pure (h st' hB' hs' ho hp)
 case init=>
  refine⟨rfl,hB,λi j h1 h2 h3=>?_,qR.refl,rfl⟩
  exact hs i j h1 h2 (by lia)
 case fin=>
  rintro c st' ⟨hc,hB',hs',ho,hp⟩;refine⟨hc,hB',?_,ho,hp⟩
  rwa [show min (max (max ok 1) n) n=n by lia]at hs'
 case step=>
  rintro k c st' hak hkn ⟨rfl,hB',hs',ho,hp⟩;rw[show min k n=k by lia]at hs'
  have hk:lo+k<a₀.size:=by lia
  refine wpS_bind (wpS_mono (wpS_forRange (I:=λx c st''=>st''=st'/\∃l q,c=(none,l,q)/\l<=q/\q<=k/\q-l<=k-x/\
    (∀i,i<l->rK1 r (arrOf st') (lo+i)<rK1 r (arrOf st') (lo+k))/\(∀i,q<=i->i<k->rK1 r (arrOf st') (lo+k)<rK1 r (arrOf st') (lo+i)))
   (Q:=λc st''=>st''=st'/\∃l q,c=(none,l,q)/\l<=k/\
    (∀i,i<l->rK1 r (arrOf st') (lo+i)<rK1 r (arrOf st') (lo+k))/\(∀i,l<=i->i<k->rK1 r (arrOf st') (lo+k)<rK1 r (arrOf st') (lo+i))) ?istep ?ifin ?iinit) ?ipost)
  case iinit=>exact⟨rfl,0,k,rfl,by lia,by lia,by lia,λi hi=>by lia,λi h1 h2=>by lia⟩
  case ifin=>
   rintro c st'' ⟨rfl,l,q,rfl,hlr,hrk,hm,hlo,hhi⟩
   have:l=q:=by lia
   subst this;exact⟨rfl,l,l,rfl,hrk,hlo,hhi⟩
  case istep=>
   rintro x c st'' _ hxk ⟨rfl,l,q,rfl,hlr,hrk,hm,hlo,hhi⟩
   dsimp only
   by_cases hge:l≥q
   ·rw[if_pos hge]
    have:l=q:=by lia
    subst this;exact wpS_pure ⟨rfl,l,l,rfl,hrk,hlo,hhi⟩
   ·rw[if_neg hge];refine wpS_bind (i5 C hB' hk (by lia) ?_)
    by_cases hless:rK1 r (arrOf st'') (lo+k)<rK1 r (arrOf st'') (lo+(l+q)/2)
    ·simp only[hless,decide_true,if_true];refine wpS_pure ⟨rfl,l,(l+q)/2,rfl,by lia,by lia,by lia,hlo,λi h1 h2=>?_⟩
     rcases Nat.eq_or_lt_of_le h1 with e|e
     ·rw[<-e];exact hless
     ·exact Nat.lt_trans hless (hs' _ _ (by lia) (by lia) (by lia))
    ·simp only[hless,decide_false,aw,if_false];have hne:=hB'.ne C hk (j:=lo+(l+q)/2) (by lia) (by lia)
     refine wpS_pure ⟨rfl,(l+q)/2+1,q,rfl,by lia,by lia,by lia,λi h1=>?_,hhi⟩
     rcases Nat.eq_or_lt_of_le (Nat.le_of_lt_succ h1)with e|e
     ·rw[e];lia
     ·have:=hs' (lo+i) (lo+(l+q)/2) (by lia) (by lia) (by lia)
      lia
  case ipost=>
   rintro c st'' ⟨rfl,l,q,rfl,hlk,hlo,hhi⟩;show wpS _ _ _ _ (do moveDown' (lo+k) (lo+l);pure (ForInStep.yield (none,()))) _ _
   rw[moveDown'_eq];have hks:lo+k<(arrOf st'').size:=by rw[hB'.size];exact hk
   refine wpS_bind (wpS_modify (wpS_pure ⟨rfl,hB'.set (bubble_perm _ _ _),?_,λi hi=>?_,hp⟩))
   ·rw[show min (k+1) n=k+1 by lia]
    intro i j h1 h2 h3;show rK1 r (bubble (arrOf st'') (lo+k) (lo+k-(lo+l))) i<rK1 r (bubble (arrOf st'') (lo+k) (lo+k-(lo+l))) j;rw[pT hks (by lia),pT hks (by lia),show lo+k-(lo+k-(lo+l))=lo+l by lia]
    repeat' split
    all_goals first
     |(exfalso;lia)
     |(have:=hlo (i-lo) (by lia);rw[show lo+(i-lo)=i by lia]at this;exact this)
     |(have:=hhi (j-1-lo) (by lia) (by lia);rw[show lo+(j-1-lo)=j-1 by lia]at this;exact this)
     |exact hs' _ _ (by lia) (by lia) (by lia)
   ·refine Eq.trans ?_ (ho i hi)
    show(bubble (arrOf st'') (lo+k) (lo+k-(lo+l)))[i]? =_
    rw[getElem?_bubble hks _ (by lia),if_neg (by lia),if_neg (by lia)]
end
section
variable {prog:Program} {w:World} {A:Around} {E:cb} {s:Shared} {κ:SortKind} {a₀:Array Keyed} {r:Keyed->Nat}
theorem aJl{st:SortSt}{i j:Nat}{Q:Unit->SortSt->Prop}(h:Q () (setArr st (mirror (arrOf st) i j ((j-i)/2)))):wpS (model prog w) A E s (reverseSlice' i j) Q st:=by
 rw[reverseSlice'_eq];exact wpS_modify h
theorem u8{xs:Array Keyed}{i j a b:Nat}(hj:j<=xs.size)(h1:a<=i)(h2:j<=b):qR (mirror xs i j ((j-i)/2)) xs a b:=λk hk=>by
 rw[getElem?_mirror_all hj,if_neg (by lia)]
theorem Up.one{xs:Array Keyed}{a b:Nat}(h:b<=a+1):Up r xs a b:=λi j h1 h2 h3=>by lia
theorem Up.push{xs:Array Keyed}{a b:Nat}(h:Up r xs a b)(l:a<b)(k:rK1 r xs (b-1)<rK1 r xs b):Up r xs a (b+1):=λi j h1 h2 h3=>by
 rcases Nat.eq_or_lt_of_le (Nat.le_of_lt_succ h3)with e|e
 ·subst e;rcases Nat.eq_or_lt_of_le (show i<=j-1 by lia)with e2|e2
  ·rw[e2];exact k
  ·exact Nat.lt_trans (h i (j-1) h1 e2 (by lia)) k
 ·exact h i j h1 h2 e
theorem Dn.push{xs:Array Keyed}{a b:Nat}(h:Dn r xs a b)(l:a<b)(k:rK1 r xs b<rK1 r xs (b-1)):Dn r xs a (b+1):=λi j h1 h2 h3=>by
 rcases Nat.eq_or_lt_of_le (Nat.le_of_lt_succ h3)with e|e
 ·subst e;rcases Nat.eq_or_lt_of_le (show i<=j-1 by lia)with e2|e2
  ·rw[e2];exact k
  ·exact Nat.lt_trans k (h i (j-1) h1 e2 (by lia))
 ·exact h i j h1 h2 e
theorem aA9(C:u7 prog w A s κ a₀ r){st:SortSt}{lo nrem:Nat}{Q:Option Nat->SortSt->Prop}(hn:lo+nrem<=a₀.size)(h1:1<=nrem)(hB:SB κ a₀ st)
  (h: ∀m st',SB κ a₀ st'->1<=m->m<=nrem->Up r (arrOf st') lo (lo+m)->qR (arrOf st') (arrOf st) lo (lo+nrem)->pendingOf st'=pendingOf st->Q (some m) st'):wpS (model prog w) A E s (countRun' lo nrem) Q st:=by
 rw[countRun'_eq]
 refine wpS_bind (wpS_mono (wpS_forRange (I:=λx c st'=>st'=st/\c=(none,x)/\Up r (arrOf st) lo (lo+x))
  (Q:=λc st'=>st'=st/\∃n,c=(none,n)/\1<=n/\n<=nrem/\Up r (arrOf st) lo (lo+n)/\(n=nrem\/rK1 r (arrOf st) (lo+n)<rK1 r (arrOf st) (lo+n-1))) ?step ?fin ⟨rfl,rfl,Up.one (by lia)⟩) ?post)
 case fin=>
  rintro c st' ⟨rfl,rfl,hu⟩;rw[show max 1 nrem=nrem by lia]at hu ⊢
  exact⟨rfl,nrem,rfl,h1,aj _,hu,.inl rfl⟩
 case step=>
  rintro x c st' hx1 hx2 ⟨rfl,rfl,hu⟩
  dsimp only
  refine wpS_bind (i5 C hB (by lia) (by lia) ?_)
  by_cases hl:rK1 r (arrOf st') (lo+x)<rK1 r (arrOf st') (lo+x-1)
  ·simp only[hl,decide_true,if_true];exact wpS_pure ⟨rfl,x,rfl,hx1,by lia,hu,.inr hl⟩
  ·simp only[hl,decide_false,aw,if_false];have hne:=hB.ne C (i:=lo+x) (j:=lo+x-1) (by lia) (by lia) (by lia)
   exact wpS_pure ⟨rfl,rfl,hu.push (by lia) (by lia)⟩
 case post=>
  rintro c st' ⟨rfl,n,rfl,hn1,hn2,hu,hor⟩
  dsimp only
  by_cases he:n=nrem
  ·rw[if_pos (by simpa using he)]
   exact wpS_pure (h n st' hB hn1 hn2 hu qR.refl rfl)
  rw[if_neg (by simpa using he)]
  have hl:=hor.resolve_left he
  by_cases hg:n > 1
  ·rw[if_pos hg];refine wpS_bind (i5 C hB (by lia) (by lia) ?_)
   have:=hu lo (lo+n-1) (aj _) (by lia) (by lia)
   simp only[this,decide_true,if_true];exact wpS_pure (h n st' hB hn1 hn2 hu qR.refl rfl)
  rw[if_neg hg]
  have e1:n=1:=by lia
  subst e1;refine wpS_bind (wpS_lift (wpAny_rule ⟨rfl,?_⟩))
  refine wpS_bind (wpS_mono (wpS_forRange (I:=λx c st''=>st''=st'/\c=(none,x,0)/\Dn r (arrOf st') lo (lo+x))
   (Q:=λc st''=>st''=st'/\∃m,c=(none,m,0)/\2<=m/\m<=nrem/\Dn r (arrOf st') lo (lo+m)) ?dstep ?dfin ?dinit) ?dpost)
  case dinit=>
   refine⟨rfl,rfl,λi j k1 k2 k3=>?_⟩
   have a:i=lo:=by lia
   have b:j=lo+1:=by lia
   subst a b;exact hl
  case dfin=>
   rintro c st'' ⟨rfl,rfl,hd⟩;rw[show max (1+1) nrem=nrem by lia]at hd ⊢
   exact⟨rfl,nrem,rfl,by lia,aj _,hd⟩
  case dstep=>
   rintro x c st'' hx1 hx2 ⟨rfl,rfl,hd⟩
   dsimp only
   refine wpS_bind (i5 C hB (by lia) (by lia) ?_)
   by_cases hl:rK1 r (arrOf st'') (lo+x)<rK1 r (arrOf st'') (lo+x-1)
   ·simp only[hl,decide_true,if_true];rw[if_neg (by lia)]
    exact wpS_pure ⟨rfl,rfl,hd.push (by lia) hl⟩
   ·simp only[hl,decide_false,aw,if_false];have hne:=hB.ne C (i:=lo+x) (j:=lo+x-1) (by lia) (by lia) (by lia)
    refine wpS_bind (i5 C hB (by lia) (by lia) ?_)
    have:rK1 r (arrOf st'') (lo+x-1)<rK1 r (arrOf st'') (lo+x):=by lia
    simp only[this,decide_true,if_true];exact wpS_pure ⟨rfl,x,rfl,by lia,by lia,hd⟩
  case dpost=>
   rintro c st'' ⟨rfl,m,rfl,hm1,hm2,hd⟩
   dsimp only
   rw[if_neg (by lia)]
   have hz:lo+m<=(arrOf st'').size:=by rw[hB.size];lia
   refine wpS_bind (aJl ?_);have hB':SB κ a₀ (setArr st'' (mirror (arrOf st'') lo (lo+m) ((lo+m-lo)/2))):=hB.set (mirror_perm _ _ _ _)
   have hu':Up r (mirror (arrOf st'') lo (lo+m) ((lo+m-lo)/2)) lo (lo+m):=λi j k1 k2 k3=>by
    rw[pU hz,pU hz,if_pos (by lia),if_pos (by lia)]
    exact hd _ _ (by lia) (by lia) (by lia)
   have ho':qR (mirror (arrOf st'') lo (lo+m) ((lo+m-lo)/2)) (arrOf st'') lo (lo+nrem):=u8 hz (aj _) (by lia)
   generalize hg2:setArr st'' (mirror (arrOf st'') lo (lo+m) ((lo+m-lo)/2))=st2 at hB'
   have ea:arrOf st2=mirror (arrOf st'') lo (lo+m) ((lo+m-lo)/2):=by rw[<-hg2]
   have ep:pendingOf st2=pendingOf st'':=by rw[<-hg2]
   rw[<-ea]at hu' ho'
   refine wpS_bind (wpS_mono (wpS_forRange (I:=λx c st3=>st3=st2/\c=(none,x)/\Up r (arrOf st2) lo (lo+x))
    (Q:=λc st3=>st3=st2/\∃n,c=(none,n)/\1<=n/\n<=nrem/\Up r (arrOf st2) lo (lo+n)) ?tstep ?tfin ⟨rfl,rfl,hu'⟩) ?tpost)
   case tfin=>
    rintro c st3 ⟨rfl,rfl,hu⟩;rw[show max m nrem=nrem by lia]at hu ⊢
    exact⟨rfl,nrem,rfl,h1,aj _,hu⟩
   case tstep=>
    rintro x c st3 hx1 hx2 ⟨rfl,rfl,hu⟩
    dsimp only
    refine wpS_bind (i5 C hB' (by lia) (by lia) ?_)
    by_cases hl:rK1 r (arrOf st3) (lo+x)<rK1 r (arrOf st3) (lo+x-1)
    ·simp only[hl,decide_true,if_true];exact wpS_pure ⟨rfl,x,rfl,by lia,by lia,hu⟩
    ·simp only[hl,decide_false,aw,if_false];have hne:=hB'.ne C (i:=lo+x) (j:=lo+x-1) (by lia) (by lia) (by lia)
     exact wpS_pure ⟨rfl,rfl,hu.push (by lia) (by lia)⟩
   case tpost=>
    rintro c st3 ⟨rfl,n,rfl,hn1,hn2,hu⟩;exact wpS_pure (h n st3 hB' hn1 hn2 hu ho' ep)
end
abbrev SM:=StateT SortSt Sem
def gal:Bool->Keyed->Array Keyed->Nat->Nat->Nat->SM (Option Nat):=sortPriv% PySem.Builtin.gallop
noncomputable def bn(r:Keyed->Nat)(left:Bool)(key x:Keyed):Bool:=if left=true then decide (r x<r key)else !decide (r key<r x)
noncomputable def bey(left:Bool)(key:Keyed)(arr:Array Keyed)(base i:Nat):SM (Option Bool):=
 (elem' arr (base+i)) >>= λx=>if left=true then lt' x key else(lt' key x >>= λo=>pure (o.map (λx=> !x)))
section
variable {prog:Program} {w:World} {A:Around} {E:cb} {s:Shared} {κ:SortKind} {a₀:Array Keyed} {r:Keyed->Nat}
theorem aJm(C:u7 prog w A s κ a₀ r){st:SortSt}{left:Bool}{key:Keyed}{arr:Array Keyed}{base i:Nat}{Q:Option Bool->SortSt->Prop}(hB:SB κ a₀ st)(hk:key∈a₀.toList)(hi:base+i<arr.size)(hx:arr[base+i]∈a₀.toList)
  (h:Q (some (bn r left key arr[base+i])) st):wpS (model prog w) A E s (bey left key arr base i) Q st:=by
 unfold bey;refine wpS_bind (bN hi ?_)
 cases left with
 |true=>
  rw[if_pos rfl];exact xZ C hB hx hk h
 |false=>
  rw[if_neg (by decide)]
  exact wpS_bind (xZ C hB hk hx (wpS_pure h))
theorem aJn{st:SortSt}{left:Bool}{key:Keyed}{arr:Array Keyed}{base n hint:Nat}{f:Nat->Bool}{Q:Option Nat->SortSt->Prop}(hb: ∀i,i<n->∀Q:Option Bool->SortSt->Prop,Q (some (f i)) st->wpS (model prog w) A E s (bey left key arr base i) Q st)
  (hf: ∀i j,i<j->j<n->f j=true->f i=true) (hh:hint<n) (h: ∀k,k<=n->(∀i,i<k->f i=true)->(∀i,k<=i->i<n->f i=false)->Q (some k) st):wpS (model prog w) A E s (gal left key arr base n hint) Q st:=by
 have hf': ∀i j,i<=j->j<n->f i=false->f j=false:=λi j h1 h2 h3=>by
  rcases Nat.eq_or_lt_of_le h1 with e|e
  ·rw[<-e];exact h3
  ·cases z:f j with
   |false=>rfl
   |true=>rw[hf i j e h2 z]at h3;cases h3
 have hf'': ∀i j,i<=j->j<n->f j=true->f i=true:=λi j h1 h2 h3=>by
  rcases Nat.eq_or_lt_of_le h1 with e|e
  ·rw[e];exact h3
  ·exact hf i j e h2 h3
 -- the last look
 have last: ∀lo hi,lo<=hi->hi<=n->(∀i,i<lo->f i=true)->(∀i,hi<=i->i<n->f i=false)->
   wpS (model prog w) A E s (forIn [0:n] ((none,lo,hi):Option (Option Nat)×Nat×Nat) (λ_ c=>if c.2.1≥c.2.2 then pure (ForInStep.done (none,c.2.1,c.2.2))else bey left key arr base (c.2.1+(c.2.2-c.2.1)/2) >>= λo=>match o with
    |some more=>if more=true then pure (ForInStep.yield (none,c.2.1+(c.2.2-c.2.1)/2+1,c.2.2))else pure (ForInStep.yield (none,c.2.1,c.2.1+(c.2.2-c.2.1)/2))
    |_=>pure (ForInStep.done (some none,c.2.1,c.2.2))) >>= λc=>match c.1 with|some x=>pure x|none=>pure (some c.2.2)) Q st:=by
  intro lo hi h1 h2 h3 h4
  refine wpS_bind (wpS_mono (wpS_forRange (I:=λx c st'=>st'=st/\∃l q,c=(none,l,q)/\l<=q/\q<=n/\q-l<=n-x/\(∀i,i<l->f i=true)/\(∀i,q<=i->i<n->f i=false))
   (Q:=λc st'=>st'=st/\∃k,c=(none,k,k)/\k<=n/\(∀i,i<k->f i=true)/\(∀i,k<=i->i<n->f i=false)) ?step ?fin ⟨rfl,lo,hi,rfl,h1,h2,by lia,h3,h4⟩) ?post)
  case fin=>
   rintro c st' ⟨rfl,l,q,rfl,k1,k2,k3,k4,k5⟩
   have:l=q:=by lia
   subst this;exact⟨rfl,l,rfl,k2,k4,k5⟩
  case step=>
   rintro x c st' _ hx ⟨rfl,l,q,rfl,k1,k2,k3,k4,k5⟩
   dsimp only
   by_cases hge:l≥q
   ·rw[if_pos hge]
    have:l=q:=by lia
    subst this;exact wpS_pure ⟨rfl,l,rfl,k2,k4,k5⟩
   ·rw[if_neg hge];have hm:l+(q-l)/2<n:=by lia
    refine wpS_bind (hb _ hm _ ?_)
    cases z:f (l+(q-l)/2)with
    |true=>
     dsimp only
     rw[if_pos rfl];exact wpS_pure ⟨rfl,_,q,rfl,by lia,k2,by lia,λi hi=>hf'' i _ (by lia) hm z,k5⟩
    |false=>
     dsimp only
     rw[if_neg (by decide)]
     exact wpS_pure ⟨rfl,l,_,rfl,by lia,by lia,by lia,k4,λi hi hn=>hf' _ i hi hn z⟩
  case post=>
   rintro c st' ⟨rfl,k,rfl,k1,k2,k3⟩;exact wpS_pure (h k k1 k2 k3)
 refine wpS_bind (hb hint hh _ ?_)
 cases z:f hint with
 |true=>
  dsimp only
  rw[if_pos rfl]
  refine wpS_bind (wpS_mono (wpS_forRange (I:=λx c st'=>st'=st/\∃l o,c=(none,l,o)/\l<o/\x+1<=o/\hint+l<n/\f (hint+l)=true)
   (Q:=λc st'=>st'=st/\∃l o,c=(none,l,o)/\l<o/\hint+l<n/\f (hint+l)=true/\(n-hint<=o\/f (hint+o)=false)) ?step ?fin ⟨rfl,0,1,rfl,by lia,by lia,hh,z⟩) ?post)
  case fin=>
   rintro c st' ⟨rfl,l,o,rfl,k1,k2,k3,k4⟩;exact⟨rfl,l,o,rfl,k1,k3,k4,.inl (by lia)⟩
  case step=>
   rintro x c st' _ hx ⟨rfl,l,o,rfl,k1,k2,k3,k4⟩
   dsimp only
   by_cases hge:o≥n-hint
   ·rw[if_pos hge];exact wpS_pure ⟨rfl,l,o,rfl,k1,k3,k4,.inl hge⟩
   ·rw[if_neg hge];refine wpS_bind (hb _ (by lia) _ ?_)
    cases z2:f (hint+o)with
    |true=>
     dsimp only
     rw[if_neg (by decide)]
     exact wpS_pure ⟨rfl,o,2*o+1,rfl,by lia,by lia,by lia,z2⟩
    |false=>
     dsimp only
     rw[if_pos (by decide)]
     exact wpS_pure ⟨rfl,l,o,rfl,k1,k3,k4,.inr z2⟩
  case post=>
   rintro c st' ⟨rfl,l,o,rfl,k1,k2,k3,k4⟩
   dsimp only
   refine cast (by kernel_rfl) (last (hint+l+1) (hint+min o (n-hint)) (by lia) (by lia) (λi hi=>hf'' i (hint+l) (by lia) k2 k3) λi hi hn=>?_)
   rcases k4 with k4|k4
   ·lia
   ·exact hf' (hint+o) i (by lia) hn k4
 |false=>
  dsimp only
  rw[if_neg (by decide)]
  refine wpS_bind (wpS_mono (wpS_forRange (I:=λx c st'=>st'=st/\∃l o,c=(none,l,o)/\l<o/\x+1<=o/\l<=hint/\f (hint-l)=false)
   (Q:=λc st'=>st'=st/\∃l o,c=(none,l,o)/\l<o/\l<=hint/\f (hint-l)=false/\(hint+1<=o\/f (hint-o)=true)) ?step2 ?fin2 ⟨rfl,0,1,rfl,by lia,by lia,by lia,z⟩) ?post2)
  case fin2=>
   rintro c st' ⟨rfl,l,o,rfl,k1,k2,k3,k4⟩;exact⟨rfl,l,o,rfl,k1,k3,k4,.inl (by lia)⟩
  case step2=>
   rintro x c st' _ hx ⟨rfl,l,o,rfl,k1,k2,k3,k4⟩
   dsimp only
   by_cases hge:o≥hint+1
   ·rw[if_pos hge];exact wpS_pure ⟨rfl,l,o,rfl,k1,k3,k4,.inl hge⟩
   ·rw[if_neg hge];refine wpS_bind (hb _ (by lia) _ ?_)
    cases z2:f (hint-o)with
    |true=>
     dsimp only
     rw[if_pos rfl];exact wpS_pure ⟨rfl,l,o,rfl,k1,k3,k4,.inr z2⟩
    |false=>
     dsimp only
     rw[if_neg (by decide)]
     exact wpS_pure ⟨rfl,o,2*o+1,rfl,by lia,by lia,by lia,z2⟩
  case post2=>
   rintro c st' ⟨rfl,l,o,rfl,k1,k2,k3,k4⟩
   dsimp only
   refine cast (by kernel_rfl) (last (hint+1-min o (hint+1)) (hint-l) (by lia) (by lia) (λi hi=>?_) λi hi hn=>hf' (hint-l) i hi hn k3)
   rcases k4 with k4|k4
   ·lia
   ·exact hf'' i (hint-o) (by lia) (by lia) k4
end
def mlo:Array Keyed->Array Keyed->SM (Array Keyed):=sortPriv% PySem.Builtin.mergeLo
abbrev Rs(r:Keyed->Nat)(l:List Keyed):Prop:=l.Pairwise (λx y=>r x<r y)
theorem blk{r:Keyed->Nat}{O X Y Z:List Keyed}(h:Rs r (O++(X++Y)))(k:Rs r (O++Z))(l: ∀x∈X, ∀z∈Z,r x<r z):Rs r ((O++X)++Z):=by
 obtain⟨h1,h2,h3⟩:=List.pairwise_append.mp h;obtain⟨k1,k2,k3⟩:=List.pairwise_append.mp k;obtain⟨x1,x2,x3⟩:=List.pairwise_append.mp h2;refine List.pairwise_append.mpr ⟨List.pairwise_append.mpr ⟨h1,x1,λa ha b hb=>h3 a ha b (List.mem_append.mpr (.inl hb))⟩,k2,λa ha b hb=>?_⟩
 rcases List.mem_append.mp ha with ha|ha
 ·exact k3 a ha b hb
 ·exact l a ha b hb
structure MIs(r:Keyed->Nat)(a b out:List Keyed)(ia ib:Nat):Prop where
 pa:Rs r (out++a.drop ia)
 pb:Rs r (out++b.drop ib)
 pm:(out++(a.drop ia++b.drop ib)).Perm (a++b)
structure GoodM(r:Keyed->Nat)(a b m:List Keyed):Prop where
 pm:m.Perm (a++b)
 up:Rs r m
section
variable {r:Keyed->Nat} {a b out:List Keyed} {ia ib:Nat}
theorem gH(l:List Keyed)(i k:Nat):l.drop i=(l.drop i).take k++l.drop (i+k):=by
 rw[<-List.drop_drop];exact(List.take_append_drop k (l.drop i)).symm
theorem MIs.len(h:MIs r a b out ia ib):out.length+((a.length-ia)+(b.length-ib))=a.length+b.length:=by
 have:=h.pm.length_eq
 simpa using this
theorem MIs.bulkA(h:MIs r a b out ia ib)(k:Nat)(l: ∀x∈(a.drop ia).take k, ∀z∈b.drop ib,r x<r z):MIs r a b (out++(a.drop ia).take k) (ia+k) ib:=by
 have e:=gH a ia k;refine⟨?_,blk (by rw[<-e];exact h.pa) h.pb l,?_⟩
 ·rw[List.append_assoc, <-e];exact h.pa
 ·rw[List.append_assoc, <-List.append_assoc ((a.drop ia).take k), <-e];exact h.pm
theorem MIs.bulkB(h:MIs r a b out ia ib)(k:Nat)(l: ∀x∈(b.drop ib).take k, ∀z∈a.drop ia,r x<r z):MIs r a b (out++(b.drop ib).take k) ia (ib+k):=by
 have e:=gH b ib k;refine⟨blk (by rw[<-e];exact h.pb) h.pa l,?_,?_⟩
 ·rw[List.append_assoc, <-e];exact h.pb
 ·rw[List.append_assoc];refine(List.Perm.append_left out ((List.perm_append_comm_assoc _ _ _).trans ?_)).trans h.pm;rw[<-e]
theorem MIs.endB(h:MIs r a b out ia ib)(e:ib=b.length):GoodM r a b (out++a.drop ia++b.drop ib):=by
 subst e;rw[List.drop_length,List.append_nil]
 have:=h.pm
 rw[List.drop_length,List.append_nil]at this;exact⟨this,h.pa⟩
theorem MIs.endA(h:MIs r a b out ia ib)(e:ia=a.length):GoodM r a b (out++a.drop ia++b.drop ib):=by
 subst e
 have:=h.pm
 rw[List.drop_length,List.nil_append]at this;rw[List.drop_length,List.append_nil];exact⟨this,h.pb⟩
theorem MIs.endL(h:MIs r a b out ia ib)(l: ∀x∈b.drop ib, ∀z∈a.drop ia,r x<r z):GoodM r a b (out++b.drop ib++a.drop ia):=by
 refine⟨?_,?_⟩
 ·rw[List.append_assoc];exact(List.Perm.append_left out List.perm_append_comm).trans h.pm
 ·refine blk (Y:=[]) ?_ h.pa l;rw[List.append_nil];exact h.pb
theorem Rs.head{l:List Keyed}(h:Rs r (out++l.drop ia)){x:Keyed}(hi:ia<l.length)(hx:r x<r l[ia]): ∀z∈l.drop ia,r x<r z:=by
 obtain⟨_,h2,_⟩:=List.pairwise_append.mp h;rw[List.drop_eq_getElem_cons hi]at h2 ⊢;intro z hz;rcases aq.mp hz with rfl|hz
 ·exact hx
 ·exact Nat.lt_trans hx ((List.pairwise_cons.mp h2).1 z hz)
end
section
variable {prog:Program} {w:World} {A:Around} {E:cb} {s:Shared} {κ:SortKind} {a₀:Array Keyed} {r:Keyed->Nat} {a b:Array Keyed}
structure Js(κ:SortKind)(a₀:Array Keyed)(st st':SortSt):Prop where
 B:SB κ a₀ st'
 arr:arrOf st'=arrOf st
 pend:pendingOf st'=pendingOf st
structure MP(r:Keyed->Nat)(a₀ a b:Array Keyed):Prop where
 ha: ∀x∈a.toList,x∈a₀.toList
 hb: ∀x∈b.toList,x∈a₀.toList
 sa:Rs r a.toList
 sb:Rs r b.toList
 na:0<a.size
 nb:0<b.size
 low:r (b[0])<r (a[0])
 top: ∀y∈b.toList,r y<r (a[a.size-1])
 nd: ∀x∈a.toList, ∀y∈b.toList,r x≠r y
theorem b6{x:Array Keyed}{i:Nat}(h:i<x.size):x[i]∈x.toList:=by simp
theorem Rs.at{x:Array Keyed}(h:Rs r x.toList){i j:Nat}(hij:i<j)(hj:j<x.size):r (x[i]'(by lia))<r x[j]:=by
 have:=List.pairwise_iff_getElem.mp h i j (by simpa using (show i<x.size by lia)) (by simpa using hj) hij
 simpa using this
theorem MIs.pushB{out:List Keyed}{ia ib:Nat}(h:MIs r a.toList b.toList out ia ib)(hi:ib<b.size)(l: ∀z∈a.toList.drop ia,r b[ib]<r z):MIs r a.toList b.toList (out++[b[ib]]) ia (ib+1):=by
 have hi':ib<b.toList.length:=by simpa using hi
 have e:(b.toList.drop ib).take 1=[b[ib]]:=by rw[List.drop_eq_getElem_cons hi'];simp
 have:=h.bulkB 1 (by rw[e];intro x hx;rw[List.mem_singleton.mp hx];exact l)
 rwa [e]at this
theorem MIs.pushA{out:List Keyed}{ia ib:Nat}(h:MIs r a.toList b.toList out ia ib)(hi:ia<a.size)(l: ∀z∈b.toList.drop ib,r a[ia]<r z):MIs r a.toList b.toList (out++[a[ia]]) (ia+1) ib:=by
 have hi':ia<a.toList.length:=by simpa using hi
 have e:(a.toList.drop ia).take 1=[a[ia]]:=by rw[List.drop_eq_getElem_cons hi'];simp
 have:=h.bulkA 1 (by rw[e];intro x hx;rw[List.mem_singleton.mp hx];exact l)
 rwa [e]at this
theorem x5{x:Array Keyed}{i k:Nat}{v:Nat}(hk:i+k<=x.size)(h: ∀j,j<k->∀hj:i+j<x.size,r x[i+j]<v): ∀y∈(x.toList.drop i).take k,r y<v:=λy hy=>by
 obtain⟨j,hj,rfl⟩:=List.mem_iff_getElem.mp hy;rw[List.length_take,List.length_drop,Array.length_toList]at hj
 have:=h j (by lia) (by lia)
 simpa using this
theorem mD(x:Array Keyed)(i k:Nat):(x.extract i (i+k)).toList=(x.toList.drop i).take k:=by
 rw[Array.toList_extract,List.extract_eq_take_drop,Nat.add_sub_cancel_left]
theorem nL(x:Array Keyed)(i:Nat):(x.extract i x.size).toList=x.toList.drop i:=by
 rw[Array.toList_extract,List.extract_eq_take_drop];exact List.take_of_length_le (by simp)
theorem i6(C:u7 prog w A s κ a₀ r){st:SortSt}{left:Bool}{key:Keyed}{arr:Array Keyed}{base n hint:Nat}{Q:Option Nat->SortSt->Prop}(hB:SB κ a₀ st)(hk:key∈a₀.toList)(ha: ∀x∈arr.toList,x∈a₀.toList)(hn:base+n<=arr.size)(hh:hint<n)
  (hs: ∀i j (hij:i<j) (hj:j<n),r (arr[base+i]'(by lia))<r (arr[base+j]'(by lia))) (nd: ∀i (hi:i<n),r (arr[base+i]'(by lia))≠r key)
  (h: ∀k,k<=n->(∀j (hj:j<k), ∀hz:base+j<arr.size,r arr[base+j]<r key)->(∀j,k<=j->j<n->∀hz:base+j<arr.size,r key<r arr[base+j])->Q (some k) st):wpS (model prog w) A E s (gal left key arr base n hint) Q st:=by
 let f:Nat->Bool:=λi=>if hi:base+i<arr.size then bn r left key arr[base+i]else false
 have fe: ∀i (hi:i<n),f i=decide (r (arr[base+i]'(by lia))<r key):=λi hi=>by
  have:=nd i hi
  show(if hi:base+i<arr.size then bn r left key arr[base+i]else false)=_
  rw[dif_pos (by lia)]
  unfold bn
  cases left with
  |true=>rfl
  |false=>
   rw[if_neg (by decide)]
   by_cases z:r key<r (arr[base+i]'(by lia))
   ·rw[decide_eq_true z,decide_eq_false (by lia)];rfl
   ·rw[decide_eq_false z,decide_eq_true (by lia)];rfl
 refine aJn (f:=f) (λi hi Q hq=>?_) (λi j hij hj z=>?_) hh λk hk1 g1 g2=>?_
 ·have hz:base+i<arr.size:=by lia
  refine aJm C hB hk hz (ha _ (b6 hz)) ?_
  have:f i=bn r left key arr[base+i]:=dif_pos hz
  rw[<-this];exact hq
 ·rw[fe j hj,decide_eq_true_eq]at z;rw[fe i (by lia),decide_eq_true_eq]
  exact Nat.lt_trans (hs i j hij hj) z
 ·refine h k hk1 (λj hj hz=>?_) λj hj1 hj2 hz=>?_
  ·have:=g1 j hj
   rw[fe j (by lia),decide_eq_true_eq]at this
   exact this
  ·have:=g2 j hj1 hj2
   rw[fe j hj2,decide_eq_false_iff_not]at this
   have:=nd j hj2
   lia
theorem nM{α:Type}{c:Prop}[Decidable c]{m n:SM α}{Q:α->SortSt->Prop}{st:SortSt}(h:wpS (model prog w) A E s m Q st)(k:wpS (model prog w) A E s n Q st):wpS (model prog w) A E s (if c then m else n) Q st:=by
 by_cases z:c
 ·rw[if_pos z];exact h
 ·rw[if_neg z];exact k
theorem jY{α:Type}{c:Prop}[Decidable c]{m n:SM α}{Q:α->SortSt->Prop}{st:SortSt}(e: ¬c->n=m)(h:wpS (model prog w) A E s m Q st):wpS (model prog w) A E s (if c then m else n) Q st:=by
 by_cases z:c
 ·rw[if_pos z];exact h
 ·rw[if_neg z,e z];exact h
theorem aJo{α:Type}{c:Nat->Prop}{d: ∀g,Decidable (c g)}{f m:Nat->SM α}{Q:α->SortSt->Prop}{st:SortSt}(e: ∀g,m g=f (g-1))(h: ∀g,wpS (model prog w) A E s (f g) Q st): ∀g,wpS (model prog w) A E s (@ite _ (c g) (d g) (m g) (f g)) Q st:=by
 intro g
 by_cases z:c g
 ·rw[if_pos z,e];exact h _
 ·rw[if_neg z];exact h _
theorem x6(o x:Array Keyed)(i:Nat):o++x.extract i i=o:=by
 rw[Array.extract_empty_of_stop_le_start (aj _),Array.append_empty]
theorem tY(o x:Array Keyed)(i:Nat):o++(x.extract i i).reverse=o:=by
 rw[Array.extract_empty_of_stop_le_start (aj _),Array.reverse_empty,Array.append_empty]
def aNg:Nat->SM Unit:=sortPriv% PySem.Builtin.setMinGallop
theorem rY{st st':SortSt}{g:Nat}{Q:Unit->SortSt->Prop}(J:Js κ a₀ st st')(h: ∀st2,Js κ a₀ st st2->Q () st2):wpS (model prog w) A E s (aNg g) Q st':=by
 unfold aNg;exact wpS_modify (h _ ⟨⟨J.B.perm,J.B.kind,J.B.failed⟩,J.arr,J.pend⟩)
theorem Rs.headle{out:List Keyed}{l:Array Keyed}{i:Nat}(h:Rs r (out++l.toList.drop i))(hi:i<l.size): ∀z∈l.toList.drop i,r l[i]<=r z:=by
 obtain⟨_,h2,_⟩:=List.pairwise_append.mp h;have hi':i<l.toList.length:=by simpa using hi
 rw[List.drop_eq_getElem_cons hi']at h2 ⊢;intro z hz;rcases aq.mp hz with rfl|hz
 ·simp
 ·have:=(List.pairwise_cons.mp h2).1 z hz
  exact Nat.le_of_lt (by simpa using this)
theorem aJp(C:u7 prog w A s κ a₀ r){st:SortSt}{Q:Array Keyed->SortSt->Prop}(hB:SB κ a₀ st)(P:MP r a₀ a b)(h: ∀m st',GoodM r a.toList b.toList m.toList->Js κ a₀ st st'->Q m st'):wpS (model prog w) A E s (mlo a b) Q st:=by
 have za:a.toList.length=a.size:=Array.length_toList
 have zb:b.toList.length=b.size:=Array.length_toList
 -- the two ends
 have fin1: ∀(out:Array Keyed) (ia ib:Nat),MIs r a.toList b.toList out.toList ia ib->ib=b.size\/ia=a.size->GoodM r a.toList b.toList (out++a.extract ia a.size++b.extract ib b.size).toList:=λout ia ib m e=>by
  rw[Array.toList_append,Array.toList_append,nL,nL];rcases e with e|e
  ·exact m.endB (by rw[zb];exact e)
  ·exact m.endA (by rw[za];exact e)
 have fin2: ∀(out:Array Keyed) (ia ib:Nat),MIs r a.toList b.toList out.toList ia ib->ia+1=a.size->GoodM r a.toList b.toList (out++b.extract ib b.size++a.extract ia a.size).toList:=λout ia ib m e=>by
  rw[Array.toList_append,Array.toList_append,nL,nL];refine m.endL λx hx z hz=>?_
  have hi:ia<a.toList.length:=by lia
  rw[List.drop_eq_getElem_cons hi,List.drop_eq_nil_of_le (by lia)]at hz
  rw[List.mem_singleton.mp hz]
  have:=P.top x (List.mem_of_mem_drop hx)
  have e2:ia=a.size-1:=by lia
  subst e2;simpa using this
 have m0:MIs r a.toList b.toList [b[0]'P.nb] 0 1:=by
  have i0:MIs r a.toList b.toList [] 0 0:=⟨by simpa using P.sa,by simpa using P.sb,by simp⟩
  have:=i0.pushB P.nb (λz hz=>by
   have h0:Rs r ([]++a.toList.drop 0):=by simpa using P.sa
   exact Rs.head h0 (x:=b[0]'P.nb) (by rw[za];exact P.na) (by simpa using P.low) z hz)
  simpa using this
 refine wpS_bind (wpS_lift (wpAny_rule ⟨rfl,?_⟩));refine wpS_bind (bN P.nb ?_)
 dsimp only
 by_cases e1:(1==b.size)=true
 ·rw[if_pos e1];exact wpS_pure (h _ _ (fin1 _ _ _ m0 (.inl (by simpa using e1))) ⟨hB,rfl,rfl⟩)
 rw[if_neg e1];have nb2:1<b.size:=by have:=P.nb;have:1≠b.size:=λz=>e1 (by simpa using z);lia
 by_cases e2:(0+1==a.size)=true
 ·rw[if_pos e2];exact wpS_pure (h _ _ (fin2 _ _ _ m0 (by simpa using e2)) ⟨hB,rfl,rfl⟩)
 rw[if_neg e2];have na2:1<a.size:=by have:=P.na;have:1≠a.size:=λz=>e2 (by simpa using z);lia
 refine wpS_bind (wpS_get ?_)
 refine wpS_bind (wpS_mono (wpS_forRange (I:=λx c st'=>Js κ a₀ st st'/\∃out ia ib g,c=(none,out,ia,ib,g)/\MIs r a.toList b.toList out.toList ia ib/\ia+1<a.size/\ib<b.size/\x<out.size)
  (Q:=λc st'=>Js κ a₀ st st'/\∃m c',c=(some m,c')/\GoodM r a.toList b.toList m.toList) ?step ?fin ⟨⟨hB,rfl,rfl⟩,_,_,_,_,rfl,m0,na2,nb2,by simp⟩) ?post)
 case fin=>
  rintro c st' ⟨J,out,ia,ib,g,rfl,m,k1,k2,k3⟩
  have:=m.len
  rw[za,zb,Array.length_toList]at this
  lia
 case post=>
  rintro c st' ⟨J,m,c',rfl,g⟩;exact wpS_pure (h m st' g J)
 case step=>
  rintro x c st' _ hx ⟨J,out0,ia0,ib0,g,rfl,m,k1,k2,k3⟩
  dsimp only
  refine wpS_bind (wpS_mono (wpS_forRange (I:=λy c st'=>Js κ a₀ st st'/\∃out ia ib u v,c=(none,out,ia,ib,u,v)/\MIs r a.toList b.toList out.toList ia ib/\ia+1<a.size/\ib<b.size/\x+y<out.size)
   (Q:=λc st'=>Js κ a₀ st st'/\((∃m c',c=(some m,c')/\GoodM r a.toList b.toList m.toList)\/∃out ia ib u v,c=(none,out,ia,ib,u,v)/\MIs r a.toList b.toList out.toList ia ib/\ia+1<a.size/\ib<b.size/\x+1<out.size)) ?istep ?ifin ⟨J,_,_,_,_,_,rfl,m,k1,k2,by simpa using k3⟩) ?ipost)
  case ifin=>
   rintro c st' ⟨J,out,ia,ib,u,v,rfl,m,k1,k2,k3⟩
   have:=m.len
   rw[za,zb,Array.length_toList]at this
   lia
  case istep=>
   rintro y c st' _ hy ⟨J,out,ia,ib,u,v,rfl,m,k1,k2,k3⟩
   dsimp only
   have hia:ia<a.size:=by lia
   refine wpS_bind (bN k2 (wpS_bind (bN hia (wpS_bind (xZ C J.B (P.hb _ (b6 k2)) (P.ha _ (b6 hia)) ?_)))))
   by_cases hl:r b[ib]<r a[ia]
   ·simp only[hl,decide_true,if_true];refine wpS_bind (bN k2 ?_)
    have m':MIs r a.toList b.toList (out.push b[ib]).toList ia (ib+1):=by
     rw[Array.toList_push];exact m.pushB k2 (Rs.head m.pa (by rw[za];exact hia) (by simpa using hl))
    by_cases e3:(ib+1==b.size)=true
    ·rw[if_pos e3];exact wpS_pure ⟨J,.inl ⟨_,_,rfl,fin1 _ _ _ m' (.inl (by simpa using e3))⟩⟩
    ·rw[if_neg e3];have nb3:ib+1<b.size:=by have:ib+1≠b.size:=λz=>e3 (by simpa using z);lia
     split
     ·exact wpS_pure ⟨J,.inr ⟨_,_,_,_,_,rfl,m',k1,nb3,by rw[Array.size_push];lia⟩⟩
     ·exact wpS_pure ⟨J,_,_,_,_,_,rfl,m',k1,nb3,by rw[Array.size_push];lia⟩
   ·simp only[hl,decide_false,aw,if_false];refine wpS_bind (bN hia ?_);have hne:=P.nd _ (b6 hia) _ (b6 k2)
    have m':MIs r a.toList b.toList (out.push a[ia]).toList (ia+1) ib:=by
     rw[Array.toList_push];exact m.pushA hia (Rs.head m.pb (by rw[zb];exact k2) (by have:r a[ia]<r b[ib]:=(by lia);simpa using this))
    by_cases e3:(ia+1+1==a.size)=true
    ·rw[if_pos e3];exact wpS_pure ⟨J,.inl ⟨_,_,rfl,fin2 _ _ _ m' (by simpa using e3)⟩⟩
    ·rw[if_neg e3];have na3:ia+1+1<a.size:=by have:ia+1+1≠a.size:=λz=>e3 (by simpa using z);lia
     split
     ·exact wpS_pure ⟨J,.inr ⟨_,_,_,_,_,rfl,m',na3,k2,by rw[Array.size_push];lia⟩⟩
     ·exact wpS_pure ⟨J,_,_,_,_,_,rfl,m',na3,k2,by rw[Array.size_push];lia⟩
  case ipost=>
   rintro c st' ⟨J,⟨m,c',rfl,g⟩|⟨out1,ia1,ib1,u1,v1,rfl,m,k1,k2,k3⟩⟩
   ·exact wpS_pure ⟨J,m,_,rfl,g⟩
   dsimp only
   refine wpS_bind (wpS_lift (wpAny_rule ⟨rfl,?_⟩))
   refine wpS_bind (wpS_mono (wpS_forRange (I:=λy c st'=>Js κ a₀ st st'/\∃out ia ib g u v,c=(none,out,ia,ib,g,u,v)/\MIs r a.toList b.toList out.toList ia ib/\ia+1<a.size/\ib<b.size/\x+1<out.size)
    (Q:=λc st'=>Js κ a₀ st st'/\((∃m c',c=(some m,c')/\GoodM r a.toList b.toList m.toList)\/∃out ia ib g u v,c=(none,out,ia,ib,g,u,v)/\MIs r a.toList b.toList out.toList ia ib/\ia+1<a.size/\ib<b.size/\x+1<out.size)) ?gstep ?gfin ⟨J,_,_,_,_,_,_,rfl,m,k1,k2,k3⟩) ?gpost)
   case gfin=>
    rintro c st' ⟨J,q⟩;exact⟨J,.inr q⟩
   case gpost=>
    rintro c st' ⟨J,⟨m,c',rfl,g⟩|⟨out,ia,ib,g,u,v,rfl,m,k1,k2,k3⟩⟩
    ·exact wpS_pure ⟨J,m,_,rfl,g⟩
    ·dsimp only
     exact wpS_bind (wpS_modify (wpS_pure ⟨⟨⟨J.B.perm,J.B.kind,J.B.failed⟩,J.arr,J.pend⟩,_,_,_,_,rfl,m,k1,k2,k3⟩))
   case gstep=>
    rintro y c st' _ hy ⟨J,out,ia,ib,g,u,v,rfl,m,k1,k2,k3⟩
    dsimp only
    have hia:ia<a.size:=by lia
    revert g;refine aJo (λg=>rfl) λg=>?_
    refine wpS_bind (rY J λst2 J2=>?_)
    refine wpS_bind (bN k2 ?_);refine wpS_bind (i6 C J2.B (P.hb _ (b6 k2)) P.ha (by lia) (by lia) (λi j hij hj=>P.sa.at (by lia) (by lia)) (λi hi=>P.nd _ (b6 _) _ (b6 k2)) λk hk g1 g2=>?_)
    dsimp only
    have mk:MIs r a.toList b.toList (out++a.extract ia (ia+k)).toList (ia+k) ib:=by
     rw[Array.toList_append,mD];exact m.bulkA k λx hx z hz=>bd (x5 (x:=a) (i:=ia) (k:=k) (v:=r b[ib]) (by lia) (λj hj hz=>g1 j hj hz) x hx) (Rs.headle m.pb k2 z hz)
    have g3: ∀hz:ia+k<a.size,r b[ib]<r a[ia+k]:=λhz=>g2 k (aj _) (by lia) hz
    refine jY (λz=>?_) ?_
    ·have hk0:k=0:=by lia
     subst hk0;rw[if_neg (by simp;lia),if_neg (by simp;lia),show out++a.extract ia (ia+0)=out from x6 _ _ _]
     rfl
    by_cases e3:(ia+k+1==a.size)=true
    case pos=>rw[if_pos e3];exact wpS_pure ⟨J2,.inl ⟨_,_,rfl,fin2 _ _ _ mk (by simpa using e3)⟩⟩
    rw[if_neg e3]
    by_cases e4:(ia+k==a.size)=true
    case pos=>rw[if_pos e4];exact wpS_pure ⟨J2,.inl ⟨_,_,rfl,fin1 _ _ _ mk (.inr (by simpa using e4))⟩⟩
    rw[if_neg e4]
    have q1:ia+k+1<a.size:=by
     have z1:ia+k+1≠a.size:=λz=>e3 (by simpa using z)
     have z2:ia+k≠a.size:=λz=>e4 (by simpa using z)
     lia
    have q2:x+1<(out++a.extract ia (ia+k)).size:=by rw[Array.size_append];lia
    clear e3 e4;generalize out++a.extract ia (ia+k)=out2 at mk q2 ⊢;generalize ia+k=ia2 at mk q1 g3 ⊢;refine wpS_bind (bN k2 ?_);have hia2:ia2<a.size:=by lia
    have m3:MIs r a.toList b.toList (out2.push b[ib]).toList ia2 (ib+1):=by
     rw[Array.toList_push];exact mk.pushB k2 (Rs.head mk.pa (by rw[za];exact hia2) (by simpa using g3 hia2))
    by_cases e5:(ib+1==b.size)=true
    case pos=>rw[if_pos e5];exact wpS_pure ⟨J2,.inl ⟨_,_,rfl,fin1 _ _ _ m3 (.inl (by simpa using e5))⟩⟩
    rw[if_neg e5]
    have q4:ib+1<b.size:=by
     have z1:ib+1≠b.size:=λz=>e5 (by simpa using z)
     lia
    refine wpS_bind (bN hia2 ?_);refine wpS_bind (i6 C J2.B (P.ha _ (b6 hia2)) P.hb (by lia) (by lia) (λi j hij hj=>P.sb.at (by lia) (by lia)) (λi hi=>(P.nd _ (b6 hia2) _ (b6 _)).symm) λk' hk' h1 h2=>?_)
    dsimp only
    have mb:MIs r a.toList b.toList (out2.push b[ib]++b.extract (ib+1) (ib+1+k')).toList ia2 (ib+1+k'):=by
     rw[Array.toList_append,mD];exact m3.bulkB k' λx hx z hz=>bd (x5 (x:=b) (i:=ib+1) (k:=k') (v:=r a[ia2]) (by lia) (λj hj hz=>h1 j hj hz) x hx) (Rs.headle m3.pa hia2 z hz)
    have h3: ∀hz:ib+1+k'<b.size,r a[ia2]<r b[ib+1+k']:=λhz=>h2 k' (aj _) (by lia) hz
    have q5:x+1<(out2.push b[ib]).size:=by rw[Array.size_push];lia
    generalize out2.push b[ib]=out3 at m3 mb q5 ⊢;refine jY (λz=>?_) ?_
    ·have hk1:k'=0:=by lia
     subst hk1;rw[if_neg (by simp;lia),show out3++b.extract (ib+1) (ib+1+0)=out3 from x6 _ _ _]
    by_cases e6:(ib+1+k'==b.size)=true
    case pos=>rw[if_pos e6];exact wpS_pure ⟨J2,.inl ⟨_,_,rfl,fin1 _ _ _ mb (.inl (by simpa using e6))⟩⟩
    rw[if_neg e6]
    have q6:ib+1+k'<b.size:=by
     have z1:ib+1+k'≠b.size:=λz=>e6 (by simpa using z)
     lia
    have q7:x+1<(out3++b.extract (ib+1) (ib+1+k')).size:=by rw[Array.size_append];lia
    clear e6 h2;generalize out3++b.extract (ib+1) (ib+1+k')=out4 at mb q7 ⊢;generalize ib+1+k'=ib4 at mb q6 h3 ⊢;refine wpS_bind (bN hia2 ?_)
    have m5:MIs r a.toList b.toList (out4.push a[ia2]).toList (ia2+1) ib4:=by
     rw[Array.toList_push];exact mb.pushA hia2 (Rs.head mb.pb (by rw[zb];exact q6) (by simpa using h3 q6))
    by_cases e7:(ia2+1+1==a.size)=true
    case pos=>rw[if_pos e7];exact wpS_pure ⟨J2,.inl ⟨_,_,rfl,fin2 _ _ _ m5 (by simpa using e7)⟩⟩
    rw[if_neg e7]
    have q8:ia2+1+1<a.size:=by
     have z1:ia2+1+1≠a.size:=λz=>e7 (by simpa using z)
     lia
    have q9:x+1<(out4.push a[ia2]).size:=by rw[Array.size_push];lia
    exact nM (wpS_pure ⟨J2,.inr ⟨_,_,_,_,_,_,rfl,m5,q8,q6,q9⟩⟩) (wpS_pure ⟨J2,_,_,_,_,_,_,rfl,m5,q8,q6,q9⟩)
end
def mhi:Array Keyed->Array Keyed->SM (Array Keyed):=sortPriv% PySem.Builtin.mergeHi
theorem aL9{r:Keyed->Nat}{O X Y Z:List Keyed}(h:Rs r ((Y++X)++O))(k:Rs r (Z++O))(l: ∀z∈Z, ∀x∈X,r z<r x):Rs r (Z++(X++O)):=by
 obtain⟨h1,h2,h3⟩:=List.pairwise_append.mp h;obtain⟨k1,k2,k3⟩:=List.pairwise_append.mp k;obtain⟨x1,x2,x3⟩:=List.pairwise_append.mp h1;refine List.pairwise_append.mpr ⟨k1,List.pairwise_append.mpr ⟨x2,h2,λa ha b hb=>h3 a (List.mem_append.mpr (.inr ha)) b hb⟩,λa ha b hb=>?_⟩
 rcases List.mem_append.mp hb with hb|hb
 ·exact l a ha b hb
 ·exact k3 a ha b hb
structure HI(r:Keyed->Nat)(a b out:List Keyed)(na nb:Nat):Prop where
 pa:Rs r (a.take na++out)
 pb:Rs r (b.take nb++out)
 pm:(a.take na++(b.take nb++out)).Perm (a++b)
section
variable {r:Keyed->Nat} {a b out:List Keyed} {na nb:Nat}
theorem mF(l:List Keyed){i n:Nat}(h:i<=n):l.take n=l.take i++(l.drop i).take (n-i):=by
 have:n=i+(n-i):=by lia
 rw[this,List.take_add];simp
theorem HI.len(h:HI r a b out na nb):min na a.length+(min nb b.length+out.length)=a.length+b.length:=by
 have:=h.pm.length_eq
 simpa using this
theorem HI.bulkA(h:HI r a b out na nb){i:Nat}(hi:i<=na)(l: ∀z∈b.take nb, ∀x∈(a.drop i).take (na-i),r z<r x):HI r a b ((a.drop i).take (na-i)++out) i nb:=by
 have e:=mF a hi;have pa:=h.pa;have pm:=h.pm;rw[e]at pa pm;refine⟨by rw[<-List.append_assoc];exact pa,aL9 pa h.pb l,?_⟩
 rw[List.append_assoc]at pm;exact(List.Perm.append_left _ (List.perm_append_comm_assoc _ _ _)).trans pm
theorem HI.bulkB(h:HI r a b out na nb){i:Nat}(hi:i<=nb)(l: ∀z∈a.take na, ∀x∈(b.drop i).take (nb-i),r z<r x):HI r a b ((b.drop i).take (nb-i)++out) na i:=by
 have e:=mF b hi;have pb:=h.pb;have pm:=h.pm;rw[e]at pb pm;refine⟨aL9 pb h.pa l,by rw[<-List.append_assoc];exact pb,?_⟩
 rw[List.append_assoc]at pm;exact pm
theorem HI.endA(h:HI r a b out na nb)(e:na=0):GoodM r a b (a.take na++b.take nb++out):=by
 subst e;have pm:=h.pm;rw[List.take_zero,List.nil_append]at pm ⊢;exact⟨pm,h.pb⟩
theorem HI.endB(h:HI r a b out na nb)(e:nb=0):GoodM r a b (a.take na++b.take nb++out):=by
 subst e;have pm:=h.pm;rw[List.take_zero,List.nil_append]at pm;rw[List.take_zero,List.append_nil];exact⟨pm,h.pa⟩
theorem HI.endL(h:HI r a b out na nb)(l: ∀x∈b.take nb, ∀z∈a.take na,r x<r z):GoodM r a b (b.take nb++a.take na++out):=by
 refine⟨?_,?_⟩
 ·rw[List.append_assoc];exact(List.perm_append_comm_assoc _ _ _).trans h.pm
 ·rw[List.append_assoc];refine aL9 (Y:=[]) (by rw[List.nil_append];exact h.pa) h.pb l
end
section
variable {prog:Program} {w:World} {A:Around} {E:cb} {s:Shared} {κ:SortKind} {a₀:Array Keyed} {r:Keyed->Nat} {a b:Array Keyed}
theorem kZ{x:Array Keyed}{i:Nat}(h:i<x.size):(x.toList.drop i).take (i+1-i)=[x[i]]:=by
 have hi':i<x.toList.length:=by simpa using h
 rw[List.drop_eq_getElem_cons hi',Nat.add_sub_cancel_left];simp
theorem tZ{x:Array Keyed}{i:Nat}{v:Nat}(hi:i<=x.size)(h: ∀j,j<i->∀hj:j<x.size,r x[j]<v): ∀y∈x.toList.take i,r y<v:=λy hy=>by
 obtain⟨j,hj,rfl⟩:=List.mem_iff_getElem.mp hy;rw[List.length_take,Array.length_toList]at hj
 have:=h j (by lia) (by lia)
 simpa using this
theorem aCs{x:Array Keyed}{i n:Nat}{v:Nat}(hn:n<=x.size)(h: ∀j,i<=j->j<n->∀hj:j<x.size,v<r x[j]): ∀y∈(x.toList.drop i).take (n-i),v<r y:=λy hy=>by
 obtain⟨j,hj,rfl⟩:=List.mem_iff_getElem.mp hy;rw[List.length_take,List.length_drop,Array.length_toList]at hj
 have:=h (i+j) (by lia) (by lia) (by lia)
 simpa using this
theorem Rs.lastle{x:Array Keyed}(h:Rs r x.toList){n:Nat}(h0:0<n)(hn:n<=x.size): ∀y∈x.toList.take n,r y<=r (x[n-1]'(by lia)):=λy hy=>by
 obtain⟨j,hj,rfl⟩:=List.mem_iff_getElem.mp hy;rw[List.length_take,Array.length_toList]at hj;rcases(show j=n-1\/j<n-1 by lia)with e|e
 ·subst e;simp
 ·have:=h.at e (show n-1<x.size by lia)
  exact Nat.le_of_lt (by simpa using this)
theorem x8(x:Array Keyed)(i n:Nat)(out:Array Keyed):(out++(x.extract i n).reverse).toList.reverse=(x.toList.drop i).take (n-i)++out.toList.reverse:=by
 rw[Array.toList_append,List.reverse_append,Array.toList_reverse,List.reverse_reverse,Array.toList_extract,List.extract_eq_take_drop]
theorem jZ(x:Array Keyed)(n:Nat):(x.extract 0 n).toList=x.toList.take n:=by
 rw[Array.toList_extract,List.extract_eq_take_drop];simp
theorem aJq(C:u7 prog w A s κ a₀ r){st:SortSt}{Q:Array Keyed->SortSt->Prop}(hB:SB κ a₀ st)(P:MP r a₀ a b)(h: ∀m st',GoodM r a.toList b.toList m.toList->Js κ a₀ st st'->Q m st'):wpS (model prog w) A E s (mhi a b) Q st:=by
 have za:a.toList.length=a.size:=Array.length_toList
 have zb:b.toList.length=b.size:=Array.length_toList
 have fin1: ∀(out:Array Keyed) (na nb:Nat),HI r a.toList b.toList out.toList.reverse na nb->na=0\/nb=0->GoodM r a.toList b.toList (a.extract 0 na++b.extract 0 nb++out.reverse).toList:=λout na nb m e=>by
  rw[Array.toList_append,Array.toList_append,jZ,jZ,Array.toList_reverse];rcases e with e|e
  ·exact m.endA e
  ·exact m.endB e
 have low: ∀y∈a.toList,r (b[0]'P.nb)<r y:=λy hy=>by
  have:=Rs.head (out:=[]) (ia:=0) (l:=a.toList) (x:=b[0]'P.nb) (by simpa using P.sa) (by rw[za];exact P.na) (by simpa using P.low) y (by simpa using hy)
  exact this
 have fin2: ∀(out:Array Keyed) (na nb:Nat),HI r a.toList b.toList out.toList.reverse na nb->nb=1->GoodM r a.toList b.toList (b.extract 0 nb++a.extract 0 na++out.reverse).toList:=λout na nb m e=>by
  rw[Array.toList_append,Array.toList_append,jZ,jZ,Array.toList_reverse];refine m.endL λx hx z hz=>?_
  subst e
  have:x=b[0]'P.nb:=by
   have e0:b.toList.take 1=[b[0]'P.nb]:=by
    have:=kZ P.nb
    simpa using this
   rw[e0]at hx;exact List.mem_singleton.mp hx
  rw[this];exact low z (List.mem_of_mem_take hz)
 have hl:a.size-1<a.size:=by have:=P.na;lia
 have m0:HI r a.toList b.toList [a[a.size-1]'hl] (a.size-1) b.size:=by
  have i0:HI r a.toList b.toList [] a.size b.size:=by
   refine⟨?_,?_,?_⟩
   ·rw[List.append_nil, <-za,List.take_length];exact P.sa
   ·rw[List.append_nil, <-zb,List.take_length];exact P.sb
   ·rw[List.append_nil, <-za, <-zb,List.take_length,List.take_length]
  have:=i0.bulkA (i:=a.size-1) (by lia) (λz hz x hx=>by
   have e:=kZ hl;rw[show a.size-1+1=a.size by lia]at e
   rw[e]at hx;rw[List.mem_singleton.mp hx];exact P.top z (List.mem_of_mem_take hz))
  have e:=kZ hl;rw[show a.size-1+1=a.size by lia]at e
  rw[e]at this;exact this
 refine wpS_bind (wpS_lift (wpAny_rule ⟨rfl,?_⟩));refine wpS_bind (bN hl ?_);have m0':HI r a.toList b.toList (#[a[a.size-1]'hl]:Array Keyed).toList.reverse (a.size-1) b.size:=m0
 dsimp only
 by_cases e1:(a.size-1==0)=true
 ·rw[if_pos e1];exact wpS_pure (h _ _ (fin1 _ _ _ m0' (.inl (by simpa using e1))) ⟨hB,rfl,rfl⟩)
 rw[if_neg e1];have na2:0<a.size-1:=by have:a.size-1≠0:=λz=>e1 (by simpa using z);lia
 by_cases e2:(b.size==1)=true
 ·rw[if_pos e2];exact wpS_pure (h _ _ (fin2 _ _ _ m0' (by simpa using e2)) ⟨hB,rfl,rfl⟩)
 rw[if_neg e2];have nb2:1<b.size:=by have:=P.nb;have:b.size≠1:=λz=>e2 (by simpa using z);lia
 refine wpS_bind (wpS_get ?_)
 refine wpS_bind (wpS_mono (wpS_forRange (I:=λx c st'=>Js κ a₀ st st'/\∃na nb out g,c=(none,na,nb,out,g)/\HI r a.toList b.toList out.toList.reverse na nb/\0<na/\na<=a.size/\1<nb/\nb<=b.size/\x<out.size)
  (Q:=λc st'=>Js κ a₀ st st'/\∃m c',c=(some m,c')/\GoodM r a.toList b.toList m.toList) ?step ?fin ⟨⟨hB,rfl,rfl⟩,_,_,_,_,rfl,m0',na2,by lia,nb2,aj _,by simp⟩) ?post)
 case fin=>
  rintro c st' ⟨J,na,nb,out,g,rfl,m,k1,k1',k2,k2',k3⟩
  have:=m.len
  rw[za,zb,List.length_reverse,Array.length_toList]at this
  lia
 case post=>
  rintro c st' ⟨J,m,c',rfl,g⟩;exact wpS_pure (h m st' g J)
 case step=>
  rintro x c st' _ hx ⟨J,na0,nb0,out0,g,rfl,m,k1,k1',k2,k2',k3⟩
  dsimp only
  refine wpS_bind (wpS_mono (wpS_forRange (I:=λy c st'=>Js κ a₀ st st'/\∃na nb out u v,c=(none,na,nb,out,u,v)/\HI r a.toList b.toList out.toList.reverse na nb/\0<na/\na<=a.size/\1<nb/\nb<=b.size/\x+y<out.size)
   (Q:=λc st'=>Js κ a₀ st st'/\((∃m c',c=(some m,c')/\GoodM r a.toList b.toList m.toList)\/∃na nb out u v,c=(none,na,nb,out,u,v)/\HI r a.toList b.toList out.toList.reverse na nb/\0<na/\na<=a.size/\1<nb/\nb<=b.size/\x+1<out.size)) ?istep ?ifin ⟨J,_,_,_,_,_,rfl,m,k1,k1',k2,k2',by simpa using k3⟩) ?ipost)
  case ifin=>
   rintro c st' ⟨J,na,nb,out,u,v,rfl,m,k1,k1',k2,k2',k3⟩
   have:=m.len
   rw[za,zb,List.length_reverse,Array.length_toList]at this
   lia
  case istep=>
   rintro y c st' _ hy ⟨J,na,nb,out,u,v,rfl,m,k1,k1',k2,k2',k3⟩
   dsimp only
   have hia:na-1<a.size:=by lia
   have hib:nb-1<b.size:=by lia
   refine wpS_bind (bN hib (wpS_bind (bN hia (wpS_bind (xZ C J.B (P.hb _ (b6 hib)) (P.ha _ (b6 hia)) ?_)))))
   by_cases hl:r b[nb-1]<r a[na-1]
   ·simp only[hl,decide_true,if_true];refine wpS_bind (bN hia ?_)
    have m':HI r a.toList b.toList (out.push a[na-1]).toList.reverse (na-1) nb:=by
     have e:=kZ hia
     have:=m.bulkA (i:=na-1) (by lia) (λz hz x hx=>by
      rw[show na-(na-1)=na-1+1-(na-1) by lia,e]at hx
      rw[List.mem_singleton.mp hx];exact Nat.lt_of_le_of_lt (P.sb.lastle (by lia) k2' z hz) hl)
     rw[show na-(na-1)=na-1+1-(na-1) by lia,e]at this
     rw[Array.toList_push,List.reverse_append];exact this
    by_cases e3:(na-1==0)=true
    ·rw[if_pos e3];exact wpS_pure ⟨J,.inl ⟨_,_,rfl,fin1 _ _ _ m' (.inl (by simpa using e3))⟩⟩
    ·rw[if_neg e3];have na3:0<na-1:=by have:na-1≠0:=λz=>e3 (by simpa using z);lia
     exact nM (wpS_pure ⟨J,.inr ⟨_,_,_,_,_,rfl,m',na3,by lia,k2,k2',by rw[Array.size_push];lia⟩⟩) (wpS_pure ⟨J,_,_,_,_,_,rfl,m',na3,by lia,k2,k2',by rw[Array.size_push];lia⟩)
   ·simp only[hl,decide_false,aw,if_false];refine wpS_bind (bN hib ?_);have hne:=P.nd _ (b6 hia) _ (b6 hib)
    have m':HI r a.toList b.toList (out.push b[nb-1]).toList.reverse na (nb-1):=by
     have e:=kZ hib
     have:=m.bulkB (i:=nb-1) (by lia) (λz hz x hx=>by
      rw[show nb-(nb-1)=nb-1+1-(nb-1) by lia,e]at hx
      rw[List.mem_singleton.mp hx];exact Nat.lt_of_le_of_lt (P.sa.lastle k1 k1' z hz) (by lia))
     rw[show nb-(nb-1)=nb-1+1-(nb-1) by lia,e]at this
     rw[Array.toList_push,List.reverse_append];exact this
    by_cases e3:(nb-1==1)=true
    ·rw[if_pos e3];exact wpS_pure ⟨J,.inl ⟨_,_,rfl,fin2 _ _ _ m' (by simpa using e3)⟩⟩
    ·rw[if_neg e3];have nb3:1<nb-1:=by have:nb-1≠1:=λz=>e3 (by simpa using z);lia
     exact nM (wpS_pure ⟨J,.inr ⟨_,_,_,_,_,rfl,m',k1,k1',nb3,by lia,by rw[Array.size_push];lia⟩⟩) (wpS_pure ⟨J,_,_,_,_,_,rfl,m',k1,k1',nb3,by lia,by rw[Array.size_push];lia⟩)
  case ipost=>
   rintro c st' ⟨J,⟨m,c',rfl,g⟩|⟨na1,nb1,out1,u1,v1,rfl,m,k1,k1',k2,k2',k3⟩⟩
   ·exact wpS_pure ⟨J,m,_,rfl,g⟩
   dsimp only
   refine wpS_bind (wpS_lift (wpAny_rule ⟨rfl,?_⟩))
   refine wpS_bind (wpS_mono (wpS_forRange (I:=λy c st'=>Js κ a₀ st st'/\∃na nb out g u v,c=(none,na,nb,out,g,u,v)/\HI r a.toList b.toList out.toList.reverse na nb/\0<na/\na<=a.size/\1<nb/\nb<=b.size/\x+1<out.size)
    (Q:=λc st'=>Js κ a₀ st st'/\((∃m c',c=(some m,c')/\GoodM r a.toList b.toList m.toList)\/∃na nb out g u v,c=(none,na,nb,out,g,u,v)/\HI r a.toList b.toList out.toList.reverse na nb/\0<na/\na<=a.size/\1<nb/\nb<=b.size/\x+1<out.size)) ?gstep ?gfin ⟨J,_,_,_,_,_,_,rfl,m,k1,k1',k2,k2',k3⟩) ?gpost)
   case gfin=>
    rintro c st' ⟨J,q⟩;exact⟨J,.inr q⟩
   case gpost=>
    rintro c st' ⟨J,⟨m,c',rfl,g⟩|⟨na,nb,out,g,u,v,rfl,m,k1,k1',k2,k2',k3⟩⟩
    ·exact wpS_pure ⟨J,m,_,rfl,g⟩
    ·dsimp only
     exact wpS_bind (rY J λst2 J2=>wpS_pure ⟨J2,_,_,_,_,rfl,m,k1,k1',k2,k2',k3⟩)
   case gstep=>
    rintro y c st' _ hy ⟨J,na,nb,out,g,u,v,rfl,m,k1,k1',k2,k2',k3⟩
    dsimp only
    have hib:nb-1<b.size:=by lia
    revert g;refine aJo (λg=>rfl) λg=>?_
    refine wpS_bind (rY J λst2 J2=>?_)
    refine wpS_bind (bN hib ?_);refine wpS_bind (i6 C J2.B (P.hb _ (b6 hib)) P.ha (base:=0) (n:=na) (by lia) (by lia) (λi j hij hj=>P.sa.at (by lia) (by lia)) (λi hi=>P.nd _ (b6 _) _ (b6 hib)) λp hp g1 g2=>?_)
    dsimp only
    have g1': ∀j,j<p->∀hz:j<a.size,r a[j]<r b[nb-1]:=λj hj hz=>by
     have:=g1 j hj (by lia)
     simpa using this
    have g2': ∀j,p<=j->j<na->∀hz:j<a.size,r b[nb-1]<r a[j]:=λj hj1 hj2 hz=>by
     have:=g2 j hj1 hj2 (by lia)
     simpa using this
    clear g1 g2
    have mk:HI r a.toList b.toList (out++(a.extract p na).reverse).toList.reverse p nb:=by
     rw[x8];exact m.bulkA hp λz hz x hx=>Nat.lt_of_le_of_lt (P.sb.lastle (by lia) k2' z hz) (aCs k1' g2' x hx)
    refine jY (λz=>?_) ?_
    ·have hk0:p=na:=by lia
     subst hk0;rw[if_neg (by simp;lia),tY]
    by_cases e3:(p==0)=true
    case pos=>rw[if_pos e3];exact wpS_pure ⟨J2,.inl ⟨_,_,rfl,fin1 _ _ _ mk (.inl (by simpa using e3))⟩⟩
    rw[if_neg e3]
    have q1:0<p:=by
     have z1:p≠0:=λz=>e3 (by simpa using z)
     lia
    have q1':p<=a.size:=by lia
    have q2:x+1<(out++(a.extract p na).reverse).size:=by rw[Array.size_append];lia
    clear e3;generalize out++(a.extract p na).reverse=out2 at mk q2 ⊢;generalize na-p=kk;refine wpS_bind (bN hib ?_)
    have m3:HI r a.toList b.toList (out2.push b[nb-1]).toList.reverse p (nb-1):=by
     have e:=kZ hib
     have:=mk.bulkB (i:=nb-1) (by lia) (λz hz x hx=>by
      rw[show nb-(nb-1)=nb-1+1-(nb-1) by lia,e]at hx
      rw[List.mem_singleton.mp hx];exact tZ q1' g1' z hz)
     rw[show nb-(nb-1)=nb-1+1-(nb-1) by lia,e]at this
     rw[Array.toList_push,List.reverse_append];exact this
    by_cases e5:(nb-1==1)=true
    case pos=>rw[if_pos e5];exact wpS_pure ⟨J2,.inl ⟨_,_,rfl,fin2 _ _ _ m3 (by simpa using e5)⟩⟩
    rw[if_neg e5]
    have q4:1<nb-1:=by
     have z1:nb-1≠1:=λz=>e5 (by simpa using z)
     lia
    have hia:p-1<a.size:=by lia
    refine wpS_bind (bN hia ?_);refine wpS_bind (i6 C J2.B (P.ha _ (b6 hia)) P.hb (base:=0) (n:=nb-1) (by lia) (by lia) (λi j hij hj=>P.sb.at (by lia) (by lia)) (λi hi=>(P.nd _ (b6 hia) _ (b6 _)).symm) λt ht h1 h2=>?_)
    dsimp only
    have h1': ∀j,j<t->∀hz:j<b.size,r b[j]<r a[p-1]:=λj hj hz=>by
     have:=h1 j hj (by lia)
     simpa using this
    have h2': ∀j,t<=j->j<nb-1->∀hz:j<b.size,r a[p-1]<r b[j]:=λj hj1 hj2 hz=>by
     have:=h2 j hj1 hj2 (by lia)
     simpa using this
    clear h1 h2;have q5:x+1<(out2.push b[nb-1]).size:=by rw[Array.size_push];lia
    generalize out2.push b[nb-1]=out3 at m3 q5 ⊢
    have mb:HI r a.toList b.toList (out3++(b.extract t (nb-1)).reverse).toList.reverse p t:=by
     rw[x8];exact m3.bulkB ht λz hz x hx=>Nat.lt_of_le_of_lt (P.sa.lastle q1 q1' z hz) (aCs (by lia) h2' x hx)
    refine jY (λz=>?_) ?_
    ·have hk1:t=nb-1:=by lia
     subst hk1;rw[if_neg (by simp;lia),if_neg (by simp;lia),tY]
    by_cases e6:(t==1)=true
    case pos=>rw[if_pos e6];exact wpS_pure ⟨J2,.inl ⟨_,_,rfl,fin2 _ _ _ mb (by simpa using e6)⟩⟩
    rw[if_neg e6]
    by_cases e7:(t==0)=true
    case pos=>rw[if_pos e7];exact wpS_pure ⟨J2,.inl ⟨_,_,rfl,fin1 _ _ _ mb (.inr (by simpa using e7))⟩⟩
    rw[if_neg e7]
    have q6:1<t:=by
     have z1:t≠1:=λz=>e6 (by simpa using z)
     have z2:t≠0:=λz=>e7 (by simpa using z)
     lia
    have q6':t<=b.size:=by lia
    have q7:x+1<(out3++(b.extract t (nb-1)).reverse).size:=by rw[Array.size_append];lia
    clear e6 e7 h2';generalize out3++(b.extract t (nb-1)).reverse=out4 at mb q7 ⊢;generalize nb-1-t=kj;refine wpS_bind (bN hia ?_)
    have m5:HI r a.toList b.toList (out4.push a[p-1]).toList.reverse (p-1) t:=by
     have e:=kZ hia
     have:=mb.bulkA (i:=p-1) (by lia) (λz hz x hx=>by
      rw[show p-(p-1)=p-1+1-(p-1) by lia,e]at hx
      rw[List.mem_singleton.mp hx];exact tZ q6' h1' z hz)
     rw[show p-(p-1)=p-1+1-(p-1) by lia,e]at this
     rw[Array.toList_push,List.reverse_append];exact this
    by_cases e7:(p-1==0)=true
    case pos=>rw[if_pos e7];exact wpS_pure ⟨J2,.inl ⟨_,_,rfl,fin1 _ _ _ m5 (.inl (by simpa using e7))⟩⟩
    rw[if_neg e7]
    have q8:0<p-1:=by
     have z1:p-1≠0:=λz=>e7 (by simpa using z)
     lia
    have q9:x+1<(out4.push a[p-1]).size:=by rw[Array.size_push];lia
    exact nM (wpS_pure ⟨J2,.inr ⟨_,_,_,_,_,_,rfl,m5,q8,by lia,q6,q6',q9⟩⟩) (wpS_pure ⟨J2,_,_,_,_,_,_,rfl,m5,q8,by lia,q6,q6',q9⟩)
end
noncomputable def wbk(base:Nat)(l:List (Keyed×Nat))(x:Array Keyed):Array Keyed:=l.foldl (λa q=>a.setIfInBounds (base+q.2) q.1) x
theorem rZ(base:Nat): ∀(M:List Keyed) (n:Nat) (x:Array Keyed) (k:Nat),base+n+M.length<=x.size->(wbk base (M.zipIdx n) x)[k]? =if base+n<=k/\k<base+n+M.length then M[k-(base+n)]? else x[k]?
 |[],n,x,k,h=>by
  rw[if_neg (by simp)];rfl
 |p::M,n,x,k,h=>by
  rw[bo]at h
  have e:wbk base ((p::M).zipIdx n) x=wbk base (M.zipIdx (n+1)) (x.setIfInBounds (base+n) p):=rfl
  rw[e,rZ base M (n+1) _ k (by rw[Array.size_setIfInBounds];lia),bo]
  by_cases h1:base+(n+1)<=k/\k<base+(n+1)+M.length
  ·rw[if_pos h1,if_pos (by lia)]
   rw[show k-(base+n)=(k-(base+(n+1)))+1 by lia,List.getElem?_cons_succ]
  ·rw[if_neg h1,Array.getElem?_setIfInBounds]
   by_cases h2:base+n=k
   ·rw[if_pos h2,if_pos (by lia),if_pos (by lia),show k-(base+n)=0 by lia];rfl
   ·rw[if_neg h2,if_neg (by lia)]
theorem u9{base:Nat}{M:List Keyed}{x:Array Keyed}(h:base+M.length<=x.size):(wbk base M.zipIdx x).toList=x.toList.take base++(M++x.toList.drop (base+M.length)):=by
 apply List.ext_getElem?;intro k;rw[Array.getElem?_toList,rZ base M 0 x k (by lia),Nat.add_zero]
 by_cases h1:k<base
 ·rw[if_neg (by lia),bt (by rw[List.length_take,Array.length_toList];lia),List.getElem?_take,if_pos h1,Array.getElem?_toList]
 ·have lt:(x.toList.take base).length=base:=by rw[List.length_take,Array.length_toList];lia
  rw[bh (by lia),lt]
  by_cases h2:k<base+M.length
  ·rw[if_pos (by lia),bt (by lia)]
  ·rw[if_neg (by lia),bh (by lia),List.getElem?_drop, <-Array.getElem?_toList]
   congr 1;lia
def mAt:Nat->SM Bool:=sortPriv% PySem.Builtin.mergeAt
section
variable {prog:Program} {w:World} {A:Around} {E:cb} {s:Shared} {κ:SortKind} {a₀:Array Keyed} {r:Keyed->Nat}
theorem i7{xs:Array Keyed}{i:Nat}(h:i<xs.size):r xs[i]=rK1 r xs i:=(pS h).symm
noncomputable def pAt(p:Array (Nat×Nat×Nat))(i sa n pw:Nat):Array (Nat×Nat×Nat):=(p.setIfInBounds i (sa,n,pw)).eraseIdxIfInBounds (i+1)
theorem aFi{st:SortSt}{P:Array (Nat×Nat×Nat)}{Q:PUnit->SortSt->Prop}(hB:SB κ a₀ st)(h: ∀st1,SB κ a₀ st1->arrOf st1=arrOf st->pendingOf st1=P->Q ⟨⟩ st1):wpS (model prog w) A E s (set (SortSt.mk' (kindOf st) (arrOf st) P (gallopOf st) (failedOf st)):SM PUnit) Q st:=by
 unfold wpS;rw[StateT.run_set];exact ae ⟨rfl,h _ ⟨hB.perm,hB.kind,hB.failed⟩ rfl rfl⟩
theorem Up.at{xs:Array Keyed}{a b:Nat}(u:Up r xs a b){i j:Nat}(h1:a<=i)(h2:i<j)(h3:j<b)(hj:j<xs.size):r (xs[i]'(by lia))<r xs[j]:=by
 rw[i7 (r:=r) hj,i7 (r:=r) (show i<xs.size by lia)];exact u i j h1 h2 h3
theorem aJr(C:u7 prog w A s κ a₀ r){st:SortSt}{i sa na pw nb pw2:Nat}{Q:Bool->SortSt->Prop}(hB:SB κ a₀ st)(e1:(pendingOf st)[i]? =some (sa,na,pw))(e2:(pendingOf st)[i+1]? =some (sa+na,nb,pw2))(n1:0<na)(n2:0<nb)(hz:sa+na+nb<=a₀.size)
  (u1:Up r (arrOf st) sa (sa+na)) (u2:Up r (arrOf st) (sa+na) (sa+na+nb))
  (h: ∀st',SB κ a₀ st'->Up r (arrOf st') sa (sa+na+nb)->qR (arrOf st') (arrOf st) sa (sa+na+nb)->pendingOf st'=pAt (pendingOf st) i sa (na+nb) pw->Q true st'):wpS (model prog w) A E s (mAt i) Q st:=by
 have z:=hB.size;have hsb:sa+na<(arrOf st).size:=by lia
 have mem: ∀x∈(arrOf st).toList,x∈a₀.toList:=λx hx=>(Array.perm_iff_toList_perm.mp hB.perm).mem_iff.mp hx
 have ne: ∀i j (hi:i<(arrOf st).size) (hj:j<(arrOf st).size),i≠j->r (arrOf st)[i]≠r (arrOf st)[j]:=λi j hi hj n=>by
  rw[i7 (r:=r) hi,i7 (r:=r) hj];exact hB.ne C (by lia) (by lia) n
 refine wpS_bind (wpS_get ?_);rw[show(pendingOf st)[i]? =some (sa,na,pw) from e1,show(pendingOf st)[i+1]? =some (sa+na,nb,pw2) from e2]
 dsimp only
 refine wpS_bind (aFi hB λst1 B1 a1 p1=>?_)
 refine wpS_bind (bN hsb ?_);refine wpS_bind (i6 (arr:=arrOf st) (base:=sa) (n:=na) C B1 (mem _ (b6 hsb)) mem (by lia) n1 (λi j hij hj=>u1.at (by lia) (by lia) (by lia) (by lia)) (λi hi=>ne _ _ _ _ (by lia)) λk hk g1 g2=>?_)
 dsimp only
 have G1: ∀i,sa<=i->i<sa+k->rK1 r (arrOf st) i<rK1 r (arrOf st) (sa+na):=λi h1 h2=>by
  have b:r ((arrOf st)[sa+(i-sa)]'(by lia))<r ((arrOf st)[sa+na]'hsb):=g1 (i-sa) (by lia) (by lia)
  rw[i7 (r:=r) (show sa+(i-sa)<(arrOf st).size by lia),i7 (r:=r) hsb,show sa+(i-sa)=i by lia]at b
  exact b
 have G2:r ((arrOf st)[sa+na]'hsb)=rK1 r (arrOf st) (sa+na):=i7 hsb
 by_cases c1:(na-k==0)=true
 ·rw[if_pos c1]
  have ek:k=na:=by have:na-k=0:=(by simpa using c1);lia
  subst ek;refine wpS_pure (h st1 B1 ?_ (by rw[a1];exact qR.refl) p1)
  rw[a1];intro i j h1 h2 h3
  by_cases hj:j<sa+k
  ·exact u1 i j h1 h2 hj
  ·by_cases hi:sa+k<=i
   ·exact u2 i j hi h2 h3
   ·have b1:=G1 i h1 (by lia)
    rcases(show j=sa+k\/sa+k<j by lia)with e4|e4
    ·rw[e4];exact b1
    ·exact Nat.lt_trans b1 (u2 _ _ (aj _) e4 h3)
 rw[if_neg c1];have hk2:k<na:=by have:na-k≠0:=λq=>c1 (by simpa using q);lia
 have hl:sa+k+(na-k)-1<(arrOf st).size:=by lia
 refine wpS_bind (bN hl ?_);refine wpS_bind (i6 (arr:=arrOf st) (base:=sa+na) (n:=nb) C B1 (mem _ (b6 hl)) mem (by lia) (by lia) (λi j hij hj=>u2.at (by lia) (by lia) (by lia) (by lia)) (λi hi=>ne _ _ _ _ (by lia)) λm hm f1 f2=>?_)
 dsimp only
 have el:sa+k+(na-k)-1=sa+na-1:=by lia
 simp only[el]at f1 f2;have hl':sa+na-1<(arrOf st).size:=by lia
 have F2: ∀i,sa+na+m<=i->i<sa+na+nb->rK1 r (arrOf st) (sa+na-1)<rK1 r (arrOf st) i:=λi h1 h2=>by
  have b:r ((arrOf st)[sa+na-1]'hl')<r ((arrOf st)[sa+na+(i-(sa+na))]'(by lia)):=f2 (i-(sa+na)) (by lia) (by lia) (by lia)
  rw[i7 (r:=r) (show sa+na+(i-(sa+na))<(arrOf st).size by lia),i7 (r:=r) hl',show sa+na+(i-(sa+na))=i by lia]at b
  exact b
 by_cases c2:(m==0)=true
 ·rw[if_pos c2]
  have em:m=0:=by simpa using c2
  subst em;refine wpS_pure (h st1 B1 ?_ (by rw[a1];exact qR.refl) p1)
  rw[a1];have b0:=F2 (sa+na) (by lia) (by lia)
  intro i j h1 h2 h3
  by_cases hj:j<sa+na
  ·exact u1 i j h1 h2 hj
  ·by_cases hi:sa+na<=i
   ·exact u2 i j hi h2 h3
   ·have b1:rK1 r (arrOf st) i<=rK1 r (arrOf st) (sa+na-1):=by
     rcases(show i=sa+na-1\/i<sa+na-1 by lia)with e4|e4
     ·rw[e4];exact aj _
     ·exact Nat.le_of_lt (u1 _ _ h1 e4 (by lia))
    rcases(show j=sa+na\/sa+na<j by lia)with e4|e4
    ·rw[e4];lia
    ·have:=u2 _ _ (aj _) e4 h3
     lia
 rw[if_neg c2];have hm2:0<m:=by have:m≠0:=λq=>c2 (by simpa using q);lia
 have zx:((arrOf st).extract (sa+k) (sa+na)).size=na-k:=by rw[Array.size_extract];lia
 have zy:((arrOf st).extract (sa+na) (sa+na+m)).size=m:=by rw[Array.size_extract];lia
 have gx: ∀i (hi:i<((arrOf st).extract (sa+k) (sa+na)).size),((arrOf st).extract (sa+k) (sa+na))[i]=(arrOf st)[sa+k+i]'(by lia):=λi hi=>Array.getElem_extract ..
 have gy: ∀i (hi:i<((arrOf st).extract (sa+na) (sa+na+m)).size),((arrOf st).extract (sa+na) (sa+na+m))[i]=(arrOf st)[sa+na+i]'(by lia):=λi hi=>Array.getElem_extract ..
 have rs: ∀(x:Array Keyed),(∀i j (hi:i<j) (hj:j<x.size),r (x[i]'(by lia))<r x[j])->Rs r x.toList:=λx hx=>List.pairwise_iff_getElem.mpr λi j hi hj hij=>by
  have:=hx i j hij (by simpa using hj)
  simpa using this
 have inx: ∀x∈((arrOf st).extract (sa+k) (sa+na)).toList, ∃i,k<=i/\i<na/\∃hi:sa+i<(arrOf st).size,x=(arrOf st)[sa+i]:=λx hx=>by
  obtain⟨i,hi,rfl⟩:=List.mem_iff_getElem.mp hx;rw[Array.length_toList]at hi;refine⟨k+i,by lia,by lia,by lia,?_⟩
  rw[Array.getElem_toList,gx i hi];simp only[Nat.add_assoc]
 have iny: ∀x∈((arrOf st).extract (sa+na) (sa+na+m)).toList, ∃i,i<m/\∃hi:sa+na+i<(arrOf st).size,x=(arrOf st)[sa+na+i]:=λx hx=>by
  obtain⟨i,hi,rfl⟩:=List.mem_iff_getElem.mp hx;rw[Array.length_toList]at hi;refine⟨i,by lia,by lia,?_⟩
  rw[Array.getElem_toList,gy i hi]
 have P:MP r a₀ ((arrOf st).extract (sa+k) (sa+na)) ((arrOf st).extract (sa+na) (sa+na+m)):=by
  refine⟨λx hx=>?_,λx hx=>?_,rs _ λi j hi hj=>?_,rs _ λi j hi hj=>?_,by lia,by lia,?_,λy hy=>?_,λx hx y hy=>?_⟩
  ·obtain⟨i,_,_,hi,rfl⟩:=inx x hx;exact mem _ (b6 hi)
  ·obtain⟨i,_,hi,rfl⟩:=iny x hx;exact mem _ (b6 hi)
  ·rw[gx,gx];exact u1.at (by lia) (by lia) (by lia) _
  ·rw[gy,gy];exact u2.at (by lia) (by lia) (by lia) _
  ·rw[gx,gy];exact g2 k (aj _) hk2 (by lia)
  ·obtain⟨i,hi1,hi,rfl⟩:=iny y hy;rw[gx]
   have e3:sa+k+(((arrOf st).extract (sa+k) (sa+na)).size-1)=sa+na-1:=by lia
   simp only[e3];exact f1 i hi1 hi
  ·obtain⟨i,_,_,hi,rfl⟩:=inx x hx;obtain⟨j,_,hj,rfl⟩:=iny y hy;exact ne _ _ _ _ (by lia)
 have fin: ∀(M:Array Keyed) (st2:SortSt),GoodM r ((arrOf st).extract (sa+k) (sa+na)).toList ((arrOf st).extract (sa+na) (sa+na+m)).toList M.toList->Js κ a₀ st1 st2->∀st3:SortSt,arrOf st3=wbk (sa+k) M.toList.zipIdx (arrOf st2)->kindOf st3=kindOf st2->pendingOf st3=pendingOf st2->failedOf st3=failedOf st2->Q true st3:=by
  intro M st2 G J st3 x1 x2 x3 x4
  have lM:M.toList.length=na-k+m:=by
   have:=G.pm.length_eq
   rw[bj,Array.length_toList,Array.length_toList,Array.length_toList,zx,zy]at this;rw[Array.length_toList];exact this
  rw[J.arr,a1]at x1
  have inM: ∀x∈M.toList,(∃i,k<=i/\i<na/\∃hi:sa+i<(arrOf st).size,x=(arrOf st)[sa+i])\/∃i,i<m/\∃hi:sa+na+i<(arrOf st).size,x=(arrOf st)[sa+na+i]:=λx hx=>by
   rcases List.mem_append.mp (G.pm.mem_iff.mp hx)with q|q
   ·exact .inl (inx x q)
   ·exact .inr (iny x q)
  have get: ∀q,(arrOf st3)[q]? =if sa+k<=q/\q<sa+na+m then M.toList[q-(sa+k)]? else(arrOf st)[q]? :=λq=>by
   rw[x1,rZ (sa+k) M.toList 0 _ q (by lia),Nat.add_zero,lM]
   by_cases c:sa+k<=q/\q<sa+na+m
   ·rw[if_pos c,if_pos (by lia)]
   ·rw[if_neg c,if_neg (by lia)]
  have rout: ∀q, ¬(sa+k<=q/\q<sa+na+m)->rK1 r (arrOf st3) q=rK1 r (arrOf st) q:=λq hq=>fC (by rw[get q,if_neg hq])
  have rin: ∀q,sa+k<=q->q<sa+na+m->∃(hq:q-(sa+k)<M.toList.length),rK1 r (arrOf st3) q=r M.toList[q-(sa+k)]:=λq h1 h2=>by
   have hq:q-(sa+k)<M.toList.length:=by lia
   refine⟨hq,?_⟩;unfold rK1;rw[get q,if_pos ⟨h1,h2⟩,az hq]
  have lowM: ∀x∈M.toList, ∀i,sa<=i->i<sa+k->rK1 r (arrOf st) i<r x:=λx hx i h1 h2=>by
   rcases inM x hx with ⟨j,c1,c2,hj,rfl⟩|⟨j,c1,hj,rfl⟩
   ·rw[i7 (r:=r) hj];exact u1 _ _ h1 (by lia) (by lia)
   ·have b1:=G1 i h1 h2;rw[i7 (r:=r) hj];rcases(show j=0\/0<j by lia)with e4|e4
    ·subst e4;rw[Nat.add_zero];exact b1
    ·exact Nat.lt_trans b1 (u2 _ _ (aj _) (by lia) (by lia))
  have topM: ∀x∈M.toList, ∀i,sa+na+m<=i->i<sa+na+nb->r x<rK1 r (arrOf st) i:=λx hx i h1 h2=>by
   rcases inM x hx with ⟨j,c1,c2,hj,rfl⟩|⟨j,c1,hj,rfl⟩
   ·have b1:=F2 i h1 h2;rw[i7 (r:=r) hj];rcases(show sa+j=sa+na-1\/sa+j<sa+na-1 by lia)with e4|e4
    ·rw[e4];exact b1
    ·exact Nat.lt_trans (u1 _ _ (by lia) e4 (by lia)) b1
   ·rw[i7 (r:=r) hj];exact u2 _ _ (by lia) (by lia) h2
  refine h st3 ⟨?_,x2.trans J.B.kind,x4.trans J.B.failed⟩ (λi j h1 h2 h3=>?_) (λq hq=>?_) (x3.trans (J.pend.trans p1))
  ·refine Array.Perm.trans ?_ hB.perm;rw[x1];refine Array.perm_iff_toList_perm.mpr ?_;rw[u9 (by lia),lM]
   have e5:(arrOf st).toList=(arrOf st).toList.take (sa+k)++((((arrOf st).extract (sa+k) (sa+na)).toList++((arrOf st).extract (sa+na) (sa+na+m)).toList)++(arrOf st).toList.drop (sa+k+(na-k+m))):=by
    rw[Array.toList_extract,Array.toList_extract,List.extract_eq_take_drop,List.extract_eq_take_drop,List.append_assoc]
    have d1:(arrOf st).toList.drop (sa+k)=((arrOf st).toList.drop (sa+k)).take (sa+na-(sa+k))++(arrOf st).toList.drop (sa+na):=by
     have:=gH (arrOf st).toList (sa+k) (sa+na-(sa+k))
     rwa [show sa+k+(sa+na-(sa+k))=sa+na by lia]at this
    have d2:(arrOf st).toList.drop (sa+na)=((arrOf st).toList.drop (sa+na)).take (sa+na+m-(sa+na))++(arrOf st).toList.drop (sa+k+(na-k+m)):=by
     have:=gH (arrOf st).toList (sa+na) (sa+na+m-(sa+na))
     rwa [show sa+na+(sa+na+m-(sa+na))=sa+k+(na-k+m) by lia]at this
    rw[<-d2, <-d1,List.take_append_drop]
   refine List.Perm.trans (List.Perm.append_left _ (List.Perm.append_right _ G.pm)) (List.Perm.of_eq e5.symm)
  ·by_cases ci:i<sa+k
   ·rw[rout i (by lia)]
    by_cases cj:j<sa+k
    ·rw[rout j (by lia)];exact u1 i j h1 h2 (by lia)
    ·by_cases cj2:j<sa+na+m
     ·obtain⟨hq,e⟩:=rin j (by lia) cj2
      rw[e];exact lowM _ (List.getElem_mem hq) i h1 ci
     ·rw[rout j (by lia)]
      have b1:=G1 i h1 ci;exact Nat.lt_trans b1 (u2 _ _ (aj _) (by lia) h3)
   ·by_cases ci2:i<sa+na+m
    ·obtain⟨hi,ei⟩:=rin i (by lia) ci2
     rw[ei]
     by_cases cj2:j<sa+na+m
     ·obtain⟨hj,ej⟩:=rin j (by lia) cj2
      rw[ej];exact List.pairwise_iff_getElem.mp G.up _ _ hi hj (by lia)
     ·rw[rout j (by lia)];exact topM _ (List.getElem_mem hi) j (by lia) h3
    ·rw[rout i (by lia),rout j (by lia)];exact u2 i j (by lia) h2 h3
  ·rw[get q,if_neg (by lia)]
 have el2:sa+k+(na-k)=sa+na:=by lia
 have tail: ∀(M:Array Keyed) (st2:SortSt),GoodM r ((arrOf st).extract (sa+k) (sa+na)).toList ((arrOf st).extract (sa+na) (sa+na+m)).toList M.toList->Js κ a₀ st1 st2->wpS (model prog w) A E s ((modify λs=>SortSt.mk' (kindOf s) (wbk (sa+k) M.toList.zipIdx (arrOf s)) (pendingOf s) (gallopOf s) (failedOf s)) >>= λ_=>get >>= λs=>pure (failedOf s).isNone:SM Bool) Q st2:=λM st2 G J=>by
  refine wpS_bind (wpS_modify (wpS_bind (wpS_get (wpS_pure ?_))))
  have ef:failedOf st2=none:=J.B.failed
  have e:(failedOf (SortSt.mk' (kindOf st2) (wbk (sa+k) M.toList.zipIdx (arrOf st2)) (pendingOf st2) (gallopOf st2) (failedOf st2))).isNone=true:=by
   show(failedOf st2).isNone=true
   rw[ef];rfl
  rw[e];exact fin M st2 G J _ rfl rfl rfl rfl
 by_cases c3:na-k<=m
 ·rw[if_pos c3];refine wpS_bind (aJp C B1 P λM st2 G J=>?_)
  exact cast (by kernel_rfl) (tail M st2 G J)
 ·rw[if_neg c3];refine wpS_bind (aJq C B1 P λM st2 G J=>?_)
  exact cast (by kernel_rfl) (tail M st2 G J)
end
abbrev Rn:=Nat×Nat×Nat
def eE(r:Keyed->Nat)(xs:Array Keyed):Nat->List Rn->Nat->Prop
 |a,[],b=>a=b
 |a,q::l,b=>q.1=a/\0<q.2.1/\Up r xs a (a+q.2.1)/\eE r xs (a+q.2.1) l b
section
variable {r:Keyed->Nat} {xs ys:Array Keyed}
theorem eE.le: ∀{l:List Rn} {a b:Nat},eE r xs a l b->a+l.length<=b
 |[],a,b,h=>Nat.le_of_eq h
 |q::l,a,b,⟨_,h2,_,h4⟩=>by have:=eE.le h4;rw[bo];lia
theorem Up.congr{a b:Nat}(h:Up r xs a b)(e: ∀k,a<=k->k<b->rK1 r ys k=rK1 r xs k):Up r ys a b:=λi j h1 h2 h3=>by
 rw[e i h1 (by lia),e j (by lia) h3];exact h i j h1 h2 h3
theorem eE.congr: ∀{l:List Rn} {a b:Nat},eE r xs a l b->(∀k,a<=k->k<b->rK1 r ys k=rK1 r xs k)->eE r ys a l b
 |[],a,b,h,_=>h
 |q::l,a,b,⟨h1,h2,h3,h4⟩,e=>by
  have:=eE.le h4
  exact⟨h1,h2,h3.congr λk k1 k2=>e k k1 (by lia),eE.congr h4 λk k1 k2=>e k (by lia) k2⟩
theorem eE.app: ∀{l m:List Rn} {a b:Nat},eE r xs a (l++m) b↔ ∃c,eE r xs a l c/\eE r xs c m b
 |[],m,a,b=>⟨λh=>⟨a,rfl,h⟩,λ⟨c,h1,h2⟩=>by cases (show a=c from h1);exact h2⟩
 |q::l,m,a,b=>by
  refine⟨λ⟨h1,h2,h3,h4⟩=>?_,λ⟨c,⟨h1,h2,h3,h4⟩,h5⟩=>⟨h1,h2,h3,eE.app.mpr ⟨c,h4,h5⟩⟩⟩
  obtain⟨c,k1,k2⟩:=eE.app.mp h4;exact⟨c,⟨h1,h2,h3,k1⟩,k2⟩
theorem eE.same: ∀{l m:List Rn} {a b:Nat},l.map (λq=>(q.1,q.2.1))=m.map (λq=>(q.1,q.2.1))->eE r xs a l b->eE r xs a m b
 |[],[],_,_,_,h=>h
 |[],_::_,_,_,e,_=>by cases e
 |_::_,[],_,_,e,_=>by cases e
 |q::l,t::m,a,b,e,⟨h1,h2,h3,h4⟩=>by
  rw[List.map_cons,List.map_cons,List.cons.injEq,Prod.mk.injEq]at e;obtain⟨⟨e1,e2⟩,e3⟩:=e;rw[e1]at h1;rw[e2]at h2 h3 h4;exact⟨h1,h2,h3,eE.same e3 h4⟩
theorem pV{a b:Nat}(h:qR ys xs a b){k:Nat}(hk:k<a\/b<=k):rK1 r ys k=rK1 r xs k:=fC (h k hk)
theorem aBa{p:Array Rn}{L R:List Rn}{x y:Rn}{i sa n pw:Nat}(e:p.toList=L++x::y::R)(hi:L.length=i):(pAt p i sa n pw).toList=L++(sa,n,pw)::R:=by
 subst hi;unfold pAt;rw[Array.toList_eraseIdxIfInBounds,Array.toList_setIfInBounds,e];simp[List.set_append,List.eraseIdx_append];intro z;lia
theorem eE.merge{p:Array Rn}{i b:Nat}(h:eE r xs 0 p.toList b)(hi:i+1<p.size): ∃sa na pw nb pw2,p[i]? =some (sa,na,pw)/\p[i+1]? =some (sa+na,nb,pw2)/\0<na/\0<nb/\sa+na+nb<=b/\Up r xs sa (sa+na)/\Up r xs (sa+na) (sa+na+nb)/\
  ∀ys,Up r ys sa (sa+na+nb)->qR ys xs sa (sa+na+nb)->eE r ys 0 (pAt p i sa (na+nb) pw).toList b/\(pAt p i sa (na+nb) pw).size=p.size-1:=by
 have hl:p.toList.length=p.size:=Array.length_toList
 have e1:p.toList=p.toList.take i++p.toList[i]::p.toList[i+1]::p.toList.drop (i+1+1):=by
  rw[<-List.drop_eq_getElem_cons, <-List.drop_eq_getElem_cons,List.take_append_drop]
 have lt:(p.toList.take i).length=i:=by rw[List.length_take];lia
 have h0:=h;rw[e1]at h;obtain⟨c,h1,h2,n1,u1,h3,n2,u2,h4⟩:=eE.app.mp h;obtain⟨sa,na,pw,hx⟩: ∃sa na pw,p.toList[i]=(sa,na,pw):=⟨_,_,_,rfl⟩;obtain⟨sb,nb,pw2,hy⟩: ∃sb nb pw2,p.toList[i+1]=(sb,nb,pw2):=⟨_,_,_,rfl⟩;rw[hx]at h2 n1 u1 h3 u2 h4;rw[hy]at h3 n2 u2 h4
 simp only at h2 n1 u1 h3 u2 h4 n2
 subst h2;subst h3;have b1:=eE.le h4;have b0:=eE.le h1;refine⟨sa,na,pw,nb,pw2,?_,?_,n1,n2,by lia,u1,u2,λys uy oy=>?_⟩
 ·rw[<-Array.getElem?_toList,az (by lia),hx]
 ·rw[<-Array.getElem?_toList,az (by lia),hy]
 ·have e2:=aBa (sa:=sa) (n:=na+nb) (pw:=pw) e1 lt;refine⟨?_,?_⟩
  ·rw[e2];refine eE.app.mpr ⟨sa,h1.congr λk _ k2=>pV oy (.inl k2),rfl,by show 0<na+nb;lia,by rw[<-Nat.add_assoc];exact uy,?_⟩
   show eE r ys (sa+(na+nb)) _ b;rw[<-Nat.add_assoc];exact h4.congr λk k1 _=>pV oy (.inr k1)
  ·rw[<-Array.length_toList,e2, <-hl,bj,lt,bo,List.length_drop];lia
theorem aBb{p:Array Rn}{i pw:Nat}{b:Nat}(h:eE r xs 0 p.toList b){f:Rn->Rn}(hf: ∀q,(f q).1=q.1/\(f q).2.1=q.2.1):eE r xs 0 (p.modify i f).toList b:=by
 refine eE.same ?_ h;apply List.ext_getElem?;intro k;rw[List.getElem?_map,List.getElem?_map,Array.getElem?_toList,Array.getElem?_toList,Array.getElem?_modify];split
 ·rw[Option.map_map]
  congr 1
  funext q
  show(q.1,q.2.1)=((f q).1,(f q).2.1)
  rw[(hf q).1,(hf q).2]
 ·rfl
end
section
variable {prog:Program} {w:World} {A:Around} {E:cb} {s:Shared} {κ:SortKind} {a₀:Array Keyed} {r:Keyed->Nat}
theorem aJs(c:Prop)[Decidable c](i:Nat):(if c then i-1 else i)<=i:=by split<;>lia
theorem aCt(C:u7 prog w A s κ a₀ r){st:SortSt}{i lo:Nat}{Q:Bool->SortSt->Prop}(hB:SB κ a₀ st)(hr:eE r (arrOf st) 0 (pendingOf st).toList lo)(hl:lo<=a₀.size)(hi:i+1<(pendingOf st).size)
  (h: ∀st',SB κ a₀ st'->eE r (arrOf st') 0 (pendingOf st').toList lo->(∀k,lo<=k->rK1 r (arrOf st') k=rK1 r (arrOf st) k)->(pendingOf st').size=(pendingOf st).size-1->Q true st'):wpS (model prog w) A E s (mAt i) Q st:=by
 obtain⟨sa,na,pw,nb,pw2,e1,e2,n1,n2,z,u1,u2,k⟩:=hr.merge hi;refine aJr C hB e1 e2 n1 n2 (by lia) u1 u2 λst' B' U' O' p'=>?_
 obtain⟨k1,k2⟩:=k (arrOf st') U' O';rw[<-p']at k1 k2;exact h st' B' k1 (λq hq=>pV O' (.inr (by lia))) k2
theorem aFj(C:u7 prog w A s κ a₀ r){st:SortSt}{Q:Unit->SortSt->Prop}(hB:SB κ a₀ st)(hp:pendingOf st= #[])(h: ∀st',SB κ a₀ st'->Up r (arrOf st') 0 a₀.size->Q () st'):wpS (model prog w) A E s sortRuns' Q st:=by
 have z:=hB.size;rw[sortRuns'_eq];refine wpS_bind (wpS_get ?_);simp only[z];generalize minRun' a₀.size a₀.size 0=mr
 refine wpS_bind (wpS_mono (wpS_forRange (I:=λx c st'=>SB κ a₀ st'/\∃lo,c=(none,lo)/\eE r (arrOf st') 0 (pendingOf st').toList lo/\lo<=a₀.size/\x<=lo)
  (Q:=λc st'=>SB κ a₀ st'/\c=(none,a₀.size)/\eE r (arrOf st') 0 (pendingOf st').toList a₀.size) ?step ?fin ⟨hB,0,rfl,by rw[hp];rfl,by lia,by lia⟩) ?post)
 case fin=>
  rintro c st' ⟨B,lo,rfl,R,k1,k2⟩
  have:lo=a₀.size:=by lia
  subst this;exact⟨B,rfl,R⟩
 case step=>
  rintro x c st' _ hx ⟨B,lo,rfl,R,k1,k2⟩
  dsimp only
  by_cases c1:lo≥a₀.size
  ·rw[if_pos c1]
   have:lo=a₀.size:=by lia
   subst this;exact wpS_pure ⟨B,rfl,R⟩
  rw[if_neg c1];refine wpS_bind (aA9 C (by lia) (by lia) B λm st2 B2 m1 m2 U2 O2 p2=>?_)
  dsimp only
  have R2:eE r (arrOf st2) 0 (pendingOf st2).toList lo:=by
   rw[p2];exact R.congr λk _ h2=>pV O2 (.inl h2)
  rcases(show m<mr\/¬m<mr by lia)with c2|c2
  case' inl=>
   rw[if_pos c2];refine wpS_bind (wpS_lift (wpAny_rule ⟨rfl,?_⟩));refine wpS_bind (aJk C (n:=min (a₀.size-lo) mr) (by lia) (by lia) B2 U2 λst3 B3 U3 O3 p3=>?_)
   simp only[Bool.not_true,aw,if_false]
   have R3:eE r (arrOf st3) 0 (pendingOf st3).toList lo:=by
    rw[p3];exact R2.congr λk _ h2=>pV O3 (.inl h2)
   have n3:0<min (a₀.size-lo) mr:=by lia
   have n4:lo+min (a₀.size-lo) mr<=a₀.size:=by lia
   clear R2 O3 p3 U2 B2 O2 p2 c2 m1 m2;generalize min (a₀.size-lo) mr=n at U3 n3 n4 ⊢
  case' inr=>
   rw[if_neg c2];have n3:0<m:=by lia
   have n4:lo+m<=a₀.size:=by lia
   have B3:=B2;have U3:=U2;have R3:=R2;clear R2 U2 B2 c2 O2 p2 m1 m2;generalize st2=st3 at B3 U3 R3 ⊢;generalize m=n at U3 n3 n4 ⊢
  all_goals
   have last: ∀st4:SortSt,SB κ a₀ st4->Up r (arrOf st4) lo (lo+n)->eE r (arrOf st4) 0 (pendingOf st4).toList lo->∀st5:SortSt,arrOf st5=arrOf st4->kindOf st5=kindOf st4->failedOf st5=failedOf st4->(∃p:Array Rn,eE r (arrOf st4) 0 p.toList lo/\pendingOf st5=p.push (lo,n,0))->SB κ a₀ st5/\∃lo',((none,lo+n):Option Unit×Nat)=(none,lo')/\eE r (arrOf st5) 0 (pendingOf st5).toList lo'/\lo'<=a₀.size/\x+1<=lo':=by
    rintro st4 B4 U4 _ st5 x1 x2 x3 ⟨p,R4,x4⟩;refine⟨⟨by rw[x1];exact B4.perm,x2.trans B4.kind,x3.trans B4.failed⟩,lo+n,rfl,?_,n4,by lia⟩
    rw[x1,x4,Array.toList_push];exact eE.app.mpr ⟨lo,R4,rfl,n3,U4,rfl⟩
   refine wpS_bind (wpS_get ?_)
   cases eb:(pendingOf st3).back? with
   |none=>
    dsimp only
    exact wpS_bind (wpS_modify (wpS_pure (last st3 B3 U3 R3 _ rfl rfl rfl ⟨_,R3,rfl⟩)))
   |some q=>
    obtain⟨s1,n1,o1⟩:=q
    dsimp only
    generalize power' a₀.size (2*s1+n1) (2*s1+n1+n1+n) a₀.size=pw
    refine wpS_bind (wpS_mono (wpS_forRange (I:=λy c st'=>c=(none,())/\SB κ a₀ st'/\Up r (arrOf st') lo (lo+n)/\eE r (arrOf st') 0 (pendingOf st').toList lo)
     (Q:=λc st'=>c=(none,())/\SB κ a₀ st'/\Up r (arrOf st') lo (lo+n)/\eE r (arrOf st') 0 (pendingOf st').toList lo) ?mstep (λ_ _ q=>q) ⟨rfl,B3,U3,R3⟩) ?mpost)
    case mpost=>
     rintro c st4 ⟨rfl,B4,U4,R4⟩
     dsimp only
     refine wpS_bind (wpS_modify (wpS_bind (wpS_modify (wpS_pure (last st4 B4 U4 R4 _ rfl rfl rfl ⟨_,aBb (pw:=0) R4 (λq=>?_),rfl⟩)))))
     exact⟨rfl,rfl⟩
    case mstep=>
     rintro y c st4 _ hy ⟨rfl,B4,U4,R4⟩;refine wpS_bind (wpS_get ?_)
     by_cases c4:(pendingOf st4).size > 1
     ·have hi:(pendingOf st4).size-2<(pendingOf st4).size:=by lia
      rw[if_pos c4,getElem?_pos (pendingOf st4) _ hi];obtain⟨o1,o2,o3⟩:=(pendingOf st4)[(pendingOf st4).size-2]
      dsimp only
      by_cases c5:o3<=pw
      ·rw[if_pos c5];exact wpS_pure ⟨rfl,B4,U4,R4⟩
      ·rw[if_neg c5];refine wpS_bind (aCt C B4 R4 k1 (by lia) λst5 B5 R5 K5 _=>?_)
       simp only[Bool.not_true,aw,if_false];exact wpS_pure ⟨rfl,B5,U4.congr λk h1 _=>K5 k h1,R5⟩
     ·rw[if_neg c4];exact wpS_pure ⟨rfl,B4,U4,R4⟩
 case post=>
  rintro c st' ⟨B,rfl,R⟩
  dsimp only
  have l0:=R.le;rw[Array.length_toList]at l0
  refine wpS_bind (wpS_mono (wpS_forRange (I:=λx c st'=>c=(none,())/\SB κ a₀ st'/\eE r (arrOf st') 0 (pendingOf st').toList a₀.size/\(pendingOf st').size+x<=a₀.size+1)
   (Q:=λc st'=>c=(none,())/\SB κ a₀ st'/\eE r (arrOf st') 0 (pendingOf st').toList a₀.size/\(pendingOf st').size<=1) ?fstep ?ffin ⟨rfl,B,R,by lia⟩) ?fpost)
  case ffin=>
   rintro c st' ⟨rfl,B,R,k⟩;exact⟨rfl,B,R,by lia⟩
  case fstep=>
   rintro x c st' _ hx ⟨rfl,B,R,k⟩;refine wpS_bind (wpS_get ?_)
   by_cases c1:(pendingOf st').size<=1
   ·rw[if_pos c1];exact wpS_pure ⟨rfl,B,R,c1⟩
   ·rw[if_neg c1];refine wpS_bind (aCt C B R (aj _) ?_ λst5 B5 R5 _ K5=>?_)
    ·exact Nat.lt_of_le_of_lt (Nat.add_le_add_right (aJs _ _) 1) (by lia)
    ·simp only[Bool.not_true,aw,if_false];exact wpS_pure ⟨rfl,B5,R5,by lia⟩
  case fpost=>
   rintro c st' ⟨rfl,B,R,k⟩;refine wpS_pure (h st' B ?_);rcases hP:(pendingOf st').toList with _|⟨q,_|⟨t,l⟩⟩
   ·rw[hP]at R
    have e:0=a₀.size:=R
    rw[<-e];exact Up.one (by lia)
   ·rw[hP]at R;obtain⟨_,_,u,e⟩:=R
    have e:0+q.2.1=a₀.size:=e
    rw[e]at u;exact u
   ·have:=congrArg List.length hP
    rw[Array.length_toList,bo,bo]at this
    lia
end
theorem fD: ∀a,eN a a=false
 |[]=>rfl
 |a::r=>by simp[eN,fD r]
theorem gI: ∀a b c,eN a b=true->eN b c=true->eN a c=true
 |[],[],_,h,_=>by cases h
 |[],_::_,[],_,h=>by cases h
 |[],_::_,_::_,_,_=>rfl
 |_::_,[],_,h,_=>by cases h
 |_::_,_::_,[],_,h=>by cases h
 |a::r,b::t,c::u,h1,h2=>by
  unfold eN at h1 h2 ⊢
  by_cases ab:a=b
  ·subst ab;rw[if_pos rfl]at h1
   by_cases ac:a=c
   ·rw[if_pos ac]at h2 ⊢;exact gI r t u h1 h2
   ·rw[if_neg ac]at h2 ⊢;exact h2
  ·rw[if_neg ab]at h1;have h1:=of_decide_eq_true h1
   by_cases bc:b=c
   ·subst bc;rw[if_neg ab];exact decide_eq_true h1
   ·rw[if_neg bc]at h2;have h2:=of_decide_eq_true h2;rw[if_neg (by lia)];exact decide_eq_true (by lia)
theorem j0: ∀a b c,eN a c=true->eN a b=true\/eN b c=true
 |[],[],[],h=>by cases h
 |[],[],_::_,_=>.inr rfl
 |[],_::_,_,_=>.inl rfl
 |_::_,_,[],h=>by cases h
 |_::_,[],_::_,_=>.inr rfl
 |a::r,b::t,c::u,h=>by
  unfold eN at h ⊢
  by_cases ac:a=c
  ·subst ac;rw[if_pos rfl]at h
   by_cases ab:a=b
   ·subst ab;rw[if_pos rfl,if_pos rfl];exact j0 r t u h
   ·rw[if_neg ab,if_neg (Ne.symm ab)];rcases Int.lt_or_gt_of_ne ab with z|z
    ·exact .inl (decide_eq_true z)
    ·exact .inr (decide_eq_true z)
  ·rw[if_neg ac]at h;have h:=of_decide_eq_true h
   by_cases ab:a=b
   ·subst ab;rw[if_neg ac];exact .inr (decide_eq_true h)
   ·rw[if_neg ab]
    by_cases z:a<b
    ·exact .inl (decide_eq_true z)
    ·rw[if_neg (by lia)];exact .inr (decide_eq_true (by lia))
theorem gJ: ∀a b,eN a b=false->eN b a=false->a=b
 |[],[],_,_=>rfl
 |[],_::_,h,_=>by cases h
 |_::_,[],_,h=>by cases h
 |a::r,b::t,h1,h2=>by
  unfold eN at h1 h2
  by_cases ab:a=b
  ·subst ab;rw[if_pos rfl]at h1 h2;rw[gJ r t h1 h2]
  ·rw[if_neg ab]at h1;rw[if_neg (Ne.symm ab)]at h2;have h1:=of_decide_eq_false h1;have h2:=of_decide_eq_false h2
   lia
def aCu:KeyOrd:=⟨List Int,eN,fD,gI,j0,gJ⟩
theorem aFk{a b c:List Int}(h1:eN b a=false)(h2:eN c b=false):eN c a=false:=by
 cases h:eN c a
 ·rfl
 ·rcases j0 c b a h with z|z
  ·rw[h2]at z;cases z
  ·rw[h1]at z;cases z
def rkL(ds:List D)(l:List Int):Nat:=ds.countP λd=>eN (cO d) l
theorem pW{α:Type}{p q:α->Bool}: ∀{l:List α},(∀x∈l,p x=true->q x=true)->(∃x∈l,q x=true/\p x=false)->l.countP p<l.countP q
 |[],_,⟨x,hx,_⟩=>by cases hx
 |a::l,h,⟨x,hx,q1,p1⟩=>by
  have h': ∀x∈l,p x=true->q x=true:=λy hy=>h y (.tail _ hy)
  have mono:l.countP p<=l.countP q:=List.countP_mono_left h'
  rw[List.countP_cons,List.countP_cons];rcases aq.mp hx with e|e
  ·subst e;rw[q1,p1];simp only[if_true,aw,if_false]
   lia
  ·have:=pW h' ⟨x,e,q1,p1⟩
   have ha:=h a (.head _)
   cases hp:p a with
   |false=>simp only[aw,if_false];split<;>lia
   |true=>rw[ha hp];simp only[if_true];lia
theorem aJt{ds:List D}{x y:D}(hx:x∈ds):eN (cO x) (cO y)=decide (rkL ds (cO x)<rkL ds (cO y)):=by
 cases h:eN (cO x) (cO y)with
 |true=>
  symm;rw[decide_eq_true_eq];exact pW (λd _ hd=>gI _ _ _ hd h) ⟨x,hx,h,fD _⟩
 |false=>
  symm;rw[decide_eq_false_iff_not]
  have:rkL ds (cO y)<=rkL ds (cO x):=List.countP_mono_left λd _ hd=>by
   rcases j0 _ (cO x) _ hd with z|z
   ·exact z
   ·rw[h]at z;cases z
  lia
theorem aFl{x y:D}(h:same x y=true)(hx:same x x=true)(e:bU x=bU y):cO x=cO y:=by
 have px:=b8 hx;have py:=b8 (pR h).1;have h1:=eG x y px py;have h2:=eG x x px px;rw[<-e,h2,gG hx,gG h]at h1;rw[beq_self_eq_true]at h1;exact eq_of_beq h1.symm
theorem pX{α:Type}{ks:List Nat}{f:Nat->α}{vs:List α}(h:vs.Perm (ks.map f)): ∃js:List Nat,js.Perm ks/\vs=js.map f:=by
 induction ks generalizing vs with
 |nil=>
  have:vs=[]:=List.Perm.eq_nil h
  exact⟨[],List.Perm.refl _,this⟩
 |cons k ks ih=>
  obtain⟨a,b,rfl⟩:=List.append_of_mem (h.mem_iff.mpr (ao.mpr ⟨k,.head _,rfl⟩))
  have h':(a++b).Perm (ks.map f):=by
   have:=List.perm_middle.symm.trans h
   rw[List.map_cons]at this;exact this.cons_inv
  obtain⟨js,p,e⟩:=ih h';refine⟨js.take a.length++k::js.drop a.length,List.perm_middle.trans ((List.Perm.of_eq (by rw[List.take_append_drop])).trans p |>.cons k),?_⟩
  rw[List.map_append,List.map_cons,List.map_take,List.map_drop, <-e];simp
def rkI(vs:List Value)(ds:List D)(p:Keyed):Nat:= @dite _ (∃i,i<vs.length/\vs.getD i Value.none=p.1) (Classical.propDecidable _) (λh=>rkL ds (cO (ds.getD (Classical.choose h) .non))) λ_=>0
section
variable {prog:Program} {w:World} {A:Around} {E:cb} {s:Shared} {κ:SortKind} {vs:List Value} {ds:List D}
theorem aFm(hlen:vs.length=ds.length)(hnd:(ds.map cO).Nodup)(huni: ∀i j,i<vs.length->j<vs.length->vs.getD i Value.none=vs.getD j Value.none->cO (ds.getD i .non)=cO (ds.getD j .non))
  (hc:Cm (O:=aCu) (λi=>cO (ds.getD i .non)) vs.length (kas_ask prog w A κ vs) s):
  wpAny (model prog w) A (sortRuns'.run (SortSt.mk' κ (vs.toArray.zip vs.toArray) #[] 7 none)) (λq s'=>s'=s/\∃p:Array Nat,arrOf q.2=p.map (kas_item (vs.toArray.zip vs.toArray))/\failedOf q.2=none/\Gd vs.length p/\Srt (O:=aCu) (λi=>cO (ds.getD i .non)) p vs.length) E s:=by
 have hz:(vs.toArray.zip vs.toArray).size=vs.length:=by simp
 have er:(vs.toArray.zip vs.toArray).toList=(List.range vs.length).map (kas_item (vs.toArray.zip vs.toArray)):=by
  have:=kas_range (vs.toArray.zip vs.toArray)
  rw[hz]at this
  have:=congrArg Array.toList this
  rw[Array.toList_map]at this;exact this.symm
 have ei: ∀i,kas_item (vs.toArray.zip vs.toArray) i=(vs.getD i Value.none,vs.getD i Value.none):=λi=>kas_item_eq vs i
 have mem: ∀i,i<ds.length->ds.getD i .non∈ds:=λi hi=>by
  rw[bu,az hi,Option.getD_some];exact List.getElem_mem hi
 have rk: ∀i,i<vs.length->rkI vs ds (kas_item (vs.toArray.zip vs.toArray) i)=rkL ds (cO (ds.getD i .non)):=λi hi=>by
  rw[ei]
  have h: ∃j,j<vs.length/\vs.getD j Value.none=vs.getD i Value.none:=⟨i,hi,rfl⟩
  unfold rkI;rw[dif_pos h];obtain⟨h1,h2⟩:=Classical.choose_spec h;rw[huni _ _ h1 hi h2]
 have hlt: ∀i j,i<vs.length->j<vs.length->eN (cO (ds.getD i .non)) (cO (ds.getD j .non))=decide (rkL ds (cO (ds.getD i .non))<rkL ds (cO (ds.getD j .non))):=λi j hi hj=>aJt (mem i (by lia))
 have C:u7 prog w A s κ (vs.toArray.zip vs.toArray) (rkI vs ds):=by
  refine⟨λx y hx hy=>?_,?_⟩
  ·rw[er]at hx hy;obtain⟨i,hi,rfl⟩:=ao.mp hx;obtain⟨j,hj,rfl⟩:=ao.mp hy;have hi:=zRd hi;have hj:=zRd hj;rw[rk i hi,rk j hj,ei,ei];exact hc i j (λb s'=>s'=s/\b=decide (rkL ds (cO (ds.getD i .non))<rkL ds (cO (ds.getD j .non)))) hi hj ⟨rfl,hlt i j hi hj⟩
  ·rw[er,List.map_map];refine List.pairwise_iff_getElem.mpr λi j hi hj hij=>?_
   rw[am,List.length_range]at hi hj;rw[List.getElem_map,List.getElem_map,List.getElem_range,List.getElem_range];show rkI vs ds (kas_item _ i)≠rkI vs ds (kas_item _ j);rw[rk i hi,rk j hj];intro e;have n:=List.pairwise_iff_getElem.mp hnd i j (by simpa using (show i<ds.length by lia)) (by simpa using (show j<ds.length by lia)) hij
   rw[List.getElem_map,List.getElem_map]at n;have a1:=hlt i j hi hj;have a2:=hlt j i hj hi;rw[e,decide_eq_false (Nat.lt_irrefl _)]at a1;rw[e,decide_eq_false (Nat.lt_irrefl _)]at a2
   have:=gJ _ _ a1 a2
   have g1:ds.getD i .non=ds[i]'(by lia):=by simp[show i<ds.length by lia]
   have g2:ds.getD j .non=ds[j]'(by lia):=by simp[show j<ds.length by lia]
   rw[g1,g2]at this;exact n this
 refine aFj C (st:=SortSt.mk' κ (vs.toArray.zip vs.toArray) #[] 7 none) (Q:=λ_ st'=>∃p:Array Nat,arrOf st'=p.map (kas_item (vs.toArray.zip vs.toArray))/\failedOf st'=none/\Gd vs.length p/\Srt (O:=aCu) (λi=>cO (ds.getD i .non)) p vs.length) ⟨Array.Perm.refl _,rfl,rfl⟩ rfl λst' B U=>?_
 obtain⟨js,pj,ej⟩:=pX (er▸Array.perm_iff_toList_perm.mp B.perm)
 have ha:arrOf st'=js.toArray.map (kas_item (vs.toArray.zip vs.toArray)):=by
  apply Array.toList_inj.mp;rw[ej,Array.toList_map]
 have gd:Gd vs.length js.toArray:=Array.perm_iff_toList_perm.mpr (by simpa using pj)
 refine⟨js.toArray,ha,B.failed,gd,λi j hij hj=>?_⟩
 rcases Nat.eq_or_lt_of_le hij with e|e
 ·subst e;exact KeyOrd.kle_refl _
 ·have u:=U i j (bq _) e (by rw[hz];exact hj)
  have gj:js.toArray.size=vs.length:=gd.size
  have at': ∀i,i<vs.length->rK1 (rkI vs ds) (arrOf st') i=rkL ds (cO (ds.getD (js.toArray.getD i 0) .non)):=λi hi=>by
   have h1:i<js.toArray.size:=by lia
   unfold rK1;rw[ha,Array.getElem?_map,getElem?_pos js.toArray i h1]
   have e3:js.toArray.getD i 0=js.toArray[i]:=by unfold Array.getD;rw[dif_pos h1];rfl
   rw[e3]
   have:=gd.lt hi
   rw[e3]at this;exact rk _ this
  rw[at' i (by lia),at' j hj]at u
  have:=hlt _ _ (gd.lt (i:=i) (by lia)) (gd.lt hj)
  rw[decide_eq_true u]at this;exact KeyOrd.kle_of_klt (O:=aCu) this
end
theorem k7(a:D): ∀l,(aGp a l).Perm (a::l)
 |[]=>List.Perm.refl _
 |b::r=>by
  unfold aGp;split
  ·exact((k7 a r).cons b).trans (List.Perm.swap a b r)
  ·exact List.Perm.refl _
theorem gK: ∀l,(mX l).Perm l
 |[]=>List.Perm.refl _
 |a::r=>(k7 a (mX r)).trans ((gK r).cons a)
theorem mG(a:D): ∀{l:List D},l.Pairwise (λx y=>ltD y x=false)->(aGp a l).Pairwise (λx y=>ltD y x=false)
 |[],_=>List.pairwise_singleton _ _
 |b::r,h=>by
  unfold aGp;have h1:=List.pairwise_cons.mp h;split
  ·rename_i hab;refine List.pairwise_cons.mpr ⟨λc hc=>?_,mG a h1.2⟩
   rcases aq.mp ((k7 a r).mem_iff.mp hc)with rfl|hc
   ·cases z:ltD c b
    ·rfl
    ·have:=gI _ _ _ hab z;rw[fD]at this;cases this
   ·exact h1.1 c hc
  ·rename_i hab
   have hab:ltD b a=false:=by simpa using hab
   refine List.pairwise_cons.mpr ⟨λc hc=>?_,h⟩
   rcases aq.mp hc with rfl|hc
   ·exact hab
   ·exact aFk hab (h1.1 c hc)
theorem hV: ∀l,(mX l).Pairwise (λx y=>ltD y x=false)
 |[]=>List.Pairwise.nil
 |a::r=>mG a (hV r)
def One(ds:List D):Prop:= ∀x∈ds, ∀y∈ds,same x y=true
theorem mH{l m:List D}(ho:One l)(p:m.Perm l)(h:m.Pairwise (λx y=>ltD y x=false)):m=mX l:=
 List.Perm.eq_of_pairwise (λa b ha hb x y=>jX (ho a (p.mem_iff.mp ha) b ((gK l).mem_iff.mp hb)) (gJ _ _ y x)) h (hV l) (p.trans (gK l).symm)
theorem sA{l m:List D}(ho:One l)(p:m.Perm l):mX m=mX l:=mH ho ((gK m).trans p) (hV m)
theorem aJu{n:Nat}{p:Array Nat}{ds:List D}(ho:One ds)(hn:ds.length=n)(g:Gd n p)(st:Srt (O:=aCu) (λi=>cO (ds.getD i .non)) p n):(p.toList.map λi=>ds.getD i .non)=mX ds:=by
 have pe:p.toList.Perm (List.range n):=by
  have:=Array.Perm.toList g
  simpa using this
 refine mH ho ((pe.map _).trans (List.Perm.of_eq ?_)) ?_
 ·apply List.ext_getElem
  ·simp[hn]
  ·intro i h1 h2;simp[h2]
 ·rw[List.pairwise_map,List.pairwise_iff_getElem];intro i j hi hj hij;have gs:=g.size;rw[Array.length_toList,gs]at hi hj
  have:=st i j (Nat.le_of_lt hij) hj
  have e: ∀k (hk:k<p.size),p.getD k 0=p.toList[k]'(by simpa using hk):=λk hk=>by simp[Array.getD,hk]
  have r:eN (cO (ds.getD (p.getD j 0) .non)) (cO (ds.getD (p.getD i 0) .non))=false:=this
  rw[e i (by lia),e j (by lia)]at r
  exact r
theorem gL{ds:List D}(h:iU ds=true):One ds/\(∀d∈ds,kF d=true/\dep d<=8)/\(2<=ds.length->∀d∈ds,gU d=true):=by
 cases ds with
 |nil=>cases h
 |cons d r=>
  simp only[iU,ar,decide_eq_true_eq,List.all_eq_true]at h;obtain⟨⟨⟨⟨h1,h2⟩,h3⟩,h4⟩,h5⟩:=h
  have sd: ∀x∈d::r,same d x=true:=λx hx=>by
   rcases aq.mp hx with rfl|hx
   ·exact h4
   ·exact h5 x hx
  have tup: ∀x,same d x=true->kF x=true:=λx hx=>by
   cases d<;>simp[kF]at h1
   cases x<;>simp[same]at hx
   rfl
  have tupN:gU d=true->∀x,same d x=true->gU x=true:=λhd x hx=>by
   cases d<;>simp[kF]at h1
   rename_i xs
   cases x<;>simp[same]at hx
   rename_i ys
   cases xs with
   |nil=>simp[gU]at hd
   |cons a xs=>
    cases ys with
    |nil=>simp[bK]at hx
    |cons b ys=>rfl
  refine⟨λx hx y hy=>xY (sd x hx) (sd y hy),λx hx=>⟨tup x (sd x hx),by rw[(pR (sd x hx)).2.2];exact h3⟩,λh2' x hx=>?_⟩
  have hd:gU d=true:=by
   rcases(Bool.or_eq_true _ _).mp h2 with q|q
   ·have:r=[]:=by simpa using q
    subst this
    simp at h2'
   ·exact q
  exact tupN hd x (sd x hx)
section
variable {prog:Program} {w:World} {A:Around} {Ex:cb} {s:Shared}
mutual
theorem vA{h h':Heap}(k: ∀b o,o.cls= .type "tuple"->h.get? b=some o->h'.get? b=some o): ∀{d:PyData} {v:Value} {as:List Addr},hk d=true->Reads h v d as->Reads h' v d as
 |_,_,_,_,.none=>.none
 |_,_,_,_,.int i t=>.int i t
 |_,_,_,hd,.tuple e c q r=>.tuple (k _ _ c e) c q (cG k (by simpa[hk]using hd) r)
 |_,_,_,hd,.bool _=>by simp[hk]at hd
 |_,_,_,hd,.str _ _=>by simp[hk]at hd
 |_,_,_,hd,.list _ _ _ _=>by simp[hk]at hd
 |_,_,_,hd,.dict _ _ _ _ _=>by simp[hk]at hd
theorem cG{h h':Heap}(k: ∀b o,o.cls= .type "tuple"->h.get? b=some o->h'.get? b=some o): ∀{ds:List PyData} {vs:List Value} {as:List Addr},hks ds=true->ReadsAll h vs ds as->ReadsAll h' vs ds as
 |_,_,_,_,.nil=>.nil
 |_,_,_,hd,.cons a b=>by
  simp only[hks,ar]at hd;exact .cons (vA k hd.1 a) (cG k hd.2 b)
end
theorem t0{n:Nat}{b fin:Bool}{Q:Bool->Shared->Prop}(hu:A.units+n<cLine): ∀{us vs:List Value} {xs ys:List D} {as bs:List Addr} (i:Nat),ReadsAll s.heap us (aZ xs) as->ReadsAll s.heap vs (aZ ys) bs->bK xs ys=true->mV xs<=n->((b&&i==0)=true->∃k r,xs= .int k::r)->fin=decide (xs.length<ys.length)->Q (eN (dM xs) (dM ys)) s->KatLex prog w A b fin Q (us.zip vs) i s
 |us,vs,[],[],as,bs,i,ra,rb,hs,hn,hb,hf,h=>by
  simp only[aZ]at ra rb
  cases ra;cases rb
  subst hf;exact h
 |us,vs,[],_::_,as,bs,i,ra,rb,hs,hn,hb,hf,h=>by simp[bK]at hs
 |us,vs,_::_,[],as,bs,i,ra,rb,hs,hn,hb,hf,h=>by simp[bK]at hs
 |us,vs,x::xs,y::ys,as,bs,i,ra,rb,hs,hn,hb,hf,h=>by
  simp only[aZ]at ra rb
  cases ra with
  |@cons u us _ _ a1 a2 ru ra=>
   cases rb with
   |@cons v vs _ _ b1 b2 rv rb=>
    simp only[bK,ar]at hs;simp only[mV]at hn;obtain⟨s1,s2,s3⟩:=pR hs.1;have p1:=b8 s2;have p2:=b8 s1;have heq:=SeqAt.eqAt_reads (bU x) (bU y) A s u v a1 b1 ru rv (fM p1) (fM p2) (by rw[fN,fN];lia)
    rw[eG x y p1 p2,gG hs.1]at heq;refine kat_cons (heq prog w _ _ ?_);simp only[dM]at h;rw[nK (iJ hs.1)]at h
    by_cases e:cO x=cO y
    ·rw[if_pos e]at h;rw[e,beq_self_eq_true];refine kat_yes (t0 hu (i+1) ra rb hs.2 (by lia) (λz=>by simp at z) ?_ h)
     rw[hf];simp
    ·rw[if_neg e]at h;rw[show(cO x==cO y)=false by simpa using e]
     refine kat_no ?_
     cases hbi:(b&&i==0)with
     |true=>
      obtain⟨k,r,ex⟩:=hb hbi;cases ex
      cases y<;>simp[same]at hs
      rename_i k2;simp only[bU]at ru rv
      cases ru;cases rv
      have e2:eN (cO (D.int k)) (cO (D.int k2))=decide (k<k2):=by
       have e': ¬k=k2:=λz=>e (by rw[z])
       simp only[cO,eN,if_neg e']
      rw[e2]at h;exact oneLt_int h
     |false=>exact kat_one _ _ (aL8 n x y u v a1 b1 A s _ _ hs.1 (by lia) ru rv hu h)
theorem k8(l:List D):(aZ l).length=l.length:=by induction l with|nil=>rfl|cons a l ih=>simp[aZ,ih]
theorem fE{h:Heap}: ∀{us:List Value} {ds:List D} {as:List Addr} {i:Nat},ReadsAll h us (aZ ds) as->i<ds.length->∃bs,Reads h (us.getD i .none) (bU (ds.getD i .non)) bs
 |_,[],_,_,_,hi=>by cases hi
 |us,d::ds,as,i,r,hi=>by
  simp only[aZ]at r
  cases r with
  |@cons u us _ _ a1 a2 ru ra=>
   cases i with
   |zero=>exact⟨a1,ru⟩
   |succ i=>exact fE (us:=us) (ds:=ds) ra (by simpa using hi)
theorem pY{h:Heap}: ∀{vs:List Value} {ds:List D} {as:List Addr},ReadsAll h vs (aZ ds) as->(∀d∈ds,gU d=true)->∃fs:List Value,KatTups h vs fs/\fs.length=vs.length/\∀f∈fs, ∃d∈ds, ∃x r bs,d= .tup (x::r)/\Reads h f (bU x) bs
 |_,[],_,r,_=>by
  simp only[aZ]at r;cases r;exact⟨[],trivial,rfl,nofun⟩
 |_,d::ds,_,r,hn=>by
  simp only[aZ]at r
  cases r with
  |@cons u us _ _ a1 a2 ru ra=>
   obtain⟨fs,f1,f2,f3⟩:=pY ra λx hx=>hn x (.tail _ hx)
   have hd:=hn d (.head _)
   cases d<;>simp[gU]at hd
   rename_i xs
   cases xs with
   |nil=>simp at hd
   |cons x xs=>
    simp only[bU]at ru
    cases ru with
    |@tuple a o vs n _ _ ho hc hdat rr=>
     simp only[aZ]at rr
     cases hvs:vs.toList with
     |nil=>rw[hvs]at rr;cases rr
     |cons f ft=>
      rw[hvs]at rr
      cases rr with
      |cons rf rt=>
       have h0:vs[0]? =some f:=by rw[<-Array.getElem?_toList,hvs];rfl
       refine⟨f::fs,KatTups.cons ho hc hdat h0 f1,by simp[f2],λg hg=>?_⟩
       rcases aq.mp hg with rfl|hg
       ·exact⟨_,.head _,x,xs,_,rfl,rf⟩
       ·obtain⟨d',m,q⟩:=f3 g hg;exact⟨d',.tail _ m,q⟩
theorem x9{a:Addr}{vs:List Value}{ds:List D}{as:List Addr}{n:Nat}{P:PySem.Fin->Shared->Prop}(hu:A.units+9<cLine)(ho:s.heap.get? a=some (seqObj "list" vs.toArray n))(hr:ReadsAll s.heap vs (aZ ds) as)(hd:iU ds=true)(h64:vs.length<=1000)(hnd:(ds.map cO).Nodup)
  (h: ∀p:Array Nat,Gd vs.length p->Srt (O:=aCu) (λi=>cO (ds.getD i .non)) p vs.length->P (.done (.ret .none)) {s with heap:=sortedHeap s.heap a vs (List.toArray (p.toList.map λi=>vs.getD i Value.none))}):
  wpAny (model prog w) A (Builtin.«list.sort» ⟨[.ref a],[]⟩) P Ex s:=by
 obtain⟨one,tups,tupN⟩:=gL hd
 have hlen:vs.length=ds.length:=by rw[SeqAt.ReadsAll.length _ _ _ hr,k8]
 have hks': ∀{l:List D},(∀x∈l,same x x=true)->hks (aZ l)=true:=by
  intro l
  induction l with
  |nil=>intro _;rfl
  |cons x l ih=>intro hl;simp[aZ,hks,i3 (hl x (.head _)),ih λy hy=>hl y (.tail _ hy)]
 rw[list_sort_plain];have ha:a<s.heap.objs.size:=ah ho;refine aa (listItems_at ho rfl (aa (listUpdate_at ho rfl ?_ (by rw[au,sizeLine_eq];lia) (bq _))))
 obtain⟨e1,ho1⟩: ∃e1,(s.heap.update a (Obj.mapSeq λ_=>(#[]:Array Value))).get? a=some (seqObj "list" #[] e1):=⟨_,get?_update_seq ho λ_=> #[]⟩
 refine aa (seqEpoch_at ho1 rfl (aa (wpAny_newTuple ?_ (by show vs.length<=_;rw[sizeLine_eq];lia))))
 refine aa (wpAny_newList (wpAny_holding ?_) (bq _))
 have ho6:(((s.heap.update a (Obj.mapSeq λ_=> #[])).push (seqObj "tuple" vs.toArray 0)).push (seqObj "list" #[] 0)).get? a=some (seqObj "list" #[] e1):=af _ (af _ ho1)
 have keep: ∀b o,o.cls= .type "tuple"->s.heap.get? b=some o->(((s.heap.update a (Obj.mapSeq λ_=> #[])).push (seqObj "tuple" vs.toArray 0)).push (seqObj "list" #[] 0)).get? b=some o:=λb o c e=>by
  have nb:b≠a:=λz=>by subst z;rw[ho]at e;cases e;simp at c
  exact af _ (af _ ((Heap.get?_update_ne _ _ _ _ nb).trans e))
 have hr6:=cG keep (hks' λx hx=>one x hx x hx) hr
 show wpAny (model prog w) A _ P Ex {s with heap:=((s.heap.update a (Obj.mapSeq λ_=> #[])).push (seqObj "tuple" vs.toArray 0)).push (seqObj "list" #[] 0)}
 dsimp only
 by_cases h2:vs.toArray.size<2
 ·rw[if_pos h2,if_pos h2];refine aa (ae ?_);rw[StateT.run_pure];refine aa (ae ?_)
  dsimp only
  have hz:(vs.toArray.zip vs.toArray).size=vs.length:=by simp
  have har:arrOf (SortSt.mk' general' (vs.toArray.zip vs.toArray) #[] 7 none)=(List.toArray (List.range vs.length)).map (kas_item (vs.toArray.zip vs.toArray)):=by
   have:=kas_range (vs.toArray.zip vs.toArray)
   rw[hz]at this;exact this.symm
  have hout:=kat_snds rfl har
  have hsz:((arrOf (SortSt.mk' general' (vs.toArray.zip vs.toArray) #[] 7 none)).map (·.2)).size<=sizeLine+1:=by rw[hout,au,am];simp;rw[sizeLine_eq];lia
  refine aa (seqEpoch_at ho6 rfl (aa (listUpdate_at ho6 rfl ?_ (bq _) hsz)));simp only[bne_self_eq_false,aw,if_false]
  have fin:=h (List.toArray (List.range vs.length)) (Array.Perm.refl _) λi j hij hj=>by
   rw[au]at h2;rw[show i=j by lia];exact KeyOrd.kle_refl _
  rw[<-hout]at fin;exact ae fin
 ·rw[if_neg h2,if_neg h2]
  have h2':2<=vs.length:=by rw[au]at h2;lia
  obtain⟨fs,f1,f2,f3⟩:=pY hr6 (tupN (by lia))
  have hd0:0<ds.length:=by lia
  -- the kind of the first things
  obtain⟨T,hT2,hTl,hTi⟩: ∃T:Value,(T==T)=true/\(∀v∈fs,Looks (model prog w) (((s.heap.update a (Obj.mapSeq λ_=> #[])).push (seqObj "tuple" vs.toArray 0)).push (seqObj "list" #[] 0)) (typeOf v) T)/\((T != Value.type "tuple")=true->∀d∈ds, ∃k r,d= .tup (.int k::r)):=by
   obtain⟨d0,hm0⟩: ∃d0,d0∈ds:=⟨ds[0],List.getElem_mem hd0⟩;have hN:=tupN (by lia) d0 hm0
   cases d0<;>simp[gU]at hN
   rename_i xs0
   cases xs0 with
   |nil=>simp at hN
   |cons x0 r0=>
    have sx: ∀d∈ds, ∀x r,d= .tup (x::r)->same x0 x=true:=λd hd x r e=>by
     have:=one _ hm0 d hd
     rw[e]at this;simp only[same,bK,ar]at this;exact this.1
    have form: ∀d∈ds, ∃x r,d= .tup (x::r):=λd hd=>by
     have hN:=tupN (by lia) d hd
     cases d<;>simp[gU]at hN
     rename_i xs
     cases xs with
     |nil=>simp at hN
     |cons x r=>exact⟨x,r,rfl⟩
    have x0s:=sx _ hm0 x0 r0 rfl
    cases x0<;>try (simp[same]at x0s;done)
    ·refine⟨.type "int",by decide,λv hv=>?_,λ_ d hd=>?_⟩
     ·obtain⟨d,hd,x,r,bs,e,rx⟩:=f3 v hv
      have:=sx d hd x r e
      cases x<;>simp[same]at this
      simp only[bU]at rx;cases rx;exact Looks.of_pure rfl
     ·obtain⟨x,r,e⟩:=form d hd
      have:=sx d hd x r e
      cases x<;>simp[same]at this
      exact⟨_,_,e⟩
    ·refine⟨.type "tuple",by decide,λv hv=>?_,λz=>by simp at z⟩
     obtain⟨d,hd,x,r,bs,e,rx⟩:=f3 v hv
     have:=sx d hd x r e
     cases x<;>simp[same]at this
     simp only[bU]at rx
     cases rx with
     |tuple ho' hc' hd' _=>exact λA Q E s2 k q=>wpAny_typeOf (⟨_,k _ _ ho',hc'⟩:s2.TypeIs (.ref _) "tuple") q
  refine aa (kat_kind (T:=T) f1 (by lia) hTl hT2 ?_)
  have hc:Cm (O:=aCu) (λi=>cO (ds.getD i .non)) vs.length (kas_ask prog w A (tuples' (T != Value.type "tuple")) vs) {s with heap:=((s.heap.update a (Obj.mapSeq λ_=> #[])).push (seqObj "tuple" vs.toArray 0)).push (seqObj "list" #[] 0)}:=by
   intro i j C hi hj hC;obtain⟨b1,r1⟩:=fE hr6 (i:=i) (by lia)
   obtain⟨b2,r2⟩:=fE hr6 (i:=j) (by lia)
   have mi:ds.getD i .non∈ds:=by
    have hi':i<ds.length:=by lia
    rw[bu,az hi',Option.getD_some];exact List.getElem_mem hi'
   have mj:ds.getD j .non∈ds:=by
    have hj':j<ds.length:=by lia
    rw[bu,az hj',Option.getD_some];exact List.getElem_mem hj'
   have sij:=one _ mi _ mj;obtain⟨ti,di⟩:=tups _ mi;have hTi':=λz=>hTi z _ mi
   have hC':C (eN (cO (ds.getD i .non)) (cO (ds.getD j .non))) _:=hC;generalize ds.getD i .non=x at r1 sij ti di hTi' hC';generalize ds.getD j .non=y at r2 sij hC';unfold kas_ask
   cases x<;>try (simp[same]at sij;done)
   ·simp[kF]at ti
   ·cases y<;>simp[same]at sij
    rename_i xs ys;simp only[bU]at r1 r2;generalize vs.getD i Value.none=u at r1;generalize vs.getD j Value.none=v at r2
    cases r1 with
    |@tuple a1 o1 us n1 _ _ g1 g2 g3 ra=>
     cases r2 with
     |@tuple a2 o2 ws n2 _ _ k1 k2 k3 rb=>
      simp only[dep]at di;refine kat_lt g1 g3 k1 k3 (t0 (n:=8) (by lia) 0 ra rb sij (by lia) (λz=>?_) ?_ (by simpa[cO]using hC'))
      ·have z':(T != Value.type "tuple")=true:=by simpa using z
       obtain⟨k,r,e⟩:=hTi' z';exact⟨k,r,by cases e;rfl⟩
      ·have l1:=SeqAt.ReadsAll.length _ _ _ ra;have l2:=SeqAt.ReadsAll.length _ _ _ rb;rw[k8]at l1 l2;rw[<-l1, <-l2];simp
  refine aa (wpAny_mono (aFm (ds:=ds) hlen hnd (λi j hi hj e=>?_) hc) (λr s' hrs=>?_) λ_ _ e=>e)
  ·obtain⟨b1,r1⟩:=fE hr6 (i:=i) (by lia)
   obtain⟨b2,r2⟩:=fE hr6 (i:=j) (by lia)
   have mi:ds.getD i .non∈ds:=by
    have hi':i<ds.length:=by lia
    rw[bu,az hi',Option.getD_some];exact List.getElem_mem hi'
   have mj:ds.getD j .non∈ds:=by
    have hj':j<ds.length:=by lia
    rw[bu,az hj',Option.getD_some];exact List.getElem_mem hj'
   rw[<-e]at r2;exact aFl (one _ mi _ mj) (one _ mi _ mi) (SeqAt.Reads.unique _ _ _ _ _ (tN _ (i3 (one _ mi _ mi))) r1 r2)
  obtain⟨⟨⟩,st'⟩:=r;obtain⟨rfl,p,har,hf,g,st⟩:=hrs
  dsimp only
  have hout:=kat_snds rfl har
  have hsz:(List.toArray (p.toList.map λi=>vs.getD i Value.none)).size=vs.length:=by rw[au,am,Array.length_toList,g.size]
  rw[hout];refine aa (seqEpoch_at ho6 rfl (aa (listUpdate_at ho6 rfl ?_ (bq _) (by rw[hsz,sizeLine_eq];lia))))
  rw[hf];simp only[bne_self_eq_false,aw,if_false];exact ae (h p g st)
theorem sB{l:Addr}{Cd:List Value->Heap->Nat->Prop}{Q:cb}(hu:A.units+11<cLine)
  (hcol: ∀Q':List Value->Shared->Prop,(∀vs h1 tk,Cd vs h1 tk->Q' vs {s with heap:=h1,toks:=tk})->wpAny (model prog w) A.in1 (collect (.ref l)) Q' Ex s)
  (h: ∀vs h1 tk,Cd vs h1 tk->∃ds as,ReadsAll h1 vs (aZ ds) as/\iU ds=true/\vs.length<=1000/\(ds.map cO).Nodup/\
   ∀(h':Heap) (p:Array Nat) (e:Nat),(∀b o,h1.get? b=some o->h'.get? b=some o)->h'.get? h1.objs.size=some (seqObj "list" (List.toArray (p.toList.map λi=>vs.getD i Value.none)) e)->Gd vs.length p->Srt (O:=aCu) (λi=>cO (ds.getD i .non)) p vs.length->Q (.ref h1.objs.size) {s with heap:=h',toks:=tk}):
  wpAny (model prog w) A (call (.builtin "sorted") [.ref l]) Q Ex s:=by
 refine Calls.call_function_entry kind_sorted plain_sorted entry_sorted (args_sorted1 _) ?_;unfold Builtin.«sorted»;refine aa (m:=checkCount "sorted" 1 1 _) (ae ?_);refine aa (hcol _ λvs h1 tk hC=>?_)
 obtain⟨ds,as,hr,hd,h64,hnd,hQ⟩:=h vs h1 tk hC;refine aa (wpAny_newList ?_ (by rw[sizeLine_eq];first|lia|(simp;lia)))
 have hoL:(h1.push (seqObj "list" vs.toArray 0)).get? h1.objs.size=some (seqObj "list" vs.toArray 0):=ag _ rfl
 have hks':hks (aZ ds)=true:=by
  obtain⟨one,_,_⟩:=gL hd
  have: ∀l:List D,(∀x∈l,same x x=true)->hks (aZ l)=true:=λl=>by
   induction l with
   |nil=>intro _;rfl
   |cons x l ih=>intro hl;simp[aZ,hks,i3 (hl x (.head _)),ih λy hy=>hl y (.tail _ hy)]
  exact this ds λx hx=>one x hx x hx
 show wpAny _ _ _ _ _ {s with heap:=h1.push (seqObj "list" vs.toArray 0),toks:=tk}
 refine aa (wpAny_holding (wpAny_call_entry slot_list_sort ⟨_,hoL,rfl⟩ entry_list_sort (x9 (by have:=A.in1_units;have:=A.in1.in1_units;lia) hoL (cG (λb o _ e=>af _ e) hks' hr) hd h64 hnd λp a1 a2=>⟨_,rfl,?_⟩) (args_list_sort _)))
 obtain⟨e,he⟩:=sortedHeap_at (out:=List.toArray (p.toList.map λi=>vs.getD i Value.none)) hoL
 refine ae ⟨_,rfl,hQ _ p e (λb o' q1=>?_) he a1 a2⟩
 have lt:b<h1.objs.size:=ah q1;rw[sortedHeap_old (bf lt) (by rw[ai];exact Nat.lt_succ_of_lt lt),Heap.get?_push_ne _ _ _ (bf lt)]
 exact q1
end
section
variable {prog:Program} {w:World} {A:Around} {I:Addr} {fp wr:List Addr} {G:Array GenState->Array GenState->Prop} {n:Nat} {P:Nat->Value->Prop} {St:Nat->Shared->Prop} {E:cb} {s:Shared} {R:_->Shared->Prop}
end
section
variable {X:Cx} {ad:Ad} {G:Hp}
theorem pZ{ds:List D}{vs:List V}(h:aH X.K ad G ds vs): ∀{l:List Nat},(∀i∈l,i<ds.length)->aH X.K ad G (l.map λi=>ds.getD i .non) (l.map λi=>vs.getD i .non)
 |[],_=>aH.nil
 |i::l,hl=>by
  have hi:=hl i (.head _);obtain⟨v,e,r⟩:=h.get (az hi);refine aH.cons ?_ (pZ h λj hj=>hl j (.tail _ hj))
  have e1:ds.getD i .non=ds[i]:=by simp[hi]
  have e2:vs.getD i .non=v:=by simp[e]
  show Rep X.K ad G (ds.getD i .non) (vs.getD i .non);rw[e1,e2];exact r
theorem p0{vs:List V}{us:List Value}(h:bZ vs us): ∀{l:List Nat},(∀i∈l,i<vs.length)->bZ (l.map λi=>vs.getD i .non) (l.map λi=>us.getD i .none)
 |[],_=>.nil
 |i::l,hl=>by
  have hi:=hl i (.head _);obtain⟨u,e,r⟩:=h.get (az hi);refine .cons ?_ (p0 h λj hj=>hl j (.tail _ hj))
  have e1:vs.getD i .non=vs[i]:=by simp[hi]
  have e2:us.getD i .none=u:=by simp[e]
  show cD (vs.getD i .non) (us.getD i .none);rw[e1,e2];exact r
theorem aCv{ds:List D}(hd:iU ds=true):hks (aZ ds)=true:=by
 obtain⟨one,_,_⟩:=gL hd
 have: ∀l:List D,(∀x∈l,same x x=true)->hks (aZ l)=true:=λl=>by
  induction l with
  |nil=>intro _;rfl
  |cons x l ih=>intro hl;simp[aZ,hks,i3 (hl x (.head _)),ih λy hy=>hl y (.tail _ hy)]
 exact this ds λx hx=>one x hx x hx
theorem yA{ds:List D}(hd:iU ds=true):aK ds=true:=by
 obtain⟨one,_,_⟩:=gL hd
 have: ∀l:List D,(∀x∈l,same x x=true)->aK l=true:=λl=>by
  induction l with
  |nil=>intro _;rfl
  |cons x l ih=>intro hl;simp[aK,b8 (hl x (.head _)),ih λy hy=>hl y (.tail _ hy)]
 exact this ds λx hx=>one x hx x hx
end
section
variable {prog:Program} {w:World} {A:Around} {E:cb} {s:Shared}
structure Fresh16(vs:List Value)(ns:List Nat):Prop where
 len:vs.length=ns.length
 at': ∀(i n:Nat),ns[i]? =some n->∃t,vs[i]? =some (Value.int (Int.ofNat n) t)
 nodup:ns.Nodup
 lt: ∀n∈ns,n<17
theorem Fresh16.le{vs:List Value}{ns:List Nat}(q:Fresh16 vs ns):ns.length<=17:=by
 have p:=pL ns q.nodup q.lt;have h1:=p.length_eq
 have h2:((List.range 32).filter λj=>decide (j∈ns)).Sublist ((List.range 32).filter λj=>decide (j<17)):=by
  refine List.Sublist.trans ?_ (List.Sublist.refl _)
  have:((List.range 32).filter λj=>decide (j∈ns))=((List.range 32).filter λj=>decide (j<17)).filter λj=>decide (j∈ns):=by
   rw[List.filter_filter];refine List.filter_congr λa _=>?_
   by_cases z:a∈ns
   ·simp[z,q.lt a z]
   ·simp[z]
  rw[this];exact List.filter_sublist
 have h3:=h2.length_le
 have h4:((List.range 32).filter λj=>decide (j<17)).length=17:=by decide
 lia
structure All16(vs:List Value)(ns:List Nat):Prop where
 len:vs.length=ns.length
 at': ∀(i n:Nat),ns[i]? =some n->∃t,vs[i]? =some (Value.int (Int.ofNat n) t)
 lt: ∀n∈ns,n<17
noncomputable def ddS(acc:List Nat)(n:Nat):List Nat:=if n∈acc then acc else n::acc
def dd(ns:List Nat):List Nat:=ns.foldl ddS []
theorem Fresh16.each{vs:List Value}{ns:List Nat}(q:Fresh16 vs ns): ∀v∈vs, ∃n∈ns, ∃t,v=Value.int (Int.ofNat n) t:=λv hv=>by
 obtain⟨j,hj,rfl⟩:=List.getElem_of_mem hv;have hj2:j<ns.length:=by rw[<-q.len];exact hj
 obtain⟨t',et'⟩:=q.at' j ns[j] (az hj2);exact⟨ns[j],List.getElem_mem _,t',Option.some.inj ((az _).symm.trans et')⟩
end
theorem dB:PySem.Slot "set_iterator" "__next__" "set_iterator.__next__":=
 .of (owner:="set_iterator") (n:="__next__") (by rw[typeLookup_type,builtinLookup_eq_fast];kernel_rfl) (by decide+kernel) (by decide+kernel) (by decide+kernel)
  (by first|exact .inl (by decide+kernel)|exact .inr (by decide+kernel)) (by rw[isSubtype_type];kernel_rfl)
theorem iK:entryFor table "set_iterator.__next__"=some Builtin.«set_iterator.__next__»:=entryFor_of_tree (by kernel_rfl)
theorem t6:Manifest.owners.lookup (String.ofList ['r','o','t','a','r','e','t','i','_','t','e','s'].reverse)=some Manifest.sig_set_iterator:=by kernel_rfl
theorem jK(a:Value):argsOk "set_iterator.__next__" ⟨[a],[]⟩:=by
 unfold argsOk;rw[signature?_of (id:="set_iterator.__next__") (n:=['_','_','t','x','e','n','_','_']) (o:=['r','o','t','a','r','e','t','i','_','t','e','s']) (by kernel_rfl) t6];kernel_rfl
theorem p6:entryFor table "set.__iter__"=some Builtin.«frozenset.__iter__»:=
 entryFor_alias (id':="frozenset.__iter__") (by kernel_rfl) rfl (by decide+kernel) (by kernel_rfl)
theorem mI{α:Type}: ∀(l:List α) (i:Nat) (x:α),l[i]? =some x->(x::l.eraseIdx i).Perm l
 |[],i,x,h=>by simp at h
 |a::l,0,x,h=>by
  have:a=x:=by simpa using h
  subst this;simp
 |a::l,i+1,x,h=>by
  have ih:=mI l i x (by simpa using h)
  rw[List.eraseIdx_cons_succ];exact(List.Perm.swap a x _).trans (ih.cons a)
theorem yB{α:Type}(next:Nat->Nat): ∀(n k:Nat) (l:List α) (out:Array α),l.length=n->(pickOrder.go next n k l out).toList.Perm (out.toList++l)
 |0,k,l,out,h=>by
  have:l=[]:=List.length_eq_zero_iff.mp h
  subst this;unfold pickOrder.go;simp
 |n+1,k,l,out,h=>by
  unfold pickOrder.go;have lt:next k % l.length<l.length:=Nat.mod_lt _ (by lia)
  rw[az lt]
  dsimp only
  have e:=az lt;have p:=mI l _ _ e;refine(yB next n (k+1) _ _ (by rw[List.length_eraseIdx_of_lt lt];lia)).trans ?_
  rw[Array.toList_push,List.append_assoc];exact p.append_left _
theorem yC{α:Type}(next:Nat->Nat)(xs:Array α):(pickOrder next xs).toList.Perm xs.toList:=by
 have:=yB next xs.size 0 xs.toList #[] (by simp)
 simpa[pickOrder]using this
noncomputable def lP(sl i a n ep:Nat):Obj:={cls:=.type "set_iterator",data:=.fields #[.int sl 0,.int i 0,.ref a,.int n 0,.int ep 0]}
def p7(ps:List Nat):Nat->Nat
 |0=>0
 |i+1=>ps.getD i 0+1
noncomputable def jQ(w:World)(a ep:Nat)(es:Array (Int×Value)):Array (Int×Value):=if w.params.followText "set-order" then pickOrder (w.params.setOrder a ep) es else es
theorem iL(w:World)(a ep:Nat)(es:Array (Int×Value)):(jQ w a ep es).toList.Perm es.toList:=by
 unfold jQ;split
 ·exact yC _ _
 ·exact List.Perm.refl _
def fF(w:World)(es:Array (Int×Value))(t:SetTable)(ps:List Nat):Prop:=
 t.fits es.size=true/\(w.params.followText "set-order"=false->t.place=ps.toArray/\ps.Pairwise (· < ·)/\ps.length=es.size/\t.led=true/\t.plain=true)
def k9(w:World)(ps:List Nat)(i:Nat):Nat:=if w.params.followText "set-order" then 0 else p7 ps i
section
variable {prog:Program} {w:World} {A:Around} {E:cb} {s:Shared}
theorem t9{a ep i:Nat}{es:Array (Int×Value)}{t:SetTable}{ps:List Nat}{Q:Option (Value×Nat)->Shared->Prop}(ho:s.heap.get? a=some (eP es ep t))(W:fF w es t ps)(hi:i<=es.size)
  (h:Q ((jQ w a ep es)[i]?.map λe=>(e.2,k9 w ps (i+1))) s):wpAny (model prog w) A (setNext a (k9 w ps i) i ep) Q E s:=by
 unfold setNext;refine aa (wpAny_setState_of ho rfl W.1 ?_)
 dsimp only
 unfold setsByText;refine aa (aa (wpAny_askSetting (ae ?_)))
 dsimp only
 cases e:w.params.followText "set-order" with
 |true=>
  have e':(model prog w).w.params.followText "set-order"=true:=e
  rw[e'];simp only[bne_self_eq_false,aw,↓reduceIte];unfold setWalk;refine aa (aa (wpAny_setState_of ho rfl W.1 ?_))
  dsimp only
  unfold setsByText;refine aa (aa (wpAny_askSetting (ae ?_)))
  dsimp only
  rw[e'];simp only[↓reduceIte];refine aa (wpAny_askSetting (ae (ae ?_)));unfold jQ k9 at h;unfold k9;rw[e]at h ⊢;exact h
 |false=>
  have e':(model prog w).w.params.followText "set-order"=false:=e
  obtain⟨w1,w2,w3,w4,w5⟩:=W.2 e;rw[e'];simp only[aw,↓reduceIte];show wpAny _ _ (if(!t.plain&&decide (es.size > 1))=true then _ else _) Q E s
  rw[w5];simp only[Bool.not_true,Bool.false_and,aw,↓reduceIte];show wpAny _ _ ((if(!t.led&& !es.isEmpty)=true then unsupported "set:maker-not-led" else pure ()) >>= _) Q E s
  rw[w4];simp only[Bool.not_true,Bool.false_and,aw,↓reduceIte];refine aa (ae ?_)
  have bl:SetTable.below ps.toArray (p7 ps i)=i:=by
   cases i with
   |zero=>exact u6 w2
   |succ i=>
    have:=aA5 w2 i (by lia)
    have e3:p7 ps (i+1)=ps[i]+1:=by
     show ps.getD i 0+1=_
     have:i<ps.length:=by lia
     simp[this]
    rw[e3];exact this
  have sl:k9 w ps i=p7 ps i:=by unfold k9;rw[e];rfl
  have sl1:k9 w ps (i+1)=ps.getD i 0+1:=by unfold k9;rw[e];rfl
  have od:jQ w a ep es=es:=by unfold jQ;rw[e];rfl
  rw[sl1,od]at h;rw[sl,w1,bl];refine ae ?_
  by_cases z:i<es.size
  ·have e1:es[i]? =some es[i]:=Array.getElem?_eq_getElem z
   have e2:ps.toArray[i]? =some (ps.getD i 0):=by
    have:i<ps.length:=by lia
    simp[this]
   rw[e1]at h ⊢;rw[e2];exact h
  ·have e1:es[i]? =none:=Array.getElem?_eq_none (by lia)
   rw[e1]at h ⊢;exact h
theorem aFn{it a ep i:Nat}{es:Array (Int×Value)}{t:SetTable}{ps:List Nat}{x:Int×Value}{Q:Option Value->Shared->Prop}(hit:s.heap.get? it=some (lP (k9 w ps i) i a es.size ep))(ho:s.heap.get? a=some (eP es ep t))(W:fF w es t ps)(hx:(jQ w a ep es)[i]? =some x)
  (hQ: ∀h',h'.get? it=some (lP (k9 w ps (i+1)) (i+1) a es.size ep)->Heap.SameBut it s.heap h'->Q (some x.2) {s with heap:=h'}):wpAny (model prog w) A (pyNext (.ref it)) Q E s:=by
 have hT:s.TypeIs (.ref it) "set_iterator":=⟨_,hit,rfl⟩
 have hi:i<=es.size:=by
  have h1:=(iL w a ep es).length_eq;have h2:=(Array.getElem?_eq_some_iff.mp hx).1
  simp at h1
  lia
 unfold pyNext;refine aa (wpAny_attempt (wpAny_callSpecial?_slot (name:=Str.ofString "__next__") hT dB (wpAny_call_entry dB hT iK ?_ (jK _))));show wpAny _ _ (fieldsOf (.ref it) >>= _) _ _ s;refine aa (wpAny_fieldsOf hit rfl ?_)
 dsimp only
 show wpAny _ _ (setEntries a >>= _) _ _ s;refine aa (wpAny_setEntries_of ho rfl W.1 ?_);simp only[bne_self_eq_false,aw,↓reduceIte];show wpAny _ _ (setNext a (k9 w ps i) i ep >>= _) _ _ s;refine aa (t9 ho W hi ?_);rw[hx];show wpAny _ _ (setField (.ref it) 0 (rawInt (k9 w ps (i+1))) >>= _) _ _ s;refine aa (wpAny_setField_rec hit (by simp) λh1 i1 s1=>?_)
 show wpAny _ _ (setField (.ref it) 1 (rawInt (↑i+1)) >>= _) _ _ _;refine aa (wpAny_setField_rec i1 (by simp) λh2 i2 s2=>?_)
 refine ae ⟨_,rfl,ae (hQ h2 i2 (s1.trans s2))⟩
theorem aJv{it a ep i:Nat}{es:Array (Int×Value)}{t:SetTable}{ps:List Nat}{Q:Option Value->Shared->Prop}(hh:A.handled=none)(hit:s.heap.get? it=some (lP (k9 w ps i) i a es.size ep))(ho:s.heap.get? a=some (eP es ep t))(W:fF w es t ps)(hi:i=es.size)
  (hQ: ∀h',Heap.ExtBut it s.heap h'->Q none {s with heap:=h'}):wpAny (model prog w) A (pyNext (.ref it)) Q E s:=by
 have hT:s.TypeIs (.ref it) "set_iterator":=⟨_,hit,rfl⟩
 have hx:(jQ w a ep es)[i]? =none:=by
  have h1:=(iL w a ep es).length_eq
  simp at h1
  exact Array.getElem?_eq_none (by lia)
 unfold pyNext;refine aa (wpAny_attempt (wpAny_callSpecial?_slot (name:=Str.ofString "__next__") hT dB (wpAny_call_entry dB hT iK ?_ (jK _))));show wpAny _ _ (fieldsOf (.ref it) >>= _) _ _ s;refine aa (wpAny_fieldsOf hit rfl ?_)
 dsimp only
 show wpAny _ _ (setEntries a >>= _) _ _ s;refine aa (wpAny_setEntries_of ho rfl W.1 ?_);simp only[bne_self_eq_false,aw,↓reduceIte];show wpAny _ _ (setNext a (k9 w ps i) i ep >>= _) _ _ s;refine aa (t9 ho W (by lia) ?_)
 rw[hx];show wpAny _ _ (setField (.ref it) 2 .none >>= _) _ _ s;refine aa (wpAny_setField_rec hit (by simp) λh1 i1 s1=>?_)
 show wpAny _ _ (newExc (.type "StopIteration") [] >>= _) _ _ _;refine aa ?_;simp only[newExc,newTuple];refine aa (wpAny_newObj_type ?_ (by size_fits))
 refine aa (m:=firstArgMember _ _) (wpAny_of_eq (a:=Value.none) (by first|rfl|(simp only[firstArgMember];rfl)) ?_)
 refine wpAny_newObj_type ?_ (by size_fits)
 simp only[raiseNew];refine aa (wpAny_handled ?_);rw[show A.in1.handled=none from hh]
 refine aa (ae (wpAny_throw ?_));refine aa (wpAny_isInstance (T:="StopIteration") (b:=true) ⟨_,ag _ rfl,rfl⟩ isSubtype_stop ?_);exact ae (hQ _ ((s1.extBut.push _).push _))
theorem aJw{a ep:Nat}{es:Array (Int×Value)}{t:SetTable}{ps:List Nat}{Q:cb}(ho:s.heap.get? a=some (eP es ep t))(W:fF w es t ps)
  (hQ:Q (.ref s.heap.objs.size) {s with heap:=s.heap.push (lP (k9 w ps 0) 0 a es.size ep)}):wpAny (model prog w) A (pyIter (.ref a)) Q E s:=by
 have hT:s.TypeIs (.ref a) "set":=⟨_,ho,rfl⟩
 have sl:k9 w ps 0=0:=by unfold k9 p7;split<;>rfl
 rw[sl]at hQ;refine wpAny_pyIter_slot hT PySem.F.slot_set_iter (wpAny_call_entry PySem.F.slot_set_iter hT p6 ?_ (PySem.F.args_set_iter_1 _));unfold Builtin.«frozenset.__iter__» Builtin.Frozenset.slot0 slotArgs;simp only[List.isEmpty_nil,Bool.not_true,aw,↓reduceIte,bind_assoc,List.length_nil,bne_self_eq_false];unfold Builtin.Frozenset.addrOf Builtin.Frozenset.sizeOf;refine aa (ae ?_)
 try dsimp only
 refine aa (ae ?_);refine aa (aa (wpAny_setEntries_of ho rfl W.1 (ae ?_)));unfold setDrawn;refine aa (aa (wpAny_setState_of ho rfl W.1 ?_))
 dsimp only
 unfold setsByText;refine aa (aa (wpAny_askSetting (ae ?_)))
 have nd:(!w.params.followText "set-order"&&(!t.plain&&decide (es.size > 1)))=false:=by
  cases e:w.params.followText "set-order" with
  |true=>rfl
  |false=>rw[(W.2 e).2.2.2.2];rfl
 refine ae ?_;show wpAny _ _ (if(!w.params.followText "set-order"&&(!t.plain&&decide (es.size > 1)))=true then _ else _) _ _ _
 rw[nd];simp only[aw,↓reduceIte];refine aa (ae (aa (wpAny_setEpoch_of ho rfl W.1 ?_)));exact aa (wpAny_newObj_type (ae ⟨_,rfl,"set_iterator",_,⟨_,ag _ rfl,rfl⟩,dB.lookup,hQ⟩))
end
section
variable {prog:Program} {w:World} {A:Around} {E:cb} {s:Shared}
def fV(w:World):Obj:=eP #[] 0 (.fresh 0 0 (!w.params.followText "set-order"))
theorem aBc(a:Value){Q:cb}(h:Q (.ref s.heap.objs.size) {s with heap:=s.heap.push (fV w)}):
  codeAny (model prog w) A (.call (.builtin "set.__new__") ⟨[.type "set",a],[]⟩) (wants Q E) s:=by
 refine codeAny_of_tree ?_;show wpAny _ A.in1 (do checkBuiltinCall "set.__new__" ⟨[.type "set",a],[]⟩;again (.builtin "set.__new__" ⟨[.type "set",a],[]⟩)) _ _ s
 refine aa (wpAny_of_eq (PySem.F.newCall_set_1 a) (ae ⟨plainId_quiet PySem.F.plain_set_new _,codeAny_builtin PySem.F.entry_set_new ?_⟩));rw[Around.under_plainId PySem.F.plain_set_new _];unfold Builtin.«set.__new__» Builtin.Frozenset.newClass;have hsub:=sub_set_self;obtain⟨hp,g,d,tk,os⟩:=s
 dsimp only
 wp_walk
 refine wpAny_askSetting (ae ?_)
 dsimp only
 simp only[newObj];refine aa (wpAny_alloc (ae ?_));exact ae h
end
theorem jL:PySem.Slot "set_iterator" "__iter__" "set_iterator.__iter__":=
 .of (owner:="set_iterator") (n:="__iter__") (by rw[typeLookup_type,builtinLookup_eq_fast];kernel_rfl) (by decide+kernel) (by decide+kernel) (by decide+kernel)
  (by first|exact .inl (by decide+kernel)|exact .inr (by decide+kernel)) (by rw[isSubtype_type];kernel_rfl)
theorem nN:entryFor table "set_iterator.__iter__"=some Builtin.«dict_keyiterator.__iter__»:=
 entryFor_alias (id':="dict_keyiterator.__iter__") (by kernel_rfl) (by first|rfl|decide+kernel|(unfold String.splitOn;simp+decide [String.splitOnAux])) (by decide+kernel) (by kernel_rfl)
theorem p8(a:Value):argsOk "set_iterator.__iter__" ⟨[a],[]⟩:=by
 unfold argsOk;rw[signature?_of (id:="set_iterator.__iter__") (n:=['_','_','r','e','t','i','_','_']) (o:=['r','o','t','a','r','e','t','i','_','t','e','s']) (by kernel_rfl) t6];kernel_rfl
section
variable {prog:Program} {w:World} {A:Around} {E:cb} {s:Shared}
theorem aBd{it a ep:Nat}{es:Array (Int×Value)}{t:SetTable}{ps:List Nat}(hh:A.handled=none)(hne:a≠it)(W:fF w es t ps):
  Walks prog w A it [it,a] [it] es.size (λi v=>∃x,(jQ w a ep es)[i]? =some x/\v=x.2) (λi h=>h.get? it=some (lP (k9 w ps i) i a es.size ep)/\h.get? a=some (eP es ep t)) where
 sub:=λb hb=>by simp at hb;simp[hb]
 frame:=λ_ _ _ st hk=>⟨hk it (by simp) _ st.1,hk a (by simp) _ st.2⟩
 item:=λi s Q E hi st hQ=>by
  have hl:i<(jQ w a ep es).size:=by
   have:=(iL w a ep es).length_eq
   simp at this
   lia
  refine aFn st.1 st.2 W (x:=(jQ w a ep es)[i]) (Array.getElem?_eq_getElem hl) λh' i' hs=>?_
  exact hQ _ h' s.toks ⟨_,Array.getElem?_eq_getElem hl,rfl⟩ ⟨i',(hs.2 a hne).trans st.2⟩ λb o hb e=>hs.extBut b o (λz=>hb (by simp[z])) e
 done:=λs Q E st hQ=>aJv hh st.1 st.2 W rfl λh' he=>hQ h' s.toks λb o hb e=>he b o (λz=>hb (by simp[z])) e
 self:=λi s Q E st hQ=>by
  have hT:s.TypeIs (.ref it) "set_iterator":=⟨_,st.1,rfl⟩;refine wpAny_pyIter_slot hT jL (wpAny_call_entry jL hT nN ?_ (p8 _));show wpAny _ _ (ret (.ref it)) _ _ s;exact ae ⟨_,rfl,"set_iterator",_,hT,dB.lookup,hQ⟩
theorem sC{a ep:Nat}{es:Array (Int×Value)}{t:SetTable}{ps:List Nat}{Q:List Value->Shared->Prop}(hh:A.handled=none)(ho:s.heap.get? a=some (eP es ep t))(W:fF w es t ps)(hz:es.size<=sizeLine)
  (hQ: ∀h' tk (acc:Array Value),(∀b o,s.heap.get? b=some o->h'.get? b=some o)->s.toks<=tk->acc.toList.Perm (es.toList.map (·.2))->Q acc.toList {s with heap:=h',toks:=tk}):
  wpAny (model prog w) A (collect (.ref a)) Q E s:=by
 unfold collect;refine aa (wpAny_runValue (codeAny_builtin PySem.F.entry_proto_collect ?_));rw[Around.under_plainId PySem.F.plain_proto_collect _];show wpAny _ A.in1 (newList [] >>= λl=>again (.builtin "list.__iadd__" ⟨[l,.ref a],[]⟩)) _ _ s
 refine aa (wpAny_newObj_type ?_);refine ae ⟨plainId_quiet PySem.F.plain_list_iadd _,codeAny_builtin PySem.F.entry_list_iadd ?_⟩;rw[Around.under_plainId PySem.F.plain_list_iadd _];have ha:a<s.heap.objs.size:=ah ho
 have h1:Builtin.List.listSameRef (.ref s.heap.objs.size) (.ref a)=false:=by simp[Builtin.List.listSameRef,Nat.ne_of_gt ha]
 have ho1:(s.heap.push {cls:=.type "list",data:=.seq ([]:List Value).toArray}).get? a=some (eP es ep t):=af _ ho;show wpAny _ A.in1 (Builtin.List.listExtendWith (.ref s.heap.objs.size) (.ref a) (.ref s.heap.objs.size)) _ _ _;unfold Builtin.List.listExtendWith;refine aa (wpAny_typeOf (T:="set") ⟨_,ho1,rfl⟩ ?_);rw[if_neg (by rw[h1];decide)]
 refine aa (aJw (s:={s with heap:=s.heap.push {cls:=.type "list",data:=.seq ([]:List Value).toArray} }) ho1 W ?_)
 refine aa (wpAny_holding ?_);unfold Builtin.List.listLengthHint;refine aa (wpAny_specialOf (T:="set") ⟨_,af _ ho1,rfl⟩ PySem.F.slot_set_len.lookup ?_)
 (generalize hid:("set.__len__":String)=id0;(fail_if_success (clear hid id0));wp_delta;rw[show splitId id0=some ("set","__len__") from by subst hid;decide+kernel];subst hid)
 refine aa (wpAny_isInstance (T:="set") (b:=true) ⟨_,af _ ho1,rfl⟩ sub_set_self ?_);show wpAny _ A.in1 (typeOf (.ref a) >>= _) _ _ _;refine aa (wpAny_typeOf (T:="set") ⟨_,af _ ho1,rfl⟩ ?_);refine ae ?_;have hsz:(s.heap.push {cls:=.type "list",data:=.seq ([]:List Value).toArray}).objs.size=s.heap.objs.size+1:=ai ..;have hL:(s.heap.push {cls:=.type "list",data:=.seq ([]:List Value).toArray}).get? s.heap.objs.size=some {cls:=.type "list",data:=.seq ([]:List Value).toArray}:=ag _ rfl
 have k0: ∀b o,s.heap.get? b=some o->(s.heap.push {cls:=.type "list",data:=.seq ([]:List Value).toArray}).get? b=some o:=λb o e=>af _ e
 dsimp only
 generalize s.heap.push {cls:=.type "list",data:=.seq ([]:List Value).toArray}=H1 at ho1 hsz hL k0 ⊢
 have hI:(H1.push (lP (k9 w ps 0) 0 a es.size ep)).get? H1.objs.size=some (lP (k9 w ps 0) 0 a es.size ep):=ag _ rfl
 have hL2:(H1.push (lP (k9 w ps 0) 0 a es.size ep)).get? s.heap.objs.size=some {cls:=.type "list",data:=.seq ([]:List Value).toArray}:=af _ hL
 have k1: ∀b o,H1.get? b=some o->(H1.push (lP (k9 w ps 0) 0 a es.size ep)).get? b=some o:=λb o e=>af _ e
 generalize H1.push (lP (k9 w ps 0) 0 a es.size ep)=H2 at hI hL2 k1 ⊢;show wpAny _ A.in1 (rule "list.extend.makes-room" >>= λ_=>Builtin.List.listTouch (.ref s.heap.objs.size) >>= λ_=>again (.builtin "list.extend.loop" ⟨[.ref s.heap.objs.size,.ref H1.objs.size,.ref s.heap.objs.size],[]⟩)) _ _ {s with heap:=H2}
 refine aa (wpAny_rule (aa ?_));show wpAny _ A.in1 (updateSeq s.heap.objs.size (·.push .none) >>= λ_=>updateSeq s.heap.objs.size (·.pop)) _ _ _
 refine aa (wpAny_updateSeq hL2 rfl ?_);have hL3:=Heap.get?_update_self (Obj.mapSeq (·.push Value.none)) hL2 rfl
 refine wpAny_updateSeq hL3 rfl ?_;have hL4:=Heap.get?_update_self (Obj.mapSeq (·.pop)) hL3 rfl
 have oth: ∀b o,b≠s.heap.objs.size->H2.get? b=some o->((H2.update s.heap.objs.size (Obj.mapSeq (·.push Value.none))).update s.heap.objs.size (Obj.mapSeq (·.pop))).get? b=some o:=
  λb o hb e=>(Heap.get?_update_other _ _ (Ne.symm hb)).trans ((Heap.get?_update_other _ _ (Ne.symm hb)).trans e)
 have ne1:H1.objs.size≠s.heap.objs.size:=by lia
 have ne2:a≠s.heap.objs.size:=by lia
 have ne3:a≠H1.objs.size:=by lia
 have hSf:s.heap.objs.size∉[H1.objs.size,a]:=by simp;lia
 refine ae ⟨plainId_quiet PySem.F.plain_extend_loop _,codeAny_extend_loopS ((aBd (A:=A.in1) hh ne3 W).toS) hz _ hSf _ es.size 0 _ _ _ rfl (bq _) ⟨oth _ _ ne1 hI,oth _ _ ne2 (k1 _ _ ho1)⟩ hL4 (ItemsOf.nil _) λs' acc c hm hS' hacc=>?_⟩
 show wpAny _ A (load s.heap.objs.size >>= _) _ _ s';refine aa (wpAny_load hS' ?_);obtain⟨h',g',d',tk',os'⟩:=s'
 have eg:g'=s.gens:=hm.gens
 have ed:d'=s.drawn:=hm.drawn
 have eo:os'=s.os:=hm.os
 subst eg;subst ed;subst eo;refine ae (hQ h' tk' acc (λb o e=>?_) hm.toks ?_)
 ·have hb:b<s.heap.objs.size:=ah e;exact hm.heap b o (by simp only[aq,List.not_mem_nil,or_false,not_or];exact⟨bf hb,by rw[hsz];exact bf (Nat.lt_succ_of_lt hb)⟩) (oth b o (bf hb) (k1 b o (k0 b o e)))
 ·have e1:acc.toList=(jQ w a ep es).toList.map (·.2):=by
   have lp:=(iL w a ep es).length_eq
   simp at lp
   apply List.ext_getElem?;intro i;rw[List.getElem?_map,Array.getElem?_toList,Array.getElem?_toList]
   by_cases z:i<acc.size
   ·obtain⟨x,h1,h2⟩:=hacc.2 i _ (Array.getElem?_eq_getElem z);rw[h1,Array.getElem?_eq_getElem z,h2];rfl
   ·rw[Array.getElem?_eq_none (by lia),Array.getElem?_eq_none (by rw[lp, <-hacc.1];lia)];rfl
  rw[e1];exact(iL w a ep es).map _
end
theorem aFo(l:List D): ∀acc:List D,acc.length<=(l.foldl lL acc).length:=by
 induction l with
 |nil=>intro acc;exact aj _
 |cons d l ih=>
  intro acc;refine Nat.le_trans ?_ (ih (lL acc d));unfold lL
  split<;>simp
theorem aJx(l:List D): ∀acc:List D,(l.foldl lL acc).length<=acc.length+l.length:=by
 induction l with
 |nil=>intro acc;exact aj _
 |cons d l ih=>
  intro acc;refine Nat.le_trans (ih (lL acc d)) ?_;unfold lL
  split<;>simp<;>lia
theorem aFp(ds:List D){i:Nat}(hi:i<ds.length):ddD (ds.take (i+1))=lL (ddD (ds.take i)) ds[i]:=by
 unfold ddD;rw[<-List.take_append_getElem hi,List.foldl_append];rfl
theorem aJy(ds:List D)(i:Nat):(ddD (ds.take i)).length<=(ddD ds).length:=by
 have:ddD ds=(ds.drop i).foldl lL (ddD (ds.take i)):=by
  unfold ddD;rw[<-List.foldl_append,List.take_append_drop]
 rw[this];exact aFo _ _
def aFq(w:World)(h:Heap)(S:Addr)(us:List Value)(ds:List D)(i:Nat):Prop:=
 ∃(L:Ln) (m mv ep:Nat) (ks:List Nat),h.get? S=some (aJj L m mv ep (!w.params.followText "set-order"))/\TI m L/\Ms m/\L.length*5<m*3/\(∀k∈ks,k<i)/\ks.map (λk=>ds.getD k .non)=ddD (ds.take i)/\(L.map (·.2)).Perm (ks.map λk=>(hsh (bU (ds.getD k .non)),us.getD k Value.none))
theorem aFq.kept{w:World}{h h':Heap}{S:Addr}{us:List Value}{ds:List D}{i:Nat}(q:aFq w h S us ds i)(k: ∀o,h.get? S=some o->h'.get? S=some o):aFq w h' S us ds i:=by
 obtain⟨L,m,mv,ep,ks,ho,r⟩:=q;exact⟨L,m,mv,ep,ks,k _ ho,r⟩
section
variable {prog:Program} {w:World} {A:Around} {E:cb} {s:Shared}
theorem yD{I S:Addr}{fp wr:List Addr}{G:Array GenState->Array GenState->Prop}{St:Nat->Shared->Prop}{items:Array Value}{ds:List D}{as:List Addr}{h0:Heap}{R:Result->Shared->Prop}(hu:A.units+20<cLine)
  (W:WalksS prog w A.in1 I fp wr G items.size (λi v=>items[i]? =some v) St) (hSf:S∉fp) (hr0:ReadsAll h0 items.toList (aZ ds) as) (hd:iU ds=true) (h64:(ddD ds).length<300) (hold: ∀b o,h0.get? b=some o->b∉S::wr):
  ∀(k i:Nat) (s:Shared),items.size-i=k->i<=items.size->St i s->(∀b o,h0.get? b=some o->s.heap.get? b=some o)->aFq w s.heap S items.toList ds i->
   (∀s',Moved (S::wr) G s s'->aFq w s'.heap S items.toList ds ds.length->R (.ok (.ret .none)) s')->
   codeAny (model prog w) A (.builtin "set.update.loop" ⟨[.ref S,.ref I],[]⟩) R s:=by
 have hSw:S∉wr:=λh=>hSf (W.sub _ h)
 have sub: ∀b∈wr,b∈S::wr:=λb hb=>.tail _ hb
 have len:items.size=ds.length:=by
  have:=SeqAt.ReadsAll.length _ _ _ hr0
  rw[k8]at this;simpa using this
 obtain⟨one,tups,_⟩:=gL hd
 have mem: ∀i,i<ds.length->ds.getD i .non∈ds:=λi hi=>by
  rw[bu,az hi,Option.getD_some];exact List.getElem_mem hi
 have key: ∀(h:Heap),(∀b o,h0.get? b=some o->h.get? b=some o)->∀j,j<ds.length->Key h (bU (ds.getD j .non)) (items.toList.getD j Value.none):=λh hk' j hj=>by
  obtain⟨bs,r⟩:=fE (cG (λb o _ e=>hk' b o e) (aCv hd) hr0) hj
  have m:=mem j hj;have sm:=one _ m _ m;refine⟨?_,i3 sm,by rw[fN];exact(tups _ m).2,bs,r⟩
  have t:=(tups _ m).1
  cases hq:ds.getD j .non<;>rw[hq]at t<;>simp[kF]at t
  rw[hq]at r;simp only[bU]at r;generalize items.toList.getD j Value.none=v at r;cases r;exact⟨_,rfl⟩
 intro k
 induction k with
 |zero=>
  intro i s hk hi hst hJ hS hR
  have hin:i=items.size:=by lia
  subst hin;refine codeAny_builtin F.entry_set_update_loop ?_;rw[Around.under_plainId F.plain_set_update_loop _];show wpAny _ A.in1 (pyNext (.ref I) >>= _) _ _ s;refine aa (W.done s _ _ hst λs' hm=>?_)
  rw[len]at hS;show wpAny _ A.in1 (ret Value.none) _ _ s';exact ae (hR s' (hm.mono sub) (hS.kept λo e=>hm.heap S o hSw e))
 |succ k ih=>
  intro i s hk hi hst hJ hS hR;have hlt:i<items.size:=by lia
  have hin:i<ds.length:=by lia
  refine codeAny_builtin F.entry_set_update_loop ?_;rw[Around.under_plainId F.plain_set_update_loop _];show wpAny _ A.in1 (pyNext (.ref I) >>= _) _ _ s;refine aa (W.item i s _ _ hlt hst λv s' hP hst' hm=>?_)
  have hJ': ∀b o,h0.get? b=some o->s'.heap.get? b=some o:=λb o e=>hm.heap b o (λz=>hold b o e (sub _ z)) (hJ b o e)
  have hS':=hS.kept λo e=>hm.heap S o hSw e
  have ev:items.toList.getD i Value.none=v:=by
   rw[bu,Array.getElem?_toList,show items[i]? =some v from hP];rfl
  have kv:=key s'.heap hJ' i hin;rw[ev]at kv;obtain⟨⟨x,rfl⟩,k2,k3,bs,k4⟩:=id kv;show wpAny _ A.in1 (holding [Value.ref x] (setAdd S (.ref x)) >>= _) _ _ s';refine aa (wpAny_holding ?_);unfold setAdd;refine wpAny_holding ?_;refine aa (aFf 8 _ _ bs _ _ _ _ k2 k3 k4 (by have:=A.in1_units;lia) λtk ht=>?_)
  obtain⟨L,m,mv,ep,ks,ho,hT,hm',hl,kl,kd,kp⟩:=hS'
  have lenL:L.length=(ddD (ds.take i)).length:=by
   have h1:=kp.length_eq;have h2:=congrArg List.length kd;simp only[am]at h1 h2
   lia
  have le64:=aJy ds i
  have mE: ∀e∈L, ∃j∈ks,e.2=(hsh (bU (ds.getD j .non)),items.toList.getD j Value.none):=λe he=>by
   obtain⟨j,j1,j2⟩:=ao.mp (kp.mem_iff.mp (ao.mpr ⟨e,he,rfl⟩));exact⟨j,j1,j2.symm⟩
  have uniq: ∀{v:Value} {d1 d2:PyData},Key s'.heap d1 v->Key s'.heap d2 v->d1=d2:=λ{v d1 d2} q1 q2=>by
   obtain⟨_,a1,_,b1,c1⟩:=q1;obtain⟨_,a2,_,b2,c2⟩:=q2;exact SeqAt.Reads.unique d1 d2 v b1 b2 (tN _ a1) c1 c2
  have deqE: ∀j,j<ds.length->PyData.eqv (bU (ds.getD j .non)) (bU (ds.getD i .non))=deq (ds.getD j .non) (ds.getD i .non):=λj hj=>by
   have mj:=mem j hj;have mi:=mem i hin;exact eG _ _ (b8 (one _ mj _ mj)) (b8 (one _ mi _ mi))
  have ei:ds.getD i .non=ds[i]:=by simp[hin]
  have e2:=aFp ds hin;refine aFh (s:={s' with toks:=tk}) (d:=bU (ds.getD i .non)) (by have:=A.in1_units;lia) ho hT hm' hl (by lia) kv (λe he=>?_) (λ⟨e,he,d',q1,q2⟩=>?_) λhno h' L' m2 mv2 ep2 hsb ho2 T2 M2 l2 pm=>?_
  ·obtain⟨j,j1,j2⟩:=mE e he;have hj:=kl j j1;refine⟨bU (ds.getD j .non),?_,by rw[j2]⟩
   rw[j2];exact key s'.heap hJ' j (by lia)
  ·-- there already
   obtain⟨j,j1,j2⟩:=mE e he;have hj:=kl j j1
   have ed:d'=bU (ds.getD j .non):=by
    have:=key s'.heap hJ' j (by lia)
    rw[j2]at q1;exact uniq q1 this
   rw[ed,deqE j (by lia)]at q2
   have hany:(ddD (ds.take i)).any (λe=>deq e ds[i])=true:=by
    rw[<-kd,List.any_map,List.any_eq_true];exact⟨j,j1,by rw[<-ei];exact q2⟩
   unfold lL at e2;rw[if_pos hany]at e2;refine ae ⟨plainId_quiet F.plain_set_update_loop _,ih (i+1) _ (by lia) hlt (W.frame _ s' _ _ hst' ht λb hb o e=>e) hJ' ⟨L,m,mv,ep,ks,ho,hT,hm',hl,λk hk=>Nat.lt_succ_of_lt (kl k hk),by rw[e2];exact kd,kp⟩ λs'' hm'' hS''=>?_⟩
   exact hR s'' (Moved.trans W.gtrans ((hm.mono sub).then_heap ht λb o hb e=>e) hm'') hS''
  ·-- new
   have hany: ¬(ddD (ds.take i)).any (λe=>deq e ds[i])=true:=λz=>by
    rw[<-kd,List.any_map,List.any_eq_true]at z;obtain⟨j,j1,j2⟩:=z;have hj:=kl j j1;obtain⟨e,he,ee⟩:=ao.mp (kp.mem_iff.mpr (ao.mpr ⟨j,j1,rfl⟩))
    have:=hno e he (bU (ds.getD j .non)) (by rw[ee];exact key s'.heap hJ' j (by lia))
    rw[deqE j (by lia),ei]at this
    have j2':deq (ds.getD j .non) ds[i]=true:=j2
    rw[this]at j2';cases j2'
   unfold lL at e2;rw[if_neg hany]at e2;have hne: ∀{b:Addr},b∉S::wr->b≠S:=λhb z=>hb (by rw[z];exact .head _)
   refine ae ⟨plainId_quiet F.plain_set_update_loop _,ih (i+1) _ (by lia) hlt (W.frame _ s' _ _ hst' ht λb hb o e=>?_) (λb o e=>?_) ⟨L',m2,mv2,ep2,ks++[i],ho2,T2,M2,l2,λk hk=>?_,?_,?_⟩ λs'' hm'' hS''=>?_⟩
   ·rw[hsb.2 b (λz:b=S=>hSf (by rw[<-z];exact hb))];exact e
   ·exact(hsb.2 b (hne (hold b o e))).trans (hJ' b o e)
   ·rcases List.mem_append.mp hk with hk|hk
    ·exact Nat.lt_succ_of_lt (kl k hk)
    ·have:k=i:=by simpa using hk
     lia
   ·rw[List.map_append,kd,e2];simp[hin]
   ·refine pm.trans ?_;rw[List.map_append];refine((kp.cons _).trans ?_).trans (List.perm_append_singleton _ _).symm;simp only[ev];exact List.Perm.refl _
   ·refine hR s'' (Moved.trans W.gtrans ((hm.mono sub).then_heap ht λb o hb e=>?_) hm'') hS''
    rw[hsb.2 b (hne hb)];exact e
theorem yE{l:Addr}{items:Array Value}{ds:List D}{as:List Addr}{Q:cb}(hu:A.units+40<cLine)(hh:A.handled=none)(hl:s.heap.IsList l items)(hr0:ReadsAll s.heap items.toList (aZ ds) as)(hd:iU ds=true)(h64:(ddD ds).length<300)
  (h: ∀(h':Heap) (tk:Nat),aFq w h' s.heap.objs.size items.toList ds ds.length->(∀b o,b<s.heap.objs.size->s.heap.get? b=some o->h'.get? b=some o)->s.toks<=tk->Q (.ref s.heap.objs.size) {s with heap:=h',toks:=tk}):
  wpAny (model prog w) A (call (.type "set") [.ref l]) Q E s:=by
 obtain⟨c,tl,hmro⟩:=PySem.F.called_set.mro;have hmade:=PySem.F.called_set.made;have hsub:=PySem.F.called_set.sub;refine wpAny_call (codeAny_of_tree ?_);show wpAny _ _ (callAny (.type "set") _) _ _ _;refine ae ⟨Code.quiet_builtin _ (by decide+kernel),codeAny_builtin PySem.F.entry_type_call ?_⟩
 rw[Around.under_plain (weight_type_call_type "set" [.ref l] []) rfl];have h1:=PySem.F.called_set.notType;have h2:=PySem.F.called_set.canCreate;have hct:=PySem.F.typeCall_set_1 (.ref l)
 repeat (any_goals (first|assumption|wp_step))
 refine codeAny_mono (aBc (.ref l) (E:=E) (Q:=λobj s₁=>obj= .ref s.heap.objs.size/\s₁={s with heap:=s.heap.push (fV w)}) ⟨rfl,rfl⟩) λr s₁ hr=>?_
 cases r with
 |error e=>exact hr
 |ok fl=>
  cases fl with
  |ret obj=>
   obtain⟨rfl,rfl⟩:=hr
   have hS:(s.heap.push (fV w)).get? s.heap.objs.size=some (fV w):=ag _ rfl
   have hT:Shared.TypeIs {s with heap:=s.heap.push (fV w)} (.ref s.heap.objs.size) "set":=⟨_,hS,rfl⟩
   have hli:=PySem.F.called_set.init.lookup;have hbi:=PySem.F.called_set.init.bind (.ref s.heap.objs.size)
   repeat (any_goals (first|assumption|wp_step))
   refine codeAny_mono (codeAny_call_builtin (R:=wants (λr s₂=>r= .none/\∃h' tk,s₂={s with heap:=h',toks:=tk}/\aFq w h' s.heap.objs.size items.toList ds ds.length/\
     (∀b o,b<s.heap.objs.size->s.heap.get? b=some o->h'.get? b=some o)/\s.toks<=tk) E) PySem.F.called_set.init.plain PySem.F.entry_set_init (check_set_init_1 hT ?_)) λr₂ s₂ hr₂=>?_
   ·obtain⟨ol,hol,hcl,nl,hdl⟩:=hl;obtain⟨ocls,odict,odata,oslots⟩:=ol
    simp only at hcl hdl
    subst hcl;subst hdl
    have hol':(s.heap.push (fV w)).get? l=some {cls:=.type "list",dict:=odict,data:=.seq items nl,slots:=oslots}:=af _ hol
    have hsls:=PySem.F.sub_list_set;have hslf:=PySem.F.sub_list_frozenset
    have hne:(Value.type "list"==Value.type "dict")=false:=by decide
    have hl1:(s.heap.push (fV w)).IsList l items:=⟨_,hol',rfl,nl,rfl⟩;unfold fV eP at hol' hS hT hl1 ⊢;unfold Builtin.«set.__init__» noKeywords Builtin.Frozenset.updateFrom;generalize hPI:pyIter=PI
    wp_walk
    subst hPI;refine wpAny_pyIter_list hl1 ?_;refine aa (wpAny_runValue ?_);have hlS:l<s.heap.objs.size:=ah hol
    have hh3:A.in1.in1.in1.handled=none:=by simp[hh]
    generalize hH:s.heap.push _=H at hol' hS hT hl1 ⊢
    have hHs:H.objs.size=s.heap.objs.size+1:=by rw[<-hH,ai]
    have hneI:l≠H.objs.size:=by rw[hHs];exact bf (Nat.lt_succ_of_lt hlS)
    have hSf:s.heap.objs.size∉[H.objs.size,l]:=by
     rw[hHs];simp only[aq,List.not_mem_nil,or_false,not_or];exact⟨bf (Nat.lt_succ_self _),Nat.ne_of_gt hlS⟩
    refine yD (by have:=A.in1_units;have:=A.in1.in1_units;have:=A.in1.in1.in1_units;lia) ((Walks.list hh3 _ l hneI items).toS) hSf hr0 hd h64 (λb o e=>?_) (items.size-0) 0 _ (by lia) (bq _) ⟨⟨_,ag _ rfl,rfl,rfl⟩,(hl1.push _)⟩ (λb o e=>?_) ?_ ?_
    ·have hb:=ah e;simp only[aq,List.not_mem_nil,or_false,not_or];exact⟨bf hb,by rw[hHs];exact bf (Nat.lt_succ_of_lt hb)⟩
    ·refine af _ ?_;rw[<-hH];exact af _ e
    ·refine⟨[],7,0,0,[],af _ hS,⟨List.Pairwise.nil,nofun,nofun⟩,.inl rfl,by decide,nofun,rfl,List.Perm.refl _⟩
    ·intro s' hm hS';obtain⟨h',g',d',tk',os'⟩:=s'
     have eg:g'=s.gens:=hm.gens
     have ed:d'=s.drawn:=hm.drawn
     have eo:os'=s.os:=hm.os
     subst eg;subst ed;subst eo;show wpAny _ _ _ _ _ _;refine ae ?_;show wpAny _ _ (ret Value.none) _ _ _;refine ae ⟨rfl,h',tk',rfl,hS',λb o hb e=>?_,hm.toks⟩
     have hb1:b≠s.heap.objs.size:=bf hb;have hb2:b≠H.objs.size:=by rw[hHs];exact bf (Nat.lt_succ_of_lt hb)
     refine hm.heap b o (by simp only[aq,List.not_mem_nil,or_false,not_or];exact⟨hb1,hb2⟩) (af _ ?_)
     rw[<-hH];exact af _ e
   ·cases r₂ with
    |error e=>exact hr₂
    |ok fl₂=>
     cases fl₂ with
     |ret r=>
      obtain⟨rfl,h',tk,rfl,hS',hk',ht'⟩:=hr₂
      repeat (any_goals (first|assumption|wp_step))
      exact h _ _ hS' hk' ht'
     |_=>exact hr₂.elim
  |_=>exact hr.elim
end
theorem aJz(l:List D): ∀acc:List D, ∀x∈l.foldl lL acc,x∈acc\/x∈l:=by
 induction l with
 |nil=>intro acc x h;exact .inl h
 |cons d l ih=>
  intro acc x h;rcases ih _ x h with z|z
  ·unfold lL at z;split at z
   ·exact .inl z
   ·rcases List.mem_append.mp z with z|z
    ·exact .inl z
    ·exact .inr (by have:x=d:=by simpa using z
                    rw[this];exact .head _)
  ·exact .inr (.tail _ z)
theorem yF{x y:D}(h:same x y=true):deq x y=true↔x=y:=by
 rw[gG h,beq_iff_eq];exact⟨jX h,λe=>by rw[e]⟩
theorem One.sub{l k:List D}(h:One l)(s: ∀x∈k,x∈l):One k:=λx hx y hy=>h x (s x hx) y (s y hy)
theorem aMa(l:List D): ∀acc:List D,One (acc++l)->acc.Nodup->(l.foldl lL acc).Nodup/\∀x,x∈l.foldl lL acc↔x∈acc\/x∈l:=by
 induction l with
 |nil=>intro acc _ hn;exact⟨hn,λx=>by simp⟩
 |cons d l ih=>
  intro acc ho hn;have md:d∈acc++d::l:=by simp
  have hany:acc.any (λe=>deq e d)=true↔d∈acc:=by
   rw[List.any_eq_true];constructor
   ·rintro⟨e,me,q⟩
    have:=(yF (ho e (List.mem_append.mpr (.inl me)) d md)).mp q
    rw[<-this];exact me
   ·intro m;exact⟨d,m,(yF (ho d md d md)).mpr rfl⟩
  rw[List.foldl_cons]
  by_cases h:d∈acc
  ·have e:lL acc d=acc:=by unfold lL;rw[if_pos (hany.mpr h)]
   rw[e];obtain⟨i1,i2⟩:=ih acc (ho.sub λx hx=>by rcases List.mem_append.mp hx with z|z<;>simp[z]) hn
   refine⟨i1,λx=>(i2 x).trans ⟨λz=>z.elim .inl λz=>.inr (.tail _ z),λz=>z.elim .inl λz=>?_⟩⟩
   rcases aq.mp z with rfl|z
   ·exact .inl h
   ·exact .inr z
  ·have e:lL acc d=acc++[d]:=by unfold lL;rw[if_neg (λz=>h (hany.mp z))]
   rw[e]
   obtain⟨i1,i2⟩:=ih (acc++[d]) (ho.sub λx hx=>by simpa using hx) (List.nodup_append.mpr ⟨hn,by simp,λa ha b hb=>by
    have:b=d:=by simpa using hb
    rw[this];exact λz=>h (z▸ha)⟩)
   refine⟨i1,λx=>(i2 x).trans ?_⟩
   simp[or_assoc]
theorem aBe{l:List D}(ho:One l):(ddD l).Nodup:=(aMa l [] (by simpa using ho) List.nodup_nil).1
theorem vB{l:List D}(o:One l)(n:l.Nodup):(l.map cO).Nodup:=by
 refine List.pairwise_iff_getElem.mpr λi j hi hj hij=>?_
 rw[am]at hi hj;rw[List.getElem_map,List.getElem_map];intro e;exact List.pairwise_iff_getElem.mp n i j hi hj hij (jX (o _ (List.getElem_mem hi) _ (List.getElem_mem hj)) e)
section
variable {X:Cx} {ad:Ad} {a:Expr} {f:F} {p p2 pos pos2:Pos}
theorem yG{bx:cc}{s1:Shared}{σ:St}{H1 G1:Hp}{u:Value}{v:V}{ds:List D}{Q:VK}{E:Nat->Hp->Prop}{Ex:cb}(hh:X.A.handled=none)(hu:X.A.units+62<cLine)(I1:Inv X bx σ H1 s1)(hG:Same G1 H1)(q:Seq X ad G1 H1 (.lst ds) v)(ru:cD v u)(k:RK X.K ad G1 H1 (aKn ds) Q E):
  wpAny (model X.prog X.w) X.A (call (.type "set") [u]) (λt s2=>wpAny (model X.prog X.w) X.A (call (.builtin "sorted") [t]) (EP X bx σ Q) X.xe s2) Ex s1:=by
 unfold aKn at k
 by_cases hb:(iU ds&&decide ((ddD ds).length<300))=true
 ·rw[if_pos hb]at k;rw[ar,decide_eq_true_eq]at hb;obtain⟨hd,h64⟩:=hb;obtain⟨b,vs,rfl,hq,rq⟩:=q.items hG rfl
  cases (show u=Value.ref b from ru)
  rcases hq with z|z
  ·exact absurd z.1 (λz=>nomatch z)
  obtain⟨its,rv,pl,_⟩:=I1.list z.2;obtain⟨as,ra⟩:=eY I1 hG (yA hd) rq rv;have l1:=rq.length;have l2:=rv.length;have ra0:ReadsAll s1.heap its.toArray.toList (aZ ds) as:=by simpa using ra
  refine yE (items:=its.toArray) (by lia) hh (by simpa using pl.isList) ra0 hd h64 λh' tk sa kb ht=>?_
  have k1: ∀b o,s1.heap.get? b=some o->h'.get? b=some o:=λb o e=>kb b o (ah e) e
  have I2:Inv X bx σ H1 {s1 with heap:=h',toks:=tk}:=I1.kept k1
  obtain⟨L,m,mv,ep,ks,ho,hT,hm',hl,kl,kd,kp⟩:=sa;rw[List.take_of_length_le (aj _)]at kd
  have lenL:L.length=(ddD ds).length:=by
   have h1:=kp.length_eq;have h2:=congrArg List.length kd;simp only[am]at h1 h2
   lia
  have W:fF X.w (L.map (·.2)).toArray (tbl m mv (!X.w.params.followText "set-order") (L.map (·.1))) (L.map (·.1)):=by
   refine⟨l9 (by rcases hm' with rfl|rfl|rfl|rfl<;>lia),λe=>⟨rfl,hT.up,by simp,?_,rfl⟩⟩
   show(!X.w.params.followText "set-order")=true
   rw[e];rfl
  refine sB (Cd:=λvs' h1 tk2=>(∃js:List Nat,js.Perm ks/\vs'=js.map λk=>its.getD k Value.none)/\(∀b o,h'.get? b=some o->h1.get? b=some o)/\tk<=tk2) (s:={s1 with heap:=h',toks:=tk}) (by lia)
   (λQ' hQ'=>sC (s:={s1 with heap:=h',toks:=tk}) (A:=X.A.in1) (by simp[hh]) ho W (by rw[sizeLine_eq];simp;lia) λg1 tk2 acc c1 c2 c3=>hQ' _ g1 tk2 ⟨?_,c1,c2⟩) ?_
  ·have:=c3.trans ((kp.map (·.2)).trans (List.Perm.of_eq (List.map_map ..)))
   have e:(λx:Nat=>(λx:Int×Value=>x.2) ((λk=>(hsh (bU (ds.getD k .non)),its.toArray.toList.getD k Value.none)) x))=λk=>its.getD k Value.none:=by funext k;simp
   have t2:acc.toList.Perm (ks.map λk=>its.getD k Value.none):=by
    have h3:=c3;rw[List.map_map]at h3;refine(List.Perm.trans ?_ ((kp.map (·.2)).trans (List.Perm.of_eq ?_)))
    ·simpa using c3
    ·rw[List.map_map];congr 1
   exact pX t2
  ·rintro vs' g1 tk2 ⟨⟨js,pj,rfl⟩,c1,c2⟩;have ltj: ∀j∈js,j<ds.length:=λj hj=>kl j (pj.mem_iff.mp hj)
   have hpd:(js.map λk=>ds.getD k .non).Perm (ddD ds):=by rw[<-kd];exact pj.map _
   obtain⟨one,tups,tupN⟩:=gL hd
   have sub: ∀x∈ddD ds,x∈ds:=λx hx=>by
    rcases aJz ds [] x hx with z|z
    ·cases z
    ·exact z
   have oneD:One (ddD ds):=λx hx y hy=>one x (sub x hx) y (sub y hy)
   have jne:js≠[]:=λz=>by
    subst z;have e0:=hpd.length_eq
    cases ds with
    |nil=>cases hd
    |cons d r=>
     have:1<=(ddD (d::r)).length:=by
      have h1:=aJy (d::r) 1
      have:(ddD ((d::r).take 1)).length=1:=by simp[ddD,lL]
      lia
     simp at e0
     lia
   have hdj:iU (js.map λk=>ds.getD k .non)=true:=by
    have memj: ∀x∈js.map (λk=>ds.getD k .non),x∈ds:=λx hx=>sub x (hpd.mem_iff.mp hx)
    have aAg:2<=js.length->2<=ds.length:=λh2=>by
     refine Classical.byContradiction λhlt=>?_
     have nd:js.length<=ds.length:=by
      have h1:=hpd.length_eq;have h3:=aJx ds [];simp only[am]at h1;simp only[List.length_nil,Nat.zero_add]at h3
      have:(ddD ds).length=(ds.foldl lL []).length:=rfl
      lia
     lia
    cases hjs:js with
    |nil=>exact absurd hjs jne
    |cons j r=>
     rw[hjs]at memj aAg;simp only[List.map_cons,iU,ar,decide_eq_true_eq,List.all_eq_true];have m0:=memj _ (ao.mpr ⟨j,.head _,rfl⟩);refine⟨⟨⟨⟨(tups _ m0).1,?_⟩,(tups _ m0).2⟩,one _ m0 _ m0⟩,λy hy=>one _ m0 _ (memj y (.tail _ hy))⟩
     rw[Bool.or_eq_true]
     cases r with
     |nil=>exact .inl rfl
     |cons j2 r2=>exact .inr (tupN (aAg (by simp)) _ m0)
   have c3: ∀b o,s1.heap.get? b=some o->g1.get? b=some o:=λb o e=>c1 b o (k1 b o e)
   have raj: ∃bs,ReadsAll g1 (js.map λk=>its.getD k Value.none) (aZ (js.map λk=>ds.getD k .non)) bs:=by
    have r0:=cG (λb o _ e=>c3 b o e) (aCv hd) ra
    have gen: ∀l:List Nat,(∀j∈l,j<ds.length)->∃bs,ReadsAll g1 (l.map λk=>its.getD k Value.none) (aZ (l.map λk=>ds.getD k .non)) bs:=by
     intro l
     induction l with
     |nil=>intro _;exact⟨[],by simp only[List.map_nil,aZ];exact .nil⟩
     |cons j l ih=>
      intro hl;obtain⟨bs,rb⟩:=ih λj hj=>hl j (.tail _ hj)
      obtain⟨cs,rc⟩:=fE r0 (hl j (.head _));exact⟨cs++bs,by simp only[List.map_cons,aZ];exact .cons rc rb⟩
    exact gen js ltj
   obtain⟨bs,rb⟩:=raj;refine⟨_,bs,rb,hdj,by have:=hpd.length_eq;simp only[am]at this ⊢;lia,((hpd.map cO).nodup_iff).mpr (vB oneD (aBe one)),λg2 pm e k2 at' gd st=>?_⟩
   have I3:Inv X bx σ H1 {s1 with heap:=g1,toks:=tk2}:=I2.kept (t':=tk2) c1
   have gs:=gd.size;rw[am]at gs gd st
   have ltp: ∀i∈pm.toList,i<js.length:=λi hi=>by
    have:=(Array.Perm.mem_iff gd).mp (Array.mem_def.mpr hi)
    simpa using this
   have hsub: ∀i∈pm.toList.map (λi=>js.getD i 0),i<vs.length:=λi hi=>by
    obtain⟨t,t1,rfl⟩:=ao.mp hi
    have:=ltp t t1
    have:js.getD t 0∈js:=by rw[bu,az this,Option.getD_some];exact List.getElem_mem this
    have:=ltj _ this
    lia
   have cmp: ∀{α:Type} (g:Nat->α) (z:α),pm.toList.map (λi=>(js.map g).getD i z)=(pm.toList.map λi=>js.getD i 0).map g:=λg z=>by
    rw[List.map_map];refine List.map_congr_left λi hi=>?_
    have:=ltp i hi
    simp[this]
   have hz:((pm.toList.map λi=>js.getD i 0).map λi=>vs.getD i V.non).length<=sizeLine:=by
    have:=hpd.length_eq
    simp only[am,Array.length_toList]at this ⊢;rw[gs,sizeLine_eq];lia
   rw[cmp]at at';refine⟨.ref g1.objs.size,_,I3.laid (t':=tk2) k2 (aj _) (show ObjOk X.prog X.w _ g2 _ (.lst _) from⟨hz,_,e,p0 rv hsub,at'⟩),rfl,k.ow_new hG ?_ (I3.hok.fresh (aj _))⟩
   have hd':=pZ rq (l:=pm.toList.map λi=>js.getD i 0) λi hi=>by rw[<-l1];exact hsub i hi
   rw[<-sA oneD hpd, <-aJu (n:=js.length) (λx hx y hy=>oneD x (hpd.mem_iff.mp hx) y (hpd.mem_iff.mp hy)) (by simp) gd st,cmp]
   exact hd'
 ·rw[if_neg hb]at k;exact k.elim
end
section
variable {prog:Program} {w:World} {A:Around} {E:cb} {R:Result->Shared->Prop} {I:Addr} {fp wr:List Addr} {G:Array GenState->Array GenState->Prop} {n:Nat} {P:Nat->Value->Prop} {St:Nat->Shared->Prop}
end
def iv:Value->Int
 |.int n _=>n
 |_=>0
section
variable {X:Cx} {ad:Ad} {a:Expr} {f:F} {p p2 pos pos2:Pos}
theorem nO(hg:L2.Gl X "set")(hm:X.mg "set"=none)(hgs:L2.Gl X "sorted")(hms:X.mg "sorted"=none)(hh:X.A.handled=none)(hun:X.A.units+62<cLine)(ha:ML X ad a f)(he:starEach [a] X.env=(false,eval a X.env)::starEach [] X.env):
  ME X ad (.Call (.Name "sorted" p) [.Call (.Name "set" p2) [a] [] pos2] [] pos) (aB dSS [f]):=by
 refine λbx s σ H Q I h9=>h9.el λG ρ E hG hS hx hr=>?_
 unfold aB at hr;rw[jT]at hr;refine wpAny_Call_Name_kw (fK (u:=.builtin "sorted") I hgs hms (by decide+kernel) (PyProof.Rows.callWith_builtin1 ?_ rfl rfl) (by decide) (by decide))
 refine Calls.spliced_cons ?_;refine wpAny_Call_Name_kw (fK (u:=.type "set") I hg hm (by decide+kernel) ?_ (by decide) (by decide))
 refine PyProof.Rows.callWith_type1 (L2.thn (cM ha eK he pos2 bx s σ H (λvs H1=>∃v d G1,vs=[v]/\Step G H G1 H1/\Seq X ad G1 H1 d v/\RK X.K ad G1 H1 (dSS [d]) Q E) I ?_) λus s1 ⟨vs,H1,I1,r1,v,d,G1,e1,st,q,k⟩=>?_) he rfl
 ·exact rO hG hS hx hr λv d G1 H1 st q k=>⟨v,d,G1,rfl,st,q,k⟩
 ·subst e1;obtain⟨u,rfl,ru⟩:=mT r1
  cases d<;>try exact ax k
  rename_i ds
  have k2:RK X.K ad G1 H1 (match eF ds with|some _=>.bad|none=>aKn ds) Q E:=k
  cases e2:eF ds with
  |none=>
   rw[e2]at k2;exact wpAny_mono (yG hh hun I1 st.gh q ru k2) (λt s2 h=>Calls.spliced_nil h) λ_ _ e=>e
  |some ns=>rw[e2]at k2;exact k2.elim
end
section
variable {X:Cx} {ad:Ad} {Z:(St->Nat->Hp->Prop)->Prop} {bx:cc} {s:Shared} {σ:St} {H G G₀:Hp} {ρ:Rho} {D':Ends} {E:St->Nat->Hp->Prop} {pos pos':Pos} {e:Expr} {f:F} {g h:FS} {st:Stmt} {sts:List Stmt}
theorem aJ0{i:Nat}{x:Str}{p tp:Pos}{kx:Expr}{fk:F}(hu:X.A.units+62<cLine)(hN:X.N[i]? =some x)(hv:Vis X.env.scope x)(hd:(x==("__debug__":Str))=false)(hcd:(x==("__classdict__":Str))=false)(he:ME X ad e f)(hk:ME X ad kx fk)
  (ha: ∀v,assign (.Subscript (.Name x p) kx tp) X.env v=(do
   let ov<-holding [v] (eval (.Name x p) X.env);let iv<-holding [v,ov] (eval kx X.env)
   standAt tp
   holding [v,ov,iv] (setItem ov iv v)
   release [v,ov,iv] [])) (hs:swapsWithSole [.Subscript (.Name x p) kx tp] e pos.line X.env=pure false) (hw:swappedStores [.Subscript (.Name x p) kx tp] e X.env=pure none):
  MS X ad Z (.Assign [.Subscript (.Name x p) kx tp] e pos) (aDr i fk f):=by
 refine PS.imp (aB1 he (aHe (j7 hN hv hd hcd) hk zT ha) hs hw rfl) ?_;rintro D' σ H ⟨G₀,G,ρ,E,S,hx,hr⟩;unfold aDr at hr;refine iG S hx hr λv d G1 H1 st r k=>?_
 cases q:ρ[i]? with
 |none=>rw[q]at k;exact k.elim
 |some sl=>
  rw[q]at k
  cases sl with
  |no=>exact k.elim
  |sh d=>exact k.elim
  |ow xs=>
   obtain⟨a,vs,h1,h2,h3,h4⟩:=(S.step st).sl.ow q;refine⟨.ref a,h1,?_⟩;refine iG (S.step st) hx k λv2 y G2 H2 st2 r2 k2=>?_
   obtain⟨g2,h2'⟩:=fB st2 h2 h3
   cases y<;>try exact ax k2
   rename_i j;unfold Rep at r2;subst r2
   have k':OKo X ad G₀ (match ixD xs.length j with|some m=>.nx (ρ.set i (.ow (xs.set m d)))|none=>.rt .bad) D' E:=k2
   cases q2:ixD xs.length j with
   |none=>rw[q2]at k';exact k'.elim
   |some m=>
    rw[q2]at k';have r4:=h4.mono st2.sg;refine⟨a,vs,j,m,rfl,rfl,h2',by rw[h4.length, <-aCj];exact q2,?_⟩
    exact k' σ G2 _ (((S.step st).step st2).upd q h1 g2 (aH.set (r.mono st2.sg) m r4))
end
theorem d7{l:List Expr}{a:Expr}(h:one l=some a):l=[a]:=by
 unfold one at h;split at h
 ·cases h;rfl
 ·cases h
theorem p9{l:List Expr}{a b:Expr}(h:two l=some (a,b)):l=[a,b]:=by
 unfold two at h;split at h
 ·cases h;rfl
 ·cases h
theorem cH{e:Expr}{x:Str}{p:Pos}(h:eO e=some (x,p)):e= .Name x p:=by
 cases e<;>first|(cases h;rfl)|(cases h;done)
theorem aFr{e:Expr}{es:List Expr}{k:Nat}{p:Pos}(h:aH7 e=some (es,k,p)):e= .Tuple es k p:=by
 cases e<;>first|(cases h;rfl)|(cases h;done)
theorem yH{e:Expr}{lo hi:Option Expr}(h:aCb e=some (lo,hi)): ∃p,e= .Slice lo hi none p:=by
 cases e<;>try (cases h;done)
 rename_i a b c p
 cases c with
 |none=>cases h;exact⟨p,rfl⟩
 |some c=>cases h
theorem aKr{dE:Expr->Option F}{C:SK.Ctx}{a:Expr}{f:F}(h:aH9 dE C a=some f): ∃x p b q,a= .Call (.Name x p) [b] [] q/\glo C x=some (.py .range)/\dE b=some f:=by
 unfold aH9 at h;split at h
 ·rename_i f' as kws q;split at h
  ·rename_i hk;obtain⟨⟨x,p⟩,h1,h⟩:=zBd h;obtain⟨b,h2,h⟩:=zBd h;split at h
   ·rename_i e1 e2;exact⟨x,p,b,q,by rw[cH h1,d7 h2,List.isEmpty_iff.mp hk],e2,h⟩
   ·cases h
  ·cases h
 ·cases h
theorem aBf{dE:Expr->Option F}{C:SK.Ctx}{a:Expr}{h:F}(e:aDs dE C a=some h): ∃x p b c q f g,a= .Call (.Name x p) [b,c] [] q/\glo C x=some (.py .zip)/\dE b=some f/\dE c=some g/\h=mW f g:=by
 unfold aDs at e;split at e
 ·rename_i f' as kws q;split at e
  ·rename_i hk;obtain⟨⟨x,p⟩,h1,e⟩:=zBd e;obtain⟨⟨b,c⟩,h2,e⟩:=zBd e
   simp only at e
   split at e
   ·rename_i e1 e2;obtain⟨f,h3,e⟩:=zBd e;obtain⟨g,h4,e⟩:=zMd e;exact⟨x,p,b,c,q,f,g,by rw[cH h1,p9 h2,List.isEmpty_iff.mp hk],e2,h3,h4,e.symm⟩
   ·cases e
  ·cases e
 ·cases e
theorem aBg{dL:Expr->Option F}{C:SK.Ctx}{a:Expr}{f:F}(h:aDt dL C a=some f): ∃x p b q,a= .Call (.Name x p) [b] [] q/\glo C x=some (.py .set)/\dL b=some f:=by
 unfold aDt at h;split at h
 ·rename_i f' as kws q;split at h
  ·rename_i hk;obtain⟨⟨x,p⟩,h1,h⟩:=zBd h;obtain⟨b,h2,h⟩:=zBd h;split at h
   ·rename_i e1 e2;exact⟨x,p,b,q,by rw[cH h1,d7 h2,List.isEmpty_iff.mp hk],e2,h⟩
   ·cases h
  ·cases h
 ·cases h
theorem gM{α:Type}{l:List α}(h:l.isEmpty=true):l=[]:=List.isEmpty_iff.mp h
def nP:Expr->Prop
 |.Starred _ _=>False
 |_=>True
theorem aW{e:Expr}{es:List Expr}{env:PySem.Env}(h:nP e):starEach (e::es) env=(false,eval e env)::starEach es env:=by
 cases e<;>first|rfl|exact h.elim
def qA:Expr->Prop
 |.Set _ _ _=>False
 |_=>True
theorem nQ{e:Expr}{op:CmpOp}(h:qA e):behindInMarks op e=false:=by
 cases e<;>first|rfl|exact h.elim
theorem qB{b c:Expr}{op op':CmpOp}(h:qA c):lastMarks [op,op'] [b,c]=false:=by
 show behindInMarks op' c=false;exact nQ h
theorem aBh{e:Expr}(h: ∀a b c d,e≠ .Slice a b c d):vV e:=by
 intro o i
 cases e<;>first|rfl|exact absurd rfl (h _ _ _ _)
theorem aP{n:Nat}{C:SK.Ctx}{e:Expr}{f:F}(h:cR n C e=some f):nP e/\qA e/\∀a b c d,e≠ .Slice a b c d:=by
 cases n with
 |zero=>cases h
 |succ n=>cases e<;>first|(cases h;done)|(refine⟨trivial,trivial,?_⟩;intro a b c d z;cases z;done)
theorem dI{n:Nat}{C:SK.Ctx}{e:Expr}{f:F}(h:v6 n C e=some f):nP e/\qA e:=by
 cases n with
 |zero=>cases h
 |succ n=>
  by_cases hn: ∃x p,e= .Name x p
  ·obtain⟨x,p,rfl⟩:=hn;exact⟨trivial,trivial⟩
  ·have:cR n C e=some f:=by
    rw[<-h]
    cases e<;>first|rfl|exact absurd ⟨_,_,rfl⟩ hn
   exact⟨(aP this).1,(aP this).2.1⟩
theorem qC{n:Nat}{C:SK.Ctx}{tt:Bool}{e:Expr}{f:F}(h:aDv n C tt e=some f):qA e:=by
 cases n with
 |zero=>cases h
 |succ n=>cases e<;>first|trivial|exact(dI h).2
section
variable {ad:Ad}
def zH(ad:Ad)(n:Nat):Prop:= ∀(X:Cx) (C:SK.Ctx) (e:Expr) (f:F),CtxOk X ad C->cR n C e=some f->ME X ad e f/\MT X ad e f/\∀op es p,e= .BoolOp op es p->MW X ad e f
def aGu(ad:Ad)(n:Nat):Prop:= ∀(X:Cx) (C:SK.Ctx) (e:Expr) (f:F),CtxOk X ad C->v6 n C e=some f->ML X ad e f
def aJ1(ad:Ad)(n:Nat):Prop:= ∀(X:Cx) (C:SK.Ctx) (tg e:Expr) (tt:Bool) (f:F),CtxOk X ad C->(tt=true->∃es k p,tg= .Tuple es k p)->aDv n C tt e=some f->MI X ad tg e f/\((∀x p,e≠ .Name x p)->MIG X ad tg e f)
variable {X:Cx} {C:SK.Ctx} {n:Nat}
theorem vC(hE:zH ad n)(O:CtxOk X ad C): ∀{es:List Expr} {fs:List F},gE (cR n C) es=some fs->MA X ad es fs/\∀e∈es,nP e
 |[],fs,h=>by
  cases h;exact⟨aCi,λ_ h=>by cases h⟩
 |e::es,fs,h=>by
  unfold gE at h
  cases e1:cR n C e with
  |none=>rw[e1]at h;cases h
  |some f=>
   rw[e1]at h;obtain⟨r,h1,h2⟩:=zMd h;subst h2;obtain⟨q1,q2⟩:=vC hE O h1;have ns:=(aP e1).1
   exact⟨rM (hE X C e f O e1).1 q1 (aW ns),λa ha=>by
    rcases aq.mp ha with rfl|ha
    ·exact ns
    ·exact q2 a ha⟩
theorem nR{α β:Type}{f:α->Option β}: ∀{l:List α} {r:List β},gE f l=some r->r.length=l.length
 |[],r,h=>by cases h;rfl
 |x::l,r,h=>by
  unfold gE at h
  cases e:f x with
  |none=>rw[e]at h;cases h
  |some y=>
   rw[e]at h;obtain⟨r',h1,h2⟩:=zMd h;subst h2;simp[nR h1]
theorem j4{env:PySem.Env}{pos:Pos}: ∀{es:List Expr},(∀e∈es,nP e)->(backTo pos (starEach es env)).any (·.1)=false
 |[],_=>rfl
 |e::es,h=>by
  rw[aW (h e (.head _))]
  show(false||(backTo pos (starEach es env)).any (·.1))=false
  rw[j4 λa ha=>h a (.tail _ ha)]
  rfl
theorem aMb(hE:zH ad n)(hL:aGu ad n)(O:CtxOk X ad C){x:Str}{p:Py}{as:List Expr}{f:F}{np pos:Pos}(hg:glo C x=some (.py p))(h:aDu (cR n C) (v6 n C) C p as=some f):ME X ad (.Call (.Name x np) as [] pos) f:=by
 obtain⟨g1,g2,g3,g4⟩:=O.gl hg;unfold aDu at h;split at h
 ·have hx:=zBd h;clear h;obtain⟨a,h0,h⟩:=hx
  cases d7 h0
  obtain⟨fa,h1,rfl⟩:=zMd h;subst g3;exact rP aD9 g1 g4 (by decide+kernel) (hL X C _ fa O h1) (by decide) g2 (aW (dI h1).1)
 ·have hx:=zBd h;clear h;obtain⟨a,h0,h⟩:=hx
  cases d7 h0
  obtain⟨fa,h1,rfl⟩:=zMd h;subst g3;exact wF aEa g1 g4 (by decide+kernel) (hL X C _ fa O h1) (by decide) g2 (aW (dI h1).1)
 ·have hx:=zBd h;clear h;obtain⟨a,h0,h⟩:=hx
  cases d7 h0
  obtain⟨fa,h1,rfl⟩:=zMd h;subst g3;exact wF wG g1 g4 (by decide+kernel) (hL X C _ fa O h1) (by decide) g2 (aW (dI h1).1)
 ·have hx:=zBd h;clear h;obtain⟨a,h0,h⟩:=hx
  cases d7 h0
  subst g3
  cases h1:v6 n C a with
  |some fa=>
   rw[h1]at h;cases h;exact wF aAf g1 g4 (by decide+kernel) (hL X C _ fa O h1) (by decide) g2 (aW (dI h1).1)
  |none=>
   rw[h1]at h;obtain⟨fa,h3,rfl⟩:=zMd h;obtain⟨y,yp,b,c,yq,f1,f2,rfl,e1,e2,e3,rfl⟩:=aBf h3;obtain⟨r1,r2,r3,r4⟩:=O.gl e1;subst r3;exact rV r1 r4 g1 g4 O.calm (hE X C _ f1 O e2).1 (hE X C _ f2 O e3).1 (aW (aP e2).1) (aW (aP e3).1)
 ·have hx:=zBd h;clear h;obtain⟨a,h0,h⟩:=hx
  cases d7 h0
  obtain⟨fa,h1,rfl⟩:=zMd h;subst g3;exact rP (aEb O.hd) g1 g4 (by decide+kernel) (hL X C _ fa O h1) (by decide) g2 (aW (dI h1).1)
 ·have hx:=zBd h;clear h;obtain⟨a,h0,h⟩:=hx
  cases d7 h0
  obtain⟨fa,h1,rfl⟩:=zMd h;subst g3;exact rP (aEc O.hd) g1 g4 (by decide+kernel) (hL X C _ fa O h1) (by decide) g2 (aW (dI h1).1)
 ·cases h
 ·cases h
 ·have hx:=zBd h;clear h;obtain⟨a,h0,h⟩:=hx
  cases d7 h0
  subst g3;obtain⟨fa,h2,rfl⟩:=zMd h;obtain⟨y,yp,b,yq,rfl,e1,e2⟩:=aBg h2;obtain⟨r1,r2,r3,r4⟩:=O.gl e1;subst r3;exact nO r1 r4 g1 g4 O.hd O.un (hL X C _ fa O e2) (aW (dI e2).1)
 ·cases h
 ·cases h
 ·have hx:=zBd h;clear h;obtain⟨⟨a,b⟩,h0,h⟩:=hx
  cases p9 h0
  have hx:=zBd h;clear h;obtain⟨⟨tn,tp⟩,hv,h⟩:=hx
  cases cH hv
  obtain⟨fa,h1,h⟩:=zBd h;obtain⟨g,h2,h⟩:=zBd h;obtain⟨P,h3,rfl⟩:=zMd h;subst g3;obtain⟨cv,c1,c2⟩:=aI5 O h2 h3
  by_cases hb:bsN C a=true
  ·rw[if_pos hb]at h1;exact w8 O.exc g1 g4 c1 c2 (hL X C _ fa O h1) (aW (dI h1).1)
  ·rw[if_neg hb]at h1;exact w8 O.exc g1 g4 c1 c2 (hE X C _ fa O h1).1.ml (aW (aP h1).1)
 ·cases h
theorem zI{e:Expr}{f:F}(h:ME X ad e f)(ht: ∀whole,isTrue e X.env whole=(do let v<-whole;standAt e.pos;holding [v] (truthy v)))(hb: ∀op es p,e≠ .BoolOp op es p):ME X ad e f/\MT X ad e f/\∀op es p,e= .BoolOp op es p->MW X ad e f:=
 ⟨h,aIf h ht,λop es p z=>absurd z (hb op es p)⟩
theorem aBi{e:Expr}{f:F}(h:MW X ad e f):MT X ad e f:=λbx s σ H Q I t=>h _ bx s σ H Q I t
theorem aCw{tg:Expr}{xs:List Str}{k:Nat}(h:cE tg=some (xs,k)):xs.length=(if k=0 then 1 else k)/\((k != 0)=true->∃es j p,tg= .Tuple es j p):=by
 cases tg<;>try (cases h;done)
 ·cases h;exact⟨rfl,λz=>absurd z (by decide)⟩
 ·rename_i es j p;unfold cE at h;obtain⟨ys,e1,e2⟩:=zBd h
  by_cases hl:2<=ys.length
  ·rw[if_pos hl]at e2;cases e2;exact⟨by rw[if_neg (by lia)],λ_=>⟨es,j,p,rfl⟩⟩
  ·rw[if_neg hl]at e2;cases e2
theorem mJ(hE:zH ad n)(hI:aJ1 ad n)(O:CtxOk X ad C){elt tg it:Expr}{ifs:List Expr}{sc:Scope}{pos:Pos}{f:F}(h:cR (n+1) C (.ListComp elt [⟨tg,it,ifs,0⟩] sc pos)=some f):
  ∃xs k cs fi fc fe,f=aL k cs fi fc fe/\(cE tg=some (xs,k)/\cR n {C with sc:=sc,N:=xs++bM sc} elt=some fe)/\CompSc X C sc xs cs/\MI X ad tg it fi/\(∀a b c,it≠ .Set a b c)/\xs.length=(if k=0 then 1 else k)/\(∀fp s3 H3 pins',PG (cX X (xs++bM sc) sc s3 H3 fp pins') tg (gTg X.K k))/\
   (∀fp s3 H3 pins',MTs (cX X (xs++bM sc) sc s3 H3 fp pins') ad ifs fc)/\∀fp s3 H3 pins',ME (cX X (xs++bM sc) sc s3 H3 fp pins') ad elt fe:=by
 have h':((cE tg).bind fun(xs,k)=>(aDv n C (k != 0) it).bind fun fi=>if kH sc xs then
    (gE (λx=>fL C x) (bM sc)).bind λcs=>(match ifs with
    |[]=>some none
    |[c]=>(cR n {C with sc:=sc,N:=xs++bM sc} c).map some
    |_=>none).bind λc=>(cR n {C with sc:=sc,N:=xs++bM sc} elt).map λe=>aL k cs fi c e
   else none)=some f:=h
 clear h;obtain⟨⟨xs,k⟩,e1,h⟩:=zBd h';obtain⟨fi,e2,h⟩:=zBd h;obtain⟨l1,l2⟩:=aCw e1
 by_cases hc:kH sc xs=true
 ·rw[if_pos hc]at h;obtain⟨cs,e3,h⟩:=zBd h;obtain⟨fc,e4,h⟩:=zBd h;obtain⟨fe,e5,e6⟩:=zMd h;obtain⟨c1,c2,c3,c4,c5,c6,c7⟩:=iY hc;have inn: ∀fp s3 H3 pins',CtxOk (cX X (xs++bM sc) sc s3 H3 fp pins') ad {C with sc:=sc,N:=xs++bM sc}:=λfp s3 H3 pins'=>aI6 O hc e3
  refine⟨xs,k,cs,fi,fc,fe,e6.symm,⟨e1,e5⟩,xB O hc e3,(hI X C tg it _ fi O l2 e2).1,λa b c z=>?_,l1,λfp s3 H3 pins'=>?_,λfp s3 H3 pins'=>?_,λfp s3 H3 pins'=>(hE _ _ elt fe (inn fp s3 H3 pins') e5).1⟩
  ·subst z;exact qC e2
  ·by_cases hcel:oX sc=[]
   case neg=>
    rcases c2 with z|⟨z,l⟩
    ·exact absurd z hcel
    ·obtain⟨x,rfl⟩:=List.length_eq_one_iff.mp l;refine aEy (X:=cX X ([x]++bM sc) sc s3 H3 fp pins') (x:=x) c5 e1 rfl rfl ?_ (decide_eq_true z)
     show(relabel sc X.env).names.lookup x=some .cell
     have e7:=b7 (env:=X.env) (x:=x) (names:=sc.names);rw[c3 x (.head _),z]at e7;exact e7
   refine aLz (X:=cX X (xs++bM sc) sc s3 H3 fp pins') O.calm c5 e1 λi x hx=>⟨?_,?_⟩
   ·show(xs++bM sc)[i]? =some x
    rw[bt (av.mp hx).1];exact hx
   ·show(relabel sc X.env).names.lookup x=some .local
    have e7:=b7 (env:=X.env) (x:=x) (names:=sc.names);rw[c3 x (List.mem_of_getElem? hx),hcel]at e7;exact e7
  ·split at e4
   ·cases e4;trivial
   ·obtain⟨g,e8,rfl⟩:=zMd e4;exact(hE _ _ _ g (inn fp s3 H3 pins') e8).2.1
   ·cases e4
 ·rw[if_neg hc]at h;cases h
theorem aMc(hE:zH ad n)(hL:aGu ad n)(hI:aJ1 ad n):zH ad (n+1):=by
 intro X C e f O h;unfold cR at h;split at h
 ·-- a name
  rename_i x pos;refine zI ?_ (λ_=>rfl) (λ_ _ _ z=>nomatch z)
  cases e1:loc C x with
  |some i=>
   rw[e1]at h;cases h;obtain⟨v1,v2,v3,v4⟩:=O.vis x i e1;exact wA v1 v2 v3 v4
  |none=>
   rw[e1]at h
   simp only at h
   split at h
   ·rename_i d e2;cases h;obtain⟨g1,g2,u,v,g3,g4,g5⟩:=O.gl e2;exact wB g1 g3 g4 g5 g2
   ·rename_i k0 n0 f0 e2;cases h;obtain⟨g1,g2,r,f,T,hr,hf⟩:=O.gl e2;subst hf;exact wB (v:=.ref (ad.fnA k0)) g1 T.mg rfl (λG=>by unfold Rep;rfl) g2
   ·cases h
 ·obtain⟨d,h1,rfl⟩:=zMd h;exact zI (aAb h1) (λ_=>rfl) (λ_ _ _ z=>nomatch z)
 ·obtain⟨fa,h1,h⟩:=zBd h;obtain⟨fb,h2,rfl⟩:=zMd h;exact zI (aIa (hE X C _ fa O h1).1 (hE X C _ fb O h2).1) (λ_=>rfl) (λ_ _ _ z=>nomatch z)
 ·obtain⟨fa,h1,h⟩:=zBd h;obtain⟨q1,q2,_⟩:=hE X C _ fa O h1;split at h
  ·cases h;exact⟨aIb q1,aIh q2,λ_ _ _ z=>nomatch z⟩
  ·cases h;exact zI (aIc q1) (λ_=>rfl) (λ_ _ _ z=>nomatch z)
  ·cases h
 ·rename_i op es pos;split at h
  ·rename_i a b;obtain⟨fa,h1,h⟩:=zBd h;obtain⟨fb,h2,rfl⟩:=zMd h;obtain⟨q1,q2,_⟩:=hE X C _ fa O h1;obtain⟨r1,r2,_⟩:=hE X C _ fb O h2
   cases op with
   |And=>
    have W:MW X ad (.BoolOp .And [a,b] pos) (fR fa fb):=aCg q2 (aCh r2);exact⟨aCe q1 (aCf r1),aBi W,λ_ _ _ _=>W⟩
   |Or=>
    have W:MW X ad (.BoolOp .Or [a,b] pos) (rOr fa fb):=aIj q2 (aCh r2);exact⟨aIe q1 (aCf r1),aBi W,λ_ _ _ _=>W⟩
  ·rename_i a b c r;obtain⟨fa,h1,h⟩:=zBd h;obtain⟨fb,h2,rfl⟩:=zMd h;obtain⟨q1,q2,_⟩:=hE X C _ fa O h1;obtain⟨r1,r2,r3⟩:=hE X C _ fb O h2
   cases op with
   |And=>
    have W:MW X ad (.BoolOp .And (a::b::c::r) pos) (fR fa fb):=aCg q2 (r3 _ _ _ rfl);exact⟨aCe q1 r1,aBi W,λ_ _ _ _=>W⟩
   |Or=>
    have W:MW X ad (.BoolOp .Or (a::b::c::r) pos) (rOr fa fb):=aIj q2 (r3 _ _ _ rfl);exact⟨aIe q1 r1,aBi W,λ_ _ _ _=>W⟩
  ·cases h
 ·split at h
  ·have hx:=zBd h;clear h;obtain⟨b,h0,h⟩:=hx
   cases d7 h0
   obtain⟨fa,h1,h⟩:=zBd h;obtain⟨fb,h2,rfl⟩:=zMd h;exact⟨aIk O.un (hE X C _ fa O h1).1 (hE X C _ fb O h2).1 (nQ (aP h2).2.1),aIl O.un (hE X C _ fa O h1).1 (hE X C _ fb O h2).1 (nQ (aP h2).2.1),λ_ _ _ z=>nomatch z⟩
  ·have hx:=zBd h;clear h;obtain⟨⟨b,c⟩,h0,h⟩:=hx
   cases p9 h0
   obtain⟨fa,h1,h⟩:=zBd h;obtain⟨fb,h2,h⟩:=zBd h;obtain⟨fc,h3,rfl⟩:=zMd h;exact⟨aAc O.un (hE X C _ fa O h1).1 (hE X C _ fb O h2).1 (hE X C _ fc O h3).1 (qB (aP h3).2.1),aAd O.un (hE X C _ fa O h1).1 (hE X C _ fb O h2).1 (hE X C _ fc O h3).1 (qB (aP h3).2.1),λ_ _ _ z=>nomatch z⟩
  ·cases h
 ·obtain⟨fc,h1,h⟩:=zBd h;obtain⟨fa,h2,h⟩:=zBd h;obtain⟨fb,h3,rfl⟩:=zMd h;obtain⟨c1,c2,_⟩:=hE X C _ fc O h1;obtain⟨a1,a2,_⟩:=hE X C _ fa O h2;obtain⟨b1,b2,_⟩:=hE X C _ fb O h3;have c3:=aL3 c1 c2;exact⟨aAe c3 a1 b1,aA0 c3 a2 b2,λ_ _ _ z=>nomatch z⟩
 ·split at h
  ·rename_i hl;obtain⟨fs,h1,rfl⟩:=zMd h;exact zI (aIm (vC hE O h1).1 (by rw[nR h1];exact hl)) (λ_=>rfl) (λ_ _ _ z=>nomatch z)
  ·cases h
 ·split at h
  ·rename_i hl;obtain⟨fs,h1,rfl⟩:=zMd h;exact zI (aIn (vC hE O h1).1 (by rw[nR h1];exact hl)) (λ_=>rfl) (λ_ _ _ z=>nomatch z)
  ·cases h
 ·-- o[..]
  rename_i a b pos;have hx:=zBd h;clear h;obtain⟨fa,h1,h⟩:=hx;split at h
  ·rename_i lo hi hv;obtain⟨p,rfl⟩:=yH hv;obtain⟨fl,h2,h⟩:=zBd h;obtain⟨fh,h3,rfl⟩:=zMd h;refine zI (aIp (hL X C _ fa O h1).lk ?_ ?_) (λ_=>rfl) (λ_ _ _ z=>nomatch z)
   ·split at h2
    ·cases h2;trivial
    ·obtain⟨k,h4,rfl⟩:=zMd h2;exact(hE X C _ k O h4).1
   ·split at h3
    ·cases h3;trivial
    ·obtain⟨k,h4,rfl⟩:=zMd h3;exact(hE X C _ k O h4).1
  ·obtain⟨fb,h2,rfl⟩:=zMd h;exact zI (aLw (hL X C _ fa O h1).lk (hE X C _ fb O h2).1 (aBh (aP h2).2.2)) (λ_=>rfl) (λ_ _ _ z=>nomatch z)
 ·-- a comprehension
  rename_i elt gens sc pos;refine zI ?_ (λ_=>rfl) (λ_ _ _ z=>nomatch z)
  split at h
  ·rename_i tg it ifs as;split at h
   ·rename_i ha;subst ha;obtain⟨xs,k,cs,fi,fc,fe,rfl,_,S,hi,hset,hxs,hg,hts,he⟩:=mJ (pos:=pos) hE hI O h;exact aEh O.calm S hi hset hxs hg hts he
   ·cases h
  ·cases h
 ·-- a call
  rename_i f' as kws pos;refine zI ?_ (λ_=>rfl) (λ_ _ _ z=>nomatch z)
  split at h
  ·rename_i hkw
   cases gM hkw
   split at h
   ·rename_i x np;split at h
    ·rename_i i e1
     by_cases hem:as.isEmpty=true
     ·rw[if_pos hem]at h;cases h
     rw[if_neg hem]at h;obtain⟨fs,h1,rfl⟩:=zMd h;obtain⟨q1,q2⟩:=vC hE O h1;obtain⟨v1,v2,v3,v4⟩:=O.vis x i e1
     cases as with
     |nil=>exact absurd rfl hem
     |cons a es=>exact sU O.fnv (wA v1 v2 v3 v4) q1 (aW (q2 a (.head _))) (j4 λe he=>q2 e (.tail _ he)) rfl
    ·split at h
     ·rename_i k1 k2 fn e2
      by_cases hem:as.isEmpty=true
      ·rw[if_pos hem]at h;cases h
      rw[if_neg hem]at h;obtain⟨fs,h1,h⟩:=zBd h;split at h
      ·rename_i hk;cases h;obtain⟨g1,g2,r,fa,T,hr,_⟩:=O.gl e2;obtain⟨q1,q2⟩:=vC hE O h1
       cases as with
       |nil=>exact absurd rfl hem
       |cons a es=>exact aEd T hr g1 g2 q1 hk (aW (q2 a (.head _))) (j4 λe he=>q2 e (.tail _ he))
      ·cases h
     ·rename_i p e2;exact aMb hE hL O e2 h
     ·cases h
   ·rename_i a b sp
    by_cases hem:as.isEmpty=true
    ·rw[if_pos hem]at h;cases h
    rw[if_neg hem]at h;obtain⟨g,h1,h⟩:=zBd h;obtain⟨fs,h2,rfl⟩:=zMd h;obtain⟨q1,q2⟩:=vC hE O h2
    cases as with
    |nil=>exact absurd rfl hem
    |cons a es=>exact sU O.fnv (hE X C _ g O h1).1 q1 (aW (q2 a (.head _))) (j4 λe he=>q2 e (.tail _ he)) rfl
   ·rename_i o m ap;split at h
    ·rename_i hem
     cases gM hem
     split at h
     ·rename_i hc;obtain⟨rfl,h0,hl⟩:=hc;obtain⟨fo,h1,rfl⟩:=zMd h;refine aE2 (hE X C _ fo O h1).1 ?_ hl
      cases o<;>first|rfl|(cases h0;done)
     ·cases h
    have hx:=zBd h;clear h;obtain⟨a,h0,h⟩:=hx
    cases d7 h0
    split at h
    ·rename_i hc;rw[ar]at hc;obtain⟨fo,h1,h⟩:=zBd h;obtain⟨fa,h2,h⟩:=zBd h
     have base: ∀m,attributeBase o m X.env (eval o X.env)=eval o X.env:=by
      intro m;have h0:=hc.1
      cases o<;>first|rfl|(cases h0;done)
     split at h
     ·rename_i hm;cases h;subst hm;exact aAx O.un (hL X C _ fo O h1) (hE X C _ fa O h2).1 (aW (aP h2).1) (base _) hc.2
     ·split at h
      ·rename_i hm;cases h;subst hm;exact aAy O.un (hL X C _ fo O h1) (hE X C _ fa O h2).1 (aW (aP h2).1) (base _) hc.2
      ·cases h
    ·cases h
   ·cases h
  ·cases h
 ·cases h
theorem aMd(hE:zH ad n):aGu ad (n+1):=by
 intro X C e f O h;unfold v6 at h;split at h
 ·rename_i x p
  cases e1:loc C x with
  |some i=>
   rw[e1]at h;cases h;obtain⟨v1,v2,v3,v4⟩:=O.vis x i e1;exact aD8 v1 v2 v3 v4
  |none=>
   rw[e1]at h;exact(hE X C _ f O h).1.ml
 ·exact(hE X C _ f O h).1.ml
theorem aFs(hE: ∀m,m<n->zH ad m){X:Cx}{C:SK.Ctx}{e:Expr}{f:F}(O:CtxOk X ad C)(hn: ∀x p,e≠ .Name x p)(h:v6 n C e=some f):ME X ad e f:=by
 cases n with
 |zero=>cases h
 |succ n=>
  have:cR n C e=some f:=by
   rw[<-h]
   cases e<;>first|rfl|exact absurd rfl (hn _ _)
  exact(hE n (Nat.lt_succ_self _) X C e f O this).1
theorem aMe(hE: ∀m,m<n+1->zH ad m)(hL:aGu ad n):aJ1 ad (n+1):=by
 intro X C tg e tt f O htt h;have hEn:=hE n (Nat.lt_succ_self _);unfold aDv at h
 have it: ∀{x:Str} {as:List Expr} {np q:Pos},v5 (cR n C) C tt x as=some f->MI X ad tg (.Call (.Name x np) as [] q) f/\MIG X ad tg (.Call (.Name x np) as [] q) f:=by
  intro x as np q h;unfold v5 at h;split at h
  ·rename_i a eg;obtain⟨fa,h1,rfl⟩:=zMd h;obtain⟨g1,g2,g3,g4⟩:=O.gl eg;subst g3;have me:=(hEn X C _ fa O h1).1;exact⟨aAm g1 g4 me (aW (aP h1).1),wS g1 g4 me (aW (aP h1).1)⟩
  ·rename_i a b eg;split at h
   ·rename_i ht;obtain⟨fa,h1,h⟩:=zBd h;obtain⟨fb,h2,rfl⟩:=zMd h;obtain⟨g1,g2,g3,g4⟩:=O.gl eg;subst g3;obtain⟨es,k,p,rfl⟩:=htt ht;have ma:=(hEn X C _ fa O h1).1;have mb:=(hEn X C _ fb O h2).1;exact⟨aI7 g1 g4 ma mb (aW (aP h1).1) (aW (aP h2).1),aE0 g1 g4 ma mb (aW (aP h1).1) (aW (aP h2).1)⟩
   ·cases h
  ·rename_i a eg;split at h
   ·rename_i ht;obtain⟨fa,h1,rfl⟩:=zMd h;obtain⟨g1,g2,g3,g4⟩:=O.gl eg;subst g3;obtain⟨es,k,p,rfl⟩:=htt ht;have ma:=(hEn X C _ fa O h1).1;exact⟨aE1 g1 g4 ma (aW (aP h1).1),aAz g1 g4 ma (aW (aP h1).1)⟩
   ·cases h
  ·cases h
 split at h
 ·rename_i f' as kws q;split at h
  ·rename_i x p;split at h
   ·exact⟨(it h).1,λ_=>(it h).2⟩
   ·exact⟨(it h).1,λ_=>(it h).2⟩
   ·exact⟨(it h).1,λ_=>(it h).2⟩
   ·have me:=(hEn X C _ f O h).1;exact⟨wP me.ml,λ_=>nE me⟩
  ·have me:=(hEn X C _ f O h).1;exact⟨wP me.ml,λ_=>nE me⟩
 ·refine⟨wP (hL X C _ f O h),λhn=>nE (aFs (λm hm=>hE m (by lia)) O hn h)⟩
theorem sD: ∀n,zH ad n/\aGu ad n/\aJ1 ad n:=by
 have main: ∀n, ∀m,m<=n->zH ad m/\aGu ad m/\aJ1 ad m:=by
  intro n
  induction n with
  |zero=>
   intro m hm
   have:m=0:=by lia
   subst this;refine⟨?_,?_,?_⟩
   ·intro X C e f O h;unfold cR at h;cases h
   ·intro X C e f O h;unfold v6 at h;cases h
   ·intro X C tg e tt f O _ h;unfold aDv at h;cases h
  |succ n ih=>
   intro m hm
   by_cases hmn:m<=n
   ·exact ih m hmn
   ·have:m=n+1:=by lia
    subst this;obtain⟨a,b,c⟩:=ih n (aj _);exact⟨aMc a b c,aMd a,aMe (λm hm=>(ih m (by lia)).1) b⟩
 exact λn=>main n n (aj _)
end
noncomputable abbrev aKs:List Value:=[.type "ValueError",.type "Exception",.type "BaseException",.type "object"]
structure StOk(X:Cx)(ad:Ad)(C:SK.Ctx):Prop where
 cx:CtxOk X ad C
 fn: ∀x,X.fn x=true
 sc:X.env.scope=C.sc
 lc: ∀x i,loc C x=some i->Loc X.env.scope x
 exm: ∀c,exmOne X.K (.ref (ad.cls c)) (.ref (ad.cls 0))=some true
 exi: ∀c,excIn X.K (ad.cls c) aKs "ValueError.__new__"=true
def Zt(ad:Ad)(E₀:XK)(t:Bool):(St->Nat->Hp->Prop)->Prop:=λE=>t=false->∀σ c H,E σ c H->E₀ (.ref (ad.cls c)) none H
section
variable {X:Cx} {ad:Ad} {C:SK.Ctx} {E₀:XK} {t:Bool} {e it tg:Expr} {f:F} {g h:FS} {x:Str} {i:Nat} {pos pos':Pos} {st:Stmt}
theorem StOk.nm(O:StOk X ad C)(h:loc C x=some i):aGt X x i:=⟨(O.cx.vis x i h).1,O.lc x i h,.inl (O.fn x)⟩
theorem StOk.nms(O:StOk X ad C): ∀{xs:List Str} {is:List Nat},gE (λx=>loc C x) xs=some is->NmsOk X xs is
 |[],_,h=>by cases h;exact .nil
 |x::xs,is,h=>by
  unfold gE at h
  cases e:loc C x with
  |none=>rw[e]at h;cases h
  |some j=>
   rw[e]at h;obtain⟨r,h1,h2⟩:=zMd h;subst h2;exact .cons (O.nm e) (O.nms h1)
theorem vD{elt:Expr}{gens:List Comprehension}{sc:Scope}{cpos:Pos}{line:Nat}{env:PySem.Env}: ∃b,swapsWith (.ListComp elt gens sc cpos) (some (.Name x pos')) line env=pure b:=⟨_,rfl⟩
theorem aCx(O:StOk X ad C)(h:cR 50 C e=some f)(hi:loc C x=some i):PS X (.Assign [.Name x pos'] e pos) (aDg (tE X ad f) (jN i)):=by
 obtain⟨h1,h2,h3⟩:=sD (ad:=ad) 49;obtain⟨k1,_,_⟩:=sD (ad:=ad) 50;have nm:=O.nm hi;have me:=(k1 X C e f O.cx h).1
 by_cases hc: ∃elt gens sc cpos,e= .ListComp elt gens sc cpos
 ·obtain⟨elt,gens,sc,cpos,rfl⟩:=hc;obtain⟨b,hb⟩:=vD (x:=x) (pos':=pos') (elt:=elt) (gens:=gens) (sc:=sc) (cpos:=cpos) (line:=pos.line) (env:=X.env)
  cases b with
  |false=>exact aB2 O.cx.nd nm.1 nm.2.1 me hb nm.2.2
  |true=>
   have hgen: ∃tg it ifs,gens=[⟨tg,it,ifs,0⟩]:=by
    unfold cR at h
    simp only at h
    split at h
    ·rename_i tg it ifs as;split at h
     ·rename_i ha;subst ha;exact⟨_,_,_,rfl⟩
     ·cases h
    ·cases h
   obtain⟨tg,it,ifs,rfl⟩:=hgen;obtain⟨xs,k,cs,fi,fc,fe,rfl,_,S,hi',hset,hxs,hg,hts,he⟩:=mJ h1 h3 O.cx h;exact aEv O.cx.nd nm O.cx.calm S hi' hset hxs hg hts he hb
 ·refine aB2 O.cx.nd nm.1 nm.2.1 me ?_ nm.2.2;have nf:=aP h
  cases e<;>first|rfl|exact absurd ⟨_,_,_,_,rfl⟩ hc|(unfold cR at h;cases h;done)
theorem aFt{Z:(St->Nat->Hp->Prop)->Prop}(P:PS X st (aDg (tE X ad f) (jN i))):MS X ad Z st (cY i f):=by
 refine PS.imp P ?_;rintro D' σ H ⟨G₀,G,ρ,E,S,hx,hr⟩;exact iG S hx hr λv d G1 H1 st r k=>k _ G1 H1 ((S.step st).set r)
theorem aFu{Z:(St->Nat->Hp->Prop)->Prop}(P:PS X st (aDg (tE X ad f) (jN i))):MS X ad Z st (oW i f):=by
 refine PS.imp P ?_;rintro D' σ H ⟨G₀,G,ρ,E,S,hx,hr⟩;exact aIu S hx hr
def aJ2(K:PySem.W.Frag)(n:Nat)(t:TGs):TG:=λv σ H Q=>∃a xs,v= .ref a/\SqL K H a xs/\xs.length=n/\t xs σ H Q
theorem aFv{es:List Expr}{k:Nat}{t:TGs}{n:Nat}(hc:X.calm=true)(h:PGs X es t)(hn:(assignEach es X.env).length=n)(hst:(assignEach es X.env).findIdx? (·.1)=none):PG X (.Tuple es k pos) (aJ2 X.K n t):=by
 intro bx s σ H v u Q I r hw;obtain⟨a,xs,e1,hq,hl,hw⟩:=hw;subst e1;cases r;obtain⟨its,rv,ht,hz⟩:=I.list hq
 have hlen:its.toArray.size=n:=by simp[<-hl,rv.length]
 rw[assign_Tuple];refine aa (wpAny_standAt ?_);unfold unpack;rw[hn,hst, <-hlen];refine aa (wpAny_holding (kun_itemsOf (I.ok.hd hc) ht.isList λh' hx=>?_))
 have I1:Inv X bx σ H {s with heap:=h'}:=I.kept (t':=s.toks) λb o e=>hx b o (bf (ah e)) e
 exact h bx _ σ H xs _ Q I1 (by simpa using rv) hw
theorem aMf{g1 g2:TG}(h1:PG X tg g1)(h2:PG X tg g2):PG X tg (λv σ H Q=>g1 v σ H Q\/g2 v σ H Q):=by
 intro bx s σ H v u Q I r h;rcases h with h|h
 ·exact h1 bx s σ H v u Q I r h
 ·exact h2 bx s σ H v u Q I r h
theorem yI{Z:(St->Nat->Hp->Prop)->Prop}{es:List Expr}{k j:Nat}{tp:Pos}{xs:List Str}{is:List Nat}(O:StOk X ad C)(he:ME X ad e f)(hs:swapsWithSole [.Tuple es j tp] e pos.line X.env=pure false)(hw:swappedStores [.Tuple es j tp] e X.env=pure none)(ht:cE (.Tuple es j tp)=some (xs,k))(hn:NmsOk X xs is):MS X ad Z (.Assign [.Tuple es j tp] e pos) (kG is f):=by
 obtain⟨P,hk⟩:=aIy O.cx.calm O.cx.nd ht hn
 have k0:k≠0:=by
  unfold cE at ht;obtain⟨ys,e1,e2⟩:=zBd ht
  by_cases hl:2<=ys.length
  ·rw[if_pos hl]at e2;cases e2
   lia
  ·rw[if_neg hl]at e2;cases e2
 have hb:(k==0)=false:=by simpa using k0
 have PL:PG X (.Tuple es j tp) (aJ2 X.K is.length (gIs is)):=by
  unfold cE at ht;obtain⟨ys,e1,e2⟩:=zBd ht
  by_cases hl:2<=ys.length
  ·rw[if_pos hl]at e2;cases e2;obtain⟨q1,q2⟩:=iX (X:=X) e1;exact aFv O.cx.calm (wU O.cx.nd e1 hn) (by rw[q1,hn.len]) q2
  ·rw[if_neg hl]at e2;cases e2
 refine PS.imp (aB1 he (aMf P PL) hs hw rfl) ?_;rintro D' σ H ⟨G₀,G,ρ,E,S,hx,hr⟩;unfold kG at hr;refine iG S hx hr λv d G1 H1 st r q=>?_
 cases d<;>try exact ax q
 case lst ds=>
  have q':OKo X ad G₀ (if ds.length=is.length then .nx (setN is ds ρ)else .rt .bad) D' E:=q
  by_cases hl:ds.length=is.length
  ·rw[if_pos hl]at q';unfold Rep at r;obtain⟨a,vs,rfl,hq,rq⟩:=r;exact .inr ⟨a,vs,rfl,st.gh.seq hq,by rw[rq.length,hl],wT (by rw[rq.length,hl]) (q' _ G1 H1 ((S.step st).setN rq))⟩
  ·rw[if_neg hl]at q';exact q'.elim
 rename_i ds;refine .inl ?_
 have q':OKo X ad G₀ (if ds.length=is.length then .nx (setN is ds ρ)else .rt .bad) D' E:=q
 by_cases hl:ds.length=is.length
 ·rw[if_pos hl]at q';refine aCm (ρ1:=setN is ds ρ) hk ?_ (S.step st) r λσ1 S1=>q' σ1 G1 H1 S1
  rw[hb]
  have e0:qO is false (.tup ds) ρ=if ds.length=is.length then some (setN is ds ρ)else none:=by
   cases is with
   |nil=>rfl
   |cons _ _=>rfl
  rw[e0,if_pos hl]
 ·rw[if_neg hl]at q';exact q'.elim
theorem qD{env:PySem.Env}{x y:Str}{px py pt pt2:Pos}{a b:Expr}{kt k2:Nat}{p q:Prop}(h:((env.scope.names.lookup x=some .cell\/env.scope.names.lookup y=some .cell)/\p)/\q):swappedStores [.Tuple [.Name x px,.Name y py] kt pt] (.Tuple [a,b] k2 pt2) env=pure none:=by
 unfold swappedStores
 have kx:env.kindOf x=env.scope.names.lookup x:=rfl
 have ky:env.kindOf y=env.scope.names.lookup y:=rfl
 rcases h.1.1 with e|e
 ·simp[kx,ky,e,List.filterMap,Expr.pos];intro _ _ _ h2
  exfalso;revert h2
  (repeat' split)<;>simp
 ·simp[kx,ky,e,List.filterMap,Expr.pos];intro _ _ _ h2
  exfalso;revert h2
  (repeat' split)<;>simp
theorem sE{env:PySem.Env}{x y:Str}{px py pt pt2:Pos}{a b:Expr}{kt k2:Nat}(hb:env.scope.kind= .function)(hx:env.scope.names.lookup x=some .local)(hy:env.scope.names.lookup y=some .local)(hne:x≠y)(hl:px.line=py.line)
  (sa:nP a) (sb:nP b) (h1:[a,b].all (foldedForSure 8)=false) (h2:[a,b].all (constantsAlone 8)=false):swappedStores [.Tuple [.Name x px,.Name y py] kt pt] (.Tuple [a,b] k2 pt2) env=pure (some [x,y]):=by
 have hbk:env.blockKind= .function:=by unfold PySem.Env.blockKind;rw[hb];rfl
 have kx:env.kindOf x=some .local:=hx
 have ky:env.kindOf y=some .local:=hy
 have nd:[x,y].eraseDups.length=2:=by
  have:(y==x)=false:=by simpa using λz=>hne z.symm
  simp[List.eraseDups_cons,this]
 have h1': ¬(foldedForSure 8 a=true/\foldedForSure 8 b=true):=λ⟨p,q⟩=>by simp[p,q]at h1
 have h2': ¬(constantsAlone 8 a=true/\constantsAlone 8 b=true):=λ⟨p,q⟩=>by simp[p,q]at h2
 unfold swappedStores;simp[Expr.pos,kx,ky, <-hl,hbk,nd,h1',h2',List.filterMap];intro h;rcases h with h|h
 ·cases a<;>first|exact sa.elim|cases h
 ·cases b<;>first|exact sb.elim|cases h
theorem aBj{i j:Nat}{fa fb:F}{ρ:Rho}:kG [i,j] (b9 [fa,fb]) ρ=iA ρ (fa ρ) λx=>iA ρ (fb ρ) λy=>.nx ((ρ.set i (.sh x)).set j (.sh y)):=by
 unfold kG b9 lK args args args
 cases fa ρ<;>simp[iA,RA.then]<;>cases fb ρ<;>simp[RA.cons,setN]
theorem aJ3{Z:(St->Nat->Hp->Prop)->Prop}{a b:Expr}{fa fb:F}{i j kt k2:Nat}{y:Str}{px py pt pt2:Pos}(O:StOk X ad C)(ha:ME X ad a fa)(hb:ME X ad b fb)(sa:nP a)(sb:nP b)(hi:loc C x=some i)(hj:loc C y=some j)(ok:aDw C x y px py a b=true):
  MS X ad Z (.Assign [.Tuple [.Name x px,.Name y py] kt pt] (.Tuple [a,b] k2 pt2) pos) (kG [i,j] (b9 [fa,fb])):=by
 unfold aDw at ok;simp only[ar,Bool.not_eq_true']at ok;obtain⟨⟨⟨⟨⟨⟨⟨o1,o2⟩,o3⟩,o4⟩,o5⟩,o6⟩,_⟩,_⟩:=ok
 have l1:X.env.scope.names.lookup x=some .local:=by rw[O.sc];exact dN o1
 have l2:X.env.scope.names.lookup y=some .local:=by rw[O.sc];exact dN o2
 have hne:x≠y:=by simpa using o3
 have nx:=(O.cx.vis x i hi).1;have ny:=(O.cx.vis y j hj).1;have hij:i≠j:=λz=>by subst z;rw[nx]at ny;exact hne (Option.some.inj ny)
 intro bx s σ H D' I ⟨G₀,G,ρ,E,S,hx,hr⟩;refine aHf (ta:=j9 (tE X ad fa) (j9 (tE X ad fb) aB3)) O.cx.calm O.cx.nd nx ny hij l1 l2 (cM ha (cM hb eK (aW sb)) (aW sa)) (sE I.ok.kind l1 l2 hne (by simpa using o4) sa sb o5 o6) rfl bx s σ H D' I ?_
 rw[aBj]at hr;show tE X ad fa σ H λv H1=>tE X ad fb σ H1 λw H2=>∃v' w',[v,w]=[v',w']/\D'.nx ((σ.set i (some v')).set j (some w')) H2
 exact iG S hx hr λv d G1 H1 st r k=>iG (S.step st) hx k λw d2 G2 H2 st2 r2 k2=>⟨v,w,rfl,k2 _ G2 H2 ((((S.step st).step st2).set (r.mono st2.sg)).set r2)⟩
theorem aBk{bx:cc}{D':Ends}{hd:ExceptHandler}(O:StOk X ad C):StOk (tX X bx D' hd) ad C:=by
 refine⟨⟨O.cx.N,O.cx.nd,O.cx.vis,O.cx.gk,λx g e=>?_,O.cx.cap,O.cx.calm,O.cx.un,O.cx.hd,O.cx.exc,O.cx.kin,O.cx.kve,λj n F e=>let ⟨r,T,hr⟩:=O.cx.fnv j n F e;⟨r,⟨T.kp,T.ok⟩,hr⟩⟩,O.fn,O.sc,O.lc,O.exm,O.exi⟩
 obtain⟨e1,e2⟩:=O.cx.gt x g e;refine⟨e1,?_⟩
 cases g with
 |fn k n F=>
  obtain⟨r,f,T,hr,hf⟩:=e2;exact⟨r,f,⟨T.mg,T.kp,T.ok⟩,hr,hf⟩
 |exc c=>exact e2
 |verr=>exact e2
 |val d=>exact e2
 |tbl kvs=>exact e2
 |py p=>exact e2
theorem aFw{es:List Expr}{e a b:Expr}{x y:Str}{px py:Pos}(h:aLq es e=some ⟨x,px,y,py,a,b⟩): ∃k p,es=[.Name x px,.Name y py]/\e= .Tuple [a,b] k p:=by
 unfold aLq at h;obtain⟨⟨u,v⟩,h1,h⟩:=zBd h;obtain⟨⟨x',px'⟩,h2,h⟩:=zBd h;obtain⟨⟨y',py'⟩,h3,h⟩:=zBd h;obtain⟨⟨vs,k,p⟩,h4,h⟩:=zBd h;obtain⟨⟨a',b'⟩,h5,h6⟩:=zMd h;cases h6;rw[p9 h1,cH h2,cH h3,aFr h4,p9 h5];exact⟨k,p,rfl,rfl⟩
theorem aBl{e:Expr}(h:aH8 e=true): ∃s k p,e= .Constant (.str s) k p:=by
 cases e<;>try (cases h;done)
 rename_i c k p
 cases c<;>try (cases h;done)
 exact⟨_,k,p,rfl⟩
theorem aFx{hs:List ExceptHandler}{i j:Nat}(h:aLr C hs=some (i,j)): ∃cx p1 e x p2 p3 p4 p5,hs=[.ExceptHandler (some (.Name cx p1)) (some e) [.Assign [.Name x p2] (.Name e p3) p4] p5]/\glo C cx=some (.exc 0)/\loc C e=some i/\loc C x=some j/\
  (C.sc.names.lookup e==some .local&&i != j&&C.bs.isEmpty)=true:=by
 unfold aLr at h;split at h
 ·rename_i ty nm b p5;obtain⟨te,ht,h⟩:=zBd h;obtain⟨e,hn,h⟩:=zBd h;obtain⟨⟨cx,p1⟩,h1,h⟩:=zBd h;obtain⟨s,h2,h⟩:=zBd h;obtain⟨⟨x,e'⟩,h3,h⟩:=zBd h
  have hb:b=[s]:=by
   unfold aNb at h2;split at h2
   ·cases h2;rfl
   ·cases h2
  obtain⟨p2,p3,p4,hs'⟩: ∃p2 p3 p4,s= .Assign [.Name x p2] (.Name e' p3) p4:=by
   unfold aNc at h3;split at h3
   ·rename_i ts ee p4;obtain⟨tt,k1,h3⟩:=zBd h3;obtain⟨⟨x',p2⟩,k2,h3⟩:=zBd h3;obtain⟨⟨y',p3⟩,k3,h3⟩:=zMd h3;cases h3;rw[d7 k1,cH k2,cH k3];exact⟨p2,p3,p4,rfl⟩
   ·cases h3
  dsimp only at h
  split at h
  ·rename_i c e1 e2;split at h
   ·rename_i hce;obtain⟨hc0,hee⟩:=hce;subst hc0 hee;obtain⟨i',k1,h⟩:=zBd h;obtain⟨j',k2,h⟩:=zBd h;split at h
    ·rename_i hc;cases h;exact⟨cx,p1,e,x,p2,p3,p4,p5,by rw[ht,hn,cH h1,hb,hs'],e2,k1,k2,hc⟩
    ·cases h
   ·cases h
  ·cases h
 ·cases h
def aMg(ad:Ad)(E₀:XK)(n:Nat):Prop:= ∀(X:Cx) (C:SK.Ctx) (t:Bool) (s:Stmt) (g:FS),StOk X ad C->(t=false->DefX X E₀/\PassesOwn (model X.prog X.w) X.A X.env X.xe)->aDx n t C s=some g->MS X ad (Zt ad E₀ t) s g
def aBm(ad:Ad)(E₀:XK)(n:Nat):Prop:= ∀(X:Cx) (C:SK.Ctx) (t:Bool) (s:List Stmt) (g:FS),StOk X ad C->(t=false->DefX X E₀/\PassesOwn (model X.prog X.w) X.A X.env X.xe)->kJ n t C s=some g->MSs X ad (Zt ad E₀ t) s g
theorem Zt.imp{Z Z':(St->Nat->Hp->Prop)->Prop}(h:MS X ad Z st g)(k: ∀E,Z' E->Z E):MS X ad Z' st g:=PS.imp h λD' σ H ⟨G₀,G,ρ,E,S,hx,hr⟩=>⟨G₀,G,ρ,E,S,⟨hx.1,k E hx.2⟩,hr⟩
theorem Zts.imp{Z Z':(St->Nat->Hp->Prop)->Prop}{sts:List Stmt}(h:MSs X ad Z sts g)(k: ∀E,Z' E->Z E):MSs X ad Z' sts g:=PSs.imp h λD' σ H ⟨G₀,G,ρ,E,S,hx,hr⟩=>⟨G₀,G,ρ,E,S,⟨hx.1,k E hx.2⟩,hr⟩
theorem aMh{n:Nat}(hS:aBm ad E₀ n):aMg ad E₀ (n+1):=by
 intro X C t s g O hd h;obtain⟨kE,kL,kI⟩:=sD (ad:=ad) 50;unfold aDx at h;split at h
 ·cases h;exact aEl
 ·cases h;exact aAn
 ·cases h;exact rR
 ·-- return
  split at h
  ·cases h;exact aEo
  ·split at h
   ·rename_i x p hv
    cases cH hv
    split at h
    ·rename_i i e1;obtain⟨v1,v2,v3,v4⟩:=O.cx.vis x i e1;split at h
     ·cases h;exact aEp v1 v2 v3 v4
     ·cases h;exact wR (wA v1 v2 v3 v4)
    ·obtain⟨f,h1,rfl⟩:=zMd h;exact wR (kE X C _ f O.cx h1).1
   ·obtain⟨f,h1,rfl⟩:=zMd h;exact fT (wR (kE X C _ f O.cx h1).1)
 ·-- an assignment
  rename_i ts e pos;have hx:=zBd h;clear h;obtain⟨tg,h0,h⟩:=hx
  cases d7 h0
  split at h
  ·-- x=e
   obtain⟨i,h1,h⟩:=zBd h;obtain⟨f,h2,rfl⟩:=zMd h;refine fT ?_;split
   ·exact aFu (aCx O h2 h1)
   ·exact aFt (aCx O h2 h1)
  ·split at h
   ·-- a,b=x,y
    rename_i x px y py a b hp;obtain⟨k2,tp2,rfl,rfl⟩:=aFw hp;split at h
    ·rename_i hok;obtain⟨i,h1,h⟩:=zBd h;obtain⟨j,h2,h⟩:=zBd h;obtain⟨fa,h3,h⟩:=zBd h;obtain⟨fb,h4,rfl⟩:=zMd h;exact fT (aJ3 O (kE X C _ fa O.cx h3).1 (kE X C _ fb O.cx h4).1 (aP h3).1 (aP h4).1 h1 h2 hok)
    ·split at h
     ·rename_i hc;obtain⟨i,h1,h⟩:=zBd h;obtain⟨j,h2,h⟩:=zBd h;obtain⟨f,h3,rfl⟩:=zMd h
      have hm:gE (λx=>loc C x) [x,y]=some [i,j]:=by simp[gE,h1,h2]
      exact fT (yI (xs:=[x,y]) (k:=2) O (kE X C _ f O.cx h3).1 rfl (qD (by rw[O.sc];simpa[v8]using hc)) rfl (O.nms hm))
     ·cases h
   ·-- a,b=e
    obtain⟨u,h0,h⟩:=zBd h;obtain⟨⟨xs,k⟩,h1,h⟩:=zBd h;obtain⟨is,h2,h⟩:=zBd h;split at h
    ·obtain⟨f,h3,rfl⟩:=zMd h
     have hf:v7 e=true:=by
      split at h0
      ·assumption
      ·cases h0
     exact fT (yI O (kE X C _ f O.cx h3).1 (by cases e<;>first|rfl|(cases hf;done)) (by cases e<;>first|rfl|(cases hf;done)) h1 (O.nms h2))
    ·cases h
  ·-- x[k]=e
   rename_i o k tp;have hx:=zBd h;clear h;obtain⟨⟨x,p⟩,hv,h⟩:=hx
   cases cH hv
   obtain⟨i,h1,h⟩:=zBd h;obtain⟨v1,v2,v3,v4⟩:=O.cx.vis x i h1;split at h
   ·obtain⟨f,h2,h⟩:=zBd h;obtain⟨g,h3,rfl⟩:=zMd h;refine fT (aJ0 O.cx.un v1 v2 v3 v4 (kE X C _ f O.cx h2).1 (kE X C _ g O.cx h3).1 (λv=>?_) ?_ ?_)
    ·have ns:=(aP h3).2.2
     cases k<;>first|rfl|exact absurd rfl (ns _ _ _ _)
    ·cases e<;>rfl
    ·cases e<;>rfl
   ·cases h
  ·cases h
 ·-- an expression
  split at h
  ·rename_i f' as kws cp;split at h
   ·rename_i hkw
    cases gM hkw
    split at h
    ·-- x.append(e)
     rename_i o m ap;have hx:=zBd h;clear h;obtain⟨⟨x,p⟩,hv,h⟩:=hx
     cases cH hv
     have hx:=zBd h;clear h;obtain⟨e,ho,h⟩:=hx
     cases d7 ho
     obtain⟨i,h1,h⟩:=zBd h;obtain⟨v1,v2,v3,v4⟩:=O.cx.vis x i h1;split at h
     ·rename_i hc;rw[ar]at hc;obtain⟨f,h2,h⟩:=zBd h;have me:=(kE X C _ f O.cx h2).1;have ns:=aW (es:=[]) (env:=X.env) (aP h2).1;split at h
      ·rename_i hm;cases h;subst hm;exact fT (aIv v1 v2 v3 v4 me ns hc.2)
      ·split at h
       ·rename_i hm;cases h;subst hm;exact fT (aIx v1 v2 v3 v4 me ns hc.2)
       ·cases h
     ·cases h
    ·obtain⟨f,h1,rfl⟩:=zMd h;exact fT (aEq (kE X C _ f O.cx h1).1 rfl)
    ·cases h
   ·cases h
  ·cases h
 ·obtain⟨f,h1,h⟩:=zBd h;obtain⟨ga,h2,h⟩:=zBd h;obtain⟨gb,h3,rfl⟩:=zMd h;exact fT (aL0 (kE X C _ f O.cx h1).2.1 (hS X C t _ ga O hd h2) (hS X C t _ gb O hd h3))
 ·-- for
  rename_i tg it b els pos
  cases t with
  |true=>cases h
  |false=>
   cases els with
   |cons _ _=>cases h
   |nil=>
    simp only[Bool.false_or,List.isEmpty_nil,Bool.not_true,aw,if_false]at h;obtain⟨⟨xs,k⟩,h1,h⟩:=zBd h;obtain⟨f,h2,h⟩:=zBd h;obtain⟨is,h3,h⟩:=zBd h;split at h
    ·obtain⟨gb,h4,rfl⟩:=zMd h
     have mig:MIG X ad tg it f/\∀a b c,it≠ .Set a b c:=by
      unfold aM8 at h2;split at h2
      ·exact⟨nE (kE X C _ f O.cx h2).1,λ_ _ _ z=>nomatch z⟩
      ·rename_i hn;exact⟨(kI X C tg _ _ f O.cx (aCw h1).2 h2).2 (λx p z=>hn x p z),λa b c z=>by subst z;exact qC h2⟩
     exact fT (aIz (hd rfl).2 O.cx.calm O.cx.nd mig.1 h1 (O.nms h3) (hS X C false _ gb O hd h4) (aEg mig.2))
    ·cases h
 ·-- raise
  rename_i x c pos
  cases t with
  |true=>cases h
  |false=>
   cases c with
   |some _=>cases h
   |none=>
    simp only[Bool.false_or,Option.isSome_none,aw,if_false]at h;have hx:=zBd h;clear h;obtain⟨e,rfl,h⟩:=hx;split at h
    ·rename_i f' as kws cp;split at h
     ·rename_i hkw
      cases gM hkw
      have hx:=zBd h;clear h;obtain⟨⟨x,p⟩,hv,h⟩:=hx
      cases cH hv
      have hx:=zBd h;clear h;obtain⟨a,ho,h⟩:=hx
      cases d7 ho
      split at h
      ·rename_i hstr;obtain⟨sx,k1,k2,rfl⟩:=aBl hstr;split at h
       ·rename_i c e1 e2;cases h;obtain⟨g1,g2,g3,g4⟩:=O.cx.gl e2;exact Zt.imp (aAu (hd rfl).1 O.cx.calm g1 g3 g2 (O.exi c)) λE z=>z rfl
       ·cases h
      ·cases h
     ·cases h
    ·cases h
 ·-- try
  rename_i b hs els fin pos
  cases t with
  |true=>cases h
  |false=>
   cases els with
   |cons _ _=>cases h
   |nil=>
    cases fin with
    |cons _ _=>cases h
    |nil=>
     simp only[Bool.false_or,List.isEmpty_nil,Bool.not_true,aw,if_false]at h;obtain⟨⟨i,j⟩,hh,h⟩:=zBd h;obtain⟨gb,h3,rfl⟩:=zMd h;obtain⟨cx,p1,e,x,p2,p3,p4,p5,rfl,e2,h1,h2,hc⟩:=aFx hh;simp only[ar]at hc;obtain⟨g1,g2,g3,g4⟩:=O.cx.gl e2;obtain⟨v1,v2,v3,v4⟩:=O.cx.vis _ i h1;refine aI3 ⟨(hd rfl).1.ex,(hd rfl).1.stk,(hd rfl).1.fr⟩ O.cx.nd v1 ?_ (O.nm h2) (by simpa using hc.1.2) g1 g3 g2 v3 O.exm λbx D'=>?_
     ·rw[O.sc];exact dN hc.1.1
     ·exact Zts.imp (hS _ C true _ gb (aBk O) (λz=>nomatch z) h3) λE _ z=>nomatch z
 ·cases h
theorem aJ4{n:Nat}(hS:aMg ad E₀ n)(hSs:aBm ad E₀ n):aBm ad E₀ (n+1):=by
 intro X C t s g O hd h
 have hB: ∀a:Stmt,MS X ad (Zt ad E₀ t) a ((aDx n t C a).getD aKp):=λa=>by
  cases e:aDx n t C a with
  |none=>exact aI0
  |some f=>exact hS X C t a f O hd e
 unfold kJ at h;split at h
 ·cases h;exact aEm
 ·cases h;exact aEn (hB _)
 ·obtain⟨r,h2,rfl⟩:=zMd h;exact aAo (hB _) (hSs X C t _ r O hd h2)
theorem yJ: ∀n,aMg ad E₀ n/\aBm ad E₀ n:=by
 intro n
 induction n with
 |zero=>
  refine⟨?_,?_⟩
  ·intro X C t s g O hd h;unfold aDx at h;cases h
  ·intro X C t s g O hd h;unfold kJ at h;cases h
 |succ n ih=>exact⟨aMh ih.2,aJ4 ih.1 ih.2⟩
end
def GlT(P:Program)(w:World)(K:Frag)(mg:Str->Option Value)(base:Heap)(ad:Ad)(k:Nat)(x:Str):SK.Gl->Prop
 |.fn j n F=>∃r f,r<=k/\mg x=some (.ref f)/\keepIn K (.ref f)=true/\(∃fd ps,FnOk P w K mg base (CXe P w) r f fd ps (aAh K ad n F)/\kA K fd ps [])/\f=ad.fnA j
 |.exc c=>mg x=some (.ref (ad.cls c))/\c<ad.nb
 |.verr=>x="ValueError"/\mg x=none
 |.val d=>∃u v,mg x=some u/\cD v u/\∀G,Rep K ad G d v
 |.py p=>x=pF p/\mg x=none
 |.tbl kvs=>∃A,mg x=some (.ref A)/\aI4 P w K ad A kvs
def fP(P:Program)(w:World)(K:Frag)(mg:Str->Option Value)(base:Heap)(ad:Ad)(k:Nat)(tab:List (Str×SK.Gl)):Prop:= ∀x g,tab.lookup x=some g->(x==("__debug__":Str))=false/\GlT P w K mg base ad k x g
def i8(P:Program)(w:World)(K:Frag)(mg:Str->Option Value)(base:Heap)(ad:Ad)(k:Nat)(fns:List (Nat×Fn)):Prop:= ∀j n F,fns[j]? =some (n,F)->∃r,r<=k/\keepIn K (.ref (ad.fnA j))=true/\∃fd ps,FnOk P w K mg base (CXe P w) r (ad.fnA j) fd ps (aAh K ad n F)/\kA K fd ps []
structure ExcK(K:Frag)(ad:Ad):Prop where
 exc: ∀c,ExcCls K (ad.cls c)
 kin: ∀c e,c<ad.nb->kitOne K (.ref (ad.cls e)) (.ref (ad.cls c))=some (hit c e)
 kve: ∀e,kitOne K (.ref (ad.cls e)) (.type "ValueError")=some true
 exm: ∀c,exmOne K (.ref (ad.cls c)) (.ref (ad.cls 0))=some true
 exi: ∀c,excIn K (ad.cls c) aKs "ValueError.__new__"=true
section
variable {P:Program} {w:World} {K:Frag} {mg:Str->Option Value} {base:Heap} {ad:Ad} {k:Nat} {tab:List (Str×SK.Gl)}
theorem GlT.mono{x:Str}{g:SK.Gl}{j:Nat}(h:GlT P w K mg base ad k x g)(hk:k<=j):GlT P w K mg base ad j x g:=by
 cases g with
 |fn i n F=>
  obtain⟨r,f,a,b⟩:=h;exact⟨r,f,Nat.le_trans a hk,b⟩
 |exc c=>exact h
 |verr=>exact h
 |val d=>exact h
 |tbl kvs=>exact h
 |py p=>exact h
theorem fP.mono{j:Nat}(h:fP P w K mg base ad k tab)(hk:k<=j):fP P w K mg base ad j tab:=λx g e=>⟨(h x g e).1,(h x g e).2.mono hk⟩
theorem fP.nil:fP P w K mg base ad k []:=λx g e=>by cases e
theorem fP.cons{x:Str}{g:SK.Gl}(h:fP P w K mg base ad k tab)(hd:(x==("__debug__":Str))=false)(hg:GlT P w K mg base ad k x g):fP P w K mg base ad k ((x,g)::tab):=by
 intro y g' e;rw[List.lookup_cons]at e
 cases q:y==x with
 |true=>
  rw[q]at e;cases e
  have:y=x:=by simpa using q
  subst this;exact⟨hd,hg⟩
 |false=>
  rw[q]at e;exact h y g' e
theorem i8.nil:i8 P w K mg base ad k []:=λj n F e=>by simp at e
theorem i8.snoc{fns:List (Nat×Fn)}{j n:Nat}{F:Fn}{r k':Nat}{f:Addr}{fd:FuncData}{ps:List Str}(h:i8 P w K mg base ad k fns)(hk:k<=k')(hl:fns.length=j)(hf:f=ad.fnA j)(hr:r<=k')(kp:keepIn K (.ref f)=true)(ok:FnOk P w K mg base (CXe P w) r f fd ps (aAh K ad n F))(hb:kA K fd ps []):
  i8 P w K mg base ad k' (fns++[(n,F)]):=by
 intro i m G e;subst hf
 by_cases hi:i<fns.length
 ·rw[bt hi]at e;obtain⟨r',h1,h2⟩:=h i m G e;exact⟨r',Nat.le_trans h1 hk,h2⟩
 ·rw[bh (by lia)]at e
  cases hq:i-fns.length with
  |zero=>
   rw[hq]at e;cases e
   have:i=j:=by lia
   subst this;exact⟨r,hr,kp,fd,ps,ok,hb⟩
  |succ q=>rw[hq]at e;simp at e
theorem lA{N Ps:List Str}{sc:Scope}(h:g0 N Ps sc=true):FnScope N Ps sc/\∀x∈N,(x==("__debug__":Str))=false/\(x==("__classdict__":Str))=false:=by
 unfold g0 at h;simp only[ar]at h;obtain⟨⟨⟨⟨⟨⟨⟨h1,h2⟩,h3⟩,h4⟩,h5⟩,h6⟩,h7⟩,h8⟩:=h;refine⟨⟨by simpa using h1,by simpa using h2,by simpa using h3,of_decide_eq_true h4,of_decide_eq_true h5,λx hx=>?_,λy hy z=>?_⟩,λx hx=>?_⟩
 ·have:=zAd h6 x hx
  rcases(Bool.or_eq_true _ _).mp this with z|z
  ·exact .inl (dN z)
  ·exact .inr (dN z)
 ·have:=zAd h7 y hy
  rw[z]at this
  simp at this
 ·have:=zAd h8 x hx
  simpa using this
theorem aBn{X:Cx}{G:Hp}{ds:List D}{vs:List V}{n:Nat}(hG:Same G X.H₀)(r:aH X.K ad G ds vs):SS X ad G G X.H₀ (ds.map Slot.sh++ak n .no) (vs.map some++ak n none):=by
 have hl:=r.length
 have key: ∀(i:Nat) (sl:Slot),(ds.map Slot.sh++ak n .no)[i]? =some sl->(∃d v,sl= .sh d/\(vs.map some++ak n none)[i]? =some (some v)/\Rep X.K ad G d v)\/(sl= .no/\∃ov,(vs.map some++ak n none)[i]? =some ov):=λi sl e=>by
  by_cases hi:i<ds.length
  ·rw[bt (by simpa using hi),List.getElem?_map]at e
   cases e1:ds[i]? with
   |none=>rw[e1]at e;cases e
   |some d=>
    rw[e1]at e;cases e;obtain⟨v,e2,q⟩:=r.get e1;refine .inl ⟨d,v,rfl,?_,q⟩;rw[bt (by rw[am];lia),List.getElem?_map,e2]
    rfl
  ·rw[bh (by simpa using hi),List.getElem?_replicate]at e
   split at e
   ·cases e;refine .inr ⟨rfl,none,?_⟩;rename_i hlt;rw[bh (by rw[am];lia),List.getElem?_replicate,if_pos]
    rw[am]at hlt ⊢
    lia
   ·cases e
 refine⟨Step.refl hG,⟨by simp[hl],λi sl e=>?_⟩,λi xs a e w h=>?_,λi j xs ys a e1 e2 w1 w2 h1 h2=>?_⟩
 ·rcases key i sl e with ⟨d,v,rfl,e1,q⟩|⟨rfl,ov,e1⟩
  ·exact⟨some v,e1,v,rfl,q⟩
  ·exact⟨ov,e1,trivial⟩
 ·rcases key i _ e with ⟨d,v,z,_⟩|⟨z,_⟩<;>(subst z;exact(ba w).elim)
 ·rcases key i _ e1 with ⟨d,v,z,_⟩|⟨z,_⟩<;>(subst z;exact(ba w1).elim)
theorem aFy{qual:Str}{f:Addr}{cdv:Value}{A:Around}{outer:List PySem.Env}{s:Shared}{H:Hp}{E:XK}{fns:List (Nat×Fn)}{sc:Scope}{ps bs:List Str}(B:ExcK K ad)(TB:fP P w K mg base ad k tab)(FB:i8 P w K mg base ad k fns)(hs:g0 (bG sc) ps sc=true)(hr:Room k (A.deeper (envOfC qual sc s.heap.objs.size f cdv))):
  StOk (zQ (CXe P w) P w K mg base (bG sc) qual sc f cdv A outer s H E) ad ⟨tab,fns,sc,bG sc,bs⟩:=by
 obtain⟨S,nm⟩:=lA hs;let C:SK.Ctx:=⟨tab,fns,sc,bG sc,bs⟩
 have vis: ∀x i,loc C x=some i->(bG sc)[i]? =some x/\Loc sc x/\x∈bG sc:=λx i e=>by
  obtain⟨e1,e2⟩:=xA e;refine⟨kT e1,?_,w9 e1⟩;rcases e2 with e2|e2|e2
  ·exact .inl e2
  ·exact .inr e2
  ·exact absurd rfl (S.nofree _ (l8 e2))
 refine⟨⟨rfl,S.nd,λx i e=>?_,λx e=>e,λx g e=>?_,λx i e=>?_,rfl,?_,hr.hd,B.exc,B.kin,B.kve,λj m F' e=>?_⟩,λ_=>rfl,rfl,λx i e=>(vis x i e).2.1,B.exm,B.exi⟩
 ·obtain⟨a,b,c⟩:=vis x i e;exact⟨a,b.elim .inl λz=>.inr (.inl z),(nm x c).1,(nm x c).2⟩
 ·obtain⟨a,b⟩:=TB x g e;refine⟨a,?_⟩
  cases g with
  |fn j m F'=>
   obtain⟨r',f',h1,h2,h3,h4,h5⟩:=b;exact⟨r',f',⟨h2,h3,h4⟩,hr.mono h1,h5⟩
  |exc c=>exact b
  |verr=>exact b
  |val d=>exact b
  |tbl kvs=>exact b
  |py p=>exact b
 ·obtain⟨e1,e2⟩:=l7 e;rcases e2 with e2|e2
  ·exact .inl e2
  ·exact absurd rfl (S.nofree _ (l8 e2))
 ·exact Nat.lt_of_le_of_lt (Nat.add_le_add_left (by decide:62<=64) _) hr.units
 ·obtain⟨r',h1,h2,h3⟩:=FB j m F' e;exact⟨r',⟨h2,h3⟩,hr.mono h1⟩
theorem yK{x qual:Str}{st:Stmt}{f:Addr}{fd:FuncData}{fns:List (Nat×Fn)}{n:Nat}{F:Fn}{ps:List Str}(B:ExcK K ad)(TB:fP P w K mg base ad k tab)(FB:i8 P w K mg base ad k fns)(Fu:Fun K x qual st f fd)(hps:jJ (defArgs st)=some ps)
  (hd:v9 tab fns st=some (n,F)):FnOk P w K mg base (CXe P w) (k+1) f fd ps (aAh K ad n F):=by
 obtain⟨oc,od,kV,doc,pm,an,cdv,ct,osl,rfl,lk,hcd⟩:=Fu.ex
 cases st with
 |FunctionDef nm as b dl re tp sc ts bi pos=>
  have hd':((jJ as).bind λPs=>if g0 (bG sc) Ps sc then(kJ 100 false ⟨tab,fns,sc,bG sc,aAa 50 b⟩ b).map λg=>(Ps.length,SK.fnOf (bG sc).length g)else none)=some (n,F):=hd
  have hps':jJ as=some ps:=hps
  rw[hps']at hd'
  have hd2:(if g0 (bG sc) ps sc then(kJ 100 false ⟨tab,fns,sc,bG sc,aAa 50 b⟩ b).map λg=>(ps.length,SK.fnOf (bG sc).length g)else none)=some (n,F):=hd'
  by_cases hs:g0 (bG sc) ps sc=true
  ·rw[if_pos hs]at hd2;obtain⟨g,hg,e⟩:=zMd hd2;cases e;obtain⟨S,nm⟩:=lA hs;refine aLc lk hcd S (λvs H Q E ⟨G,ds,_,r,hl,_⟩=>by rw[r.length,hl]) λA outer s H vs Q E hr hz_=>?_
   obtain⟨G,ds,hG,r,hl,hq⟩:=hz_;let C:SK.Ctx:=⟨tab,fns,sc,bG sc,aAa 50 b⟩;have O:StOk (zQ (CXe P w) P w K mg base (bG sc) qual sc f cdv A outer s H E) ad C:=aFy B TB FB hs hr;have T:DefX (zQ (CXe P w) P w K mg base (bG sc) qual sc f cdv A outer s H E) E:=⟨rfl,rfl,rfl,λe s' h=>h⟩
   refine⟨_,(yJ (ad:=ad) (E₀:=E) 100).2 _ C false b g O (λ_=>⟨T,PassesOwn.leaving (Q₁:=λe s''=>CXe P w outer H s E e s'')⟩) hg,?_⟩
   refine⟨G,G,ds.map Slot.sh++ak ((bG sc).length-ds.length) .no,λσ c H'=>E (.ref (ad.cls c)) none H',?_,⟨λσ=>aI1 T,λ_ σ c H h=>h⟩,?_⟩
   ·have:=aBn (X:=zQ (CXe P w) P w K mg base (bG sc) qual sc f cdv A outer s H E) (ad:=ad) (n:=(bG sc).length-ds.length) hG r
    unfold L2.start;rw[r.length];exact this
   ·have hq':RK K ad G H (match g (ds.map Slot.sh++ak ((bG sc).length-ds.length) .no)with
     |.rt (.ok d)=>.ok d
     |.rt (.ow xs)=>.ow xs
     |.rt _=>.bad
     |.nx _=>.ok .non
     |.ex c _=>.ex c
     |_=>.bad) Q (λc H'=>E (.ref (ad.cls c)) none H'):=hq
    cases e:g (ds.map Slot.sh++ak ((bG sc).length-ds.length) .no)with
    |nx ρ=>rw[e]at hq';exact λσ G' H' S'=>hq' .non G' H' S'.st (by unfold Rep;rfl)
    |bk ρ=>rw[e]at hq';exact hq'.elim
    |ct ρ=>rw[e]at hq';exact hq'.elim
    |ex c ρ=>rw[e]at hq';exact λσ G' H' S'=>hq' G' H' S'.st
    |rt r'=>
     rw[e]at hq'
     cases r' with
     |ok d=>exact hq'
     |ow xs=>exact hq'
     |ex c=>exact hq'.elim
     |bad=>exact hq'.elim
  ·rw[if_neg hs]at hd2;cases hd2
 |_=>cases hd
def uA(K:Frag)(cs:List Addr)(C0:Addr):Bool:=
 decide (cs.length<=100)&&cs.head?==some C0&&cs.all λC=>(clsIn K C).isSome&&mroIn K C (.type "object")==some true&&mroIn K C (.type "BaseException")==some true&&findIn K (.ref C) "__class__"==some (some (.builtin "object.__class__"))&&
  findIn K (.ref C) "__getattribute__"==some (some (.builtin "BaseException.__getattribute__"))&&findIn K (.ref C) "__getattr__"==some none&&kitOne K (.ref C) (.type "ValueError")==some true&&exmOne K (.ref C) (.ref C0)==some true&&
  excIn K C aKs "ValueError.__new__"
def uB(K:Frag)(cs:List Addr):Bool:=cs.zipIdx.all λp=>cs.zipIdx.all λq=>kitOne K (.ref p.1) (.ref q.1)==some (hit q.2 p.2)
noncomputable def aFz(cs:List Addr)(C0:Addr)(fs:List Addr):Ad:=⟨λc=>cs.getD c C0,λk=>if k<1000 then fs.getD k 0 else k-1000,cs.length⟩
theorem aF0{cs fs:List Addr}{C0:Addr}(h:uA K cs C0=true)(h2:uB K cs=true):ExcK K (aFz cs C0 fs):=by
 unfold uA at h;rw[ar,ar]at h;obtain⟨⟨hl,hh⟩,ha⟩:=h
 have hl:cs.length<=100:=of_decide_eq_true hl
 have hh:cs.head?=some C0:=by simpa using hh
 have mem0:C0∈cs:=List.mem_of_mem_head? (by rw[hh];rfl)
 have get: ∀c,(aFz cs C0 fs).cls c∈cs:=λc=>by
  show cs.getD c C0∈cs;rw[bu]
  cases e:cs[c]? with
  |none=>exact mem0
  |some a=>exact List.mem_of_getElem? e
 have z0:cs[0]? =some C0:=by rw[<-List.head?_eq_getElem?];exact hh
 have c0:(aFz cs C0 fs).cls 0=C0:=by
  show cs.getD 0 C0=C0;rw[bu,z0];rfl
 have all: ∀C∈cs,ExcCls K C/\kitOne K (.ref C) (.type "ValueError")=some true/\exmOne K (.ref C) (.ref C0)=some true/\excIn K C aKs "ValueError.__new__"=true:=λC hC=>by
  have:=zAd ha C hC
  simp only[ar,beq_iff_eq]at this;obtain⟨⟨⟨⟨⟨⟨⟨⟨h1,h2⟩,h3⟩,h4⟩,h5⟩,h6⟩,h7⟩,h8⟩,h9⟩:=this;exact⟨⟨h1,h2,h3,h4,h5,h6⟩,h7,h8,h9⟩
 have pair: ∀(c e:Nat) (a b:Addr),cs[e]? =some a->cs[c]? =some b->kitOne K (.ref a) (.ref b)=some (hit c e):=λc e a b ea eb=>by
  unfold uB at h2;have m1:(a,e)∈cs.zipIdx:=List.mem_zipIdx_iff_getElem?.mpr ea;have m2:(b,c)∈cs.zipIdx:=List.mem_zipIdx_iff_getElem?.mpr eb
  have:=zAd (zAd h2 _ m1) _ m2
  simpa using this
 refine⟨λc=>(all _ (get c)).1,λc e hc=>?_,λe=>(all _ (get e)).2.1,λc=>?_,λc=>(all _ (get c)).2.2.2⟩
 ·have hc':c<cs.length:=hc;obtain⟨b,eb⟩: ∃b,cs[c]? =some b:=⟨_,az hc'⟩
  have e1:(aFz cs C0 fs).cls c=b:=by
   show cs.getD c C0=b;rw[bu,eb];rfl
  rw[e1]
  cases ea:cs[e]? with
  |some a=>
   have e2:(aFz cs C0 fs).cls e=a:=by
    show cs.getD e C0=a;rw[bu,ea];rfl
   rw[e2];exact pair c e a b ea eb
  |none=>
   have e2:(aFz cs C0 fs).cls e=C0:=by
    show cs.getD e C0=C0;rw[bu,ea];rfl
   have hel:cs.length<=e:=List.getElem?_eq_none_iff.mp ea
   rw[e2,pair c 0 C0 b z0 eb]
   congr 1
   unfold hit
   have n1:(c==e)=false:=by simp;lia
   rw[n1]
   cases c<;>simp
 ·rw[c0];exact(all _ (get c)).2.2.1
end
section
variable {P:Program} {w:World} {K:Frag} {mg:Str->Option Value} {base h:Heap} {ad:Ad} {k:Nat} {tab:List (Str×SK.Gl)} {fns:List (Nat×Fn)}
theorem aCy{x qual:Str}{st:Stmt}{f:Addr}{fd:FuncData}{n j:Nat}{m:Fn->Fn}{ps:List Str}(B:ExcK K ad)(TB:fP P w K mg base ad k tab)(Fu:Fun K x qual st f fd)(hps:jJ (defArgs st)=some ps)(hb:kA K fd ps [])(hm:mg x=some (.ref f))
  (hdb:(x==("__debug__":Str))=false) (hj:f=ad.fnA j) (hd: ∀F,v9 ((x,.fn j n F)::tab) [] st=some (n,m F)): ∀i,FnOk P w K mg base (CXe P w) (k+i) f fd ps (aAh K ad n (qP m i))
 |0=>⟨λvs H Q E ⟨G,ds,_,_,_,z⟩=>z.elim,λA outer s H args us vs Q E _ _ _ _ ⟨G,ds,_,_,_,z⟩=>z.elim⟩
 |i+1=>yK (k:=k+i) B ((TB.mono (Nat.le_add_right k i)).cons (g:=.fn j n (qP m i)) hdb ⟨k+i,f,aj _,hm,Fu.kp,⟨fd,ps,aCy B TB Fu hps hb hm hdb hj hd i,hb⟩,hj⟩) i8.nil Fu hps (hd (qP m i))
structure PQ(P:Program)(w:World)(K:Frag)(mg:Str->Option Value)(base h:Heap)(ad:Ad)(k:Nat)(tab:List (Str×SK.Gl))(fns:List (Nat×Fn)):Prop where
 t:fP P w K mg base ad k tab
 u:i8 P w K mg base ad k fns
 X:K.In h
 G:h.Ns mainGlobals mg
 B:ExcK K ad
def Bnd(x:Str)(st:Stmt)(ps:List Str):Prop:= ∀(kV doc pm:Value) (an:Option Addr) (cdv ct:Value) (us:List Value),us.length=ps.length->bindArgs (PySem.W.fnOf x x (defArgs st) (defBody st) (defScope st) .none kV doc pm an cdv ct) ⟨us,[]⟩=pure (ps.zip us)
theorem PQ.cons(T:PQ P w K mg base h ad k tab fns){x:Str}{f:Addr}{fd:FuncData}{ps:List Str}{n r:Nat}{M:Fn}(hr:k<=r)(ok:FnOk P w K mg base (CXe P w) r f fd ps (aAh K ad n M))(hb:kA K fd ps [])(kp:keepIn K (.ref f)=true)(hm:mg x=some (.ref f))(hj:f=ad.fnA fns.length)(hdb:(x==("__debug__":Str))=false):
  PQ P w K mg base h ad r ((x,.fn fns.length n M)::tab) (fns++[(n,M)]):=
 ⟨fP.cons (T.t.mono hr) hdb ⟨r,f,aj _,hm,kp,⟨_,_,ok,hb⟩,hj⟩,i8.snoc T.u hr rfl hj (aj _) kp ok hb,T.X,T.G,T.B⟩
theorem PQ.addV(T:PQ P w K mg base h ad k tab fns)(x:Str)(st:Stmt)(f:Addr)(ps:List Str)(n:Nat)(M:Fn){oc:Value}{od an:Option Addr}{osl:Array (Option Value)}{kV doc pm cdv ct:Value}(l:K.lookup f=some ⟨oc,od,.func (PySem.W.fnOf x x (defArgs st) (defBody st) (defScope st) .none kV doc pm an cdv ct),osl⟩)
  (fns':List (Nat×Fn)) (hf:fns'=fns\/fns'=[]) (d:v9 tab fns' st=some (n,M):=by kernel_rfl) (c:codeIn K cdv x=true:=by kernel_rfl) (kp:keepIn K (.ref f)=true:=by kernel_rfl) (hm:nsIn K mainGlobals x=some (some (.ref f)):=by kernel_rfl) (hj:f=ad.fnA fns.length:=by rfl)
  (hdb:(x==("__debug__":Str))=false:=by decide) (hps:jJ (defArgs st)=some ps:=by rfl) (hb:Bnd x st ps:=by intro _ _ _ _ _ _ us hl;rcases us with _|⟨u0,_|⟨u1,_|⟨u2,_|⟨u3,_|⟨u4,us⟩⟩⟩⟩⟩<;>first|rfl|(simp at hl)):
  PQ P w K mg base h ad (k+1) ((x,.fn fns.length n M)::tab) (fns++[(n,M)]):=by
 have F:=vY (st:=st) l c kp;refine T.cons (Nat.le_succ _) (yK (ps:=ps) T.B T.t ?_ F hps d) (F.binds hb) kp (PySem.W.mg_of T.X T.G hm) hj hdb;rcases hf with rfl|rfl
 ·exact T.u
 ·exact i8.nil
theorem PQ.add(T:PQ P w K mg base h ad k tab fns)(x:Str)(st:Stmt)(f:Addr)(ps:List Str)(n:Nat)(M:Fn){oc:Value}{od an:Option Addr}{osl:Array (Option Value)}{kV doc pm cdv ct:Value}(l:K.lookup f=some ⟨oc,od,.func (PySem.W.fnOf x x (defArgs st) (defBody st) (defScope st) .none kV doc pm an cdv ct),osl⟩)
  (d:v9 tab [] st=some (n,M):=by kernel_rfl) (c:codeIn K cdv x=true:=by kernel_rfl) (kp:keepIn K (.ref f)=true:=by kernel_rfl) (hm:nsIn K mainGlobals x=some (some (.ref f)):=by kernel_rfl) (hj:f=ad.fnA fns.length:=by rfl)
  (hdb:(x==("__debug__":Str))=false:=by decide) (hps:jJ (defArgs st)=some ps:=by rfl) (hb:Bnd x st ps:=by intro _ _ _ _ _ _ us hl;rcases us with _|⟨u0,_|⟨u1,_|⟨u2,_|⟨u3,_|⟨u4,us⟩⟩⟩⟩⟩<;>first|rfl|(simp at hl)):
  PQ P w K mg base h ad (k+1) ((x,.fn fns.length n M)::tab) (fns++[(n,M)]):=T.addV x st f ps n M l [] (.inr rfl) d c kp hm hj hdb hps hb
theorem PQ.addR(T:PQ P w K mg base h ad k tab fns)(x:Str)(st:Stmt)(f:Addr)(ps:List Str)(n:Nat)(m:Fn->Fn)(i:Nat){oc:Value}{od an:Option Addr}{osl:Array (Option Value)}{kV doc pm cdv ct:Value}(l:K.lookup f=some ⟨oc,od,.func (PySem.W.fnOf x x (defArgs st) (defBody st) (defScope st) .none kV doc pm an cdv ct),osl⟩)
  (d: ∀F,v9 ((x,.fn fns.length n F)::tab) [] st=some (n,m F):=by intro F;kernel_rfl) (c:codeIn K cdv x=true:=by kernel_rfl) (kp:keepIn K (.ref f)=true:=by kernel_rfl) (hm:nsIn K mainGlobals x=some (some (.ref f)):=by kernel_rfl) (hj:f=ad.fnA fns.length:=by rfl)
  (hdb:(x==("__debug__":Str))=false:=by decide) (hps:jJ (defArgs st)=some ps:=by rfl) (hb:Bnd x st ps:=by intro _ _ _ _ _ _ us hl;rcases us with _|⟨u0,_|⟨u1,_|⟨u2,_|⟨u3,_|⟨u4,us⟩⟩⟩⟩⟩<;>first|rfl|(simp at hl)):
  PQ P w K mg base h ad (k+i) ((x,.fn fns.length n (qP m i))::tab) (fns++[(n,qP m i)]):=
 have F:=vY (st:=st) l c kp
 T.cons (Nat.le_add_right _ _) (aCy T.B T.t F hps (F.binds hb) (PySem.W.mg_of T.X T.G hm) hdb hj d i) (F.binds hb) kp (PySem.W.mg_of T.X T.G hm) hj hdb
theorem PQ.py(T:PQ P w K mg base h ad 0 tab [])(p:Py)(hm:nsIn K mainGlobals (pF p)=some none:=by kernel_rfl)(hdb:(pF p==("__debug__":Str))=false:=by decide):PQ P w K mg base h ad 0 ((pF p,.py p)::tab) []:=⟨fP.cons T.t hdb ⟨rfl,PySem.W.mg_none_of T.X T.G hm⟩,T.u,T.X,T.G,T.B⟩
theorem PQ.verr(T:PQ P w K mg base h ad 0 tab [])(hm:nsIn K mainGlobals "ValueError"=some none:=by kernel_rfl):PQ P w K mg base h ad 0 (("ValueError",.verr)::tab) []:=⟨fP.cons T.t (by decide) ⟨rfl,PySem.W.mg_none_of T.X T.G hm⟩,T.u,T.X,T.G,T.B⟩
theorem PQ.exc(T:PQ P w K mg base h ad 0 tab [])(x:Str)(c:Nat)(hm:nsIn K mainGlobals x=some (some (.ref (ad.cls c))):=by kernel_rfl)(hc:c<ad.nb:=by decide)(hdb:(x==("__debug__":Str))=false:=by decide):PQ P w K mg base h ad 0 ((x,.exc c)::tab) []:=⟨fP.cons T.t hdb ⟨PySem.W.mg_of T.X T.G hm,hc⟩,T.u,T.X,T.G,T.B⟩
theorem PQ.int(T:PQ P w K mg base h ad 0 tab [])(x:Str)(i:Int)(t:Tok)(hm:nsIn K mainGlobals x=some (some (.int i t)):=by kernel_rfl)(hdb:(x==("__debug__":Str))=false:=by decide):PQ P w K mg base h ad 0 ((x,.val (.int i))::tab) []:=⟨fP.cons T.t hdb ⟨.int i t,.int i,PySem.W.mg_of T.X T.G hm,⟨_,rfl⟩,λG=>by unfold Rep;rfl⟩,T.u,T.X,T.G,T.B⟩
theorem PQ.nil(X:K.In h)(G:h.Ns mainGlobals mg)(B:ExcK K ad):PQ P w K mg base h ad 0 [] []:=⟨fP.nil,i8.nil,X,G,B⟩
end
def aBo(K:Frag):Sp:=λvs H Q _=>∃(a:Addr) (ns:List Int),vs=[.ref a]/\SqL K H a (ns.map V.int)/\ns.length<=63/\∀H',Q (.bl true) H'
theorem aF1{P:Program}{w:World}{K:Frag}{mg:Str->Option Value}{base:Heap}{ad:Ad}{k:Nat}{f:Addr}{fd:FuncData}{ps:List Str}{M:Fn}(g:FnOk P w K mg base (CXe P w) k f fd ps (aAh K ad 1 M))(hm: ∀ns:List Int,M [.lst (ns.map D.int)]= .ok (.bl true)):FnOk P w K mg base (CXe P w) k f fd ps (aBo K):=by
 refine g.imp λvs H Q E ⟨a,ns,e,hS,hl,hQ⟩=>⟨H,[.lst (ns.map D.int)],Same.refl _,?_,rfl,?_⟩
 ·subst e;exact aH.cons (by unfold Rep;exact⟨a,_,rfl,hS,aH.map_int⟩) aH.nil
 ·rw[hm ns];intro v G' H' _ r;unfold Rep at r;subst r;exact hQ H'
theorem walk{l:PySem.W.OpenLaw}{q:Program}{loose:List Str}{XP:(Str->Option Value)->Heap->Prop}{YP:World->Heap->Prop}{d:DefRec}{K:Params->PySem.W.Frag}(r:Nat)(hn:l.most=some 63)(hdf:d.params.defaults=[])(hr:Room r callerA)
  (hY: ∀(w:World) (h:Heap),YP w h->(K w.params).In h)
  (F: ∀(w:World) (mg:Str->Option Value) (fa:Addr) (h:Heap),(K w.params).In h->h.Ns mainGlobals mg->mg d.name=some (.ref fa)->
   ∃fd:FuncData,(∀(s:Shared) (u:Value),BindsTo s fd ⟨[u],[]⟩ [("_law_script",u)])/\∀base:Heap,(K w.params).In base->base.Ns mainGlobals mg->FnOk l.prog w (K w.params) mg base (CXe l.prog w) r fa fd ["_law_script"] (aBo (K w.params))):
  PySem.W.WalkO q loose XP YP l.row.toRowW d [] (λf vs=>PySem.call f vs):=
 L2.walk_of (n:=63) (k:=r) (x:="_law_script") (CX:=λw=>CXe l.prog w) (sp:=λw=>aBo (K w.params)) hn (by decide) hdf hr hY F (λ_ _ a ns hl _ hS=>⟨a,ns,rfl,hS,hl,λ_=>rfl⟩)
  λ_ _ _ _ _ h=>by obtain⟨_,_,_,_,_,_,_,_,_,_,_,_,_,_,z⟩:=h;exact z
theorem aC{a b:FS}{ρ ρ':Rho}(h:a ρ= .nx ρ'):bA a b ρ=b ρ':=by simp[bA,h]
theorem dA{a b:FS}{ρ:Rho}{r:R}(h:a ρ= .rt r):bA a b ρ= .rt r:=by simp[bA,h]
theorem bE{i:Nat}{e:F}{ρ:Rho}{d:D}(h:e ρ= .ok d):cY i e ρ= .nx (ρ.set i (.sh d)):=by simp[cY,h,iA]
theorem hW{i:Nat}{e:F}{ρ:Rho}{d:List D}(h:e ρ= .ow d):cY i e ρ= .nx (ρ.set i (.sh (.lst d))):=by simp[cY,h,iA]
theorem aF2{i:Nat}{e:F}{ρ:Rho}{c:Nat}(h:e ρ= .ex c):cY i e ρ= .ex c ρ:=by simp[cY,h,iA]
theorem i9{i:Nat}{e:F}{ρ:Rho}{d:List D}(h:e ρ= .ow d):oW i e ρ= .nx (ρ.set i (.ow d)):=by simp[oW,h]
theorem yL{is:List Nat}{e:F}{ρ:Rho}{ds:List D}(h:e ρ= .ok (.tup ds))(l:ds.length=is.length):kG is e ρ= .nx (setN is ds ρ):=by simp[kG,h,iA,l]
theorem cU{e:F}{ρ:Rho}{d:D}(h:e ρ= .ok d):fO e ρ= .nx ρ:=by simp[fO,h,iA]
theorem fG{e:F}{ρ:Rho}{c:Nat}(h:e ρ= .ex c):fO e ρ= .ex c ρ:=by simp[fO,h,iA]
theorem aN{e:F}{ρ:Rho}{d:D}(h:e ρ= .ok d):bV e ρ= .rt (.ok d):=by simp[bV,h]
theorem yM{e:F}{ρ:Rho}{d:List D}(h:e ρ= .ow d):bV e ρ= .rt (.ow d):=by simp[bV,h]
theorem dJ{c:F}{a b:FS}{ρ:Rho}(h:c ρ= .ok (.bl true)):sIf c a b ρ=a ρ:=by simp[sIf,h]
theorem cP{c:F}{a b:FS}{ρ:Rho}(h:c ρ= .ok (.bl false)):sIf c a b ρ=b ρ:=by simp[sIf,h]
theorem aQ{n:Nat}{b:FS}{ds:List D}{d:D}(h:b (ds.map Slot.sh++ak (n-ds.length) .no)= .rt (.ok d)):fnOf n b ds= .ok d:=by simp[fnOf,h]
theorem yN{n:Nat}{b:FS}{ds:List D}{d:List D}(h:b (ds.map Slot.sh++ak (n-ds.length) .no)= .rt (.ow d)):fnOf n b ds= .ow d:=by simp[fnOf,h]
theorem eI{n:Nat}{b:FS}{ds:List D}{c:Nat}{ρ:Rho}(h:b (ds.map Slot.sh++ak (n-ds.length) .no)= .ex c ρ):fnOf n b ds= .ex c:=by simp[fnOf,h]
theorem sF{n:Nat}{b:FS}{ds:List D}{ρ:Rho}(h:b (ds.map Slot.sh++ak (n-ds.length) .no)= .nx ρ):fnOf n b ds= .ok .non:=by simp[fnOf,h]
theorem qE{xs:List Int}:eF (xs.map D.int)=some xs:=by
 induction xs with
 |nil=>rfl
 |cons x r ih=>simp[eF,ih]
theorem vE{xs:List Bool}:eM (xs.map D.bl)=some xs:=by
 induction xs with
 |nil=>rfl
 |cons x r ih=>simp[eM,ih]
theorem aR{op:Operator}{a b:F}{ρ:Rho}{x y:D}(h:a ρ= .ok x)(k:b ρ= .ok y):aI op a b ρ=jI op x y:=by simp[aI,h,k,R.bind]
theorem aX{op:CmpOp}{a b:F}{ρ:Rho}{x y:D}(h:a ρ= .ok x)(k:b ρ= .ok y):aU op a b ρ=gC op x y:=by simp[aU,h,k,R.bind]
theorem aF3{op:CmpOp}{a b:F}{ρ:Rho}{x:List D}{y:D}(h:a ρ= .ow x)(k:b ρ= .ok y):aU op a b ρ=gC op (.lst x) y:=by simp[aU,h,k,R.bind]
theorem uC{op:CmpOp}{a b:F}{ρ:Rho}{x y:List D}(h:a ρ= .ow x)(k:b ρ= .ow y):aU op a b ρ=gC op (.lst x) (.lst y):=by simp[aU,h,k,R.bind]
theorem eQ{a b:F}{ρ:Rho}{x y:D}(h:a ρ= .ok x)(k:b ρ= .ok y):rIx a b ρ=dIx x y:=by simp[rIx,h,k,R.bind]
theorem yO{a b:F}{ρ:Rho}{x:List D}{y:D}(h:a ρ= .ow x)(k:b ρ= .ok y):rIx a b ρ=dIx (.lst x) y:=by simp[rIx,h,k,R.bind]
theorem eJ{a:F}{ρ:Rho}{b:Bool}(h:a ρ= .ok (.bl b)):gR a ρ= .ok (.bl (!b)):=by simp[gR,h,R.bind]
theorem iM{a b:F}{ρ:Rho}(h:a ρ= .ok (.bl true)):fR a b ρ=b ρ:=by simp[fR,h,R.bind]
theorem uD{a b:F}{ρ:Rho}(h:a ρ= .ok (.bl false)):fR a b ρ= .ok (.bl false):=by simp[fR,h,R.bind]
theorem yP{a b:F}{ρ:Rho}(h:a ρ= .ok (.bl true)):rOr a b ρ= .ok (.bl true):=by simp[rOr,h,R.bind]
theorem eR{a b:F}{ρ:Rho}(h:a ρ= .ok (.bl false)):rOr a b ρ=b ρ:=by simp[rOr,h,R.bind]
theorem qF{c a b:F}{ρ:Rho}(h:c ρ= .ok (.bl true)):rIf c a b ρ=a ρ:=by simp[rIf,h,R.bind]
theorem aBp{c a b:F}{ρ:Rho}(h:c ρ= .ok (.bl false)):rIf c a b ρ=b ρ:=by simp[rIf,h,R.bind]
theorem aT{f:Fn}{a:F}{ρ:Rho}{x:D}(h:a ρ= .ok x):aB f [a] ρ=f [x]:=by simp[aB,lK,args,h,RA.cons,RA.then]
theorem cS{f:Fn}{a:F}{ρ:Rho}{x:List D}(h:a ρ= .ow x):aB f [a] ρ=f [.lst x]:=by simp[aB,lK,args,h,RA.cons,RA.then]
theorem dW{f:Fn}{a b:F}{ρ:Rho}{x y:D}(h:a ρ= .ok x)(k:b ρ= .ok y):aB f [a,b] ρ=f [x,y]:=by simp[aB,lK,args,h,k,RA.cons,RA.then]
theorem bB{f:Fn}{a b c:F}{ρ:Rho}{x y z:D}(h:a ρ= .ok x)(k:b ρ= .ok y)(l:c ρ= .ok z):aB f [a,b,c] ρ=f [x,y,z]:=by simp[aB,lK,args,h,k,l,RA.cons,RA.then]
theorem aJ5{a:F}{ρ:Rho}{x:D}(h:a ρ= .ok x):b9 [a] ρ= .ok (.tup [x]):=by simp[b9,lK,args,h,RA.cons,RA.then]
theorem qG{a b:F}{ρ:Rho}{x y:D}(h:a ρ= .ok x)(k:b ρ= .ok y):b9 [a,b] ρ= .ok (.tup [x,y]):=by simp[b9,lK,args,h,k,RA.cons,RA.then]
theorem yQ{a b c:F}{ρ:Rho}{i j k:Int}(h:a ρ= .ok (.int i))(h':b ρ= .ok (.int j))(h'':c ρ= .ok (.int k)):dS .LtE .Lt a b c ρ= .ok (.bl (decide (i<=j)&&decide (j<k))):=by
 by_cases e:i<=j<;>simp[dS,h,h',h'',R.bind,gC,e]
theorem qH{a b c:F}{ρ:Rho}{i j k:Int}(h:a ρ= .ok (.int i))(h':b ρ= .ok (.int j))(h'':c ρ= .ok (.int k)):dS .LtE .LtE a b c ρ= .ok (.bl (decide (i<=j)&&decide (j<=k))):=by
 by_cases e:i<=j<;>simp[dS,h,h',h'',R.bind,gC,e]
theorem aJ6{p:D->Bool}{ds:List D}:aH2 [.lst (ds.map λd=>.bl (p d))]= .ok (.bl (ds.all p)):=by
 have e:(ds.map λd=>D.bl (p d))=(ds.map p).map D.bl:=by simp
 have k:(items (D.lst (ds.map λd=>D.bl (p d)))).bind eM=some (ds.map p):=by
  show eM _=_;rw[e];exact vE
 simp only[aH2,k];simp
theorem mK{f:D->Option (Option D)}{g:D->D}: ∀{ds:List D},(∀d∈ds,f d=some (some (g d)))->bL f ds=some (ds.map g)
 |[],_=>rfl
 |d::r,h=>by simp[bL,h d (.head _),mK (ds:=r) λx m=>h x (.tail _ m)]
theorem mL{f:D->Option (Option D)}{P:D->Prop}: ∀{ds:List D},(∀d∈ds, ∃x,f d=some (some x)/\P x)->∃xs,bL f ds=some xs/\xs.length=ds.length/\∀x∈xs,P x
 |[],_=>⟨[],rfl,rfl,nofun⟩
 |d::r,h=>by
  obtain⟨x,e,p⟩:=h d (.head _);obtain⟨xs,e',l,q⟩:=mL (ds:=r) λx m=>h x (.tail _ m)
  refine⟨x::xs,by simp[bL,e,e'],by simp[l],?_⟩
  intro y m;cases m with
  |head=>exact p
  |tail _ m=>exact q y m
theorem lB{cs:List Nat}{it e:F}{ρ:Rho}{ds:List D}{g:D->D}(hi:it ρ= .ok (.lst ds)\/it ρ= .ok (.tup ds)\/it ρ= .ow ds)(h: ∀d∈ds,e (.sh d::iT cs ρ)= .ok (g d)):aL 0 cs it none e ρ= .ow (ds.map g):=by
 have k:bL (cW 0 (iT cs ρ) none e) ds=some (ds.map g):=mK λd m=>by simp[cW,tgt,h d m]
 rcases hi with hi|hi|hi<;>simp[aL,hi,R.bind,items,iC,k]
theorem eS{n:Nat}{cs:List Nat}{it e:F}{ρ:Rho}{ds:List D}{P:D->Prop}(hi:it ρ= .ok (.lst ds)\/it ρ= .ok (.tup ds)\/it ρ= .ow ds)(h: ∀d∈ds, ∃ts x,tgt n d=some ts/\e (ts++iT cs ρ)= .ok x/\P x):
  ∃xs,aL n cs it none e ρ= .ow xs/\xs.length=ds.length/\∀x∈xs,P x:=by
 obtain⟨xs,k,l,q⟩:=mL (f:=cW n (iT cs ρ) none e) (P:=P) (ds:=ds) λd m=>by
  obtain⟨ts,x,a,b,c⟩:=h d m;exact⟨x,by simp[cW,a,b],c⟩
 refine⟨xs,?_,l,q⟩;rcases hi with hi|hi|hi<;>simp[aL,hi,R.bind,items,iC,k]
theorem qI{cs:List Nat}{it c:F}{e:F}{ρ:Rho}{ds:List D}{p:D->Bool}(hi:it ρ= .ok (.lst ds)\/it ρ= .ok (.tup ds)\/it ρ= .ow ds)(hc: ∀d∈ds,c (.sh d::iT cs ρ)= .ok (.bl (p d)))(h: ∀d∈ds,e (.sh d::iT cs ρ)= .ok d):
  aL 0 cs it (some c) e ρ= .ow (ds.filter p):=by
 have k: ∀ds:List D,(∀d∈ds,c (.sh d::iT cs ρ)= .ok (.bl (p d)))->(∀d∈ds,e (.sh d::iT cs ρ)= .ok d)->bL (cW 0 (iT cs ρ) (some c) e) ds=some (ds.filter p):=by
  intro ds;induction ds with
  |nil=>intros;rfl
  |cons d r ih=>
   intro h1 h2
   have:=ih (λx m=>h1 x (.tail _ m)) λx m=>h2 x (.tail _ m)
   have a:=h1 d (.head _)
   cases hp:p d<;>simp[bL,cW,tgt,a,h2 d (.head _),hp,this]
 have:=k ds hc h
 rcases hi with hi|hi|hi<;>simp[aL,hi,R.bind,items,iC,this]
theorem bQ{a:F}{ρ:Rho}{n:Nat}(h:a ρ= .ok (.int n))(l:n<=100000):aV a ρ= .ok (.lst (n9 n)):=by
 have:(-100000:Int)<=(n:Int)/\(n:Int)<=100000:=by lia
 simp[aV,h,R.bind,aB5,this]
theorem gN{n:Nat}{d:D}(h:d∈n9 n): ∃k:Nat,k<n/\d= .int k:=by
 simp only[n9,ao,List.mem_range]at h;obtain⟨k,a,b⟩:=h;exact⟨k,a,b.symm⟩
theorem d8{n:Nat}:(n9 n).length=n:=by simp[n9]
theorem fW{xs:List D}{n:Nat}{x:D}(h:xs[n]? =some x):dIx (.lst xs) (.int n)= .ok x:=by
 obtain⟨l,e⟩:=av.1 h;simp[dIx,items,ixD,l,e]
theorem hX{xs:List D}{n:Nat}{x:D}(h:xs[n]? =some x):dIx (.tup xs) (.int n)= .ok x:=by
 obtain⟨l,e⟩:=av.1 h;simp[dIx,items,ixD,l,e]
theorem aCz{i j:Int}(h:sml j=true):jI .Mult (.int i) (.int j)= .ok (.int (i*j)):=by simp[jI,eL,h]
theorem lC{i j:Int}(h:0<j):jI .Mod (.int i) (.int j)= .ok (.int (i % j)):=by simp[jI,eL,h]
theorem yR{i j:Int}(h:0<j)(l:j<1073741824):jI .FloorDiv (.int i) (.int j)= .ok (.int (i/j)):=by simp[jI,eL,h,l]
theorem aJ7{i:Int}(a: -18446744073709551616<i)(b:i<18446744073709551616):sml i=true:=by simp[sml,a,b]
theorem yS{is:List Nat}{o:Bool}{it:F}{b:FS}{ρ:Rho}{ds:List D}(hi:it ρ= .ok (.lst ds)\/it ρ= .ok (.tup ds)\/it ρ= .ow ds):zZ is o it b ρ=gZ (qO is o) b ds ρ:=by
 rcases hi with hi|hi|hi<;>simp[zZ,hi,iA,items]
theorem bR{xs:List D}:aK xs=true↔ ∀x∈xs,plain x=true:=by
 induction xs with
 |nil=>simp[aK]
 |cons x r ih=>simp[aK,ih]
theorem fX{x y:D}(a:plain x=true)(b:plain y=true)(c:dep y<=60):rB x y=true:=by
 have:min (dep x) (dep y)<=60:=Nat.le_trans (Nat.min_le_right ..) c
 simp[rB,a,b,this]
theorem jA{x y:D}(h:rB x y=true):gC .Eq x y= .ok (.bl (deq x y)):=by simp[gC,h]
theorem jB{x y:D}(h:rB x y=true):gC .NotEq x y= .ok (.bl (!deq x y)):=by simp[gC,h]
mutual
theorem iN: ∀d:D,plain d=true->deq d d=true
 |.non,_=>rfl
 |.bl b,_=>by simp[deq]
 |.int i,_=>by simp[deq]
 |.str x,_=>by simp[deq]
 |.tup xs,h=>by simp only[deq];exact lD xs h
 |.lst xs,h=>by simp only[deq];exact lD xs h
 |.exc _,h=>by simp[plain]at h
 |.fn _,h=>by simp[plain]at h
theorem lD: ∀xs:List D,aK xs=true->qZ xs xs=true
 |[],_=>rfl
 |x::r,h=>by
  simp only[aK,ar]at h;simp[qZ,iN x h.1,lD r h.2]
end
theorem lE{xs:List D}(h: ∀x∈xs,dep x=0):mV xs=0:=by
 induction xs with
 |nil=>rfl
 |cons x r ih=>simp[mV,h x (.head _),ih λy m=>h y (.tail _ m)]
end SK
namespace SK.k02
open SK
def jC:Fn:=fnOf 1 (bV (fR (rIs (kM) (aA 0)) (gR (rIs (rE) (aA 0)))))
def aS:Fn:=fnOf 2 (bV (fR (aB jC [aA 0]) (dS .LtE .Lt (rK (.int 0)) (aA 0) (aA 1))))
def bS:Fn:=fnOf 2 (bV (aB aH2 [aL 0 [1] (aF 0) none (aB aS [aA 0,aA 1])]))
def eT:Fn:=fnOf 1 (bV (aB aS [aA 0,aI .Add (rK (.int 4)) (rK (.int 1))]))
def dY:Fn:=fnOf 1 (bV (aB aS [aA 0,aI .Add (rK (.int 3)) (rK (.int 1))]))
def iO:Fn:=fnOf 3 (bV (fR (rIs (dH) (aA 0)) (fR (aU .Eq (aB iE [aF 0]) (aA 1)) (aB bS [aA 0,aA 2]))))
def jD:Fn:=fnOf 5 (bA (cY 1 (cN [b9 []]))
 (bA (zZ [2] true (aV (aA 0))
 (bA (oW 3 (cN []))
  (bA (zZ [4] true (aA 1)
  (bA (aB7 3 (aI .Add (aA 4) (b9 [rK (.int 0)])))
   (aB7 3 (aI .Add (aA 4) (b9 [rK (.int 1)])))))
  (aLm [3] (cY 1 (aA 3))))))
 (bV (aA 1))))
def aM:Fn:=fnOf 1 (bV (aI .LShift (rK (.int 1)) (aA 0)))
def fH:Fn:=fnOf 1 (bV (aB v0 [aL 2 [] (oV (aA 0)) none (aI .LShift (aA 1) (aA 0))]))
def fI:Fn:=fnOf 1 (bA (sIf (rOr (gR (rIs (dH) (aA 0))) (rOr (aU .NotEq (aB iE [aF 0]) (rK (.int 2))) (gR (aB eT [rIx (aF 0) (rK (.int 0))]))))
 (bV (rK (.bl false)))
 (bF))
 (bV (aB iO [rIx (aF 0) (rK (.int 1)),aB aM [rIx (aF 0) (rK (.int 0))],rK (.int 2)])))
def bI:Fn:=fnOf 1 (sIf (gR (aB fI [aA 0]))
 (gW 1)
 (bF))
def bC:Fn:=fnOf 2 (bA (fO (aB bI [aA 0]))
 (bA (fO (aB bI [aA 1]))
 (sIf (aU .NotEq (rIx (aF 0) (rK (.int 0))) (rIx (aF 1) (rK (.int 0))))
 (gW 4)
 (bF))))
def dC:Fn:=fnOf 1 (sIf (gR (aB eT [aA 0]))
 (gW 2)
 (bF))
def fY:Fn:=fnOf 2 (sIf (gR (aB aS [aA 1,aA 0]))
 (gW 2)
 (bF))
def fJ:Fn:=fnOf 1 (sIf (gR (aB aS [aA 0,rK (.int 2)]))
 (gW 2)
 (bF))
def dZ:Fn:=fnOf 2 (bA (fO (aB bI [aA 0]))
 (bA (sIf (gR (aB iO [aA 1,rIx (aF 0) (rK (.int 0)),rK (.int 2)]))
 (gW 2)
 (bF))
 (bV (rIx (rIx (aF 0) (rK (.int 1))) (aB fH [aA 1])))))
def lF:Fn:=fnOf 1 (bA (fO (aB bI [aA 0]))
 (bV (aL 2 [] (oV (rIx (aF 0) (rK (.int 1)))) (some (aU .Eq (aA 1) (rK (.int 1)))) (aA 0))))
def fZ:Fn:=fnOf 2 (bA (fO (aB bC [aA 0,aA 1]))
 (bV (b9 [rIx (aF 0) (rK (.int 0)),aB dG [aL 2 [] (mW (rIx (aF 0) (rK (.int 1))) (rIx (aF 1) (rK (.int 1)))) none (aI .BitAnd (aA 0) (aA 1))]])))
def iP:Fn:=fnOf 2 (bA (fO (aB bC [aA 0,aA 1]))
 (bV (b9 [rIx (aF 0) (rK (.int 0)),aB dG [aL 2 [] (mW (rIx (aF 0) (rK (.int 1))) (rIx (aF 1) (rK (.int 1)))) none (aI .BitOr (aA 0) (aA 1))]])))
def iQ:Fn:=fnOf 2 (bA (fO (aB bC [aA 0,aA 1]))
 (bV (b9 [rIx (aF 0) (rK (.int 0)),aB dG [aL 2 [] (mW (rIx (aF 0) (rK (.int 1))) (rIx (aF 1) (rK (.int 1)))) none (aI .BitXor (aA 0) (aA 1))]])))
def iR:Fn:=fnOf 3 (bA (fO (aB dC [aA 0]))
 (bA (cY 2 (aB aM [aA 0]))
 (bA (sIf (rOr (gR (rIs (aDy) (aA 1))) (gR (aB bS [aA 1,aA 2])))
 (gW 2)
 (bF))
 (bV (b9 [aA 0,aB dG [aL 0 [1] (aV (aA 2)) none (rIf (aU .In (aA 0) (aA 1)) (rK (.int 1)) (rK (.int 0)))]])))))
def mM:Fn:=fnOf 2 (bA (fO (aB dC [aA 0]))
 (bA (fO (aB fJ [aA 1]))
 (bV (b9 [aA 0,aI .Mult (b9 [aA 1]) (aB aM [aA 0])]))))
def uE:Fn:=fnOf 2 (bA (fO (aB dC [aA 0]))
 (bA (fO (aB fY [aA 0,aA 1]))
 (bV (b9 [aA 0,aB dG [aL 0 [1] (aV (aB aM [aA 0])) none (aI .BitAnd (aI .RShift (aA 0) (aA 1)) (rK (.int 1)))]]))))
def dR:Fn:=fnOf 1 (bA (sIf (gR (aB dY [aA 0]))
 (gW 2)
 (bF))
 (bV (aL 0 [0] (aB jD [aB aM [aA 0]]) none (b9 [aA 1,aA 0]))))
def eU:Fn:=fnOf 2 (bA (sIf (aU .Lt (aA 1) (aB iE [aF 0]))
 (bV (rIx (aF 0) (aA 1)))
 (bF))
 (bA (sIf (aU .Eq (aA 0) (cN []))
 (bV (rK (.int 0)))
 (bF))
 (bV (aI .Add (aI .Mult (rIx (aF 0) (aI .Mod (aA 1) (aB iE [aF 0]))) (rK (.int 31))) (aA 1)))))
def aD:Fn:=fnOf 4 (bA (cY 3 (aI .Mod (aI .Mult (aI .Add (aB eU [aA 0,aA 1]) (aI .Mult (rK (.int 6151)) (aI .Add (aA 1) (rK (.int 1))))) (rK (.int 40692))) (rK (.int 2147483399))))
 (bV (aI .Mod (aI .Mod (aI .Add (aI .Mult (aA 3) (aA 3)) (aI .FloorDiv (aA 3) (rK (.int 31)))) (rK (.int 2147483629))) (aA 2))))
def aJ:Fn:=fnOf 2 (bV (aB dG [aL 0 [1] (aV (aA 0)) none (aI .Mod (aI .FloorDiv (aA 1) (rIx (cN [rK (.int 1),rK (.int 2),rK (.int 4),rK (.int 8)]) (aA 0))) (rK (.int 2)))]))
def eV:Fn:=fnOf 2 (bV (aI .Mod (aB v0 [aL 2 [] (mW (aB aJ [rK (.int 4),aA 0]) (aB aJ [rK (.int 4),aA 1])) none (aI .Mult (aA 0) (aA 1))]) (rK (.int 2))))
def dD:Fn:=fnOf 9 (bA (cY 3 (rIx (cN [rK (.int 1),rK (.int 2),rK (.int 4),rK (.int 8),rK (.int 16)]) (aA 2)))
 (bA (cY 4 (aB aD [aA 0,aA 1,rK (.int 6)]))
 (bA (oW 5 (aL 0 [1,0] (aV (aA 3)) none (aB aD [aA 2,aI .Add (aI .Add (aA 1) (rK (.int 1))) (aA 0),rK (.int 2)])))
 (bA (sIf (fR (aU .Eq (aA 4) (rK (.int 0))) (aU .Gt (aA 2) (rK (.int 0))))
 (bA (cY 6 (aB aD [aA 0,aI .Add (aA 1) (rK (.int 20)),aA 3]))
  (oW 5 (aL 0 [6] (aV (aA 3)) none (aB eV [aA 1,aA 0]))))
 (sIf (aU .Eq (aA 4) (rK (.int 1)))
  (oW 5 (aL 0 [1,2,0] (aV (aA 3)) none (aB aB6 [aU .GtE (aB v0 [aB aJ [aA 2,aA 0]]) (aI .Add (rK (.int 1)) (aB aD [aA 3,aI .Add (aA 1) (rK (.int 21)),rK (.int 3)]))])))
  (sIf (fR (aU .Eq (aA 4) (rK (.int 2))) (aU .Gt (aA 2) (rK (.int 0))))
   (bA (cY 7 (aB aD [aA 0,aI .Add (aA 1) (rK (.int 22)),aA 2]))
    (oW 5 (aL 0 [7,5] (aV (aA 3)) none (rIx (aF 2) (aI .Sub (aA 0) (aI .Mult (aI .Mod (aI .FloorDiv (aA 0) (rIx (cN [rK (.int 1),rK (.int 2),rK (.int 4),rK (.int 8)]) (aA 1))) (rK (.int 2))) (rIx (cN [rK (.int 1),rK (.int 2),rK (.int 4),rK (.int 8)]) (aA 1))))))))
   (bF))))
 (bA (sIf (fR (aU .Lt (aA 4) (rK (.int 3))) (aU .Eq (aB aD [aA 0,aI .Add (aA 1) (rK (.int 23)),rK (.int 3)]) (rK (.int 0))))
 (bA (cY 8 (aB aD [aA 0,aI .Add (aA 1) (rK (.int 24)),aA 3]))
  (aDr 5 (aA 8) (aI .Sub (rK (.int 1)) (rIx (aF 5) (aA 8)))))
 (bF))
 (bV (b9 [aA 2,aB dG [aF 5]])))))))
def cF(self:Fn):Fn:=fnOf 3 (bA (oW 1 (cN [b9 []]))
 (bA (sIf (rIs (dH) (aA 0))
 (zZ [2] true (aV (aB iE [aF 0]))
  (aB8 1 (aL 0 [2] (aB self [rIx (aF 0) (aA 2)]) none (aI .Add (b9 [aA 1]) (aA 0)))))
 (bF))
 (bV (zX 1))))
def jM:Fn:=qP cF 12
def d9(self:Fn):Fn:=fnOf 4 (bA (sIf (aU .Eq (aA 1) (b9 []))
 (bV (aA 2))
 (bF))
 (bA (cY 3 (rIx (aF 1) (rK (.int 0))))
 (bV (aI .Add (aI .Add (gT (aF 0) none (some (aA 3))) (b9 [aB self [rIx (aF 0) (aA 3),gT (aF 1) (some (rK (.int 1))) none,aA 2]])) (gT (aF 0) (some (aI .Add (aA 3) (rK (.int 1)))) none)))))
def cT:Fn:=qP d9 12
def aY:Fn:=fnOf 9 (bA (cY 3 (aB jM [aA 2]))
 (bA (cY 4 (rIx (aF 3) (aB aD [aA 0,aA 1,aB iE [aF 3]])))
 (bA (cY 5 (aA 2))
 (bA (zZ [6] true (aA 4)
 (cY 5 (rIx (aF 5) (aA 6))))
 (bA (cY 7 (cN [rK (.int 0),rK (.int 1),rK (.int 2),vK (rK (.int 1)),rK (.int 3),rK (.bl true),rK .non,rK (.str "1"),b9 [],b9 [rK (.int 0)],b9 [rK (.int 1),rK (.int 0)],cN [rK (.int 0),rK (.int 1)],b9 [aA 5],b9 [aA 5,aA 5]]))
 (bA (cY 8 (aB aD [aA 0,aI .Add (aA 1) (rK (.int 1)),rK (.int 20)]))
 (bA (sIf (aU .Lt (aA 8) (rK (.int 14)))
 (bV (aB cT [aA 2,aA 4,rIx (aF 7) (aA 8)]))
 (bF))
 (bA (sIf (fR (rIs (dH) (aA 5)) (aU .NotEq (aA 5) (b9 [])))
 (bA (cY 6 (aB aD [aA 0,aI .Add (aA 1) (rK (.int 2)),aB iE [aF 5]]))
  (bV (aB cT [aA 2,aA 4,rIf (aU .Lt (aA 8) (rK (.int 17))) (aI .Add (gT (aF 5) none (some (aA 6))) (gT (aF 5) (some (aI .Add (aA 6) (rK (.int 1)))) none)) (aI .Add (gT (aF 5) none (some (aI .Add (aA 6) (rK (.int 1))))) (gT (aF 5) (some (aA 6)) none))])))
 (bF))
 (bV (aB cT [aA 2,aA 4,rIf (rIs (kM) (aA 5)) (aI .Sub (rK (.int 1)) (aA 5)) (rK (.int 7))]))))))))))
def dF:Fn:=fnOf 1 (bV (fR (rIs (kM) (aA 0)) (fR (gR (rIs (rE) (aA 0))) (dS .LtE .LtE (rK (.int 0)) (aA 0) (rK (.int 1))))))
def bT:Fn:=fnOf 1 (bA (sIf (rOr (gR (rIs (dH) (aA 0))) (rOr (aU .NotEq (aB iE [aF 0]) (rK (.int 2))) (rOr (gR (rIs (kM) (rIx (aF 0) (rK (.int 0))))) (rIs (rE) (rIx (aF 0) (rK (.int 0)))))))
 (bV (rK (.bl false)))
 (bF))
 (bA (sIf (rOr (gR (dS .LtE .LtE (rK (.int 0)) (rIx (aF 0) (rK (.int 0))) (rK (.int 4)))) (rOr (gR (rIs (dH) (rIx (aF 0) (rK (.int 1))))) (aU .NotEq (aB iE [rIx (aF 0) (rK (.int 1))]) (rIx (cN [rK (.int 1),rK (.int 2),rK (.int 4),rK (.int 8),rK (.int 16)]) (rIx (aF 0) (rK (.int 0)))))))
 (bV (rK (.bl false)))
 (bF))
 (bV (aU .Eq (aL 0 [] (rIx (aF 0) (rK (.int 1))) (some (gR (aB dF [aA 0]))) (aA 0)) (cN [])))))
def dP:Fn:=fnOf 2 (bA (oW 1 (cN [rIs (rF 3) (aA 0),rIs (rF 2) (aA 0),rIs (rF 5) (aA 0),rIs (rF 1) (aA 0)]))
 (bA (aB8 1 (cN [rIs (rF 6) (aA 0),rIs (rF 4) (aA 0)]))
 (bA (sIf (rOr (aU .NotEq (rC sM (aF 1) (rK (.bl true))) (rK (.int 1))) (gR (rIs (rF 100) (aA 0))))
 (bV (rK (.str "wrong")))
 (bF))
 (bV (rIx (cN [rK (.str "no move"),rK (.str "no name"),rK (.str "no sums"),rK (.str "no switch"),rK (.str "no text"),rK (.str "unlike")]) (rC sN (aF 1) (rK (.bl true))))))))
def aKt:List (Nat×Fn):=[(1,jC),(2,aS),(2,bS),(1,eT),(1,dY),(3,iO),(1,jD),(1,aM),(1,fH),(1,fI),(1,bI),(2,bC),(1,dC),(2,fY),(1,fJ),(2,dZ),(1,lF),(2,fZ),(2,iP),(2,iQ),(2,iR),(2,mM),(2,uE),(1,dR),(2,eU),(3,aD),(2,aJ),(2,eV),(3,dD),(1,jM),(3,cT),(3,aY),(1,dF),(1,bT),(1,dP)]
def aE:Fn:=fnOf 6 (bA (cY 3 (rK .non))
 (bA (cY 4 (rK .non))
 (bA (aB9 5 3 (λ_=>true)
 (sIf (aU .Lt (aA 0) (rK (.int 4)))
  (cY 4 (iD aKt (rIx (cN [rK (.fn 17),rK (.fn 18),rK (.fn 19),rK (.fn 15)]) (aA 0)) [aA 1,aA 2]))
  (sIf (aU .Lt (aA 0) (rK (.int 7)))
   (cY 4 (iD aKt (rIx (cN [rK (.fn 21),rK (.fn 22),rK (.fn 20)]) (aI .Sub (aA 0) (rK (.int 4)))) [aA 1,aA 2]))
   (cY 4 (rIf (aU .Eq (aA 0) (rK (.int 7))) (aB lF [aA 1]) (aB dR [aA 1]))))))
 (bA (sIf (aU .Is (aA 3) (rK .non))
 (bV (aA 4))
 (bF))
 (bV (aB dP [aA 3]))))))
def cQ:Fn:=fnOf 9 (bA (kG [1,2] (b9 [aI .Sub (aB aD [aA 0,rK (.int 4),rK (.int 7)]) (rK (.int 1)),aI .Sub (aB aD [aA 0,rK (.int 5),rK (.int 6)]) (rK (.int 1))]))
 (bA (cY 3 (dS .LtE .LtE (rK (.int 0)) (aA 1) (rK (.int 4))))
 (bA (cY 4 (rIf (aDq (aA 3)) (rIx (cN [rK (.int 1),rK (.int 2),rK (.int 4),rK (.int 8),rK (.int 16)]) (aA 1)) (rK (.int 0))))
 (bA (sIf (aU .NotEq (aB aE [rK (.int 4),aA 1,aA 2]) (rIf (fR (aA 3) (dS .LtE .LtE (rK (.int 0)) (aA 2) (rK (.int 1)))) (b9 [aA 1,aI .Mult (b9 [aA 2]) (aA 4)]) (rK (.str "no name"))))
 (bV (rK (.bl false)))
 (bF))
 (bA (cY 5 (rIf (fR (aA 3) (dS .LtE .Lt (rK (.int 0)) (aA 2) (aA 1))) (aB dG [aL 0 [2,1] (aV (aA 4)) none (rIx (aB aJ [aA 2,aA 0]) (aA 1))]) (rK .non)))
 (bA (sIf (aU .NotEq (aB aE [rK (.int 5),aA 1,aA 2]) (rIf (aU .IsNot (aA 5) (rK .non)) (b9 [aA 1,aA 5]) (rK (.str "no name"))))
 (bV (rK (.bl false)))
 (bF))
 (bA (cY 6 (aL 0 [0] (aV (aA 4)) (some (aU .Eq (aB aD [aA 1,aI .Add (rK (.int 100)) (aA 0),rK (.int 2)]) (rK (.int 0)))) (aA 0)))
 (bA (sIf (aU .NotEq (aB aE [rK (.int 6),aA 1,aA 6]) (rIf (aDq (aA 3)) (b9 [aA 1,aB dG [aL 0 [6] (aV (aA 4)) none (aB aB6 [aU .In (aA 0) (aA 1)])]]) (rK (.str "no name"))))
 (bV (rK (.bl false)))
 (bF))
 (bA (sIf (rOr (aU .NotEq (aB aE [rK (.int 6),rK (.int 2),aI .Add (gT (aF 6) none (some (rK (.int 1)))) (cN [rK (.int 4)])]) (rK (.str "no name"))) (aU .NotEq (aB aE [rK (.int 6),rK (.int 1),cN [rK (.int 0),vK (rK (.int 1))]]) (rK (.str "no name"))))
 (bV (rK (.bl false)))
 (bF))
 (bA (cY 7 (aB aD [aA 0,rK (.int 6),rK (.int 4)]))
 (bA (cY 8 (aB aE [rK (.int 8),aA 7,rK .non]))
 (bA (sIf (rOr (aU .NotEq (aB iE [aF 8]) (rIx (cN [rK (.int 2),rK (.int 4),rK (.int 16),rK (.int 256)]) (aA 7))) (aU .NotEq (aA 8) (aB dSS [aF 8])))
 (bV (rK (.bl false)))
 (bF))
 (bA (sIf (aU .NotEq (aL 0 [] (b9 [vK (rK (.int 1)),rK (.int 4)]) none (aB aE [rK (.int 8),aA 0,rK .non])) (aI .Mult (cN [rK (.str "no name")]) (rK (.int 2))))
 (bV (rK (.bl false)))
 (bF))
 (bV (aU .Eq (aL 0 [7] (aF 8) (some (rOr (gR (aB bT [aA 0])) (aU .NotEq (rIx (aF 0) (rK (.int 0))) (aA 1)))) (aA 0)) (cN []))))))))))))))))
def aMi:Fn:=fnOf 11 (bA (cY 1 (aB aD [aA 0,rK (.int 0),rK (.int 5)]))
 (bA (cY 2 (aB dD [aA 0,rK (.int 10),aA 1]))
 (bA (cY 3 (aB dD [aA 0,rK (.int 50),rIf (aU .Gt (aB aD [aA 0,rK (.int 1),rK (.int 4)]) (rK (.int 0))) (aA 1) (aI .Mod (aI .Add (aA 1) (rK (.int 1))) (rK (.int 5)))]))
 (bA (cY 4 (aB rD [mW (rIx (aF 2) (rK (.int 1))) (rIx (aF 3) (rK (.int 1)))]))
 (bA (oW 5 (cN [b9 [aA 1,aB dG [aL 2 [] (aF 4) none (aI .Mult (aA 0) (aA 1))]],b9 [aA 1,aB dG [aL 2 [] (aF 4) none (aI .Sub (aI .Add (aA 0) (aA 1)) (aI .Mult (aA 0) (aA 1)))]]]))
 (bA (aB7 5 (b9 [aA 1,aB dG [aL 2 [] (aF 4) none (aI .Mod (aI .Add (aA 0) (aA 1)) (rK (.int 2)))]]))
 (bA (aLm [5] (sIf (aU .NotEq (aL 0 [2,3] (aV (rK (.int 3))) none (aB aE [aA 0,aA 1,aA 2])) (rIf (aU .Eq (rIx (aF 3) (rK (.int 0))) (aA 1)) (aA 5) (aI .Mult (cN [rK (.str "unlike")]) (rK (.int 3)))))
 (bV (rK (.bl false)))
 (bF)))
 (bA (cY 6 (aB aD [aA 0,rK (.int 2),aB iE [rIx (aF 2) (rK (.int 1))]]))
 (bA (sIf (aU .NotEq (aB aE [rK (.int 3),aA 2,aB aJ [aA 1,aA 6]]) (rIx (rIx (aF 2) (rK (.int 1))) (aA 6)))
 (bV (rK (.bl false)))
 (bF))
 (bA (cY 7 (rIx (cN [aI .Mult (b9 [rK (.int 0)]) (aI .Add (aA 1) (rK (.int 1))),rK .non,aI .Mult (cN [rK (.int 0)]) (aA 1),aI .Mult (b9 [rK (.int 2)]) (aA 1),aI .Mult (b9 [rK (.bl true)]) (aA 1)]) (aB aD [aA 0,rK (.int 3),rK (.int 5)])))
 (bA (sIf (fR (aU .Gt (aA 1) (rK (.int 0))) (aU .NotEq (aB aE [rK (.int 3),aA 2,aA 7]) (rK (.str "no name"))))
 (bV (rK (.bl false)))
 (bF))
 (bA (sIf (aU .NotEq (aB aE [rK (.int 7),aA 2,rK .non]) (aL 0 [2] (aV (aB iE [rIx (aF 2) (rK (.int 1))])) (some (aU .Eq (rIx (rIx (aF 1) (rK (.int 1))) (aA 0)) (rK (.int 1)))) (aA 0)))
 (bV (rK (.bl false)))
 (bF))
 (bA (cY 8 (cN [aB aE [rK (.int 5),rK (.int 5),rK (.int 0)],aB aE [rK (.int 5),vK (rK (.int 1)),rK (.int 0)],aB aE [rK (.int 5),rK (.int 4),rK (.int 4)],aB aE [rK (.int 4),rK (.int 5),rK (.int 1)],aB aE [rK (.int 4),vK (rK (.int 1)),rK (.int 1)]]))
 (bA (sIf (rOr (aU .NotEq (aA 8) (aI .Mult (cN [rK (.str "no name")]) (rK (.int 5)))) (gR (aB cQ [aA 0])))
 (bV (rK (.bl false)))
 (bF))
 (bA (cY 9 (aB aY [aA 0,rK (.int 130),aA 2]))
 (bA (sIf (aB bT [aA 9])
 (bV (rK (.bl true)))
 (bF))
 (bA (cY 10 (aI .Add (aL 0 [9,3] (aV (rK (.int 3))) none (aB aE [aA 0,aA 1,aA 2])) (aL 0 [9,3] (aV (rK (.int 3))) none (aB aE [aA 0,aA 2,aA 1]))))
 (bV (aU .Eq (aI .Add (aA 10) (cN [aB aE [rK (.int 3),aA 9,rK .non],aB aE [rK (.int 7),aA 9,rK .non]])) (aI .Mult (cN [rK (.str "no switch")]) (rK (.int 8))))))))))))))))))))))
open PySem
abbrev Sc(ns:List Int):D:=.lst (ns.map D.int)
theorem aBq(ns:List Int):plain (Sc ns)=true:=by
 show aK (ns.map D.int)=true;rw[bR];intro x m;obtain⟨i,_,rfl⟩:=ao.1 m;rfl
noncomputable def vF(ns:List Int)(k:Nat):Int:=if k<ns.length then ns.getD k 0 else if ns=[]then 0 else ns.getD (k % ns.length) 0*31+k
theorem aF4(ns:List Int)(k:Nat):eU [Sc ns,.int k]= .ok (.int (vF ns k)):=by
 have h0:iE [Sc ns]= .ok (.int ns.length):=by simp[iE,items]
 by_cases h:k<ns.length
 ·have e:(ns.map D.int)[k]? =some (D.int (vF ns k)):=by simp[vF,h]
  refine aQ (dA ((dJ ?_).trans (aN ((eQ rfl rfl).trans (fW e)))));refine(aX rfl ((aT rfl).trans h0)).trans ?_;simp[gC,h]
 ·refine aQ ((aC ((cP ((aX rfl ((aT rfl).trans h0)).trans ?_)).trans rfl)).trans ?_)
  ·simp[gC];lia
  have he:aU .Eq (aA 0) (cN []) [.sh (Sc ns),.sh (.int k)]= .ok (.bl (decide (ns=[]))):=by
   show gC .Eq (Sc ns) (.lst [])=_;rw[jA (fX (aBq ns) rfl (by decide))]
   cases ns<;>simp[deq,qZ]
  by_cases h1:ns=[]
  ·subst h1;exact dA ((dJ (he.trans rfl)).trans rfl)
  ·refine(aC ((cP (he.trans (by simp[h1]))).trans rfl)).trans (aN ?_)
   have l:0<ns.length:=List.length_pos_iff.2 h1
   have e:(ns.map D.int)[k % ns.length]? =some (D.int (ns.getD (k % ns.length) 0)):=by simp[Nat.mod_lt _ l]
   have e2:jI .Mod (.int k) (.int ns.length)= .ok (.int ((k % ns.length:Nat):Int)):=by
    have:(0:Int)<ns.length:=by lia
    simp[jI,eL,this];lia
   refine(aR ((aR ((eQ rfl ((aR rfl ((aT rfl).trans h0)).trans e2)).trans (fW e)) rfl).trans (aCz rfl)) rfl).trans ?_;simp[jI,eL,vF,h,h1]
def gY(ns:List Int)(k:Nat):Int:=(vF ns k+6151*(k+1))*40692 % 2147483399
def vG(ns:List Int)(k:Nat)(m:Int):Int:=(gY ns k*gY ns k+gY ns k/31) % 2147483629 % m
theorem yT(ns:List Int)(k:Nat){m:Int}(hm:0<m):aD [Sc ns,.int k,.int m]= .ok (.int (vG ns k m)):=by
 have h1:aI .Mod (aI .Mult (aI .Add (aB eU [aA 0,aA 1]) (aI .Mult (rK (.int 6151)) (aI .Add (aA 1) (rK (.int 1))))) (rK (.int 40692))) (rK (.int 2147483399)) [.sh (Sc ns),.sh (.int k),.sh (.int m),.no]= .ok (.int (gY ns k)):=by
  refine(aR ((aR ((aR ((dW rfl rfl).trans (aF4 ns k)) (y:=.int (6151*(k+1))) ?_).trans rfl) rfl).trans (?_:_=R.ok (.int ((vF ns k+6151*(k+1))*40692)))) rfl).trans ?_
  ·refine(aR rfl rfl).trans ?_;simp[jI,eL,sml]
  ·simp[jI,eL,sml]
  ·simp[jI,eL,gY]
 refine aQ ((aC (bE h1)).trans (aN ?_));unfold vG
 have hs:sml (gY ns k)=true:=by
  have:0<=gY ns k/\gY ns k<2147483399:=by unfold gY;lia
  simp[sml];lia
 generalize gY ns k=x at *
 have h2:aI .FloorDiv (aA 3) (rK (.int 31)) [.sh (Sc ns),.sh (.int k),.sh (.int m),.sh (.int (x))]= .ok (.int (x/31)):=by
  refine(aR rfl rfl).trans ?_;simp[jI,eL]
 have h3:aI .Mult (aA 3) (aA 3) [.sh (Sc ns),.sh (.int k),.sh (.int m),.sh (.int x)]= .ok (.int (x*x)):=by
  refine(aR rfl rfl).trans ?_;simp[jI,eL,hs]
 refine(aR ((aR ((aR h3 h2).trans rfl) rfl).trans (?_:_=R.ok (.int ((x*x+x/31) % 2147483629)))) rfl).trans ?_
 ·simp[jI,eL]
 ·exact lC hm
theorem sG(ns:List Int)(k:Nat){m:Int}(hm:0<m):0<=vG ns k m/\vG ns k m<m:=⟨Int.emod_nonneg _ (by lia),Int.emod_lt_of_pos _ hm⟩
def bit(d:D):Prop:=d= .int 0\/d= .int 1
theorem yU(i:Int):bit (.int (i % 2)):=by
 unfold bit;rcases(show i % 2=0\/i % 2=1 by lia)with h|h<;>simp[h]
theorem ix4{a:F}{ρ:Rho}{j:Nat}(h:a ρ= .ok (.int j))(l:j<4):rIx (cN [rK (.int 1),rK (.int 2),rK (.int 4),rK (.int 8)]) a ρ= .ok (.int ((2^j:Nat):Int)):=by
 refine(yO rfl h).trans (fW ?_);rcases(show j=0\/j=1\/j=2\/j=3 by lia)with rfl|rfl|rfl|rfl<;>rfl
theorem ix5{a:F}{ρ:Rho}{j:Nat}(h:a ρ= .ok (.int j))(l:j<=4):rIx (cN [rK (.int 1),rK (.int 2),rK (.int 4),rK (.int 8),rK (.int 16)]) a ρ= .ok (.int ((2^j:Nat):Int)):=by
 refine(yO rfl h).trans (fW ?_);rcases(show j=0\/j=1\/j=2\/j=3\/j=4 by lia)with rfl|rfl|rfl|rfl|rfl<;>rfl
theorem lG{m:Nat}(h:m<=4):1<=2^m/\2^m<=16:=by
 rcases(show m=0\/m=1\/m=2\/m=3\/m=4 by lia)with rfl|rfl|rfl|rfl|rfl<;>decide
theorem jE{m:Nat}(hm:m<=4)(k:Int): ∃xs,aJ [.int m,.int k]= .ok (.tup xs)/\xs.length=m/\∀x∈xs,bit x:=by
 obtain⟨xs,e,l,b⟩:=eS (n:=0) (cs:=[1]) (it:=aV (aA 0)) (e:=aI .Mod (aI .FloorDiv (aA 1) (rIx (cN [rK (.int 1),rK (.int 2),rK (.int 4),rK (.int 8)]) (aA 0))) (rK (.int 2))) (ρ:=[.sh (.int m),.sh (.int k)]) (ds:=n9 m) (P:=bit)
  (.inl (bQ rfl (by lia))) λd h=>by
   obtain⟨j,hj,rfl⟩:=gN h;have hp:=lG (m:=j) (by lia)
   refine⟨[.sh (.int j)],_,rfl,(aR ((aR rfl (ix4 (a:=aA 0) (j:=j) rfl (by lia))).trans (yR ?_ ?_)) rfl).trans (lC (by decide)),yU _⟩<;>lia
 exact⟨xs,aQ (aN ((cS e).trans rfl)),l.trans d8,b⟩
theorem yV: ∀{xs:List D},(∀x∈xs, ∃i,x=D.int i)->∃is:List Int,xs=is.map D.int
 |[],_=>⟨[],rfl⟩
 |x::r,h=>by
  obtain⟨i,rfl⟩:=h x (.head _);obtain⟨is,rfl⟩:=yV (xs:=r) λy m=>h y (.tail _ m)
  exact⟨i::is,rfl⟩
theorem aF5{d:D}(h:bit d): ∃i,d= .int i:=by rcases h with rfl|rfl<;>exact⟨_,rfl⟩
theorem uF(is:List Int):v0 [.lst (is.map D.int)]= .ok (.int is.sum):=by simp[v0,items,qE]
theorem aF6(is:List Int):v0 [.tup (is.map D.int)]= .ok (.int is.sum):=by simp[v0,items,qE]
theorem aJ8(a b:Int): ∃r,eV [.int a,.int b]= .ok r/\bit r:=by
 obtain⟨xs,e1,l1,b1⟩:=jE (m:=4) (by decide) a
 obtain⟨ys,e2,l2,b2⟩:=jE (m:=4) (by decide) b
 have hz:mW (aB aJ [rK (.int 4),aA 0]) (aB aJ [rK (.int 4),aA 1]) [.sh (.int a),.sh (.int b)]= .ok (.lst ((xs.zip ys).map λp=>D.tup [p.1,p.2])):=by
  have h1:aB aJ [rK (.int 4),aA 0] [.sh (.int a),.sh (.int b)]= .ok (.tup xs):=(dW rfl rfl).trans e1
  have h2:aB aJ [rK (.int 4),aA 1] [.sh (.int a),.sh (.int b)]= .ok (.tup ys):=(dW rfl rfl).trans e2
  simp[mW,h1,h2,R.bind]
 obtain⟨zs,e,l,q⟩:=eS (n:=2) (cs:=[]) (e:=aI .Mult (aA 0) (aA 1)) (P:=λx=>∃i,x=D.int i) (.inl hz) λd h=>by
  obtain⟨⟨x,y⟩,hm,rfl⟩:=ao.1 h;obtain⟨mx,my⟩:=List.of_mem_zip hm;have hx:=b1 x mx;have hy:=b2 y my;refine⟨[.sh x,.sh y],?_⟩;rcases hx with rfl|rfl<;>rcases hy with rfl|rfl<;>exact⟨_,rfl,rfl,_,rfl⟩
 obtain⟨is,rfl⟩:=yV q;exact⟨_,aQ (aN ((aR ((cS e).trans (uF is)) rfl).trans (lC (by decide)))),yU _⟩
theorem bO(ns:List Int)(k:Nat){m:Nat}(hm:0<m): ∃p:Nat,aD [Sc ns,.int k,.int m]= .ok (.int p)/\p<m:=by
 have h:(0:Int)<m:=by lia
 have r:=sG ns k h;refine⟨(vG ns k m).toNat,(yT ns k h).trans ?_,by lia⟩
 rw[Int.toNat_of_nonneg r.1]
theorem aJ9{p:Nat}(h:p<2):bit (.int p):=by
 rcases(show p=0\/p=1 by lia)with rfl|rfl
 ·exact .inl rfl
 ·exact .inr rfl
theorem aC0{ws:List D}(h: ∀w∈ws,bit w){p:Nat}(hp:p<ws.length): ∃w,dIx (.lst ws) (.int p)= .ok w/\bit w:=
 ⟨ws[p],fW (az hp),h _ (List.getElem_mem hp)⟩
theorem yW(ns:List Int)(at':Nat){m:Nat}(hm:m<=4): ∃ws,dD [Sc ns,.int at',.int m]= .ok (.tup [.int m,.tup ws])/\ws.length=2^m/\∀w∈ws,bit w:=by
 have hp:=lG hm;obtain⟨way,hw,lw⟩:=bO ns at' (m:=6) (by decide)
 -- the drawn worths
 obtain⟨ws0,e0,l0,b0⟩:=eS (n:=0) (cs:=[1,0]) (it:=aV (aA 3)) (e:=aB aD [aA 2,aI .Add (aI .Add (aA 1) (rK (.int 1))) (aA 0),rK (.int 2)]) (P:=bit) (ds:=n9 (2^m))
  (ρ:=[.sh (Sc ns),.sh (.int at'),.sh (.int m),.sh (.int (2^m:Nat)),.sh (.int way),.no,.no,.no,.no]) (.inl (bQ rfl (by lia))) λd h=>by
   obtain⟨j,hj,rfl⟩:=gN h;obtain⟨p,hp,lp⟩:=bO ns (at'+1+j) (m:=2) (by decide)
   exact⟨[.sh (.int j)],_,rfl,(bB (x:=Sc ns) (y:=.int ((at'+1+j:Nat):Int)) (z:=.int 2) rfl rfl rfl).trans hp,aJ9 lp⟩
 rw[d8]at l0
 -- the ways
 have h4: ∃ws a b,(sIf (fR (aU .Eq (aA 4) (rK (.int 0))) (aU .Gt (aA 2) (rK (.int 0))))
   (bA (cY 6 (aB aD [aA 0,aI .Add (aA 1) (rK (.int 20)),aA 3]))
    (oW 5 (aL 0 [6] (aV (aA 3)) none (aB eV [aA 1,aA 0]))))
   (sIf (aU .Eq (aA 4) (rK (.int 1)))
    (oW 5 (aL 0 [1,2,0] (aV (aA 3)) none (aB aB6 [aU .GtE (aB v0 [aB aJ [aA 2,aA 0]]) (aI .Add (rK (.int 1)) (aB aD [aA 3,aI .Add (aA 1) (rK (.int 21)),rK (.int 3)]))])))
    (sIf (fR (aU .Eq (aA 4) (rK (.int 2))) (aU .Gt (aA 2) (rK (.int 0))))
     (bA (cY 7 (aB aD [aA 0,aI .Add (aA 1) (rK (.int 22)),aA 2]))
      (oW 5 (aL 0 [7,5] (aV (aA 3)) none (rIx (aF 2) (aI .Sub (aA 0) (aI .Mult (aI .Mod (aI .FloorDiv (aA 0) (rIx (cN [rK (.int 1),rK (.int 2),rK (.int 4),rK (.int 8)]) (aA 1))) (rK (.int 2))) (rIx (cN [rK (.int 1),rK (.int 2),rK (.int 4),rK (.int 8)]) (aA 1))))))))
     (bF)))) [.sh (Sc ns),.sh (.int at'),.sh (.int m),.sh (.int (2^m:Nat)),.sh (.int way),.ow ws0,.no,.no,.no]
   = .nx [.sh (Sc ns),.sh (.int at'),.sh (.int m),.sh (.int (2^m:Nat)),.sh (.int way),.ow ws,a,b,.no]/\ws.length=2^m/\∀w∈ws,bit w:=by
  have hgt: ∀ρ:Rho,ρ[2]? =some (.sh (.int m))->aU .Gt (aA 2) (rK (.int 0)) ρ= .ok (.bl (decide (0<m))):=λρ h=>by
   refine(aX (x:=.int m) (by simp[aA,h]) rfl).trans ?_
   simp[gC]
  have hway: ∀(c:Nat) (ρ:Rho),ρ[4]? =some (.sh (.int way))->aU .Eq (aA 4) (rK (.int c)) ρ= .ok (.bl (decide (way=c))):=λc ρ h=>by
   refine(aX (x:=.int way) (by simp[aA,h]) rfl).trans ?_
   rw[jA rfl];show R.ok (.bl ((way:Int)==(c:Int)))=_
   congr 2;rw[Bool.eq_iff_iff];simp;lia
  have hand: ∀c:Nat,fR (aU .Eq (aA 4) (rK (.int c))) (aU .Gt (aA 2) (rK (.int 0))) [.sh (Sc ns),.sh (.int at'),.sh (.int m),.sh (.int (2^m:Nat)),.sh (.int way),.ow ws0,.no,.no,.no]= .ok (.bl (decide (way=c/\0<m))):=λc=>by
   by_cases h:way=c
   ·refine(iM ((hway c _ rfl).trans (by simp[h]))).trans ((hgt _ rfl).trans (by simp[h]))
   ·refine(uD ((hway c _ rfl).trans (by simp[h]))).trans (by simp[h])
  by_cases w0:way=0/\0<m
  ·obtain⟨mask,hk,lk⟩:=bO ns (at'+20) (m:=2^m) (by lia)
   obtain⟨ws,e,l,b⟩:=eS (n:=0) (cs:=[6]) (it:=aV (aA 3)) (e:=aB eV [aA 1,aA 0]) (P:=bit) (ds:=n9 (2^m))
    (ρ:=[.sh (Sc ns),.sh (.int at'),.sh (.int m),.sh (.int (2^m:Nat)),.sh (.int way),.ow ws0,.sh (.int mask),.no,.no]) (.inl (bQ rfl (by lia))) λd h=>by
     obtain⟨j,hj,rfl⟩:=gN h;obtain⟨r,hr,br⟩:=aJ8 mask j;exact⟨[.sh (.int j)],_,rfl,(dW rfl rfl).trans hr,br⟩
   refine⟨ws,.sh (.int mask),.no,(dJ ((hand 0).trans (by simp[w0]))).trans ((aC (bE ((bB rfl rfl rfl).trans hk))).trans (i9 e)),l.trans d8,b⟩
  by_cases w1:way=1
  ·obtain⟨q,hq,lq⟩:=bO ns (at'+21) (m:=3) (by lia)
   obtain⟨ws,e,l,b⟩:=eS (n:=0) (cs:=[1,2,0]) (it:=aV (aA 3)) (e:=aB aB6 [aU .GtE (aB v0 [aB aJ [aA 2,aA 0]]) (aI .Add (rK (.int 1)) (aB aD [aA 3,aI .Add (aA 1) (rK (.int 21)),rK (.int 3)]))]) (P:=bit) (ds:=n9 (2^m))
    (ρ:=[.sh (Sc ns),.sh (.int at'),.sh (.int m),.sh (.int (2^m:Nat)),.sh (.int way),.ow ws0,.no,.no,.no]) (.inl (bQ rfl (by lia))) λd h=>by
     obtain⟨j,hj,rfl⟩:=gN h;obtain⟨xs,hs,ls,bs⟩:=jE hm j;obtain⟨is,rfl⟩:=yV λx m=>aF5 (bs x m)
     refine⟨[.sh (.int j)],_,rfl,(aT ((aX ((aT ((dW rfl rfl).trans hs)).trans (aF6 is)) ((aR rfl ((bB rfl rfl rfl).trans hq)).trans rfl)).trans rfl)).trans rfl,?_⟩;unfold b2i;split
     ·exact .inr rfl
     ·exact .inl rfl
   refine⟨ws,.no,.no,(cP ((hand 0).trans (by simp[w0]))).trans ((dJ ((hway 1 _ rfl).trans (by simp[w1]))).trans (i9 e)),l.trans d8,b⟩
  by_cases w2:way=2/\0<m
  ·obtain⟨nm,hk,lk⟩:=bO ns (at'+22) (m:=m) (by lia)
   obtain⟨ws,e,l,b⟩:=eS (n:=0) (cs:=[7,5]) (it:=aV (aA 3)) (e:=rIx (aF 2) (aI .Sub (aA 0) (aI .Mult (aI .Mod (aI .FloorDiv (aA 0) (rIx (cN [rK (.int 1),rK (.int 2),rK (.int 4),rK (.int 8)]) (aA 1))) (rK (.int 2))) (rIx (cN [rK (.int 1),rK (.int 2),rK (.int 4),rK (.int 8)]) (aA 1))))) (P:=bit) (ds:=n9 (2^m))
    (ρ:=[.sh (Sc ns),.sh (.int at'),.sh (.int m),.sh (.int (2^m:Nat)),.sh (.int way),.ow ws0,.no,.sh (.int nm),.no]) (.inl (bQ rfl (by lia))) λd h=>by
     obtain⟨j,hj,rfl⟩:=gN h;have hpn:=lG (m:=nm) (by lia)
     have hle:j/2^nm % 2*2^nm<=j:=Nat.le_trans (Nat.mul_le_mul_right _ (Nat.mod_le _ _)) (Nat.div_mul_le_self ..)
     obtain⟨w,hw,bw⟩:=aC0 b0 (p:=j-j/2^nm % 2*2^nm) (by lia)
     refine⟨[.sh (.int j)],w,rfl,(eQ (x:=.lst ws0) (y:=.int (j-j/2^nm % 2*2^nm:Nat)) rfl ?_).trans hw,bw⟩;refine(aR rfl ((aR ((aR ((aR rfl (ix4 (a:=aA 1) (j:=nm) rfl (by lia))).trans (yR (by lia) (by lia))) rfl).trans (lC (by decide))) (ix4 (a:=aA 1) (j:=nm) rfl (by lia))).trans (aCz (aJ7 (by lia) (by lia))))).trans ?_
     show R.ok (D.int ((j:Int)-(j:Int)/((2^nm:Nat):Int) % 2*((2^nm:Nat):Int)))=_;rw[Int.ofNat_sub hle,Int.natCast_mul,Int.natCast_emod,Int.natCast_ediv];rfl
   refine⟨ws,.no,.sh (.int nm),(cP ((hand 0).trans (by simp[w0]))).trans ((cP ((hway 1 _ rfl).trans (by simp[w1]))).trans ((dJ ((hand 2).trans (by simp[w2]))).trans ((aC (bE ((bB rfl rfl rfl).trans hk))).trans (i9 e)))),l.trans d8,b⟩
  ·exact⟨ws0,.no,.no,(cP ((hand 0).trans (by simp[w0]))).trans ((cP ((hway 1 _ rfl).trans (by simp[w1]))).trans ((cP ((hand 2).trans (by simp[w2]))).trans rfl)),l0,b0⟩
 obtain⟨ws1,a,b,e1,l1,b1⟩:=h4
 -- one worth turned
 have h5: ∃ws c,(sIf (fR (aU .Lt (aA 4) (rK (.int 3))) (aU .Eq (aB aD [aA 0,aI .Add (aA 1) (rK (.int 23)),rK (.int 3)]) (rK (.int 0))))
   (bA (cY 8 (aB aD [aA 0,aI .Add (aA 1) (rK (.int 24)),aA 3]))
    (aDr 5 (aA 8) (aI .Sub (rK (.int 1)) (rIx (aF 5) (aA 8)))))
   (bF)) [.sh (Sc ns),.sh (.int at'),.sh (.int m),.sh (.int (2^m:Nat)),.sh (.int way),.ow ws1,a,b,.no]
   = .nx [.sh (Sc ns),.sh (.int at'),.sh (.int m),.sh (.int (2^m:Nat)),.sh (.int way),.ow ws,a,b,c]/\ws.length=2^m/\∀w∈ws,bit w:=by
  obtain⟨q,hq,lq⟩:=bO ns (at'+23) (m:=3) (by lia)
  have hc: ∃t,fR (aU .Lt (aA 4) (rK (.int 3))) (aU .Eq (aB aD [aA 0,aI .Add (aA 1) (rK (.int 23)),rK (.int 3)]) (rK (.int 0))) [.sh (Sc ns),.sh (.int at'),.sh (.int m),.sh (.int (2^m:Nat)),.sh (.int way),.ow ws1,a,b,.no]= .ok (.bl t):=by
   have h1:aU .Lt (aA 4) (rK (.int 3)) [.sh (Sc ns),.sh (.int at'),.sh (.int m),.sh (.int (2^m:Nat)),.sh (.int way),.ow ws1,a,b,.no]= .ok (.bl (decide ((way:Int)<3))):=rfl
   by_cases hh:(way:Int)<3
   ·exact⟨_,(iM (h1.trans (by simp[hh]))).trans ((aX ((bB rfl rfl rfl).trans hq) rfl).trans (jA rfl))⟩
   ·exact⟨_,uD (h1.trans (by simp[hh]))⟩
  obtain⟨t,ht⟩:=hc
  cases t with
  |false=>exact⟨ws1,.no,(cP ht).trans rfl,l1,b1⟩
  |true=>
   obtain⟨pl,hl,ll⟩:=bO ns (at'+24) (m:=2^m) (by lia)
   obtain⟨w,hw,bw⟩:=aC0 b1 (p:=pl) (by lia)
   have hb: ∃v,jI .Sub (.int 1) w= .ok v/\bit v:=by
    rcases bw with rfl|rfl
    ·exact⟨_,rfl,.inr rfl⟩
    ·exact⟨_,rfl,.inl rfl⟩
   obtain⟨v,hv,bv⟩:=hb;refine⟨ws1.set pl v,.sh (.int pl),(dJ ht).trans ((aC (bE ((bB rfl rfl rfl).trans hl))).trans ?_),by simp[l1],λx mx=>?_⟩
   ·have hx:(aI .Sub (rK (.int 1)) (rIx (aF 5) (aA 8))) [.sh (Sc ns),.sh (.int at'),.sh (.int m),.sh (.int (2^m:Nat)),.sh (.int way),.ow ws1,a,b,.sh (.int pl)]= .ok v:=(aR rfl ((eQ rfl rfl).trans hw)).trans hv
    have hi:ixD ws1.length (pl:Int)=some pl:=by simp[ixD];lia
    show aDr 5 (aA 8) (aI .Sub (rK (.int 1)) (rIx (aF 5) (aA 8))) [.sh (Sc ns),.sh (.int at'),.sh (.int m),.sh (.int (2^m:Nat)),.sh (.int way),.ow ws1,a,b,.sh (.int pl)]=_;unfold aDr;rw[hx];simp[iA,aA,hi]
   ·rcases List.mem_or_eq_of_mem_set mx with h|rfl
    ·exact b1 x h
    ·exact bv
 obtain⟨ws2,c,e2,l2,b2⟩:=h5;refine⟨ws2,aQ ((aC (bE (ix5 (a:=aA 2) (j:=m) rfl hm))).trans ((aC (bE ((bB rfl rfl rfl).trans hw))).trans ((aC (i9 e0)).trans ((aC e1).trans ((aC e2).trans (aN (qG rfl ((aT rfl).trans rfl)))))))),l2,b2⟩
def wb(b:Int):D->Bool
 |.int i=>decide (0<=i)&&decide (i<b)
 |_=>false
theorem hZ{x:D}(b:Int)(h:plain x=true):aS [x,.int b]= .ok (.bl (wb b x)):=by
 cases x with
 |int i=>
  exact aQ (aN ((iM rfl).trans (yQ (i:=0) (j:=i) (k:=b) rfl rfl rfl)))
 |exc c=>exact absurd h (by simp[plain])
 |fn c=>exact absurd h (by simp[plain])
 |_=>rfl
theorem qJ{x:D}{ds:List D}(b:Int)(hx:x= .tup ds\/x= .lst ds)(h:aK ds=true):bS [x,.int b]= .ok (.bl (ds.all (wb b))):=by
 have e:aL 0 [1] (aF 0) none (aB aS [aA 0,aA 1]) [.sh x,.sh (.int b)]= .ow (ds.map λd=>.bl (wb b d)):=
  lB (by rcases hx with rfl|rfl;exact .inr (.inl rfl);exact .inl rfl) λd m=>(dW rfl rfl).trans (hZ b (bR.1 h d m))
 exact aQ (aN ((cS e).trans aJ6))
def zJ(n b:Int):D->Bool
 |.tup ws=>decide ((ws.length:Int)=n)&&ws.all (wb b)
 |_=>false
theorem aF7(i j:Int):gC .Eq (.int i) (.int j)= .ok (.bl (decide (i=j))):=by
 rw[jA (x:=.int i) (y:=.int j) rfl];show R.ok (.bl (i==j))=_
 congr 2
theorem yX(i j:Int):gC .NotEq (.int i) (.int j)= .ok (.bl (!decide (i=j))):=by
 rw[jB (x:=.int i) (y:=.int j) rfl];show R.ok (.bl (!(i==j)))=_
 congr 2
theorem lH{x:D}(n b:Int)(h:plain x=true):iO [x,.int n,.int b]= .ok (.bl (zJ n b x)):=by
 cases x with
 |tup ws=>
  refine aQ (aN ((iM rfl).trans ?_))
  have e:aU .Eq (aB iE [aF 0]) (aA 1) [.sh (.tup ws),.sh (.int n),.sh (.int b)]= .ok (.bl (decide ((ws.length:Int)=n))):=(aX rfl rfl).trans (aF7 _ _)
  by_cases hl:(ws.length:Int)=n
  ·exact(iM (e.trans (by simp[hl]))).trans ((dW rfl rfl).trans ((qJ b (.inl rfl) h).trans (by simp[zJ,hl])))
  ·exact(uD (e.trans (by simp[hl]))).trans (by simp[zJ,hl])
 |exc c=>exact absurd h (by simp[plain])
 |fn c=>exact absurd h (by simp[plain])
 |_=>rfl
theorem uG{m:Nat}(h:m<=4):aM [.int m]= .ok (.int (2^m:Nat)):=by
 rcases(show m=0\/m=1\/m=2\/m=3\/m=4 by lia)with rfl|rfl|rfl|rfl|rfl<;>rfl
def qK:D->Bool
 |.tup [a,b]=>wb 5 a&&(match a with|.int m=>zJ (2^m.toNat:Nat) 2 b|_=>false)
 |_=>false
theorem aC1{b:Int}{x:D}(h:wb b x=true): ∃m:Nat,x= .int m/\(m:Int)<b:=by
 cases x with
 |int i=>
  simp[wb]at h;exact⟨i.toNat,by rw[Int.toNat_of_nonneg h.1],by lia⟩
 |_=>simp[wb]at h
theorem eW{d:D}(h:plain d=true):fI [d]= .ok (.bl (qK d)):=by
 cases d with
 |tup xs=>
  have hl:aU .NotEq (aB iE [aF 0]) (rK (.int 2)) [.sh (.tup xs)]= .ok (.bl (!decide ((xs.length:Int)=2))):=(aX rfl rfl).trans (yX _ _)
  by_cases l2:xs.length=2
  ·obtain⟨a,b,rfl⟩: ∃a b,xs=[a,b]:=by
    match xs,l2 with
    |[a,b],_=>exact⟨a,b,rfl⟩
   have hp:plain a=true/\plain b=true:=by simpa[plain,aK]using h
   have hm:aB eT [rIx (aF 0) (rK (.int 0))] [.sh (.tup [a,b])]= .ok (.bl (wb 5 a)):=(aT rfl).trans (aQ (aN ((dW rfl rfl).trans (hZ 5 hp.1))))
   have hc:rOr (gR (rIs (dH) (aA 0))) (rOr (aU .NotEq (aB iE [aF 0]) (rK (.int 2))) (gR (aB eT [rIx (aF 0) (rK (.int 0))]))) [.sh (.tup [a,b])]= .ok (.bl (!wb 5 a)):=
    (eR rfl).trans ((eR (hl.trans rfl)).trans (eJ hm))
   cases hw:wb 5 a with
   |false=>exact aQ (dA ((dJ (hc.trans (by rw[hw];rfl))).trans (aN (by simp[qK,hw,rK])))) 
   |true=>
    obtain⟨m,rfl,lm⟩:=aC1 hw;refine aQ ((aC ((cP (hc.trans (by rw[hw];rfl))).trans rfl)).trans (aN ((bB rfl ((aT rfl).trans (uG (by lia))) rfl).trans ((lH _ _ hp.2).trans ?_))))
    simp[qK,hw]
  ·refine aQ (dA ((dJ ((eR rfl).trans (yP (hl.trans ?_)))).trans (aN ?_)))
   ·have: ¬(xs.length:Int)=2:=by lia
    simp[this]
   ·match xs,l2 with
    |[],_=>rfl
    |[_],_=>rfl
    |_::_::_::_,_=>rfl
    |[_,_],h=>exact absurd rfl h
 |exc c=>exact absurd h (by simp[plain])
 |fn c=>exact absurd h (by simp[plain])
 |_=>rfl
theorem f8{d:D}(h:plain d=true)(s:qK d=true):bI [d]= .ok .non:=
 sF (ρ:=[.sh d]) ((cP ((eJ ((aT rfl).trans (eW h))).trans (by rw[s];rfl))).trans rfl)
theorem nT{d:D}(h:plain d=true)(s:qK d=false):bI [d]= .ex 1:=
 eI (ρ:=[.sh d]) ((dJ ((eJ ((aT rfl).trans (eW h))).trans (by rw[s];rfl))).trans rfl)
def tn:D->D
 |.int i=>.int (1-i)
 |d=>d
theorem jF{d:D}(h:bit d):plain d=true/\dep d=0:=by rcases h with rfl|rfl<;>exact⟨rfl,rfl⟩
theorem mO{ws:List D}(h: ∀w∈ws,bit w):aK ws=true:=bR.2 λx m=>(jF (h x m)).1
theorem aF8{m:Nat}{ws:List D}(hm:m<=4)(l:ws.length=2^m)(h: ∀w∈ws,bit w):qK (.tup [.int m,.tup ws])=true:=by
 have h1:wb 5 (.int m)=true:=by simp[wb];lia
 have h2:ws.all (wb 2)=true:=by
  rw[List.all_eq_true];intro w mw;rcases h w mw with rfl|rfl<;>rfl
 have h3:qK (.tup [.int m,.tup ws])=(wb 5 (.int m)&&(decide ((ws.length:Int)=(2^m:Nat))&&ws.all (wb 2))):=rfl
 rw[h3,h1,h2,decide_eq_true (by rw[l])];rfl
theorem aBr{m:Nat}{ws:List D}(h: ∀w∈ws,bit w):plain (.tup [.int m,.tup ws])=true:=by
 simp[plain,aK,mO h]
end SK.k02
namespace SK
open PySem
theorem gP{n:Nat}{cs:List Nat}{it e:F}{c:Option F}{ρ:Rho}{ds xs:List D}(hi:it ρ= .ok (.lst ds)\/it ρ= .ok (.tup ds)\/it ρ= .ow ds)(h:bL (cW n (iT cs ρ) c e) ds=some xs):aL n cs it c e ρ= .ow xs:=by
 rcases hi with hi|hi|hi<;>simp[aL,hi,R.bind,iC,items,h]
theorem yY{a b:F}{ρ:Rho}{xs ys:List D}(h:a ρ= .ok (.tup xs))(k:b ρ= .ok (.tup ys)):mW a b ρ= .ok (.lst ((xs.zip ys).map λp=>D.tup [p.1,p.2])):=by simp[mW,h,k,R.bind]
theorem qL{a:F}{ρ:Rho}{xs:List D}(h:a ρ= .ok (.tup xs)):oV a ρ= .ok (.lst (xs.zipIdx.map λp=>D.tup [.int (p.2:Nat),p.1])):=by simp[oV,h,R.bind,items]
theorem lI{tab:List (Nat×Fn)}{g a b:F}{ρ:Rho}{j:Nat}{F':Fn}{x y:D}(hg:g ρ= .ok (.fn j))(ht:tab[j]? =some (2,F'))(h:a ρ= .ok x)(k:b ρ= .ok y):iD tab g [a,b] ρ=F' [x,y]:=by
 simp[iD,hg,R.bind,ht,lK,args,h,k,RA.cons,RA.then]
def bD(b:Bool):D:=.int (b2i b)
end SK
namespace SK.k02
open SK PySem
def sw(m:Nat)(bs:List Bool):D:=.tup [.int m,.tup (bs.map bD)]
def oA(m:Nat)(bs:List Bool):Prop:=m<=4/\bs.length=2^m
theorem aKa(b:Bool):bit (bD b):=by
 cases b
 ·exact .inl rfl
 ·exact .inr rfl
theorem yZ: ∀{ws:List D},(∀w∈ws,bit w)->∃bs:List Bool,ws=bs.map bD
 |[],_=>⟨[],rfl⟩
 |w::r,h=>by
  obtain⟨bs,rfl⟩:=yZ (ws:=r) λx m=>h x (.tail _ m)
  rcases h w (.head _)with rfl|rfl
  ·exact⟨false::bs,rfl⟩
  ·exact⟨true::bs,rfl⟩
theorem lJ(bs:List Bool): ∀w∈bs.map bD,bit w:=λw m=>by obtain⟨b,_,rfl⟩:=ao.1 m;exact aKa b
theorem f9{m:Nat}{bs:List Bool}(g:oA m bs):qK (sw m bs)=true:=aF8 g.1 (by simpa using g.2) (lJ bs)
theorem jG(m:Nat)(bs:List Bool):plain (sw m bs)=true:=aBr (lJ bs)
theorem aC2(m:Nat)(bs:List Bool):dep (sw m bs)<=60:=by
 have:=lE λx mx=>(jF (lJ bs x mx)).2
 simp[sw,dep,mV,this]
theorem aMj{m:Nat}{a b:List Bool}(h:a=b):gC .NotEq (sw m a) (sw m b)= .ok (.bl false):=by
 subst h;rw[jB (fX (jG m a) (jG m a) (aC2 m a)),iN _ (jG m a)];rfl
theorem uH(ns:List Int)(at':Nat){m:Nat}(hm:m<=4): ∃bs,oA m bs/\dD [Sc ns,.int at',.int m]= .ok (sw m bs):=by
 obtain⟨ws,e,l,b⟩:=yW ns at' hm;obtain⟨bs,rfl⟩:=yZ b;exact⟨bs,⟨hm,by simpa using l⟩,e⟩
theorem nU{m:Nat}{a b:List Bool}(g:oA m a)(h:oA m b):bC [sw m a,sw m b]= .ok .non:=by
 refine sF (ρ:=[.sh (sw m a),.sh (sw m b)]) ((aC (cU ((aT rfl).trans (f8 (jG m a) (f9 g))))).trans ((aC (cU ((aT rfl).trans (f8 (jG m b) (f9 h))))).trans ((cP ((aX (x:=.int m) (y:=.int m) rfl rfl).trans ?_)).trans rfl)));rw[yX];simp
theorem nV{op:Operator}{f:Bool->Bool->Bool}{m:Nat}{a b:List Bool}(hop: ∀x y,jI op (bD x) (bD y)= .ok (bD (f x y))):
  aL 2 [] (mW (rIx (aF 0) (rK (.int 1))) (rIx (aF 1) (rK (.int 1)))) none (aI op (aA 0) (aA 1)) [.sh (sw m a),.sh (sw m b)]= .ow ((List.zipWith f a b).map bD):=by
 refine gP (.inl (yY rfl rfl)) ?_
 have: ∀(a b:List Bool),bL (cW 2 (iT [] [.sh (sw m a),.sh (sw m b)]) none (aI op (aA 0) (aA 1))) (((a.map bD).zip (b.map bD)).map λp=>D.tup [p.1,p.2])=some ((List.zipWith f a b).map bD):=by
  intro a
  induction a with
  |nil=>intro b;rfl
  |cons x a ih=>
   intro b
   cases b with
   |nil=>rfl
   |cons y b=>
    have:=ih b
    simp only[iT,List.map_nil]at this ⊢;simp only[List.map_cons,List.zip_cons_cons,List.zipWith_cons_cons,bL]
    rw[show cW 2 [] none (aI op (aA 0) (aA 1)) (D.tup [bD x,bD y])=some (some (bD (f x y))) from by
     have h1:aI op (aA 0) (aA 1) [.sh (bD x),.sh (bD y)]= .ok (bD (f x y)):=(aR rfl rfl).trans (hop x y)
     simp[cW,tgt,h1]]
    simp[this]
 exact this a b
theorem aF9{m:Nat}{a b:List Bool}(g:oA m a)(h:oA m b):fZ [sw m a,sw m b]= .ok (sw m (List.zipWith (· && ·) a b)):=
 aQ ((aC (cU ((dW rfl rfl).trans (nU g h)))).trans (aN (qG rfl ((cS (nV λx y=>by cases x<;>cases y<;>rfl)).trans rfl))))
theorem y0{m:Nat}{a b:List Bool}(g:oA m a)(h:oA m b):iP [sw m a,sw m b]= .ok (sw m (List.zipWith (· || ·) a b)):=
 aQ ((aC (cU ((dW rfl rfl).trans (nU g h)))).trans (aN (qG rfl ((cS (nV λx y=>by cases x<;>cases y<;>rfl)).trans rfl))))
theorem y6{m:Nat}{a b:List Bool}(g:oA m a)(h:oA m b):iQ [sw m a,sw m b]= .ok (sw m (List.zipWith (· ^^ ·) a b)):=
 aQ ((aC (cU ((dW rfl rfl).trans (nU g h)))).trans (aN (qG rfl ((cS (nV λx y=>by cases x<;>cases y<;>rfl)).trans rfl))))
theorem aGa{m:Nat}(hm:m<=4):dC [.int m]= .ok .non:=by
 refine sF (ρ:=[.sh (.int m)]) ((cP ((eJ ((aT rfl).trans (aQ (aN ((dW rfl rfl).trans (hZ 5 rfl)))))).trans ?_)).trans rfl)
 have:wb 5 (.int m)=true:=by simp[wb];lia
 rw[this];rfl
end SK.k02
namespace SK
theorem d6{α:Type}{f:D->Option (Option D)}{h:α->D}{p:α->Bool}{q:α->D}: ∀{L:List α},(∀x∈L,f (h x)=some (if p x then some (q x)else none))->bL f (L.map h)=some ((L.filter p).map q)
 |[],_=>rfl
 |x::r,k=>by
  have ih:=d6 (L:=r) λy m=>k y (.tail _ m)
  have a:=k x (.head _)
  cases hp:p x<;>simp[bL,a,hp,ih]
end SK
namespace SK.k02
open SK PySem
noncomputable def vH(a:List Bool):List Nat:=(a.zipIdx.filter (·.1)).map (·.2)
def cI(js:List Nat):List D:=js.map λ(k:Nat)=>D.int (k:Int)
theorem aGb{m:Nat}{a:List Bool}(g:oA m a):lF [sw m a]= .ow (cI (vH a)):=by
 refine yN ((aC (cU ((aT rfl).trans (f8 (jG m a) (f9 g))))).trans (yM ?_))
 have hl:((a.map bD).zipIdx.map λp=>D.tup [.int (p.2:Nat),p.1])=a.zipIdx.map λp=>D.tup [.int (p.2:Nat),bD p.1]:=by
  rw[List.zipIdx_map];simp
 refine gP (ds:=a.zipIdx.map λp=>D.tup [.int (p.2:Nat),bD p.1]) (.inl ((qL rfl).trans (by rw[hl]))) ?_
 rw[d6 (p:=(·.1)) (q:=λp=>D.int (p.2:Nat)) λp mp=>?_]
 ·simp[cI,vH]
 ·obtain⟨b,i⟩:=p
  cases b<;>rfl
theorem vI{m:Nat}(hm:m<=4){js:List Nat}(hj: ∀j∈js,j<2^m):iR [.int m,.lst (cI js)]= .ok (sw m ((List.range (2^m)).map λk=>js.contains k)):=by
 have hp:=lG hm
 have pj:aK (cI js)=true:=bR.2 λx mx=>by obtain⟨i,_,rfl⟩:=ao.1 mx;rfl
 have hb:(cI js).all (wb ((2^m:Nat):Int))=true:=by
  rw[List.all_eq_true];intro x mx;obtain⟨i,mi,rfl⟩:=ao.1 mx
  have:=hj i mi
  simp only[wb,ar,decide_eq_true_eq];lia
 refine aQ ((aC (cU ((aT rfl).trans (aGa hm)))).trans ((aC (bE ((aT rfl).trans (uG hm)))).trans ((aC ((cP ((eR rfl).trans ((eJ ((dW rfl rfl).trans (qJ _ (.inr rfl) pj))).trans (by rw[hb];rfl)))).trans rfl)).trans (aN (qG rfl ((cS (x:=((List.range (2^m)).map λk=>js.contains k).map bD) ?_).trans rfl))))))
 have e:=lB (cs:=[1]) (it:=aV (aA 2)) (e:=rIf (aU .In (aA 0) (aA 1)) (rK (.int 1)) (rK (.int 0))) (ρ:=[.sh (.int m),.sh (.lst (cI js)),.sh (.int (2^m:Nat))]) (ds:=n9 (2^m)) (g:=λd=>match d with|.int i=>bD (js.contains i.toNat)|d=>d)
  (.inl (bQ rfl (by lia))) λd md=>by
   obtain⟨k,hk,rfl⟩:=gN md
   have hin:aU .In (aA 0) (aA 1) [.sh (.int k),.sh (.lst (cI js))]= .ok (.bl (js.contains k)):=by
    refine(aX (x:=.int k) (y:=.lst (cI js)) rfl rfl).trans ?_
    have h1:lU (.int k) (cI js)=true:=by
     unfold lU;rw[List.all_eq_true];intro y my;obtain⟨i,_,rfl⟩:=ao.1 my;rfl
    have h2:((cI js).any λy=>deq y (.int k))=js.contains k:=by
     rw[Bool.eq_iff_iff,List.any_eq_true,List.contains_iff_mem];constructor
     ·rintro⟨y,my,e⟩;obtain⟨i,mi,rfl⟩:=ao.1 my
      have:(i:Int)=(k:Int):=by simpa[deq]using e
      have:i=k:=by lia
      exact this▸mi
     ·intro mk;exact⟨_,ao.2 ⟨k,mk,rfl⟩,by simp[deq]⟩
    simp[gC,items,h1,h2]
   show rIf _ _ _ [.sh (.int k),.sh (.lst (cI js))]= .ok (bD (js.contains ((k:Int)).toNat));rw[Int.toNat_natCast]
   cases hc:js.contains k with
   |true=>exact(qF (hin.trans (by rw[hc]))).trans rfl
   |false=>exact(aBp (hin.trans (by rw[hc]))).trans rfl
 refine e.trans ?_;simp only[n9,List.map_map]
 congr 1
noncomputable def qM:List Bool->Nat
 |[]=>0
 |b::r=>(if b then 1 else 0)+2*qM r
theorem y8: ∀s:List Bool,qM s<2^s.length
 |[]=>by simp[qM]
 |b::r=>by
  have:=y8 r
  simp only[qM,bo,Nat.pow_succ]
  split<;>lia
theorem aGc(s:List Bool)(k:Nat):((s.zipIdx k).map λp=>b2i p.1*(2:Int)^p.2).sum=(2:Int)^k*(qM s:Int):=by
 induction s generalizing k with
 |nil=>simp[qM]
 |cons b r ih=>
  simp only[List.zipIdx_cons,List.map_cons,List.sum_cons,ih,qM];rw[Int.pow_succ];cases b
  ·simp only[b2i,aw,if_false,Int.zero_mul,Int.zero_add,Nat.zero_add,Int.natCast_mul];rw[Int.mul_assoc];rfl
  ·simp only[b2i,if_true,Int.one_mul,Int.natCast_add,Int.natCast_mul];rw[Int.mul_add,Int.mul_assoc];simp
theorem y9{s:List Bool}(hl:s.length<=4):fH [.tup (s.map bD)]= .ok (.int (qM s)):=by
 have hl2:((s.map bD).zipIdx.map λp=>D.tup [.int (p.2:Nat),p.1])=s.zipIdx.map λp=>D.tup [.int (p.2:Nat),bD p.1]:=by
  rw[List.zipIdx_map];simp
 have e:aL 2 [] (oV (aA 0)) none (aI .LShift (aA 1) (aA 0)) [.sh (.tup (s.map bD))]= .ow ((s.zipIdx.map λp=>b2i p.1*(2:Int)^p.2).map D.int):=by
  refine gP (ds:=s.zipIdx.map λp=>D.tup [.int (p.2:Nat),bD p.1]) (.inl ((qL rfl).trans (by rw[hl2]))) ?_
  rw[d6 (p:=λ_=>true) (q:=λp=>D.int (b2i p.1*(2:Int)^p.2)) λp mp=>?_]
  ·have hf:s.zipIdx.filter (λ_=>true)=s.zipIdx:=by rw[List.filter_eq_self];intros;rfl
   rw[hf];simp
  ·obtain⟨b,i⟩:=p
   have hi:i<s.length:=by
    have:=List.mem_zipIdx_iff_getElem?.1 mp
    exact(av.1 this).1
   have h1:aI .LShift (aA 1) (aA 0) [.sh (.int (i:Nat)),.sh (bD b)]= .ok (.int (b2i b*(2:Int)^i)):=by
    refine(aR (x:=bD b) (y:=.int (i:Nat)) rfl rfl).trans ?_
    have hs:sml (b2i b)=true:=by cases b<;>rfl
    have:(0:Int)<=(i:Int)/\(i:Int)<=1000/\sml (b2i b)=true:=⟨by lia,by lia,hs⟩
    simp[jI,bD,eL,this]
   simp[cW,tgt,iT,h1]
 refine aQ (aN ((cS e).trans ((uF _).trans ?_)));rw[aGc];simp
theorem aBs{m:Nat}{a s:List Bool}(g:oA m a)(hs:s.length=m): ∃h:qM s<a.length,dZ [sw m a,.tup (s.map bD)]= .ok (bD a[qM s]):=by
 have hn:qM s<a.length:=by rw[g.2, <-hs];exact y8 s
 refine⟨hn,?_⟩
 have hp:plain (.tup (s.map bD))=true:=mO (lJ s)
 have hr:zJ m 2 (.tup (s.map bD))=true:=by
  simp only[zJ,ar,decide_eq_true_eq,am,hs,List.all_eq_true,true_and];intro w mw;rcases lJ s w mw with rfl|rfl<;>rfl
 refine aQ ((aC (cU ((aT rfl).trans (f8 (jG m a) (f9 g))))).trans ((aC ((cP ((eJ ((bB rfl rfl rfl).trans (lH m 2 hp))).trans (by rw[hr];rfl))).trans rfl)).trans (aN ((eQ (x:=.tup (a.map bD)) (y:=.int (qM s)) rfl ((aT rfl).trans (y9 (by have:=g.1;lia)))).trans (hX ?_)))))
 simp[hn]
theorem vJ{x:D}(h:plain x=true):dF [x]= .ok (.bl (wb 2 x)):=by
 cases x with
 |int i=>
  refine aQ (aN ((iM rfl).trans ((iM rfl).trans ((qH (i:=0) (j:=i) (k:=1) rfl rfl rfl).trans ?_))))
  have:decide (i<=1)=decide (i<2):=by simp only[decide_eq_decide];lia
  simp[wb,this]
 |exc c=>exact absurd h (by simp[plain])
 |fn c=>exact absurd h (by simp[plain])
 |_=>rfl
theorem nW{d:D}(h:plain d=true):bT [d]= .ok (.bl (qK d)):=by
 cases d with
 |tup xs=>
  have hl:aU .NotEq (aB iE [aF 0]) (rK (.int 2)) [.sh (.tup xs)]= .ok (.bl (!decide ((xs.length:Int)=2))):=(aX rfl rfl).trans (yX _ _)
  by_cases l2:xs.length=2
  ·obtain⟨a,b,rfl⟩: ∃a b,xs=[a,b]:=by
    match xs,l2 with
    |[a,b],_=>exact⟨a,b,rfl⟩
   have hp:plain a=true/\plain b=true:=by simpa[plain,aK]using h
   cases a with
   |int m=>
    refine aQ ((aC ((cP ((eR rfl).trans ((eR (hl.trans rfl)).trans ((eR rfl).trans rfl)))).trans rfl)).trans ?_)
    have hch:gR (dS .LtE .LtE (rK (.int 0)) (rIx (aF 0) (rK (.int 0))) (rK (.int 4))) [.sh (.tup [.int m,b])]= .ok (.bl (!wb 5 (.int m))):=by
     refine eJ ((qH (i:=0) (j:=m) (k:=4) rfl rfl rfl).trans ?_)
     have:decide (m<=4)=decide (m<5):=by simp only[decide_eq_decide];lia
     simp[wb,this]
    cases hw:wb 5 (.int m)with
    |false=>exact dA ((dJ ((yP (hch.trans (by rw[hw];rfl))).trans rfl)).trans (aN (by simp[qK,hw,rK])))
    |true=>
     obtain⟨k,hk,lk⟩:=aC1 hw;cases hk
     cases b with
     |tup ws=>
      have e:aU .NotEq (aB iE [rIx (aF 0) (rK (.int 1))]) (rIx (cN [rK (.int 1),rK (.int 2),rK (.int 4),rK (.int 8),rK (.int 16)]) (rIx (aF 0) (rK (.int 0)))) [.sh (.tup [.int k,.tup ws])]= .ok (.bl (!decide ((ws.length:Int)=(2^k:Nat)))):=
       (aX rfl (ix5 (j:=k) rfl (by lia))).trans (yX _ _)
      have hs:qK (.tup [.int k,.tup ws])=(wb 5 (.int k)&&(decide ((ws.length:Int)=(2^k:Nat))&&ws.all (wb 2))):=rfl
      by_cases hn:(ws.length:Int)=(2^k:Nat)
      ·refine(aC ((cP ((eR (hch.trans (by rw[hw];rfl))).trans ((eR rfl).trans (e.trans (by rw[decide_eq_true hn];rfl))))).trans rfl)).trans (aN ?_)
       have hf:aL 0 [] (rIx (aF 0) (rK (.int 1))) (some (gR (aB dF [aA 0]))) (aA 0) [.sh (.tup [.int k,.tup ws])]= .ow (ws.filter λd=> !wb 2 d):=
        qI (.inr (.inl rfl)) (λd m=>eJ ((aT rfl).trans (vJ (bR.1 hp.2 d m)))) λd m=>rfl
       have:aU .Eq (aL 0 [] (rIx (aF 0) (rK (.int 1))) (some (gR (aB dF [aA 0]))) (aA 0)) (cN []) [.sh (.tup [.int k,.tup ws])]=gC .Eq (.lst (ws.filter λd=> !wb 2 d)) (.lst []):=by
        show R.bind _ _=_;rw[hf];rfl
       rw[this,jA (x:=.lst (ws.filter λd=> !wb 2 d)) (y:=.lst []) (fX (bR.2 λx m=>bR.1 hp.2 x (List.mem_filter.1 m).1) rfl (by decide))]
       have h3:deq (.lst (ws.filter λd=> !wb 2 d)) (.lst [])=ws.all (wb 2):=by
        rw[Bool.eq_iff_iff,List.all_eq_true]
        cases hq:ws.filter λd=> !wb 2 d with
        |nil=>simp[deq,qZ];simpa using hq
        |cons y r=>
         have:y∈ws.filter λd=> !wb 2 d:=by rw[hq];exact .head _
         rw[List.mem_filter]at this;simp[deq,qZ];exact⟨y,this.1,by simpa using this.2⟩
       rw[h3,hs,hw,decide_eq_true hn];rfl
      ·refine dA ((dJ ((eR (hch.trans (by rw[hw];rfl))).trans ((eR rfl).trans (e.trans (by rw[decide_eq_false hn];rfl))))).trans (aN ?_))
       rw[hs,hw,decide_eq_false hn];rfl
     |exc c=>exact absurd hp.2 (by simp[plain])
     |fn c=>exact absurd hp.2 (by simp[plain])
     |_=>exact dA ((dJ ((eR (hch.trans (by rw[hw];rfl))).trans ((yP rfl).trans rfl))).trans (aN (by simp[qK,zJ,rK])))
   |exc c=>exact absurd hp.1 (by simp[plain])
   |fn c=>exact absurd hp.1 (by simp[plain])
   |bl t=>exact aQ (dA ((dJ ((eR rfl).trans ((eR (hl.trans rfl)).trans ((eR rfl).trans rfl)))).trans rfl))
   |_=>exact aQ (dA ((dJ ((eR rfl).trans ((eR (hl.trans rfl)).trans (yP rfl)))).trans rfl))
  ·refine aQ (dA ((dJ ((eR rfl).trans (yP (hl.trans ?_)))).trans (aN ?_)))
   ·have: ¬(xs.length:Int)=2:=by lia
    simp[this]
   ·match xs,l2 with
    |[],_=>rfl
    |[_],_=>rfl
    |_::_::_::_,_=>rfl
    |[_,_],h=>exact absurd rfl h
 |exc c=>exact absurd h (by simp[plain])
 |fn c=>exact absurd h (by simp[plain])
 |_=>rfl
mutual
def fS:D->Nat
 |.tup xs=>cJ xs+1
 |_=>0
def cJ:List D->Nat
 |[]=>0
 |x::r=>max (fS x) (cJ r)
end
mutual
def cnt:D->Nat
 |.tup xs=>fQ xs+1
 |_=>1
def fQ:List D->Nat
 |[]=>0
 |x::r=>cnt x+fQ r
end
theorem bX(xs ys:List D):cJ (xs++ys)=max (cJ xs) (cJ ys):=by
 induction xs with
 |nil=>simp[cJ]
 |cons x r ih=>simp[cJ,ih,Nat.max_assoc]
theorem b5(xs ys:List D):fQ (xs++ys)=fQ xs+fQ ys:=by
 induction xs with
 |nil=>simp[fQ]
 |cons x r ih=>simp[fQ,ih,Nat.add_assoc]
theorem cL(xs ys:List D):aK (xs++ys)=(aK xs&&aK ys):=by
 induction xs with
 |nil=>simp[aK]
 |cons x r ih=>simp[aK,ih,Bool.and_assoc]
theorem nX(d:D):1<=cnt d:=by cases d<;>simp[cnt]
theorem j5(xs:List D):xs.length<=fQ xs:=by
 induction xs with
 |nil=>simp
 |cons x r ih=>have:=nX x;simp[fQ];lia
theorem uI{xs:List D}{i:Nat}{x:D}(h:xs[i]? =some x):xs=xs.take i++x::xs.drop (i+1):=by
 obtain⟨l,e⟩:=av.1 h
 have:=List.take_append_drop i xs
 rw[List.drop_eq_getElem_cons l,e]at this;exact this.symm
def sub:D->List Nat->Option D
 |d,[]=>some d
 |.tup xs,i::p=>(match xs[i]? with|some x=>sub x p|none=>none)
 |_,_::_=>none
def pth(p:List Nat):D:=.tup (p.map λ(i:Nat)=>D.int (i:Int))
theorem nY{d h:D}{i:Nat}{p:List Nat}(e:sub d (i::p)=some h): ∃xs x,d= .tup xs/\xs[i]? =some x/\sub x p=some h:=by
 cases d with
 |tup xs=>
  cases hx:xs[i]? with
  |none=>simp[sub,hx]at e
  |some x=>exact⟨xs,x,rfl,hx,by simpa[sub,hx]using e⟩
 |_=>simp[sub]at e
theorem aC3: ∀{p:List Nat} {d h:D},sub d p=some h->fS h<=fS d/\cnt h<=cnt d/\(plain d=true->plain h=true)
 |[],d,h,e=>by
  cases (Option.some.inj ((show sub d []=some d from by cases d<;>rfl).symm.trans e));exact⟨aj _,aj _,id⟩
 |i::p,d,h,e=>by
  obtain⟨xs,x,rfl,hx,e'⟩:=nY e;obtain⟨a,b,c⟩:=aC3 e';have s:=uI hx
  have t1:cJ xs=max (cJ (xs.take i)) (max (fS x) (cJ (xs.drop (i+1)))):=by rw[s,bX];simp[cJ, <-s]
  have t2:fQ xs=fQ (xs.take i)+(cnt x+fQ (xs.drop (i+1))):=by rw[s,b5];simp[fQ, <-s]
  refine⟨by simp only[fS];lia,by simp only[cnt];lia,λhp=>c ?_⟩
  exact bR.1 hp x (List.mem_of_getElem? hx)
theorem qN: ∀(n:Nat) (d:D),plain d=true->n<=100->fS d<n->cnt d<=1000->
  ∃ps:List (List Nat),qP cF n [d]= .ow (ps.map pth)/\ps.length=cnt d/\∀p∈ps,(∃h,sub d p=some h)/\p.length<=fS d
 |0,d,_,_,h,_=>absurd h (Nat.not_lt_zero _)
 |n+1,d,hpl,hn,h,hc=>by
  have sub0: ∀d:D,sub d []=some d:=λd=>by cases d<;>rfl
  cases d with
  |tup xs=>
   simp only[fS,cnt]at h hc
   have loop: ∀(suf pre:List D) (ps:List (List Nat)) (s:Slot),xs=pre++suf->ps.length=1+fQ pre->(∀p∈ps,(∃h,sub (.tup xs) p=some h)/\p.length<=cJ xs+1)->
     ∃(ps':List (List Nat)) (s':Slot),gZ (qO [2] true) (aB8 1 (aL 0 [2] (aB (qP cF n) [rIx (aF 0) (aA 2)]) none (aI .Add (b9 [aA 1]) (aA 0)))) ((List.range' pre.length suf.length).map λ(i:Nat)=>D.int (i:Int)) [.sh (.tup xs),.ow (ps.map pth),s]
      = .nx [.sh (.tup xs),.ow (ps'.map pth),s']/\ps'.length=1+fQ xs/\∀p∈ps',(∃h,sub (.tup xs) p=some h)/\p.length<=cJ xs+1:=by
    intro suf
    induction suf with
    |nil=>
     intro pre ps s e l v;refine⟨ps,s,rfl,?_,v⟩;rw[e,List.append_nil];exact l
    |cons x r ih=>
     intro pre ps s e l v
     have hx:xs[pre.length]? =some x:=by rw[e];simp
     have t1:cJ xs=max (cJ pre) (max (fS x) (cJ r)):=by rw[e,bX];rfl
     have t2:fQ xs=fQ pre+(cnt x+fQ r):=by rw[e,b5];rfl
     obtain⟨qs,eq,lq,vq⟩:=qN n x (bR.1 hpl x (List.mem_of_getElem? hx)) (by lia) (by lia) (by lia)
     have hc1:aL 0 [2] (aB (qP cF n) [rIx (aF 0) (aA 2)]) none (aI .Add (b9 [aA 1]) (aA 0)) [.sh (.tup xs),.ow (ps.map pth),.sh (.int (pre.length:Nat))]= .ow ((qs.map (pre.length:: ·)).map pth):=by
      have:=lB (cs:=[2]) (it:=aB (qP cF n) [rIx (aF 0) (aA 2)]) (e:=aI .Add (b9 [aA 1]) (aA 0)) (ρ:=[.sh (.tup xs),.ow (ps.map pth),.sh (.int (pre.length:Nat))]) (ds:=qs.map pth)
       (g:=λd=>match d with|.tup l=>.tup (.int (pre.length:Nat)::l)|d=>d) (.inr (.inr ((aT ((eQ rfl rfl).trans (hX hx))).trans eq))) λd m=>by
        obtain⟨q,mq,rfl⟩:=ao.1 m;refine(aR (aJ5 rfl) (y:=pth q) rfl).trans ?_
        have:q.length<=fS x:=(vq q mq).2
        have:1+q.length<=LIM:=by unfold LIM;lia
        simp[jI,pth,this]
      rw[this];simp[pth]
     have hs:aB8 1 (aL 0 [2] (aB (qP cF n) [rIx (aF 0) (aA 2)]) none (aI .Add (b9 [aA 1]) (aA 0))) [.sh (.tup xs),.ow (ps.map pth),.sh (.int (pre.length:Nat))]= .nx [.sh (.tup xs),.ow ((ps++qs.map (pre.length:: ·)).map pth),.sh (.int (pre.length:Nat))]:=by
      unfold aB8;rw[hc1]
      have:ps.length+qs.length<=LIM:=by unfold LIM;lia
      simp[iA,this]
     obtain⟨ps',s',e',l',v'⟩:=ih (pre++[x]) (ps++qs.map (pre.length:: ·)) (.sh (.int (pre.length:Nat))) (by simp[e]) (by simp[l,lq,b5,fQ];lia) λp m=>by
      rcases List.mem_append.1 m with m|m
      ·exact v p m
      ·obtain⟨q,mq,rfl⟩:=ao.1 m;obtain⟨⟨h',e1⟩,e2⟩:=vq q mq;exact⟨⟨h',by simp[sub,hx,e1]⟩,by simp only[bo];lia⟩
     refine⟨ps',s',?_,l',v'⟩;rw[bo,List.range'_succ,List.map_cons];unfold gZ;rw[show qO [2] true (D.int (pre.length:Nat)) [.sh (.tup xs),.ow (ps.map pth),s]=some [.sh (.tup xs),.ow (ps.map pth),.sh (.int (pre.length:Nat))] from rfl]
     simp only[hs];rw[<-e'];simp
   obtain⟨ps,s,e,l,v⟩:=loop xs [] [[]] .no rfl rfl λp m=>by
    cases List.mem_singleton.1 m
    exact⟨⟨_,sub0 _⟩,by simp⟩
   refine⟨ps,?_,by simp[cnt,l];lia,by simpa[fS]using v⟩
   refine yN ((aC (i9 (d:=[pth []]) rfl)).trans ((aC (ρ':=[.sh (.tup xs),.ow (ps.map pth),s]) ((dJ rfl).trans ((yS (.inl (bQ (n:=xs.length) ?_ ?_))).trans ?_))).trans (yM rfl)))
   ·exact(aT rfl).trans rfl
   ·have:=j5 xs;lia
   ·rw[<-e,n9,List.range_eq_range'];rfl
  |exc c=>exact absurd hpl (by simp[plain])
  |fn c=>exact absurd hpl (by simp[plain])
  |_=>exact⟨[[]],rfl,rfl,λp m=>by cases List.mem_singleton.1 m;exact⟨⟨_,rfl⟩,bq _⟩⟩
theorem aNh{a b:F}{ρ:Rho}{i j:Int}(h:a ρ= .ok (.int i))(k:b ρ= .ok (.int j))(l:i<j):aU .Lt a b ρ= .ok (.bl true):=(aX h k).trans (by simp[gC,l])
theorem aNi{a b:F}{ρ:Rho}{i j:Int}(h:a ρ= .ok (.int i))(k:b ρ= .ok (.int j))(l: ¬i<j):aU .Lt a b ρ= .ok (.bl false):=(aX h k).trans (by simp[gC];lia)
theorem aKb(xs:List D)(i:Nat):zW (.tup xs) none (some (i:Int))= .ok (.tup (xs.take i)):=by
 have: ¬((i:Int)<0):=by lia
 simp[zW,uS,cV,this]
theorem aBt(xs:List D)(i:Nat):zW (.tup xs) (some (i:Int)) none= .ok (.tup (xs.drop i)):=by
 have: ¬((i:Int)<0):=by lia
 simp[zW,uS,cV,this];rcases Nat.le_total i xs.length with h|h
 ·rw[Nat.min_eq_left h];exact List.take_of_length_le (by simp)
 ·rw[Nat.min_eq_right h,List.drop_of_length_le (aj _),List.drop_of_length_le h];simp
theorem sH{a b:F}{ρ:Rho}{xs:List D}{i:Nat}(h:a ρ= .ok (.tup xs))(k:b ρ= .ok (.int i)):gT a none (some b) ρ= .ok (.tup (xs.take i)):=by
 simp[gT,h,k,R.bind,aB5,aKb]
theorem iS{a b:F}{ρ:Rho}{xs:List D}{i:Nat}(h:a ρ= .ok (.tup xs))(k:b ρ= .ok (.int i)):gT a (some b) none ρ= .ok (.tup (xs.drop i)):=by
 simp[gT,h,k,R.bind,aB5,aBt]
theorem nZ{xs ys:List D}(h:xs.length+ys.length<=LIM):jI .Add (.tup xs) (.tup ys)= .ok (.tup (xs++ys)):=by simp[jI,h]
theorem zA(p:List Nat):plain (pth p)=true:=by
 show aK (p.map _)=true;rw[bR];intro x m;obtain⟨i,_,rfl⟩:=ao.1 m;rfl
theorem aC4: ∀(n:Nat) (p:List Nat) (d new h:D),p.length<n->sub d p=some h->cnt d<=1000->
  ∃d',qP d9 n [d,pth p,new]= .ok d'/\(plain d=true->plain new=true->plain d'=true)/\fS d'<=fS d+fS new/\cnt d'<=cnt d+cnt new
 |0,p,d,new,h,hl,_,_=>absurd hl (Nat.not_lt_zero _)
 |n+1,[],d,new,h,_,_,_=>by
  refine⟨new,?_,λ_ h=>h,Nat.le_add_left ..,Nat.le_add_left ..⟩
  show d9 (qP d9 n) [d,pth [],new]=_;unfold d9;exact aQ (dA ((dJ rfl).trans (aN rfl)))
 |n+1,i::q,d,new,h,hl,hs,hc=>by
  obtain⟨xs,x,rfl,hx,hs'⟩:=nY hs;have s:=uI hx
  have t1:cJ xs=max (cJ (xs.take i)) (max (fS x) (cJ (xs.drop (i+1)))):=by rw[s,bX];simp[cJ, <-s]
  have t2:fQ xs=fQ (xs.take i)+(cnt x+fQ (xs.drop (i+1))):=by rw[s,b5];simp[fQ, <-s]
  simp only[cnt]at hc;simp only[bo]at hl;obtain⟨x',e,a,b,c⟩:=aC4 n q x new h (by lia) hs' (by lia)
  have l1:=j5 (xs.take i);have l2:=j5 (xs.drop (i+1))
  have hL:LIM=100000:=rfl
  refine⟨.tup (xs.take i++[x']++xs.drop (i+1)),?_,?_,?_,?_⟩
  ·have he:aU .Eq (aA 1) (b9 []) [.sh (.tup xs),.sh (pth (i::q)),.sh new,.no]= .ok (.bl false):=
    (aX (x:=pth (i::q)) (y:=.tup []) rfl rfl).trans ((jA (fX (zA _) rfl (by decide))).trans rfl)
   refine aQ ((aC ((cP he).trans rfl)).trans ((aC (bE ((eQ (x:=pth (i::q)) (y:=.int 0) rfl rfl).trans (hX (n:=0) (x:=.int i) rfl)))).trans (aN ?_)))
   have hq:gT (aF 1) (some (rK (.int 1))) none [.sh (.tup xs),.sh (pth (i::q)),.sh new,.sh (.int i)]= .ok (pth q):=(iS (i:=1) (xs:=(i::q).map λ(i:Nat)=>D.int (i:Int)) rfl rfl).trans rfl
   have h2:b9 [aB (qP d9 n) [rIx (aF 0) (aA 3),gT (aF 1) (some (rK (.int 1))) none,aA 2]] [.sh (.tup xs),.sh (pth (i::q)),.sh new,.sh (.int i)]= .ok (.tup [x']):=
    aJ5 ((bB ((eQ rfl rfl).trans (hX hx)) hq rfl).trans e)
   refine(aR ((aR (sH (i:=i) rfl rfl) h2).trans (nZ (by simp only[bo,List.length_nil];lia))) (iS (i:=i+1) rfl rfl)).trans (nZ ?_)
   simp only[bj,bo,List.length_nil];lia
  ·intro p1 p2
   have:aK (xs.take i++x::xs.drop (i+1))=true:=by rw[<-s];exact p1
   simp only[cL,aK,ar]at this;show aK _=true;simp only[cL,aK,ar,and_true];exact⟨⟨this.1,a this.2.1 p2⟩,this.2.2⟩
  ·simp only[fS,bX,cJ];lia
  ·simp only[cnt,b5,fQ];lia
theorem zB{r0 r1 r2 r3 r4 r7 r8:Slot}: ∀(p:List Nat) (d h:D) (a:Slot),sub d p=some h->
  ∃a',gZ (qO [6] true) (cY 5 (rIx (aF 5) (aA 6))) (p.map λ(i:Nat)=>D.int (i:Int)) [r0,r1,r2,r3,r4,.sh d,a,r7,r8]= .nx [r0,r1,r2,r3,r4,.sh h,a',r7,r8]
 |[],d,h,a,e=>by
  cases (Option.some.inj ((show sub d []=some d from by cases d<;>rfl).symm.trans e));exact⟨a,rfl⟩
 |i::p,d,h,a,e=>by
  obtain⟨xs,x,rfl,hx,e'⟩:=nY e;obtain⟨a',k⟩:=zB p x h (.sh (.int i)) e';refine⟨a',?_⟩;rw[List.map_cons];unfold gZ;rw[show qO [6] true (D.int i) [r0,r1,r2,r3,r4,.sh (.tup xs),a,r7,r8]=some [r0,r1,r2,r3,r4,.sh (.tup xs),.sh (.int i),r7,r8] from rfl]
  have h1:cY 5 (rIx (aF 5) (aA 6)) [r0,r1,r2,r3,r4,.sh (.tup xs),.sh (.int i),r7,r8]= .nx [r0,r1,r2,r3,r4,.sh x,.sh (.int i),r7,r8]:=bE ((eQ rfl rfl).trans (hX hx))
  simp only[h1];exact k
noncomputable def vL(h:D):List D:=[.int 0,.int 1,.int 2,.int (-1),.int 3,.bl true,.non,.str "1",.tup [],.tup [.int 0],.tup [.int 1,.int 0],.lst [.int 0,.int 1],.tup [h],.tup [h,h]]
theorem aGd{h x:D}(m:x∈vL h):(plain h=true->plain x=true)/\fS x<=fS h+1/\cnt x<=2*cnt h+1:=by
 have:=nX h
 simp only[vL,aq,List.not_mem_nil,or_false]at m
 rcases m with rfl|rfl|rfl|rfl|rfl|rfl|rfl|rfl|rfl|rfl|rfl|rfl|rfl|rfl<;>
  refine⟨λhp=>by simp[plain,aK,hp]<;>decide,by simp only[fS,cJ];lia,by simp only[cnt,fQ];lia⟩
theorem zC(ns:List Int)(at':Nat){d:D}(hp:plain d=true)(ht:fS d<=5)(hc:cnt d<=100):
  ∃d',aY [Sc ns,.int at',d]= .ok d'/\plain d'=true/\fS d'<=2*fS d+1/\cnt d'<=3*cnt d+1:=by
 obtain⟨ps,e1,l1,v1⟩:=qN 12 d hp (by decide) (by lia) (by lia)
 have c1:=nX d;obtain⟨i,e2,l2⟩:=bO ns at' (m:=ps.length) (by lia)
 have hi:(ps.map pth)[i]? =some (pth ps[i]):=by simp[l2]
 obtain⟨⟨h,e3⟩,l3⟩:=v1 ps[i] (List.getElem_mem l2);generalize ps[i]=p at *;obtain⟨a,e4⟩:=zB (r0:=.sh (Sc ns)) (r1:=.sh (.int at')) (r2:=.sh d) (r3:=.sh (.lst (ps.map pth))) (r4:=.sh (pth p)) (r7:=.no) (r8:=.no) p d h .no e3;obtain⟨q1,q2,q3⟩:=aC3 e3;obtain⟨w,e5,l5⟩:=bO ns (at'+1) (m:=20) (by decide)
 have fin: ∀new:D,plain new=true->fS new<=fS h+1->cnt new<=2*cnt h+1->∃d',cT [d,pth p,new]= .ok d'/\plain d'=true/\fS d'<=2*fS d+1/\cnt d'<=3*cnt d+1:=λnew a1 a2 a3=>by
  obtain⟨d',b1,b2,b3,b4⟩:=aC4 12 p d new h (by lia) e3 (by lia)
  exact⟨d',b1,b2 hp a1,by lia,by lia⟩
 have hd:iE [.lst (ps.map pth)]= .ok (.int ps.length):=by simp[iE,items]
 have pre: ∀{d':D},(bA (sIf (aU .Lt (aA 8) (rK (.int 14)))
 (bV (aB cT [aA 2,aA 4,rIx (aF 7) (aA 8)]))
 (bF))
 (bA (sIf (fR (rIs (dH) (aA 5)) (aU .NotEq (aA 5) (b9 [])))
 (bA (cY 6 (aB aD [aA 0,aI .Add (aA 1) (rK (.int 2)),aB iE [aF 5]]))
  (bV (aB cT [aA 2,aA 4,rIf (aU .Lt (aA 8) (rK (.int 17))) (aI .Add (gT (aF 5) none (some (aA 6))) (gT (aF 5) (some (aI .Add (aA 6) (rK (.int 1)))) none)) (aI .Add (gT (aF 5) none (some (aI .Add (aA 6) (rK (.int 1))))) (gT (aF 5) (some (aA 6)) none))])))
 (bF))
 (bV (aB cT [aA 2,aA 4,rIf (rIs (kM) (aA 5)) (aI .Sub (rK (.int 1)) (aA 5)) (rK (.int 7))])))) [.sh (Sc ns),.sh (.int at'),.sh d,.sh (.lst (ps.map pth)),.sh (pth p),.sh h,a,.sh (.lst (vL h)),.sh (.int w)]= .rt (.ok d')->aY [Sc ns,.int at',d]= .ok d':=λhh=>by
  refine aQ ((aC (hW ((aT rfl).trans e1))).trans ((aC (bE ((eQ rfl ((bB rfl rfl ((aT rfl).trans hd)).trans e2)).trans (fW hi)))).trans ((aC (bE (d:=d) rfl)).trans ((aC ((yS (.inr (.inl rfl))).trans e4)).trans ((aC (hW (d:=vL h) rfl)).trans ((aC (bE ((bB rfl rfl rfl).trans e5))).trans hh))))))
 by_cases w1:w<14
 ·have hl:(vL h).length=14:=rfl
  have hx:(vL h)[w]? =some (vL h)[w]:=az (by lia)
  obtain⟨n1,n2,n3⟩:=aGd (List.mem_of_getElem? hx);obtain⟨d',b1,b2,b3,b4⟩:=fin _ (n1 (q3 hp)) n2 n3;exact⟨d',pre (dA ((dJ (aNh (i:=w) (j:=14) rfl rfl (by lia))).trans (aN ((bB rfl rfl ((eQ rfl rfl).trans (fW hx))).trans b1)))),b2,b3,b4⟩
 have pre2: ∀{d':D},(bA (sIf (fR (rIs (dH) (aA 5)) (aU .NotEq (aA 5) (b9 [])))
 (bA (cY 6 (aB aD [aA 0,aI .Add (aA 1) (rK (.int 2)),aB iE [aF 5]]))
  (bV (aB cT [aA 2,aA 4,rIf (aU .Lt (aA 8) (rK (.int 17))) (aI .Add (gT (aF 5) none (some (aA 6))) (gT (aF 5) (some (aI .Add (aA 6) (rK (.int 1)))) none)) (aI .Add (gT (aF 5) none (some (aI .Add (aA 6) (rK (.int 1))))) (gT (aF 5) (some (aA 6)) none))])))
 (bF))
 (bV (aB cT [aA 2,aA 4,rIf (rIs (kM) (aA 5)) (aI .Sub (rK (.int 1)) (aA 5)) (rK (.int 7))]))) [.sh (Sc ns),.sh (.int at'),.sh d,.sh (.lst (ps.map pth)),.sh (pth p),.sh h,a,.sh (.lst (vL h)),.sh (.int w)]= .rt (.ok d')->aY [Sc ns,.int at',d]= .ok d':=λhh=>
  pre ((aC ((cP (aNi (i:=w) (j:=14) rfl rfl (by lia))).trans rfl)).trans hh)
 have last: ∀new:D,plain new=true->fS new<=fS h+1->cnt new<=2*cnt h+1->rIf (rIs (kM) (aA 5)) (aI .Sub (rK (.int 1)) (aA 5)) (rK (.int 7)) [.sh (Sc ns),.sh (.int at'),.sh d,.sh (.lst (ps.map pth)),.sh (pth p),.sh h,a,.sh (.lst (vL h)),.sh (.int w)]= .ok new->
   fR (rIs (dH) (aA 5)) (aU .NotEq (aA 5) (b9 [])) [.sh (Sc ns),.sh (.int at'),.sh d,.sh (.lst (ps.map pth)),.sh (pth p),.sh h,a,.sh (.lst (vL h)),.sh (.int w)]= .ok (.bl false)->
   ∃d',aY [Sc ns,.int at',d]= .ok d'/\plain d'=true/\fS d'<=2*fS d+1/\cnt d'<=3*cnt d+1:=λnew a1 a2 a3 hn hf=>by
  obtain⟨d',b1,b2,b3,b4⟩:=fin new a1 a2 a3;exact⟨d',pre2 ((aC ((cP hf).trans rfl)).trans (aN ((bB rfl rfl hn).trans b1))),b2,b3,b4⟩
 have c2:=nX h;have plh:=q3 hp
 cases h with
 |tup xs=>
  cases xs with
  |nil=>exact last (.int 7) rfl (bq _) (by simp only[cnt];lia) rfl rfl
  |cons y r=>
   obtain⟨k,e6,l6⟩:=bO ns (at'+2) (m:=(y::r).length) (by simp)
   generalize hxs:y::r=xs at *
   have hne:fR (rIs (dH) (aA 5)) (aU .NotEq (aA 5) (b9 [])) [.sh (Sc ns),.sh (.int at'),.sh d,.sh (.lst (ps.map pth)),.sh (pth p),.sh (.tup xs),a,.sh (.lst (vL (.tup xs))),.sh (.int w)]= .ok (.bl true):=by
    refine(iM rfl).trans ((aX (x:=.tup xs) (y:=.tup []) rfl rfl).trans ((jB (fX plh rfl (by decide))).trans ?_))
    subst hxs;rfl
   have hd:iE [.tup xs]= .ok (.int xs.length):=rfl
   have hL:LIM=100000:=rfl
   have ll:=j5 xs;have s1:=List.take_append_drop k xs;have s2:=List.take_append_drop (k+1) xs
   have t1:cJ (xs.take k)<=cJ xs/\cJ (xs.drop k)<=cJ xs:=by
    have:=bX (xs.take k) (xs.drop k);rw[s1]at this;lia
   have t2:cJ (xs.take (k+1))<=cJ xs/\cJ (xs.drop (k+1))<=cJ xs:=by
    have:=bX (xs.take (k+1)) (xs.drop (k+1));rw[s2]at this;lia
   have u1:fQ (xs.take k)<=fQ xs/\fQ (xs.drop k)<=fQ xs:=by
    have:=b5 (xs.take k) (xs.drop k);rw[s1]at this;lia
   have u2:fQ (xs.take (k+1))<=fQ xs/\fQ (xs.drop (k+1))<=fQ xs:=by
    have:=b5 (xs.take (k+1)) (xs.drop (k+1));rw[s2]at this;lia
   have v1:aK (xs.take k)=true/\aK (xs.drop k)=true:=by
    have:=cL (xs.take k) (xs.drop k);rw[s1]at this;rw[show aK xs=true from plh]at this;simpa using this.symm
   have v2:aK (xs.take (k+1))=true/\aK (xs.drop (k+1))=true:=by
    have:=cL (xs.take (k+1)) (xs.drop (k+1));rw[s2]at this;rw[show aK xs=true from plh]at this;simpa using this.symm
   simp only[cnt,fS]at *
   have len1:(xs.take k).length+(xs.drop (k+1)).length<=LIM:=by simp only[List.length_take,List.length_drop];lia
   have aAg:(xs.take (k+1)).length+(xs.drop k).length<=LIM:=by simp only[List.length_take,List.length_drop];lia
   have go: ∃new,rIf (aU .Lt (aA 8) (rK (.int 17))) (aI .Add (gT (aF 5) none (some (aA 6))) (gT (aF 5) (some (aI .Add (aA 6) (rK (.int 1)))) none)) (aI .Add (gT (aF 5) none (some (aI .Add (aA 6) (rK (.int 1))))) (gT (aF 5) (some (aA 6)) none)) [.sh (Sc ns),.sh (.int at'),.sh d,.sh (.lst (ps.map pth)),.sh (pth p),.sh (.tup xs),.sh (.int k),.sh (.lst (vL (.tup xs))),.sh (.int w)]= .ok new
     /\plain new=true/\fS new<=cJ xs+1+1/\cnt new<=2*(fQ xs+1)+1:=by
    by_cases w2:w<17
    ·refine⟨_,(qF (aNh (i:=w) (j:=17) rfl rfl (by lia))).trans ((aR (sH (i:=k) rfl rfl) (iS (i:=k+1) rfl rfl)).trans (nZ len1)),?_,?_,?_⟩
     ·show aK _=true;rw[cL,v1.1,v2.2];rfl
     ·simp only[fS,bX];lia
     ·simp only[cnt,b5];lia
    ·refine⟨_,(aBp (aNi (i:=w) (j:=17) rfl rfl (by lia))).trans ((aR (sH (i:=k+1) rfl rfl) (iS (i:=k) rfl rfl)).trans (nZ aAg)),?_,?_,?_⟩
     ·show aK _=true;rw[cL,v2.1,v1.2];rfl
     ·simp only[fS,bX];lia
     ·simp only[cnt,b5];lia
   obtain⟨new,g1,g2,g3,g4⟩:=go;obtain⟨d',b1,b2,b3,b4⟩:=fin new g2 g3 g4;exact⟨d',pre2 (dA ((dJ hne).trans ((aC (bE ((bB rfl rfl ((aT rfl).trans hd)).trans e6))).trans (aN ((bB rfl rfl g1).trans b1))))),b2,b3,b4⟩
 |int j=>exact last _ rfl (bq _) (by simp only[cnt];lia) ((qF rfl).trans rfl) rfl
 |bl b=>exact last _ rfl (bq _) (by simp only[cnt];lia) ((qF rfl).trans rfl) rfl
 |exc c=>exact absurd plh (by simp[plain])
 |fn c=>exact absurd plh (by simp[plain])
 |non=>exact last (.int 7) rfl (bq _) (by simp only[cnt];lia) rfl rfl
 |str x=>exact last (.int 7) rfl (bq _) (by simp only[cnt];lia) rfl rfl
 |lst x=>exact last (.int 7) rfl (bq _) (by simp only[cnt];lia) rfl rfl
theorem jH{a b c:FS}{ρ:Rho}:bA a (bA b c) ρ=bA (bA a b) c ρ:=by
 unfold bA
 cases a ρ<;>rfl
theorem uJ{op:CmpOp}{a b:F}{ρ:Rho}{x:D}{y:List D}(h:a ρ= .ok x)(k:b ρ= .ow y):aU op a b ρ=gC op x (.lst y):=by simp[aU,h,k,R.bind]
abbrev doS:FS:=(sIf (aU .Lt (aA 0) (rK (.int 4)))
  (cY 4 (iD aKt (rIx (cN [rK (.fn 17),rK (.fn 18),rK (.fn 19),rK (.fn 15)]) (aA 0)) [aA 1,aA 2]))
  (sIf (aU .Lt (aA 0) (rK (.int 7)))
   (cY 4 (iD aKt (rIx (cN [rK (.fn 21),rK (.fn 22),rK (.fn 20)]) (aI .Sub (aA 0) (rK (.int 4)))) [aA 1,aA 2]))
   (cY 4 (rIf (aU .Eq (aA 0) (rK (.int 7))) (aB lF [aA 1]) (aB dR [aA 1])))))
def Dv(k:Nat)(F:D->D->R):Prop:= ∀x y:D,doS [.sh (.int (k:Nat)),.sh x,.sh y,.sh .non,.sh .non,.no]=cY 4 (λ_=>F x y) [.sh (.int (k:Nat)),.sh x,.sh y,.sh .non,.sh .non,.no]
theorem mP{e f:F}{i:Nat}{ρ:Rho}(h:e ρ=f ρ):cY i e ρ=cY i f ρ:=by unfold cY;rw[h]
theorem dv0:Dv 0 λx y=>fZ [x,y]:=λx y=>(dJ rfl).trans (mP (lI (j:=17) rfl rfl rfl rfl))
theorem dv1:Dv 1 λx y=>iP [x,y]:=λx y=>(dJ rfl).trans (mP (lI (j:=18) rfl rfl rfl rfl))
theorem dv2:Dv 2 λx y=>iQ [x,y]:=λx y=>(dJ rfl).trans (mP (lI (j:=19) rfl rfl rfl rfl))
theorem dv3:Dv 3 λx y=>dZ [x,y]:=λx y=>(dJ rfl).trans (mP (lI (j:=15) rfl rfl rfl rfl))
theorem dv6:Dv 6 λx y=>iR [x,y]:=λx y=>(cP rfl).trans ((dJ rfl).trans (mP (lI (j:=20) rfl rfl rfl rfl)))
theorem dv7:Dv 7 λx _=>lF [x]:=λx y=>(cP rfl).trans ((cP rfl).trans (mP ((qF rfl).trans (aT rfl))))
section
variable {k:Nat} {F:D->D->R} {x y:D}
theorem aC5{e:D}(h:doS [.sh (.int (k:Nat)),.sh x,.sh y,.sh .non,.sh .non,.no]= .nx [.sh (.int (k:Nat)),.sh x,.sh y,.sh .non,.sh e,.no]):aE [.int (k:Nat),x,y]= .ok e:=by
 refine aQ ((aC (bE rfl)).trans ((aC (bE rfl)).trans ((aC (ρ':=[.sh (.int (k:Nat)),.sh x,.sh y,.sh .non,.sh e,.no]) ?_).trans ((dA ((dJ rfl).trans (aN rfl)))))));show aB9 5 3 (λ_=>true) doS [.sh (.int (k:Nat)),.sh x,.sh y,.sh .non,.sh .non,.no]=_
 simp[aB9,h]
theorem zD(v:Dv k F){e:D}(h:F x y= .ok e):aE [.int (k:Nat),x,y]= .ok e:=aC5 ((v x y).trans ((bE h).trans rfl))
theorem aMk(v:Dv k F){e:List D}(h:F x y= .ow e):aE [.int (k:Nat),x,y]= .ok (.lst e):=aC5 ((v x y).trans ((hW h).trans rfl))
theorem jR(v:Dv k F){c:Nat}{z:Str}(h:F x y= .ex c)(hw:dP [.exc c]= .ok (.str z)):aE [.int (k:Nat),x,y]= .ok (.str z):=by
 have h':doS [.sh (.int (k:Nat)),.sh x,.sh y,.sh .non,.sh .non,.no]= .ex c [.sh (.int (k:Nat)),.sh x,.sh y,.sh .non,.sh .non,.no]:=(v x y).trans (aF2 h)
 refine aQ ((aC (bE rfl)).trans ((aC (bE rfl)).trans ((aC (ρ':=[.sh (.int (k:Nat)),.sh x,.sh y,.sh (.exc c),.sh .non,.no]) ?_).trans ((aC ((cP rfl).trans rfl)).trans (aN ((aT rfl).trans hw))))));show aB9 5 3 (λ_=>true) doS [.sh (.int (k:Nat)),.sh x,.sh y,.sh .non,.sh .non,.no]=_
 simp[aB9,h']
end
theorem w1:dP [.exc 1]= .ok (.str "no switch"):=by kernel_rfl
theorem w2:dP [.exc 2]= .ok (.str "no name"):=by kernel_rfl
theorem w4:dP [.exc 4]= .ok (.str "unlike"):=by kernel_rfl
theorem gA{a b:FS}{ρ ρ':Rho}{c:Nat}(h:a ρ= .ex c ρ'):bA a b ρ= .ex c ρ':=by simp[bA,h]
section
variable {m m2:Nat} {a b:List Bool} {d:D}
theorem aBu(g:oA m a)(h:oA m2 b)(n:m≠m2):bC [sw m a,sw m2 b]= .ex 4:=by
 refine eI (ρ:=[.sh (sw m a),.sh (sw m2 b)]) ((aC (cU ((aT rfl).trans (f8 (jG m a) (f9 g))))).trans ((aC (cU ((aT rfl).trans (f8 (jG m2 b) (f9 h))))).trans ((dJ ((aX (x:=.int m) (y:=.int m2) rfl rfl).trans ?_)).trans rfl)));rw[yX,decide_eq_false (by lia)];rfl
theorem uT{F:Fn}{f:Nat->Fn}(x y:D){c:Nat}(h:bC [x,y]= .ex c):fZ [x,y]= .ex c/\iP [x,y]= .ex c/\iQ [x,y]= .ex c:=
 ⟨eI (ρ:=[.sh x,.sh y]) (gA (fG ((dW rfl rfl).trans h))),eI (ρ:=[.sh x,.sh y]) (gA (fG ((dW rfl rfl).trans h))),eI (ρ:=[.sh x,.sh y]) (gA (fG ((dW rfl rfl).trans h)))⟩
theorem aGe(hp:plain d=true)(h:qK d=false)(y:D):bC [d,y]= .ex 1:=eI (ρ:=[.sh d,.sh y]) (gA (fG ((aT rfl).trans (nT hp h))))
theorem aGf(g:oA m a)(hp:plain d=true)(h:qK d=false):bC [sw m a,d]= .ex 1:=eI (ρ:=[.sh (sw m a),.sh d]) ((aC (cU ((aT rfl).trans (f8 (jG m a) (f9 g))))).trans (gA (fG ((aT rfl).trans (nT hp h)))))
theorem aBv(hp:plain d=true)(h:qK d=false)(y:D):dZ [d,y]= .ex 1:=eI (ρ:=[.sh d,.sh y]) (gA (fG ((aT rfl).trans (nT hp h))))
theorem aGg(hp:plain d=true)(h:qK d=false):lF [d]= .ex 1:=eI (ρ:=[.sh d]) (gA (fG ((aT rfl).trans (nT hp h))))
theorem zE(g:oA m a){x:D}(px:plain x=true)(h:zJ m 2 x=false):dZ [sw m a,x]= .ex 2:=
 eI (ρ:=[.sh (sw m a),.sh x]) ((aC (cU ((aT rfl).trans (f8 (jG m a) (f9 g))))).trans (gA ((dJ ((eJ ((bB rfl rfl rfl).trans (lH m 2 px))).trans (by rw[h];rfl))).trans rfl)))
end
def B1:FS:=bA (bA (bA (bA (cY 3 (dS .LtE .LtE (rK (.int 0)) (aA 1) (rK (.int 4))))
 (cY 4 (rIf (aDq (aA 3)) (rIx (cN [rK (.int 1),rK (.int 2),rK (.int 4),rK (.int 8),rK (.int 16)]) (aA 1)) (rK (.int 0)))))
 (sIf (aU .NotEq (aB aE [rK (.int 4),aA 1,aA 2]) (rIf (fR (aA 3) (dS .LtE .LtE (rK (.int 0)) (aA 2) (rK (.int 1)))) (b9 [aA 1,aI .Mult (b9 [aA 2]) (aA 4)]) (rK (.str "no name"))))
 (bV (rK (.bl false)))
 (bF)))
 (cY 5 (rIf (fR (aA 3) (dS .LtE .Lt (rK (.int 0)) (aA 2) (aA 1))) (aB dG [aL 0 [2,1] (aV (aA 4)) none (rIx (aB aJ [aA 2,aA 0]) (aA 1))]) (rK .non))))
 (sIf (aU .NotEq (aB aE [rK (.int 5),aA 1,aA 2]) (rIf (aU .IsNot (aA 5) (rK .non)) (b9 [aA 1,aA 5]) (rK (.str "no name"))))
 (bV (rK (.bl false)))
 (bF))
noncomputable def wd(s:Nat):Nat:=if 1<=s/\s<=5 then 2^(s-1)else 0
noncomputable def w5(s n:Nat):D:=if 1<=s/\s<=5/\1<=n/\n<s then .tup ((List.range (2^(s-1))).map λk=>.int ((k/2^(n-1) % 2:Nat):Int))else .non
theorem aKc(z:Slot):(List.range 7).map (λ(s:Nat)=>(List.range 6).map λ(n:Nat)=>B1 [z,.sh (.int ((s:Int)-1)),.sh (.int ((n:Int)-1)),.no,.no,.no,.no,.no,.no])=(List.range 7).map λ(s:Nat)=>(List.range 6).map λ(n:Nat)=>Out.nx [z,.sh (.int ((s:Int)-1)),.sh (.int ((n:Int)-1)),.sh (.bl (decide (1<=s/\s<=5))),.sh (.int (wd s:Nat)),.sh (w5 s n),.no,.no,.no]:=by kernel_rfl
def aGh:Nat->List (List Bool)
 |0=>[[]]
 |n+1=>(aGh n).map (false:: ·)++(aGh n).map (true:: ·)
def AS(p:Nat):List D:=(aGh (2^p)).map (sw p)
def B3:FS:=bA (bA (cY 8 (aB aE [rK (.int 8),aA 7,rK .non]))
 (sIf (rOr (aU .NotEq (aB iE [aF 8]) (rIx (cN [rK (.int 2),rK (.int 4),rK (.int 16),rK (.int 256)]) (aA 7))) (aU .NotEq (aA 8) (aB dSS [aF 8])))
 (bV (rK (.bl false)))
 (bF)))
 (sIf (aU .NotEq (aL 0 [] (b9 [vK (rK (.int 1)),rK (.int 4)]) none (aB aE [rK (.int 8),aA 0,rK .non])) (aI .Mult (cN [rK (.str "no name")]) (rK (.int 2))))
 (bV (rK (.bl false)))
 (bF))
def R3:FS:=(bV (aU .Eq (aL 0 [7] (aF 8) (some (rOr (gR (aB bT [aA 0])) (aU .NotEq (rIx (aF 0) (rK (.int 0))) (aA 1)))) (aA 0)) (cN [])))
noncomputable def st3(z:Nat->Slot)(p:Nat)(s:Slot):Rho:=[z 0,z 1,z 2,z 3,z 4,z 5,z 6,.sh (.int (p:Nat)),s]
theorem aKd(z:Nat->Slot):(List.range 3).map (λp=>(B3 (st3 z p (z 8)),R3 (st3 z p (.sh (.lst (AS p))))))=(List.range 3).map λp=>(Out.nx (st3 z p (.sh (.lst (AS p)))),Out.rt (.ok (.bl true))):=by kernel_rfl
theorem aOh(z:Nat->Slot):B3 (st3 z 3 (z 8))=Out.nx (st3 z 3 (.sh (.lst (AS 3)))):=by kernel_rfl
theorem aOi(z:Nat->Slot):R3 (st3 z 3 (.sh (.lst (AS 3))))=Out.rt (.ok (.bl true)):=by kernel_rfl
theorem uK{L:List Nat}{p:Nat->Bool}{cs:List Nat}{it c:F}{ρ:Rho}(hi:it ρ= .ok (.lst (cI L)))(hc: ∀k∈L,c (.sh (.int (k:Nat))::iT cs ρ)= .ok (.bl (p k))):aL 0 cs it (some c) (aA 0) ρ= .ow (cI (L.filter p)):=by
 refine gP (.inl hi) ?_;unfold cI;refine d6 λk mk=>?_
 have h:=hc k mk
 cases e:p k with
 |true=>rw[e]at h;simp[cW,tgt,h,aA]
 |false=>rw[e]at h;simp[cW,tgt,h]
theorem j6{L:List Nat}{q:Nat->D}{cs:List Nat}{it f:F}{ρ:Rho}(hi:it ρ= .ok (.lst (cI L)))(hf: ∀k∈L,f (.sh (.int (k:Nat))::iT cs ρ)= .ok (q k)):aL 0 cs it none f ρ= .ow (L.map q):=by
 refine gP (.inl hi) ?_;unfold cI;refine(d6 (p:=λ_=>true) λk mk=>?_).trans (by rw[List.filter_eq_self.2 λ_ _=>rfl])
 simp[cW,tgt,hf k mk]
theorem uL{xs:List D}(hp:aK xs=true)(hd:mV xs<=59):gC .NotEq (.lst xs) (.lst xs)= .ok (.bl false):=by
 rw[jB (fX (x:=.lst xs) (y:=.lst xs) hp hp (show mV xs+1<=60 by lia)),iN _ (show plain (.lst xs)=true from hp)];rfl
theorem neS(z:Str)(h:plain (.str z)=true):gC .NotEq (.str z) (.str z)= .ok (.bl false):=by
 rw[jB (fX (x:=.str z) (y:=.str z) h h (bq _)),iN _ h];rfl
theorem aMl:plain (.str "no name")=true:=by decide+kernel
theorem aGi(l:List Nat)(k:Nat):gC .In (.int (k:Nat)) (.lst (cI l))= .ok (.bl (l.contains k)):=by
 have h1:lU (.int k) (cI l)=true:=by
  unfold lU;rw[List.all_eq_true];intro y my;obtain⟨i,_,rfl⟩:=ao.1 my;rfl
 have h2:((cI l).any λy=>deq y (.int k))=l.contains k:=by
  rw[Bool.eq_iff_iff,List.any_eq_true,List.contains_iff_mem];constructor
  ·rintro⟨y,my,e⟩;obtain⟨i,mi,rfl⟩:=ao.1 my
   have:(i:Int)=(k:Int):=by simpa[deq]using e
   have:i=k:=by lia
   exact this▸mi
  ·intro mk;exact⟨_,ao.2 ⟨k,mk,rfl⟩,by simp[deq]⟩
 simp[gC,items,h1,h2]
def I6:FS:=(sIf (aU .NotEq (aB aE [rK (.int 6),aA 1,aA 6]) (rIf (aDq (aA 3)) (b9 [aA 1,aB dG [aL 0 [6] (aV (aA 4)) none (aB aB6 [aU .In (aA 0) (aA 1)])]]) (rK (.str "no name"))))
 (bV (rK (.bl false)))
 (bF))
def I7:FS:=(sIf (rOr (aU .NotEq (aB aE [rK (.int 6),rK (.int 2),aI .Add (gT (aF 6) none (some (rK (.int 1)))) (cN [rK (.int 4)])]) (rK (.str "no name"))) (aU .NotEq (aB aE [rK (.int 6),rK (.int 1),cN [rK (.int 0),vK (rK (.int 1))]]) (rK (.str "no name"))))
 (bV (rK (.bl false)))
 (bF))
theorem aKe(z:Nat->Slot):I7 [z 0,z 1,z 2,z 3,z 4,z 5,.sh (.lst []),z 7,z 8]= .nx [z 0,z 1,z 2,z 3,z 4,z 5,.sh (.lst []),z 7,z 8]:=by kernel_rfl
theorem aGj{f:Fn}{a b c:F}{ρ:Rho}{x y:D}{z:List D}(h:a ρ= .ok x)(k:b ρ= .ok y)(l:c ρ= .ow z):aB f [a,b,c] ρ=f [x,y,.lst z]:=by simp[aB,lK,args,h,k,l,RA.cons,RA.then]
theorem t7:(List.range 16).map (λ(k:Nat)=>aE [.int 6,.int 2,.lst [.int (k:Nat),.int 4]])=(List.range 16).map λ_=>R.ok (.str "no name"):=by kernel_rfl
theorem t7b(ρ:Rho):aB aE [rK (.int 6),rK (.int 1),cN [rK (.int 0),vK (rK (.int 1))]] ρ= .ok (.str "no name"):=by kernel_rfl
theorem aGk(z:Nat->Slot)(l:List D){k:Nat}(hk:k<16):I7 [z 0,z 1,z 2,z 3,z 4,z 5,.sh (.lst (.int (k:Nat)::l)),z 7,z 8]= .nx [z 0,z 1,z 2,z 3,z 4,z 5,.sh (.lst (.int (k:Nat)::l)),z 7,z 8]:=by
 have h:gT (aF 6) none (some (rK (.int 1))) [z 0,z 1,z 2,z 3,z 4,z 5,.sh (.lst (.int (k:Nat)::l)),z 7,z 8]= .ow [.int (k:Nat)]:=by
  show R.ow (uS (D.int (k:Nat)::l) none (some 1))=_
  have:min 1 (l.length+1)=1:=by lia
  simp[uS,cV,this]
 have h2:aI .Add (gT (aF 6) none (some (rK (.int 1)))) (cN [rK (.int 4)]) [z 0,z 1,z 2,z 3,z 4,z 5,.sh (.lst (.int (k:Nat)::l)),z 7,z 8]= .ow [.int (k:Nat),.int 4]:=by
  unfold aI;rw[h];rfl
 have h3:=(aGj (f:=aE) (a:=rK (.int 6)) (b:=rK (.int 2)) rfl rfl h2).trans (List.map_inj_left.1 t7 k (zPd hk));exact(cP ((eR ((aX h3 rfl).trans (neS _ aMl))).trans ((aX (t7b _) rfl).trans (neS _ aMl)))).trans rfl
theorem aKf(z:Nat->Slot):(I6 [z 0,.sh (.int (-1)),z 2,.sh (.bl false),.sh (.int 0),z 5,.sh (.lst []),z 7,z 8],I6 [z 0,.sh (.int 5),z 2,.sh (.bl false),.sh (.int 0),z 5,.sh (.lst []),z 7,z 8])=(Out.nx [z 0,.sh (.int (-1)),z 2,.sh (.bl false),.sh (.int 0),z 5,.sh (.lst []),z 7,z 8],Out.nx [z 0,.sh (.int 5),z 2,.sh (.bl false),.sh (.int 0),z 5,.sh (.lst []),z 7,z 8]):=by kernel_rfl
theorem aMm{m:Nat}(hm:m<=4){js:List Nat}(hj: ∀j∈js,j<2^m)(s0 s2 s5 s7 s8:Slot):I6 [s0,.sh (.int (m:Nat)),s2,.sh (.bl true),.sh (.int ((2^m:Nat):Int)),s5,.sh (.lst (cI js)),s7,s8]= .nx [s0,.sh (.int (m:Nat)),s2,.sh (.bl true),.sh (.int ((2^m:Nat):Int)),s5,.sh (.lst (cI js)),s7,s8]:=by
 have hp:=lG hm
 have e1:aL 0 [6] (aV (aA 4)) none (aB aB6 [aU .In (aA 0) (aA 1)]) [s0,.sh (.int (m:Nat)),s2,.sh (.bl true),.sh (.int ((2^m:Nat):Int)),s5,.sh (.lst (cI js)),s7,s8]= .ow ((List.range (2^m)).map λk=>bD (js.contains k)):=
  j6 (L:=List.range (2^m)) (bQ rfl (by lia)) λk mk=>(aT ((aX (x:=.int (k:Nat)) (y:=.lst (cI js)) rfl rfl).trans (aGi js k))).trans (by cases js.contains k<;>rfl)
 refine(cP ((aX (x:=sw m ((List.range (2^m)).map λk=>js.contains k)) (y:=sw m ((List.range (2^m)).map λk=>js.contains k)) ((bB (x:=.int ((6:Nat):Int)) rfl rfl rfl).trans (zD dv6 (vI hm hj))) ((qF rfl).trans ((qG (x:=.int (m:Nat)) rfl ((cS e1).trans rfl)).trans ?_))).trans (aMj rfl))).trans rfl
 unfold sw;rw[List.map_map];rfl
theorem aGl(ns:List Int):cQ [Sc ns]= .ok (.bl true):=by
 obtain⟨s,es,ls⟩:=bO ns 4 (m:=7) (by decide)
 obtain⟨n,en,ln⟩:=bO ns 5 (m:=6) (by decide)
 obtain⟨p,ep,lp⟩:=bO ns 6 (m:=4) (by decide)
 have hb1:=List.map_inj_left.1 (List.map_inj_left.1 (aKc (.sh (Sc ns))) s (zPd ls)) n (zPd ln)
 have hw:wd s<=16:=by
  unfold wd;split
  ·have:=(lG (m:=s-1) (by lia)).2;exact this
  ·lia
 -- some numbers
 let js:List Nat:=(List.range (wd s)).filter λk=>decide (vG ns (100+k) 2=0)
 have hj: ∀j∈js,j<wd s:=λj hj=>zRd (List.mem_filter.mp hj).1
 have e6: ∀s5,aL 0 [0] (aV (aA 4)) (some (aU .Eq (aB aD [aA 1,aI .Add (rK (.int 100)) (aA 0),rK (.int 2)]) (rK (.int 0)))) (aA 0) [.sh (Sc ns),.sh (.int ((s:Int)-1)),.sh (.int ((n:Int)-1)),.sh (.bl (decide (1<=s/\s<=5))),.sh (.int (wd s:Nat)),s5,.no,.no,.no]= .ow (cI js):=λs5=>
  uK (L:=List.range (wd s)) (bQ rfl (by lia)) λk mk=>(aX ((bB (x:=Sc ns) (y:=.int ((100+k:Nat):Int)) (z:=.int 2) rfl rfl rfl).trans (yT ns (100+k) (by decide))) rfl).trans (aF7 _ _)
 have h6: ∀(s0 s2 s5:Slot),I6 [s0,.sh (.int ((s:Int)-1)),s2,.sh (.bl (decide (1<=s/\s<=5))),.sh (.int (wd s:Nat)),s5,.sh (.lst (cI js)),.no,.no]= .nx [s0,.sh (.int ((s:Int)-1)),s2,.sh (.bl (decide (1<=s/\s<=5))),.sh (.int (wd s:Nat)),s5,.sh (.lst (cI js)),.no,.no]:=λs0 s2 s5=>by
  by_cases hs:1<=s/\s<=5
  ·obtain⟨m,rfl⟩: ∃m,s=m+1:=⟨s-1,by lia⟩
   have hwd:wd (m+1)=2^m:=by unfold wd;rw[if_pos hs];rfl
   rw[decide_eq_true hs,show((m+1:Nat):Int)-1=(m:Nat) by lia]
   rw[hwd]at hj ⊢;exact aMm (by lia) hj s0 s2 s5 .no .no
  ·have hwd:wd s=0:=by unfold wd;rw[if_neg hs]
   have hn:cI js=[]:=by
    show cI ((List.range (wd s)).filter _)=[];rw[hwd];rfl
   rw[decide_eq_false hs,hwd,hn];have hb:=aKf λk=>[s0,.no,s2,.no,.no,s5,.no,.no,.no].getD k .no
   rw[Prod.mk.injEq]at hb;rcases(show s=0\/s=6 by lia)with rfl|rfl
   ·exact hb.1
   ·exact hb.2
 have h7: ∀(s0 s1 s2 s3 s4 s5:Slot),I7 [s0,s1,s2,s3,s4,s5,.sh (.lst (cI js)),.no,.no]= .nx [s0,s1,s2,s3,s4,s5,.sh (.lst (cI js)),.no,.no]:=λs0 s1 s2 s3 s4 s5=>by
  cases hjs:js with
  |nil=>exact aKe λk=>[s0,s1,s2,s3,s4,s5,.no,.no,.no].getD k .no
  |cons k l=>
   have:=hj k (by rw[hjs];exact .head _)
   exact aGk (λk=>[s0,s1,s2,s3,s4,s5,.no,.no,.no].getD k .no) (cI l) (k:=k) (by lia)
 have h8: ∀z:Nat->Slot,B3 (st3 z p (z 8))= .nx (st3 z p (.sh (.lst (AS p))))/\R3 (st3 z p (.sh (.lst (AS p))))= .rt (.ok (.bl true)):=λz=>by
  rcases(show p<3\/p=3 by lia)with h|h
  ·have:=List.map_inj_left.1 (aKd z) p (zPd h)
   rw[Prod.mk.injEq]at this;exact this
  ·subst h;exact⟨aOh z,aOi z⟩
 have e0:b9 [aI .Sub (aB aD [aA 0,rK (.int 4),rK (.int 7)]) (rK (.int 1)),aI .Sub (aB aD [aA 0,rK (.int 5),rK (.int 6)]) (rK (.int 1))] [.sh (Sc ns),.no,.no,.no,.no,.no,.no,.no,.no]= .ok (.tup [.int ((s:Int)-1),.int ((n:Int)-1)]):=
  qG ((aR ((bB (y:=.int ((4:Nat):Int)) (z:=.int ((7:Nat):Int)) rfl rfl rfl).trans es) rfl).trans rfl) ((aR ((bB (y:=.int ((5:Nat):Int)) (z:=.int ((6:Nat):Int)) rfl rfl rfl).trans en) rfl).trans rfl)
 obtain⟨h81,h82⟩:=h8 λk=>[.sh (Sc ns),.sh (.int ((s:Int)-1)),.sh (.int ((n:Int)-1)),.sh (.bl (decide (1<=s/\s<=5))),.sh (.int (wd s:Nat)),.sh (w5 s n),.sh (.lst (cI js)),.no,.no].getD k .no
 refine aQ ((aC (yL e0 rfl)).trans ?_);refine jH.trans (jH.trans (jH.trans (jH.trans ((aC hb1).trans ?_))));refine(aC (hW (e6 _))).trans ((aC (h6 _ _ _)).trans ((aC (h7 _ _ _ _ _ _)).trans ((aC (bE ((bB (y:=.int ((6:Nat):Int)) (z:=.int ((4:Nat):Int)) rfl rfl rfl).trans ep))).trans ?_)));refine jH.trans (jH.trans ((aC h81).trans h82))
theorem aGm{i:Nat}{e:F}{ρ:Rho}{xs:List D}{d:D}(h:ρ[i]? =some (.ow xs))(he:e ρ= .ok d)(hl:xs.length<LIM):aB7 i e ρ= .nx (ρ.set i (.ow (xs++[d]))):=by
 simp[aB7,h,he,iA,hl]
def prs(a b:List Bool):List D:=(a.zip b).map λp=>.tup [bD p.1,bD p.2]
theorem aBw{a b:List Bool}{f:F}{g:Bool->Bool->Bool}(hf: ∀x y,f [.sh (bD x),.sh (bD y)]= .ok (bD (g x y))){it:F}{ρ:Rho}(hi:it ρ= .ok (.lst (prs a b))):aL 2 [] it none f ρ= .ow ((List.zipWith g a b).map bD):=by
 refine gP (.inl hi) ?_;unfold prs;refine(d6 (p:=λ_=>true) (q:=λp:Bool×Bool=>bD (g p.1 p.2)) λp _=>?_).trans ?_
 ·simp[cW,tgt,iT,hf p.1 p.2]
 ·rw[List.filter_eq_self.2 λ_ _=>rfl,List.zip_eq_zipWith,List.map_zipWith,List.map_zipWith]
theorem aGn:(List.range 5).map (λ(m:Nat)=>(List.range (2^m)).map λ(p:Nat)=>(aJ [.int (m:Nat),.int (p:Nat)],qM ((List.range m).map λk=>p.testBit k)))=(List.range 5).map λ(m:Nat)=>(List.range (2^m)).map λ(p:Nat)=>(R.ok (.tup (((List.range m).map λk=>p.testBit k).map bD)),p):=by kernel_rfl
section
variable {m m2:Nat} {a b:List Bool}
theorem aBx(a:List Bool):vH a=(List.range a.length).filter λk=>a.getD k false:=by
 have e:a.zipIdx=(List.range a.length).map λk=>(a.getD k false,k):=by
  apply List.ext_getElem
  ·simp
  ·intro i h1 h2
   have:i<a.length:=by simpa using h1
   simp[this]
 unfold vH;rw[e,List.filter_map,List.map_map];exact List.map_id' _
theorem aKg(g:oA m a)(h:oA m2 b)(s0 s4 s6 s7 s8 s9 s10:Slot):
  (sIf (aU .NotEq (aL 0 [2,3] (aV (rK (.int 3))) none (aB aE [aA 0,aA 1,aA 2])) (rIf (aU .Eq (rIx (aF 3) (rK (.int 0))) (aA 1)) (aA 5) (aI .Mult (cN [rK (.str "unlike")]) (rK (.int 3)))))
 (bV (rK (.bl false)))
 (bF)) [s0,.sh (.int (m:Nat)),.sh (sw m a),.sh (sw m2 b),s4,.sh (.lst [sw m (List.zipWith (· && ·) a b),sw m (List.zipWith (· || ·) a b),sw m (List.zipWith (· ^^ ·) a b)]),s6,s7,s8,s9,s10]
  = .nx [s0,.sh (.int (m:Nat)),.sh (sw m a),.sh (sw m2 b),s4,.sh (.lst [sw m (List.zipWith (· && ·) a b),sw m (List.zipWith (· || ·) a b),sw m (List.zipWith (· ^^ ·) a b)]),s6,s7,s8,s9,s10]:=by
 have hc:aU .Eq (rIx (aF 3) (rK (.int 0))) (aA 1) [s0,.sh (.int (m:Nat)),.sh (sw m a),.sh (sw m2 b),s4,.sh (.lst [sw m (List.zipWith (· && ·) a b),sw m (List.zipWith (· || ·) a b),sw m (List.zipWith (· ^^ ·) a b)]),s6,s7,s8,s9,s10]= .ok (.bl (decide ((m2:Int)=m))):=(aX (x:=.int (m2:Nat)) (y:=.int (m:Nat)) rfl rfl).trans (aF7 _ _)
 have three': ∀{F:Nat->D},(∀k,k<3->aE [.int (k:Nat),sw m a,sw m2 b]= .ok (F k))->aL 0 [2,3] (aV (rK (.int 3))) none (aB aE [aA 0,aA 1,aA 2]) [s0,.sh (.int (m:Nat)),.sh (sw m a),.sh (sw m2 b),s4,.sh (.lst [sw m (List.zipWith (· && ·) a b),sw m (List.zipWith (· || ·) a b),sw m (List.zipWith (· ^^ ·) a b)]),s6,s7,s8,s9,s10]= .ow [F 0,F 1,F 2]:=λ{F} hF=>
  (j6 (L:=List.range 3) (q:=F) (bQ (n:=3) rfl (by decide)) λk mk=>(bB (x:=.int (k:Nat)) rfl rfl rfl).trans (hF k (zRd mk))).trans rfl
 by_cases e:m2=m
 ·subst e
  have e1:=three' (F:=λk=>if k=0 then sw m2 (List.zipWith (· && ·) a b)else if k=1 then sw m2 (List.zipWith (· || ·) a b)else sw m2 (List.zipWith (· ^^ ·) a b)) λk hk=>by
   rcases(show k=0\/k=1\/k=2 by lia)with rfl|rfl|rfl
   ·exact zD dv0 (aF9 g h)
   ·exact zD dv1 (y0 g h)
   ·exact zD dv2 (y6 g h)
  refine(cP ((aF3 e1 ((qF (hc.trans (by rw[decide_eq_true rfl]))).trans rfl)).trans (uL ?_ ?_))).trans rfl
  ·simp[aK,jG]
  ·have d1:=aC2 m2 (List.zipWith (· && ·) a b)
   have dd: ∀c:List Bool,dep (sw m2 c)<=2:=λc=>by
    have:=lE λx mx=>(jF (lJ c x mx)).2
    simp[sw,dep,mV,this]
   have:=dd (List.zipWith (· && ·) a b)
   have:=dd (List.zipWith (· || ·) a b)
   have:=dd (List.zipWith (· ^^ ·) a b)
   show max (dep (sw m2 (List.zipWith (· && ·) a b))) (max (dep (sw m2 (List.zipWith (· || ·) a b))) (max (dep (sw m2 (List.zipWith (· ^^ ·) a b))) 0))<=59
   lia
 ·obtain⟨x1,x2,x3⟩:=uT (F:=fZ) (f:=λ_=>fZ) (sw m a) (sw m2 b) (aBu g h λz=>e z.symm)
  have e1:=three' (F:=λ_=>.str "unlike") λk hk=>by
   rcases(show k=0\/k=1\/k=2 by lia)with rfl|rfl|rfl
   ·exact jR dv0 x1 w4
   ·exact jR dv1 x2 w4
   ·exact jR dv2 x3 w4
  have hne: ¬(m2:Int)=m:=by lia
  exact(cP ((uC (y:=[.str "unlike",.str "unlike",.str "unlike"]) e1 ((aBp (hc.trans (by rw[decide_eq_false hne]))).trans (by kernel_rfl))).trans (uL (by decide+kernel) (by decide+kernel)))).trans rfl
theorem zF{ws:List D}(h: ∀w∈ws,bit w):cJ ws=0/\fQ ws=ws.length:=by
 induction ws with
 |nil=>exact⟨rfl,rfl⟩
 |cons x r ih=>
  obtain⟨b,c⟩:=ih λy m=>h y (.tail _ m)
  rcases h x (.head _)with rfl|rfl<;>simp[cJ,fS,fQ,cnt,b,c]<;>lia
theorem aMn(ns:List Int)(hm:m<=4)(s2 s3 s4 s5 s6 s7 s8 s9 s10:Slot): ∃m2:Nat,m2<=4/\rIf (aU .Gt (aB aD [aA 0,rK (.int 1),rK (.int 4)]) (rK (.int 0))) (aA 1) (aI .Mod (aI .Add (aA 1) (rK (.int 1))) (rK (.int 5))) [.sh (Sc ns),.sh (.int (m:Nat)),s2,s3,s4,s5,s6,s7,s8,s9,s10]= .ok (.int (m2:Nat)):=by
 obtain⟨q,eq,lq⟩:=bO ns 1 (m:=4) (by decide)
 have hc:aU .Gt (aB aD [aA 0,rK (.int 1),rK (.int 4)]) (rK (.int 0)) [.sh (Sc ns),.sh (.int (m:Nat)),s2,s3,s4,s5,s6,s7,s8,s9,s10]= .ok (.bl (decide ((0:Int)<q))):=(aX ((bB (y:=.int ((1:Nat):Int)) (z:=.int ((4:Nat):Int)) rfl rfl rfl).trans eq) rfl).trans rfl
 by_cases h:(0:Int)<q
 ·exact⟨m,hm,(qF (hc.trans (by rw[decide_eq_true h]))).trans rfl⟩
 ·refine⟨(m+1) % 5,by lia,(aBp (hc.trans (by rw[decide_eq_false h]))).trans ((aR ((aR (x:=.int (m:Nat)) (y:=.int 1) rfl rfl).trans rfl) rfl).trans ((lC (by decide)).trans ?_))⟩
  congr 2
noncomputable def aBy(m:Nat):List D:=[.tup (ak (m+1) (.int 0)),.non,.lst (ak m (.int 0)),.tup (ak m (.int 2)),.tup (ak m (.bl true))]
theorem aKh(s0 s2 s3 s4 s5 s6 s7 s8 s9 s10:Slot)(hm:m<=4):cN [aI .Mult (b9 [rK (.int 0)]) (aI .Add (aA 1) (rK (.int 1))),rK .non,aI .Mult (cN [rK (.int 0)]) (aA 1),aI .Mult (b9 [rK (.int 2)]) (aA 1),aI .Mult (b9 [rK (.bl true)]) (aA 1)] [s0,.sh (.int (m:Nat)),s2,s3,s4,s5,s6,s7,s8,s9,s10]= .ow (aBy m):=by
 rcases(show m=0\/m=1\/m=2\/m=3\/m=4 by lia)with rfl|rfl|rfl|rfl|rfl<;>rfl
theorem aKi:((List.range 5).all λ(m:Nat)=>(List.range 5).all λ(k:Nat)=>plain ((aBy m).getD k .non)&&(m==0|| !zJ (m:Nat) 2 ((aBy m).getD k .non)))=true:=by kernel_rfl
def FV:F:=(cN [aB aE [rK (.int 5),rK (.int 5),rK (.int 0)],aB aE [rK (.int 5),vK (rK (.int 1)),rK (.int 0)],aB aE [rK (.int 5),rK (.int 4),rK (.int 4)],aB aE [rK (.int 4),rK (.int 5),rK (.int 1)],aB aE [rK (.int 4),vK (rK (.int 1)),rK (.int 1)]])
theorem aKj(ρ:Rho):FV ρ= .ow [.str "no name",.str "no name",.str "no name",.str "no name",.str "no name"]/\aI .Mult (cN [rK (.str "no name")]) (rK (.int 5)) ρ= .ow [.str "no name",.str "no name",.str "no name",.str "no name",.str "no name"]:=⟨by kernel_rfl,by kernel_rfl⟩
theorem aMo(ρ:Rho):aI .Mult (cN [rK (.str "no switch")]) (rK (.int 8)) ρ= .ow [.str "no switch",.str "no switch",.str "no switch",.str "no switch",.str "no switch",.str "no switch",.str "no switch",.str "no switch"]:=by kernel_rfl
theorem aKk{d:D}(hp:plain d=true)(hd:dep d<=60):gC .NotEq d d= .ok (.bl false):=by
 rw[jB (fX hp hp hd),iN _ hp];rfl
theorem law_true(ns:List Int):aMi [.lst (ns.map D.int)]= .ok (.bl true):=by
 obtain⟨m,em,lm⟩:=bO ns 0 (m:=5) (by decide)
 have hm:m<=4:=by lia
 obtain⟨a,g,ea⟩:=uH ns 10 hm;obtain⟨m2,hm2,em2⟩:=aMn ns hm (.sh (sw m a)) .no .no .no .no .no .no .no .no;obtain⟨b,h,eb⟩:=uH ns 50 hm2;have hp:=lG hm
 -- pairs
 have e4:aB rD [mW (rIx (aF 2) (rK (.int 1))) (rIx (aF 3) (rK (.int 1)))] [.sh (Sc ns),.sh (.int (m:Nat)),.sh (sw m a),.sh (sw m2 b),.no,.no,.no,.no,.no,.no,.no]= .ow (prs a b):=by
  refine(aT (yY (xs:=a.map bD) (ys:=b.map bD) rfl rfl)).trans ?_;show R.ow _=_;rw[List.zip_map,List.map_map];rfl
 have t: ∀(s4 s5:Slot) (f:F) (q:Bool->Bool->Bool),(∀x y,f [.sh (bD x),.sh (bD y)]= .ok (bD (q x y)))->b9 [aA 1,aB dG [aL 2 [] (aF 4) none f]] [.sh (Sc ns),.sh (.int (m:Nat)),.sh (sw m a),.sh (sw m2 b),.sh (.lst (prs a b)),s5,.no,.no,.no,.no,.no]= .ok (sw m (List.zipWith q a b)):=λs4 s5 f q hf=>
  (qG (x:=.int (m:Nat)) rfl ((cS (aBw hf rfl)).trans rfl)).trans rfl
 have t1:=t .no .no (aI .Mult (aA 0) (aA 1)) (· && ·) λx y=>by cases x<;>cases y<;>rfl
 have t2:=t .no .no (aI .Sub (aI .Add (aA 0) (aA 1)) (aI .Mult (aA 0) (aA 1))) (· || ·) λx y=>by cases x<;>cases y<;>rfl
 have t3:=t .no (.ow [sw m (List.zipWith (· && ·) a b),sw m (List.zipWith (· || ·) a b)]) (aI .Mod (aI .Add (aA 0) (aA 1)) (rK (.int 2))) (· ^^ ·) λx y=>by cases x<;>cases y<;>rfl
 have e5:cN [b9 [aA 1,aB dG [aL 2 [] (aF 4) none (aI .Mult (aA 0) (aA 1))]],b9 [aA 1,aB dG [aL 2 [] (aF 4) none (aI .Sub (aI .Add (aA 0) (aA 1)) (aI .Mult (aA 0) (aA 1)))]]] [.sh (Sc ns),.sh (.int (m:Nat)),.sh (sw m a),.sh (sw m2 b),.sh (.lst (prs a b)),.no,.no,.no,.no,.no,.no]= .ow [sw m (List.zipWith (· && ·) a b),sw m (List.zipWith (· || ·) a b)]:=by
  simp[cN,lK,args,t1,t2,RA.cons,RA.then]
 -- a setting
 obtain⟨p,ep,lp⟩:=bO ns 2 (m:=2^m) (by lia)
 have hS:=List.map_inj_left.1 (List.map_inj_left.1 aGn m (zPd (by lia))) p (zPd lp)
 rw[Prod.mk.injEq]at hS;obtain⟨hn,ew⟩:=aBs (s:=(List.range m).map λk=>p.testBit k) g (by simp)
 have ew':aE [.int ((3:Nat):Int),sw m a,.tup (((List.range m).map λk=>p.testBit k).map bD)]= .ok (bD a[qM ((List.range m).map λk=>p.testBit k)]):=zD dv3 ew
 have lpa:p<a.length:=by rw[g.2];exact lp
 have eix:dIx (.tup (a.map bD)) (.int (p:Nat))= .ok (bD a[qM ((List.range m).map λk=>p.testBit k)]):=hX (by simp only[hS.2];simp[lpa])
 -- an odd thing
 obtain⟨q,eq,lq⟩:=bO ns 3 (m:=5) (by decide)
 have hO:=zAd (zAd aKi m (zPd (by lia))) q (zPd lq)
 rw[ar]at hO;have lO:q<(aBy m).length:=by simp[aBy];lia
 have gO:(aBy m)[q]? =some ((aBy m).getD q .non):=by rw[bu,az lO];rfl
 generalize (aBy m).getD q .non=o at hO gO
 -- something spoilt
 obtain⟨c2,c3⟩:=zF (lJ a);obtain⟨d,ed,pd,_,_⟩:=zC ns 130 (d:=sw m a) (jG m a) (by simp[sw,fS,cJ,c2]) (by simp[sw,cnt,fQ,c3,g.2];lia)
 refine aQ ((aC (bE ((bB (y:=.int ((0:Nat):Int)) (z:=.int ((5:Nat):Int)) rfl rfl rfl).trans em))).trans ?_);refine(aC (bE ((bB (y:=.int ((10:Nat):Int)) (z:=.int (m:Nat)) rfl rfl rfl).trans ea))).trans ?_;refine(aC (bE ((bB (y:=.int ((50:Nat):Int)) (z:=.int (m2:Nat)) rfl rfl em2).trans eb))).trans ?_;refine(aC (hW e4)).trans ((aC (i9 e5)).trans ((aC (aGm (xs:=[sw m (List.zipWith (· && ·) a b),sw m (List.zipWith (· || ·) a b)]) rfl t3 (show 2<LIM by decide))).trans ?_))
 refine(aC (aKg g h _ _ _ _ _ _ _)).trans ?_;refine(aC (bE ((bB (y:=.int ((2:Nat):Int)) (z:=.int ((2^m:Nat):Int)) rfl rfl ((aT (x:=.tup (a.map bD)) rfl).trans (by simp[iE,items,g.2]))).trans ep))).trans ?_
 refine(aC ((cP ((aX ((bB (x:=.int ((3:Nat):Int)) rfl rfl ((dW (x:=.int (m:Nat)) (y:=.int (p:Nat)) rfl rfl).trans hS.1)).trans ew') ((eQ (x:=.tup (a.map bD)) (y:=.int (p:Nat)) rfl rfl).trans eix)).trans (aKk (by cases a[qM ((List.range m).map λk=>p.testBit k)]<;>rfl) (by cases a[qM ((List.range m).map λk=>p.testBit k)]<;>exact bq _)))).trans rfl)).trans ?_
 have eo:rIx (cN [aI .Mult (b9 [rK (.int 0)]) (aI .Add (aA 1) (rK (.int 1))),rK .non,aI .Mult (cN [rK (.int 0)]) (aA 1),aI .Mult (b9 [rK (.int 2)]) (aA 1),aI .Mult (b9 [rK (.bl true)]) (aA 1)]) (aB aD [aA 0,rK (.int 3),rK (.int 5)]) [.sh (Sc ns),.sh (.int (m:Nat)),.sh (sw m a),.sh (sw m2 b),.sh (.lst (prs a b)),.sh (.lst [sw m (List.zipWith (· && ·) a b),sw m (List.zipWith (· || ·) a b),sw m (List.zipWith (· ^^ ·) a b)]),.sh (.int (p:Nat)),.no,.no,.no,.no]= .ok o:=by
  have h1:cN [aI .Mult (b9 [rK (.int 0)]) (aI .Add (aA 1) (rK (.int 1))),rK .non,aI .Mult (cN [rK (.int 0)]) (aA 1),aI .Mult (b9 [rK (.int 2)]) (aA 1),aI .Mult (b9 [rK (.bl true)]) (aA 1)] [.sh (Sc ns),.sh (.int (m:Nat)),.sh (sw m a),.sh (sw m2 b),.sh (.lst (prs a b)),.sh (.lst [sw m (List.zipWith (· && ·) a b),sw m (List.zipWith (· || ·) a b),sw m (List.zipWith (· ^^ ·) a b)]),.sh (.int (p:Nat)),.no,.no,.no,.no]= .ow (aBy m):=aKh _ _ _ _ _ _ _ _ _ _ hm
  have h2:aB aD [aA 0,rK (.int 3),rK (.int 5)] [.sh (Sc ns),.sh (.int (m:Nat)),.sh (sw m a),.sh (sw m2 b),.sh (.lst (prs a b)),.sh (.lst [sw m (List.zipWith (· && ·) a b),sw m (List.zipWith (· || ·) a b),sw m (List.zipWith (· ^^ ·) a b)]),.sh (.int (p:Nat)),.no,.no,.no,.no]= .ok (.int (q:Nat)):=(bB (y:=.int ((3:Nat):Int)) (z:=.int ((5:Nat):Int)) rfl rfl rfl).trans eq
  exact(yO h1 h2).trans (fW gO)
 refine(aC (bE eo)).trans ?_;refine(aC ((cP (?_:_=R.ok (.bl false))).trans rfl)).trans ?_
 ·by_cases h0:m=0
  ·subst h0;exact uD ((aX (x:=.int ((0:Nat):Int)) rfl rfl).trans rfl)
  ·have hr:zJ (m:Nat) 2 o=false:=by
    have:=hO.2
    rw[Bool.or_eq_true]at this;rcases this with z|z
    ·exact absurd (by simpa using z) h0
    ·simpa using z
   refine(iM ((aX (x:=.int (m:Nat)) (y:=.int 0) rfl rfl).trans ?_)).trans ((aX ((bB (x:=.int ((3:Nat):Int)) rfl rfl rfl).trans (jR dv3 (zE g hO.1 hr) w2)) rfl).trans (neS _ aMl));show R.ok (.bl (decide ((0:Int)<(m:Nat))))=_;rw[decide_eq_true (by lia)]
 refine(aC ((cP ((uJ (x:=.lst (cI (vH a))) (y:=cI (vH a)) ((bB (x:=.int ((7:Nat):Int)) rfl rfl rfl).trans (aMk dv7 (aGb g))) ?_).trans (uL ?_ ?_))).trans rfl)).trans ?_
 ·rw[aBx a,g.2];refine uK (L:=List.range (2^m)) (bQ ((aT (x:=.tup (a.map bD)) rfl).trans (by simp[iE,items,g.2])) (by lia)) λk mk=>?_
  have lk:k<a.length:=by rw[g.2];exact zRd mk
  refine(aX ((eQ (x:=.tup (a.map bD)) (y:=.int (k:Nat)) rfl rfl).trans (hX (x:=bD (a.getD k false)) (by simp[lk]))) rfl).trans ?_
  cases a.getD k false<;>rfl
 ·exact bR.2 λx mx=>by obtain⟨i,_,rfl⟩:=ao.1 mx;rfl
 ·rw[lE λx mx=>by obtain⟨i,_,rfl⟩:=ao.1 mx;rfl];lia
 refine(aC (hW (aKj _).1)).trans ?_;refine(aC ((cP ((eR ((uJ rfl (aKj _).2).trans (uL (by decide+kernel) (by decide+kernel)))).trans ((eJ ((aT rfl).trans (aGl ns))).trans rfl))).trans rfl)).trans ?_
 refine(aC (bE ((bB (y:=.int ((130:Nat):Int)) rfl rfl rfl).trans ed))).trans ?_;have hsw:=nW pd
 cases z:qK d with
 |true=>exact dA ((dJ ((aT rfl).trans (hsw.trans (by rw[z])))).trans rfl)
 |false=>
  refine(aC ((cP ((aT rfl).trans (hsw.trans (by rw[z])))).trans rfl)).trans ?_
  obtain⟨x1,x2,x3⟩:=uT (F:=fZ) (f:=λ_=>fZ) d (sw m2 b) (aGe pd z _)
  obtain⟨y1,y2,y3⟩:=uT (F:=fZ) (f:=λ_=>fZ) (sw m2 b) d (aGf h pd z)
  have n1: ∀k:Nat,k<3->aE [.int (k:Nat),d,sw m2 b]= .ok (.str "no switch"):=λk hk=>by
   rcases(show k=0\/k=1\/k=2 by lia)with rfl|rfl|rfl
   ·exact jR dv0 x1 w1
   ·exact jR dv1 x2 w1
   ·exact jR dv2 x3 w1
  have n2: ∀k:Nat,k<3->aE [.int (k:Nat),sw m2 b,d]= .ok (.str "no switch"):=λk hk=>by
   rcases(show k=0\/k=1\/k=2 by lia)with rfl|rfl|rfl
   ·exact jR dv0 y1 w1
   ·exact jR dv1 y2 w1
   ·exact jR dv2 y3 w1
  have n3:aE [.int ((3:Nat):Int),d,.non]= .ok (.str "no switch"):=jR dv3 (aBv pd z _) w1
  have n7:aE [.int ((7:Nat):Int),d,.non]= .ok (.str "no switch"):=jR dv7 (aGg pd z) w1
  have l1:aL 0 [9,3] (aV (rK (.int 3))) none (aB aE [aA 0,aA 1,aA 2]) [.sh (Sc ns),.sh (.int (m:Nat)),.sh (sw m a),.sh (sw m2 b),.sh (.lst (prs a b)),.sh (.lst [sw m (List.zipWith (· && ·) a b),sw m (List.zipWith (· || ·) a b),sw m (List.zipWith (· ^^ ·) a b)]),.sh (.int (p:Nat)),.sh o,.sh (.lst [.str "no name",.str "no name",.str "no name",.str "no name",.str "no name"]),.sh d,.no]= .ow [.str "no switch",.str "no switch",.str "no switch"]:=
   (j6 (L:=List.range 3) (q:=λ_=>.str "no switch") (bQ (n:=3) rfl (by decide)) λk mk=>(bB (x:=.int (k:Nat)) rfl rfl rfl).trans (n1 k (zRd mk))).trans rfl
  have l2:aL 0 [9,3] (aV (rK (.int 3))) none (aB aE [aA 0,aA 2,aA 1]) [.sh (Sc ns),.sh (.int (m:Nat)),.sh (sw m a),.sh (sw m2 b),.sh (.lst (prs a b)),.sh (.lst [sw m (List.zipWith (· && ·) a b),sw m (List.zipWith (· || ·) a b),sw m (List.zipWith (· ^^ ·) a b)]),.sh (.int (p:Nat)),.sh o,.sh (.lst [.str "no name",.str "no name",.str "no name",.str "no name",.str "no name"]),.sh d,.no]= .ow [.str "no switch",.str "no switch",.str "no switch"]:=
   (j6 (L:=List.range 3) (q:=λ_=>.str "no switch") (bQ (n:=3) rfl (by decide)) λk mk=>(bB (x:=.int (k:Nat)) rfl rfl rfl).trans (n2 k (zRd mk))).trans rfl
  have l3: ∀s10,cN [aB aE [rK (.int 3),aA 9,rK .non],aB aE [rK (.int 7),aA 9,rK .non]] [.sh (Sc ns),.sh (.int (m:Nat)),.sh (sw m a),.sh (sw m2 b),.sh (.lst (prs a b)),.sh (.lst [sw m (List.zipWith (· && ·) a b),sw m (List.zipWith (· || ·) a b),sw m (List.zipWith (· ^^ ·) a b)]),.sh (.int (p:Nat)),.sh o,.sh (.lst [.str "no name",.str "no name",.str "no name",.str "no name",.str "no name"]),.sh d,s10]= .ow [.str "no switch",.str "no switch"]:=λs10=>by
   have a1:=(bB (f:=aE) (a:=rK (.int 3)) (b:=aA 9) (c:=rK .non) (x:=.int ((3:Nat):Int)) (ρ:=[.sh (Sc ns),.sh (.int (m:Nat)),.sh (sw m a),.sh (sw m2 b),.sh (.lst (prs a b)),.sh (.lst [sw m (List.zipWith (· && ·) a b),sw m (List.zipWith (· || ·) a b),sw m (List.zipWith (· ^^ ·) a b)]),.sh (.int (p:Nat)),.sh o,.sh (.lst [.str "no name",.str "no name",.str "no name",.str "no name",.str "no name"]),.sh d,s10]) rfl rfl rfl).trans n3
   have a2:=(bB (f:=aE) (a:=rK (.int 7)) (b:=aA 9) (c:=rK .non) (x:=.int ((7:Nat):Int)) (ρ:=[.sh (Sc ns),.sh (.int (m:Nat)),.sh (sw m a),.sh (sw m2 b),.sh (.lst (prs a b)),.sh (.lst [sw m (List.zipWith (· && ·) a b),sw m (List.zipWith (· || ·) a b),sw m (List.zipWith (· ^^ ·) a b)]),.sh (.int (p:Nat)),.sh o,.sh (.lst [.str "no name",.str "no name",.str "no name",.str "no name",.str "no name"]),.sh d,s10]) rfl rfl rfl).trans n7
   simp[cN,lK,args,a1,a2,RA.cons,RA.then]
  have add: ∀{x y:F} {ρ:Rho} {u v:List D},x ρ= .ow u->y ρ= .ow v->aI .Add x y ρ=jI .Add (.lst u) (.lst v):=λhx hy=>by simp[aI,hx,hy,R.bind]
  have add1: ∀{x y:F} {ρ:Rho} {u v:List D},x ρ= .ok (.lst u)->y ρ= .ow v->aI .Add x y ρ=jI .Add (.lst u) (.lst v):=λhx hy=>by simp[aI,hx,hy,R.bind]
  refine(aC (hW (d:=[.str "no switch",.str "no switch",.str "no switch",.str "no switch",.str "no switch",.str "no switch"]) ((add l1 l2).trans rfl))).trans (aN ?_);refine(uC (x:=[.str "no switch",.str "no switch",.str "no switch",.str "no switch",.str "no switch",.str "no switch",.str "no switch",.str "no switch"]) ((add1 (u:=[.str "no switch",.str "no switch",.str "no switch",.str "no switch",.str "no switch",.str "no switch"]) rfl (l3 _)).trans rfl) (aMo _)).trans ?_
  kernel_rfl
end
open PySem.Spec PyProof.Rows L2 PySem.W
abbrev KK(w:World):PySem.W.Frag:=kK w.params
set_option maxHeartbeats 0 in
theorem all_mk{l:PySem.W.OpenLaw}{w:World}{h:Heap}{mg:Str->Option Value}{fa:Addr}(X:(KK w).In h)(G:h.Ns mainGlobals mg)(hfa:mg "law"=some (.ref fa)):
  ∃fd:FuncData,(∀(s:Shared) (v:Value),BindsTo s fd ⟨[v],[]⟩ [("_law_script",v)])/\∀base:Heap,(KK w).In base->base.Ns mainGlobals mg->FnOk l.prog w (KK w) mg base (CXe l.prog w) 60 fa fd ["_law_script"] (aBo (KK w)):=by
 cases hfa.symm.trans (PySem.W.mg_of X G (n:="law") (v:=.ref 350) (by kernel_rfl))
 refine⟨PySem.W.fnOf "law" "law" (defArgs (top 53)) (defBody (top 53)) (defScope (top 53)) .none .none .none (.str "law_switchkinds_k02_whole_making" 481) none (.ref 349) .none,λs v=>.of_eq rfl,λbase _ _=>?_⟩
 have t:PQ l.prog w (KK w) mg base h (aFz [24,37,49,61,73,85,97] 24 [106,113,118,125,132,139,146,153,158,165,172,179,186,193,200,207,212,217,222,227,232,239,244,249,256,263,273,283,268,295,302,309,316,321,333,340,345,350]) 0 [] []:=.nil X G (aF0 (by kernel_rfl) (by kernel_rfl))
 have t:=t.int "MOST_NAMES" 4 305;have t:=t.int "MOST_NAMES_LISTED" 3 307;have t:=t.exc "SwitchError" 0;have t:=t.exc "NoSwitch" 1;have t:=t.exc "NoName" 2;have t:=t.exc "NoMove" 3;have t:=t.exc "Unlike" 4;have t:=t.exc "NoSums" 5;have t:=t.exc "NoText" 6;have t:=t.verr;have t:=t.py .len;have t:=t.py .range;have t:=t.py .enum;have t:=t.py .zip;have t:=t.py .isin;have t:=t.py .int;have t:=t.py .bool;have t:=t.py .tuple;have t:=t.py .list;have t:=t.py .sum;have t:=t.py .all;have t:=t.py .sorted;have t:=t.py .set;have t:=t.add "is_whole" (top 11) 106 ["thing"] 1 jC rfl;have t:=t.add "is_whole_below" (top 12) 113 ["thing","bound"] 2 aS rfl;have t:=t.add "are_whole_below" (top 13) 118 ["things","bound"] 2 bS rfl;have t:=t.add "is_many" (top 14) 125 ["thing"] 1 eT rfl;have t:=t.add "is_many_listed" (top 15) 132 ["thing"] 1 dY rfl;have t:=t.add "is_row" (top 16) 139 ["thing","length","bound"] 3 iO rfl;have t:=t.add "all_rows" (top 17) 146 ["length"] 1 jD rfl;have t:=t.add "how_many_settings" (top 18) 153 ["many"] 1 aM rfl;have t:=t.add "number_of" (top 19) 158 ["setting"] 1 fH rfl;have t:=t.add "is_switch" (top 21) 165 ["thing"] 1 fI rfl;have t:=t.add "check_switch" (top 22) 172 ["thing"] 1 bI rfl;have t:=t.add "check_alike" (top 23) 179 ["one","other"] 2 bC rfl;have t:=t.add "check_many" (top 24) 186 ["thing"] 1 dC rfl;have t:=t.add "check_name" (top 25) 193 ["many","thing"] 2 fY rfl;have t:=t.add "check_worth" (top 26) 200 ["thing"] 1 fJ rfl;have t:=t.add "worth_at" (top 27) 207 ["switch","setting"] 2 dZ rfl;have t:=t.add "ones" (top 28) 212 ["switch"] 1 lF rfl;have t:=t.add "both" (top 29) 217 ["one","other"] 2 fZ rfl;have t:=t.add "either" (top 30) 222 ["one","other"] 2 iP rfl;have t:=t.add "unlike" (top 31) 227 ["one","other"] 2 iQ rfl;have t:=t.add "of_ones" (top 32) 232 ["many","numbers"] 2 iR rfl;have t:=t.add "constant" (top 33) 239 ["many","worth"] 2 mM rfl;have t:=t.add "single" (top 34) 244 ["many","name"] 2 uE rfl;have t:=t.add "all_switches" (top 35) 249 ["many"] 1 dR rfl;have t:=t.add "_law_cell" (top 37) 256 ["_law_script","_law_k"] 2 eU rfl;have t:=t.add "_law_pick" (top 38) 263 ["_law_script","_law_k","_law_many"] 3 aD rfl;have t:=t.add "_law_setting" (top 40) 273 ["_law_many","_law_number_here"] 2 aJ rfl;have t:=t.add "_law_odd" (top 42) 283 ["_law_one","_law_other"] 2 eV rfl;have t:=t.add "_law_switch" (top 39) 268 ["_law_script","_law_at","_law_many"] 3 dD rfl;have t:=t.addR "_law_places" (top 44) 295 ["_law_thing"] 1 cF 12 rfl;have t:=t.addR "_law_put" (top 45) 302 ["_law_thing","_law_place","_law_new"] 3 d9 12 rfl;have t:=t.add "_law_spoilt_thing" (top 46) 309 ["_law_script","_law_at","_law_thing"] 3 aY rfl;have t:=t.add "_law_is_bit" (top 47) 316 ["_law_thing"] 1 dF rfl;have t:=t.add "_law_is_switch" (top 48) 321 ["_law_thing"] 1 bT rfl;have t:=t.add "_law_word" (top 50) 333 ["_law_kept"] 1 dP rfl;have t:=t.addV "_law_do" (top 51) 340 ["_law_what","_law_one","_law_other"] 3 aE rfl _ (.inl rfl);have t:=t.add "_law_are_made_right" (top 52) 345 ["_law_script"] 1 cQ rfl;exact aF1 (yK (ps:=["_law_script"]) t.B t.t i8.nil (vY (x:="law") (st:=top 53) (f:=350) rfl (by kernel_rfl) (by kernel_rfl)) rfl (by kernel_rfl)) law_true
end SK.k02
open PySem PySem.W PyProof.Rows
set_option maxRecDepth 100000 in
set_option maxHeartbeats 0 in
theorem PySem.Challenge.cw_switchkinds_k02_whole_making_holds : PySem.Challenge.rw_switchkinds_k02_whole_making.Holds := by
 w_on
 refine PySem.W.holds_law SK.k02.sd λsaid=>?_
 refine PySem.W.holds_open (q:=SK.k02.kq) (loose:=[]) (Xt:=λs=>PySem.W.xlAt SK.k02.kq [] s&&PySem.W.recOk (PySem.W.RowW.records (PySem.W.OpenRow.toRowW PySem.Challenge.rw_switchkinds_k02_whole_making.row)) s) (XP:=PySem.W.XL SK.k02.kq []) (Yf:=PySem.W.Hook.obs (PySem.W.kHook SK.k02.kK SK.k02.kas (λ_=>by kernel_rfl))) (Ya:=PySem.W.Hook.val (PySem.W.kHook SK.k02.kK SK.k02.kas (λ_=>by kernel_rfl))) (YP:=PySem.W.Hook.says (PySem.W.kHook SK.k02.kK SK.k02.kas (λ_=>by kernel_rfl))) (N:=5498) SK.k02.left (PySem.W.Hook.of (PySem.W.kHook SK.k02.kK SK.k02.kas (λ_=>by kernel_rfl))) (PySem.W.Hook.keeps (PySem.W.kHook SK.k02.kK SK.k02.kas (λ_=>by kernel_rfl))) (λs e=>PySem.W.xl_of s (Bool.and_eq_true_iff.mp e).1) PySem.W.XL.keeps (by rfl) (by rfl) (by rfl) (λs e=>PySem.W.recFacts_of (Bool.and_eq_true_iff.mp e).2) (by rfl) (by first|assumption|decide+kernel) (by decide+kernel) ⟨rfl,rfl,rfl,rfl,rfl,by decide+kernel⟩ ?hw ?hc
 (case hw=>w_witness2)
 refine SK.walk (l:=PySem.Challenge.rw_switchkinds_k02_whole_making) 60 rfl rfl ⟨rfl,by decide,by decide⟩ (λw h Y=>PySem.W.kIn_of Y) ?F
 case F=>
  intro w mg fa h KX G hmg;exact SK.k02.all_mk KX G hmg
