import PyProof.Rows.All
import Wide.All
import OpenK.AllK
import Wide.FinOn
import Lean
import PyProof.EqAt
import PyProof.EqKinds
import PyProof.TupleCall
import PySem.Syntax
import PySem.Builtin.Int.W1All
import PySem.Eval
import PyProof.StrBlockL
import PyProof.StrBlock2
import PyProof.P3Eq
import PyProof.NeData
import PyProof.Rows.IntBool
import KE.KxIndex
import KE.KEqDict
import PyProof.FString5
import KE.KIntText
import PyProof.StrWalks
import PyProof.DictWalks
import PyProof.ExcArgs
import PyProof.RulesAs
import PyProof.RulesDel
import KE.KTryMore
import PyProof.StrCalls2
import PyProof.StrLawsOcc
import PyProof.FitsReplace
import PyProof.DictKinds
import PyProof.MeetsDict
import PyProof.DictList
import PyProof.ZipIter
import PyProof.EnumStmt
import PyProof.ListRange
import PyProof.TupleOfSeq
import PyProof.ConsumeS
import PyProof.Rows.MinMaxGenD
import PyProof.Rows.RuleM_int
import KE.KRevSl
import PyProof.SetNew
import PyProof.Rows.SetFrom
import PyProof.TupleKey
import PyProof.FactsAll.NoneType
import KE.KSortTup
import PyProof.Rows.CallKwBuiltin
import KE.KDictList
import PyProof.Rows.SortStr
import PyProof.IsiH_list
import KE.KUnpack
import KE.KLam
import PySem.Challenge.RW_switchkinds_k71_whole_racks
noncomputable section
abbrev cf:=PySem.Value->PySem.Shared->Prop
noncomputable abbrev cg:=List (PySem.Addr×PySem.Obj)
open PySem renaming wpAny_bind->aa,wpAny_pure->ae
open PySem.Heap renaming get?_push_of_some->af,get?_push_size->ag,lt_size->ah,size_push->ai
open Nat renaming le_refl->aj,lt_of_lt_of_le->bh,ne_of_lt->bj,zero_le->bx
open List renaming replicate->ao,length_map->aq,mem_map->au,mem_cons->av,size_toArray->ax,getElem?_eq_some_iff->ay,getElem?_set_ne->bd,getElem?_eq_getElem->bf,getElem?_set_self->bn,getElem?_append_right->bo,length_append->bq,length_cons->bt,mem_append_right->bu,getElem?_append_left->cb,getD_eq_getElem?_getD->cc
open Bool renaming and_eq_true->aw,false_eq_true->az,false_ne_true->bg
open False renaming elim->ba
theorem zBd{α β:Type}{o:Option α}{f:α->Option β}{b:β}(h:o.bind f=some b): ∃a,o=some a/\f a=some b:=Option.bind_eq_some_iff.mp h
theorem zMd{α β:Type}{o:Option α}{f:α->β}{b:β}(h:o.map f=some b): ∃a,o=some a/\f a=b:=Option.map_eq_some_iff.mp h
theorem zAd{α:Type}{l:List α}{p:α->Bool}(h:l.all p=true): ∀x,x∈l->p x=true:=List.all_eq_true.mp h
theorem zPd(h:m<n):m∈List.range n:=List.mem_range.mpr h
theorem zRd(h:m∈List.range n):m<n:=List.mem_range.mp h
set_option Elab.async false
set_option linter.all false
set_option maxRecDepth 100000
namespace SK
open PySem PySem.W PyProof.Rows PySem.Calls
noncomputable def aPa(tb:String->Option Builtin)(p:Program)(w:World)(m:Nat)(ann:Option Value)(n:Nat):SharedT->Thread->Option SharedT:=
 Nat.rec (λ_ _=>none) (λ_ ih s t=>match through t with
  |true=>some s
  |false=>match stepOk m ann t with
   |false=>none
   |true=>match stepT (denote tb) p w s t with
    |some r=>ih r.1 r.2
    |none=>none) n
theorem oK{tb:String->Option Builtin}{p:Program}{w:World}{m:Nat}{ann:Option Value}: ∀(n:Nat) (s s':SharedT) (t:Thread),aPa tb p w m ann n s t=some s'->topRun tb p w m ann n s.abs t=some s'.abs
 |0,_,_,_,h=>nomatch h
 |n+1,s,s',t,h=>by
  have h:(match through t with
   |true=>some s
   |false=>match stepOk m ann t with
    |false=>none
    |true=>match stepT (denote tb) p w s t with
     |some r=>aPa tb p w m ann n r.1 r.2
     |none=>none)=some s':=h
  unfold topRun
  cases c:through t with
  |true=>rw[c]at h;cases h;rfl
  |false=>
   rw[c]at h
   cases hk:stepOk m ann t with
   |false=>rw[hk]at h;cases h
   |true=>
    rw[hk]at h
    cases a:stepT (denote tb) p w s t with
    |none=>rw[a]at h;cases h
    |some r=>obtain⟨b,d⟩:=r;rw[a]at h;rw[stepT_spec a];exact oK n _ _ _ h
noncomputable def BTl:Nat->List Obj->BT
 |0,_=>.nil
 |n+1,l=>match l with
  |[]=>.nil
  |v::r=>.node v (BTl n (ev true r)) (BTl n (ev false r))
where
 ev:Bool->List Obj->List Obj
 |_,[]=>[]
 |true,v::r=>v::ev false r
 |false,_::r=>ev true r
def bt0(P:Params):BT:=BTl 12 (boot_heap P).objs.toList
def sT0(P:Params)(os:OsState):SharedT:=⟨bt0 P,(boot_heap P).objs.size,(boot_heap P).life, #[],boot_drawn,boot_toks,os⟩
theorem aKe(P:Params):absHeap (bt0 P) (boot_heap P).objs.size (boot_heap P).life=boot_heap P:=by kernel_rfl
theorem aFx(P:Params):(boot_heap P).isNs mainGlobals=true:=by kernel_rfl
def aFy(p q:Program)(loose:List Str)(Xt:Shared->Bool){α:Type}(Yf:Shared->α)(P:Params)(s:Shared):=
 (staticsOk (importedModules p.main.body) (boot_heap P) s.heap&&namesBound p s.heap&&gensDone s&&laidKept (boot_heap P) s.heap,openSeen q loose (importedModules p.main.body) Xt true s,Yf s)
def aRd(p:Program)(N:Nat)(w:World)(os:OsState):Option SharedT:=aPa treeTable p w (boot_heap w.params).objs.size ((boot_heap w.params).nsMap mainGlobals "__annotations__") N (sT0 w.params os) (topStub p)
theorem left_tree{Yf:Shared->α}{Ya:World->α}{N:Nat}(e:opening p=plainProg p.main.scope.names)(hN:Nat.ble 600 N=true)(f: ∀s,fenceModules? p s=some s)(hk: ∀w os,(aRd p N w os).map (λs=>aFy p q loose Xt Yf w.params s.abs)=some (true,openGood q loose,Ya w)):LeftO p q loose Xt Yf Ya N:=λw=>by
 obtain⟨b,i,o⟩:=zMd (boot_open e hN f w);obtain⟨h,g,d,k,os⟩:=b;obtain⟨rfl,rfl,rfl,rfl⟩:h=boot_heap w.params/\g=Array.mk []/\d=boot_drawn/\k=boot_toks:=by simpa using o
 obtain⟨s,r,l⟩:=zMd (hk w os);obtain⟨c,j,m⟩:_/\_/\_:=by simpa only[aFy,Prod.mk.injEq]using l
 have a:=oK _ _ _ _ r
 have n:(sT0 w.params os).abs=⟨boot_heap w.params,Array.mk [],boot_drawn,boot_toks,os⟩:=by
  show(⟨absHeap (bt0 w.params) (boot_heap w.params).objs.size (boot_heap w.params).life, #[],boot_drawn,boot_toks,os⟩:Shared)=_
  rw[aKe]
 rw[n]at a
 have t:topFrom treeTable p w N ⟨boot_heap w.params,Array.mk [],boot_drawn,boot_toks,os⟩=some s.abs:=by
  unfold topFrom
  dsimp only
  rw[aFx,a]
  show(match staticsOk (importedModules p.main.body) (boot_heap w.params) s.abs.heap&&namesBound p s.abs.heap&&gensDone s.abs&&laidKept (boot_heap w.params) s.abs.heap with|true=>_|false=>_)=_
  rw[c]
 unfold openEnds;rw[i]
 show(topFrom treeTable p w N _).map _=_
 rw[t];exact congrArg some (Prod.ext j m)
universe u
def kt{α:Sort u}(_:α):Bool:=true
def q1(p q:Program)(lo:List Str)(N:Nat)(c:WRecords)(a:List Addr)(w:World)(os:OsState):=(aRd p N w os).map λs=>aFy p q lo (λs=>xlAt q [] s&&recOk c s) (λs=>a.map s.heap.get?) w.params s.abs
theorem tg:kt q1=true:=by k_qdec
end SK
set_option maxHeartbeats 0
namespace L2
open PySem
noncomputable def defArgs(s:Stmt):Arguments:=match s with
 |.FunctionDef _ a _ _ _ _ _ _ _ _=>a
 |_=>{posonlyargs:=[],args:=[],vararg:=none,kwonlyargs:=[],kw_defaults:=[],kwarg:=none,defaults:=[]}
def defBody(s:Stmt):List Stmt:=match s with
 |.FunctionDef _ _ b _ _ _ _ _ _ _=>b
 |_=>[]
def defScope(s:Stmt):Scope:=match s with
 |.FunctionDef _ _ _ _ _ _ sc _ _ _=>sc
 |_=>{kind:=.function,names:=[],isGenerator:=false,isCoroutine:=false}
end L2
namespace SK.k71
open PySem
noncomputable def top(i:Nat):Stmt:=PySem.Challenge.pw_switchkinds_k71_whole_racks.main.body.getD i (.Pass ⟨0,0,0,0⟩)
noncomputable def met(i j:Nat):Stmt:=(match top i with|.ClassDef _ _ _ b _ _ _ _ _ _ _=>b|_=>[]).getD j (.Pass ⟨0,0,0,0⟩)
abbrev fm(st:Stmt)(x q m:Str)(t c:Nat):Obj:={cls:=.type "function",data:=.func {name:=x,qualname:=q,params:=L2.defArgs st,body:=.stmts (L2.defBody st),scope:=L2.defScope st,globals:=3,closure:=[],defaults:=.none,kwdefaults:=.none,pyModule:=.str m t,code:=.ref c} }
noncomputable abbrev en(P:Params)(k:Str)(t:Nat)(v:Value):DictEntry:=⟨PyData.keyHash P k,.str k t,v⟩
abbrev fo(st:Stmt)(x m:Str)(t c:Nat):Obj:={cls:=.type "function",data:=.func {name:=x,qualname:=x,params:=L2.defArgs st,body:=.stmts (L2.defBody st),scope:=L2.defScope st,globals:=3,closure:=[],defaults:=.none,kwdefaults:=.none,pyModule:=.str m t,code:=.ref c} }
noncomputable abbrev co(vs:Array Value):Obj:={cls:=.type "code",data:=.fields vs}
abbrev cC(x:Str)(a l n r e:Nat)(u v w:Value):Obj:=co #[.str x a,.str x (a+1),.str "/claim/cut.py" (a+2),.int l 0,.int n 0,.int 0 0,.int 0 0,.int 3 0,.ref r,.bool true,.int 181 0,.ref (r+1),.none,u,v,w,.int e 0,.int l 0,.str "/claim/cut.py" (e+1)]
abbrev cA(x:Str)(a l n r e:Nat):Obj:=cC x a l n r e .none .none (.ref (r+2))
abbrev cB(x:Str)(a l n r e:Nat):Obj:=cC x a l n r e (.ref (r+2)) (.ref (r+3)) (.ref (r+4))
noncomputable abbrev cK(x:Str)(f c ns s a b:Nat):Obj:={cls:=.type "type",data:=.cls {name:=x,bases:=[.ref c],mro:=[.ref f,.ref c,.type "ValueError",.type "Exception",.type "BaseException",.type "object"],ns:=ns,qualname:=x},slots:= #[some (.ref s),none,some (.str x a),some (.str x b),some (.builtin "ValueError.__new__"),some (.bool true)]}
abbrev dK(P:Params)(m:Str)(q a l r:Nat):Obj:={cls:=.type "dict",data:=.dict #[en P "__module__" a (.str m q),en P "__firstlineno__" (a+4) (.int l (a+3)),en P "__static_attributes__" (a+5) (.ref r),en P "__doc__" (a+6) .none] 2}
def kK:Params->PySem.W.Frag:=λP=>[
(3,{cls:=.type "dict",data:=.dict #[en P "__name__" 165 (.str "law_switchkinds_k71_whole_racks" 619),en P "__doc__" 166 .none,en P "__package__" 167 .none,en P "__loader__" 168 (.builtin "__main__.__loader__#opaque"),en P "__spec__" 169 .none,en P "__annotations__" 170 (.ref 6),en P "__builtins__" 171 (.ref 4),en P "__file__" 173 (.str "/claim/cut.py" 172),en P "__cached__" 174 .none,en P "_wall" 193 (.ref 21),en P "SwitchError" 213 (.ref 31),en P "NoSwitch" 229 (.ref 44),en P "NoName" 245 (.ref 56),en P "NoMove" 261 (.ref 68),en P "Unlike" 277 (.ref 80),en P "NoSums" 293 (.ref 92),en P "NoText" 309 (.ref 104),en P "NoTerm" 325 (.ref 116),en P "NoLabel" 341 (.ref 128),en P "NoBack" 357 (.ref 140),en P "MOST_NAMES" 361 (.int 4 360),en P "is_whole" 368 (.ref 149),en P "is_whole_below" 376 (.ref 156),en P "are_whole_below" 382 (.ref 161),en P "is_many" 389 (.ref 168),en P "is_row" 398 (.ref 175),en P "how_many_settings" 405 (.ref 182),en P "is_switch" 414 (.ref 189),en P "check_switch" 421 (.ref 196),en P "check_alike" 429 (.ref 203),en P "turned" 435 (.ref 208),en P "both" 441 (.ref 213),en P "either" 447 (.ref 218),en P "unlike" 453 (.ref 223),en P "LONGEST_LABEL" 457 (.int 4 456),en P "is_label" 463 (.ref 228),en P "check_label" 470 (.ref 235),en P "joined" 479 (.ref 242),en P "Rack" 618 (.ref 348),en P "_law_cell" 628 (.ref 359),en P "_law_pick" 638 (.ref 366),en P "_law_switch" 644 (.ref 371),en P "_law_setting" 650 (.ref 376),en P "_law_odd" 656 (.ref 381),en P "_law_class" 665 (.ref 388),en P "_law_told" 673 (.ref 395),en P "_law_deed" 687 (.ref 402),en P "_law_behind" 693 (.ref 407),en P "_law_did" 703 (.ref 414),en P "_law_all_of" 709 (.ref 419),en P "law" 715 (.ref 424)] 51}),
(20,cB "_wall" 187 1 1 15 191),
(21,fo (top 0) "_wall" "__main__" 164 20),
(30,{cls:=.type "dict",data:=.dict #[en P "__module__" 203 (.str "switchkinds.errors" 194),en P "__firstlineno__" 207 (.int 5 206),en P "__static_attributes__" 208 (.ref 29),en P "__weakref__" 210 (.ref 32),en P "__doc__" 211 .none] 3}),
(31,{cls:=.type "type",data:=.cls {name:="SwitchError",bases:=[.type "ValueError"],mro:=[.ref 31,.type "ValueError",.type "Exception",.type "BaseException",.type "object"],ns:=30,qualname:="SwitchError",subclasses:=[.ref 44,.ref 56,.ref 68,.ref 80,.ref 92,.ref 104,.ref 116,.ref 128,.ref 140]},slots:= #[some (.ref 22),none,some (.str "SwitchError" 196),some (.str "SwitchError" 204),some (.builtin "ValueError.__new__"),some (.bool true)]}),
(32,{cls:=.type "getset_descriptor",data:=.fields #[.str "__weakref__" 209,.ref 31,.builtin "ExceptionGroup.__weakref__",.none]}),
(43,dK P "switchkinds.errors" 194 221 7 42),
(44,cK "NoSwitch" 44 31 43 35 214 222),
(55,dK P "switchkinds.errors" 194 237 9 54),
(56,cK "NoName" 56 31 55 47 230 238),
(67,dK P "switchkinds.errors" 194 253 11 66),
(68,cK "NoMove" 68 31 67 59 246 254),
(79,dK P "switchkinds.errors" 194 269 13 78),
(80,cK "Unlike" 80 31 79 71 262 270),
(91,dK P "switchkinds.errors" 194 285 15 90),
(92,cK "NoSums" 92 31 91 83 278 286),
(103,dK P "switchkinds.errors" 194 301 17 102),
(104,cK "NoText" 104 31 103 95 294 302),
(115,dK P "switchkinds.errors" 194 317 19 114),
(116,cK "NoTerm" 116 31 115 107 310 318),
(127,dK P "switchkinds.errors" 194 333 21 126),
(128,cK "NoLabel" 128 31 127 119 326 334),
(139,dK P "switchkinds.errors" 194 349 23 138),
(140,cK "NoBack" 140 31 139 131 342 350),
(148,cB "is_whole" 362 27 1 143 366),
(149,fo (top 14) "is_whole" "switchkinds.wholes" 358 148),
(155,cB "is_whole_below" 369 29 2 150 374),
(156,fo (top 15) "is_whole_below" "switchkinds.wholes" 358 155),
(160,cA "are_whole_below" 377 31 2 157 380),
(161,fo (top 16) "are_whole_below" "switchkinds.wholes" 358 160),
(167,cB "is_many" 383 33 1 162 387),
(168,fo (top 17) "is_many" "switchkinds.wholes" 358 167),
(174,cB "is_row" 390 35 3 169 396),
(175,fo (top 18) "is_row" "switchkinds.wholes" 358 174),
(181,cB "how_many_settings" 399 37 1 176 403),
(182,fo (top 19) "how_many_settings" "switchkinds.wholes" 358 181),
(188,cB "is_switch" 408 40 1 183 412),
(189,fo (top 21) "is_switch" "switchkinds.switches" 406 188),
(195,cB "check_switch" 415 44 1 190 419),
(196,fo (top 22) "check_switch" "switchkinds.switches" 406 195),
(202,cB "check_alike" 422 47 2 197 427),
(203,fo (top 23) "check_alike" "switchkinds.switches" 406 202),
(207,cA "turned" 430 52 1 204 433),
(208,fo (top 24) "turned" "switchkinds.switches" 406 207),
(212,cA "both" 436 55 2 209 439),
(213,fo (top 25) "both" "switchkinds.switches" 406 212),
(217,cA "either" 442 58 2 214 445),
(218,fo (top 26) "either" "switchkinds.switches" 406 217),
(222,cA "unlike" 448 61 2 219 451),
(223,fo (top 27) "unlike" "switchkinds.switches" 406 222),
(227,cA "is_label" 458 66 1 224 461),
(228,fo (top 30) "is_label" "switchkinds.racks" 454 227),
(234,cB "check_label" 464 70 1 229 468),
(235,fo (top 31) "check_label" "switchkinds.racks" 454 234),
(241,cB "joined" 471 73 3 236 477),
(242,fo (top 32) "joined" "switchkinds.racks" 454 241),
(255,co #[.str "__init__" 492,.str "Rack.__init__" 493,.str "/claim/cut.py" 494,.int 83 0,.int 1 0,.int 0 0,.int 0 0,.int 3 0,.ref 250,.bool true,.int 181 0,.ref 251,.none,.ref 252,.ref 253,.ref 254,.int 496 0,.int 83 0,.str "/claim/cut.py" 497]),
(256,fm (met 33 0) "__init__" "Rack.__init__" "switchkinds.racks" 454 255),
(262,co #[.str "set_to" 499,.str "Rack.set_to" 500,.str "/claim/cut.py" 501,.int 88 0,.int 3 0,.int 0 0,.int 0 0,.int 3 0,.ref 257,.bool true,.int 181 0,.ref 258,.none,.ref 259,.ref 260,.ref 261,.int 505 0,.int 88 0,.str "/claim/cut.py" 506]),
(263,fm (met 33 1) "set_to" "Rack.set_to" "switchkinds.racks" 454 262),
(269,co #[.str "do" 508,.str "Rack.do" 509,.str "/claim/cut.py" 510,.int 94 0,.int 4 0,.int 0 0,.int 0 0,.int 3 0,.ref 264,.bool true,.int 181 0,.ref 265,.none,.ref 266,.ref 267,.ref 268,.int 515 0,.int 94 0,.str "/claim/cut.py" 516]),
(270,fm (met 33 2) "do" "Rack.do" "switchkinds.racks" 454 269),
(276,co #[.str "put" 518,.str "Rack.put" 519,.str "/claim/cut.py" 520,.int 99 0,.int 3 0,.int 0 0,.int 0 0,.int 3 0,.ref 271,.bool true,.int 181 0,.ref 272,.none,.ref 273,.ref 274,.ref 275,.int 525 0,.int 99 0,.str "/claim/cut.py" 526]),
(277,fm (met 33 3) "put" "Rack.put" "switchkinds.racks" 454 276),
(283,co #[.str "switch_of" 528,.str "Rack.switch_of" 529,.str "/claim/cut.py" 530,.int 106 0,.int 2 0,.int 0 0,.int 0 0,.int 3 0,.ref 278,.bool true,.int 181 0,.ref 279,.none,.ref 280,.ref 281,.ref 282,.int 533 0,.int 106 0,.str "/claim/cut.py" 534]),
(284,fm (met 33 4) "switch_of" "Rack.switch_of" "switchkinds.racks" 454 283),
(290,co #[.str "take" 536,.str "Rack.take" 537,.str "/claim/cut.py" 538,.int 112 0,.int 2 0,.int 0 0,.int 0 0,.int 3 0,.ref 285,.bool true,.int 181 0,.ref 286,.none,.ref 287,.ref 288,.ref 289,.int 542 0,.int 112 0,.str "/claim/cut.py" 543]),
(291,fm (met 33 5) "take" "Rack.take" "switchkinds.racks" 454 290),
(297,co #[.str "join" 545,.str "Rack.join" 546,.str "/claim/cut.py" 547,.int 117 0,.int 5 0,.int 0 0,.int 0 0,.int 3 0,.ref 292,.bool true,.int 181 0,.ref 293,.none,.ref 294,.ref 295,.ref 296,.int 554 0,.int 117 0,.str "/claim/cut.py" 555]),
(298,fm (met 33 6) "join" "Rack.join" "switchkinds.racks" 454 297),
(304,co #[.str "turn" 557,.str "Rack.turn" 558,.str "/claim/cut.py" 559,.int 123 0,.int 2 0,.int 0 0,.int 0 0,.int 3 0,.ref 299,.bool true,.int 181 0,.ref 300,.none,.ref 301,.ref 302,.ref 303,.int 563 0,.int 123 0,.str "/claim/cut.py" 564]),
(305,fm (met 33 7) "turn" "Rack.turn" "switchkinds.racks" 454 304),
(311,co #[.str "labels" 566,.str "Rack.labels" 567,.str "/claim/cut.py" 568,.int 128 0,.int 1 0,.int 0 0,.int 0 0,.int 3 0,.ref 306,.bool true,.int 181 0,.ref 307,.none,.ref 308,.ref 309,.ref 310,.int 570 0,.int 128 0,.str "/claim/cut.py" 571]),
(312,fm (met 33 8) "labels" "Rack.labels" "switchkinds.racks" 454 311),
(316,co #[.str "like" 573,.str "Rack.like" 574,.str "/claim/cut.py" 575,.int 131 0,.int 2 0,.int 0 0,.int 0 0,.int 3 0,.ref 313,.bool true,.int 181 0,.ref 314,.none,.none,.none,.ref 315,.int 576 0,.int 131 0,.str "/claim/cut.py" 577]),
(317,fm (met 33 9) "like" "Rack.like" "switchkinds.racks" 454 316),
(323,co #[.str "back" 579,.str "Rack.back" 580,.str "/claim/cut.py" 581,.int 135 0,.int 1 0,.int 0 0,.int 0 0,.int 3 0,.ref 318,.bool true,.int 181 0,.ref 319,.none,.ref 320,.ref 321,.ref 322,.int 584 0,.int 135 0,.str "/claim/cut.py" 585]),
(324,fm (met 33 10) "back" "Rack.back" "switchkinds.racks" 454 323),
(330,co #[.str "forth" 587,.str "Rack.forth" 588,.str "/claim/cut.py" 589,.int 143 0,.int 1 0,.int 0 0,.int 0 0,.int 3 0,.ref 325,.bool true,.int 181 0,.ref 326,.none,.ref 327,.ref 328,.ref 329,.int 591 0,.int 143 0,.str "/claim/cut.py" 592]),
(331,fm (met 33 11) "forth" "Rack.forth" "switchkinds.racks" 454 330),
(337,co #[.str "counts" 594,.str "Rack.counts" 595,.str "/claim/cut.py" 596,.int 146 0,.int 1 0,.int 0 0,.int 0 0,.int 3 0,.ref 332,.bool true,.int 181 0,.ref 333,.none,.ref 334,.ref 335,.ref 336,.int 598 0,.int 146 0,.str "/claim/cut.py" 599]),
(338,fm (met 33 12) "counts" "Rack.counts" "switchkinds.racks" 454 337),
(344,co #[.str "twin" 601,.str "Rack.twin" 602,.str "/claim/cut.py" 603,.int 149 0,.int 1 0,.int 0 0,.int 0 0,.int 3 0,.ref 339,.bool true,.int 181 0,.ref 340,.none,.ref 341,.ref 342,.ref 343,.int 605 0,.int 149 0,.str "/claim/cut.py" 606]),
(345,fm (met 33 13) "twin" "Rack.twin" "switchkinds.racks" 454 344),
(347,{cls:=.type "dict",data:=.dict #[en P "__module__" 487 (.str "switchkinds.racks" 454),en P "__firstlineno__" 491 (.int 81 490),en P "__init__" 498 (.ref 256),en P "set_to" 507 (.ref 263),en P "do" 517 (.ref 270),en P "put" 527 (.ref 277),en P "switch_of" 535 (.ref 284),en P "take" 544 (.ref 291),en P "join" 556 (.ref 298),en P "turn" 565 (.ref 305),en P "labels" 572 (.ref 312),en P "like" 578 (.ref 317),en P "back" 586 (.ref 324),en P "forth" 593 (.ref 331),en P "counts" 600 (.ref 338),en P "twin" 607 (.ref 345),en P "__static_attributes__" 611 (.ref 346),en P "__dict__" 613 (.ref 349),en P "__weakref__" 615 (.ref 350),en P "__doc__" 616 .none] 4}),
(348,{cls:=.type "type",data:=.cls {name:="Rack",bases:=[.type "object"],mro:=[.ref 348,.type "object"],ns:=347,qualname:="Rack" },slots:= #[none,none,some (.str "Rack" 480),some (.str "Rack" 488),some (.builtin "object.__new__"),some (.bool true)]}),
(349,{cls:=.type "getset_descriptor",data:=.fields #[.str "__dict__" 612,.ref 348,.builtin "function.__dict__",.builtin "function.__dict__#set"]}),
(350,{cls:=.type "getset_descriptor",data:=.fields #[.str "__weakref__" 614,.ref 348,.builtin "ExceptionGroup.__weakref__",.none]}),
(358,cB "_law_cell" 621 152 2 353 626),
(359,fo (top 35) "_law_cell" "law_switchkinds_k71_whole_racks" 619 358),
(365,cB "_law_pick" 629 158 3 360 636),
(366,fo (top 36) "_law_pick" "law_switchkinds_k71_whole_racks" 619 365),
(370,cA "_law_switch" 639 161 3 367 642),
(371,fo (top 37) "_law_switch" "law_switchkinds_k71_whole_racks" 619 370),
(375,cA "_law_setting" 645 177 2 372 648),
(376,fo (top 38) "_law_setting" "law_switchkinds_k71_whole_racks" 619 375),
(380,cA "_law_odd" 651 179 2 377 654),
(381,fo (top 39) "_law_odd" "law_switchkinds_k71_whole_racks" 619 380),
(387,cB "_law_class" 657 181 1 382 663),
(388,fo (top 40) "_law_class" "law_switchkinds_k71_whole_racks" 619 387),
(394,cB "_law_told" 666 189 1 389 671),
(395,fo (top 41) "_law_told" "law_switchkinds_k71_whole_racks" 619 394),
(401,cB "_law_deed" 674 194 3 396 685),
(402,fo (top 42) "_law_deed" "law_switchkinds_k71_whole_racks" 619 401),
(406,cA "_law_behind" 688 206 2 403 691),
(407,fo (top 43) "_law_behind" "law_switchkinds_k71_whole_racks" 619 406),
(413,cB "_law_did" 694 227 2 408 701),
(414,fo (top 44) "_law_did" "law_switchkinds_k71_whole_racks" 619 413),
(418,cA "_law_all_of" 704 233 1 415 707),
(419,fo (top 45) "_law_all_of" "law_switchkinds_k71_whole_racks" 619 418),
(423,cA "law" 710 235 1 420 713),
(424,fo (top 46) "law" "law_switchkinds_k71_whole_racks" 619 423)]
noncomputable def kas:List Addr:=[3,20,21,30,31,32,43,44,55,56,67,68,79,80,91,92,103,104,115,116,127,128,139,140,148,149,155,156,160,161,167,168,174,175,181,182,188,189,195,196,202,203,207,208,212,213,217,218,222,223,227,228,234,235,241,242,255,256,262,263,269,270,276,277,283,284,290,291,297,298,304,305,311,312,316,317,323,324,330,331,337,338,344,345,347,348,349,350,358,359,365,366,370,371,375,376,380,381,387,388,394,395,401,402,406,407,413,414,418,419,423,424]
def kq:Program:={PySem.Challenge.pw_switchkinds_k71_whole_racks with main:={PySem.Challenge.pw_switchkinds_k71_whole_racks.main with body:=[top 0,top 2,top 3,top 4,top 5,top 6,top 7,top 8,top 9,top 10,top 11,top 13,top 14,top 15,top 16,top 17,top 18,top 19,top 21,top 22,top 23,top 24,top 25,top 26,top 27,top 29,top 30,top 31,top 32,top 33,top 35,top 36,top 37,top 38,top 39,top 40,top 41,top 42,top 43,top 44,top 45,top 46]} }
theorem sd:PySem.Challenge.rw_switchkinds_k71_whole_racks.wellSaid=true:=by kernel_rfl
theorem lk(w:World)(os:OsState):SK.q1 PySem.Challenge.rw_switchkinds_k71_whole_racks.row.prog kq [] 7398 (PySem.W.RowW.records (PySem.W.OpenRow.toRowW PySem.Challenge.rw_switchkinds_k71_whole_racks.row)) kas w os=some (true,PySem.W.openGood kq [],(kK w.params).map λp=>some p.2):=by
 have _:=SK.tg;rw[PySem.W.Fast.te11324695928718235439]
 kernel_rfl
theorem left:PySem.W.LeftO PySem.Challenge.rw_switchkinds_k71_whole_racks.row.prog kq [] (λs=>PySem.W.xlAt kq [] s&&PySem.W.recOk (PySem.W.RowW.records (PySem.W.OpenRow.toRowW PySem.Challenge.rw_switchkinds_k71_whole_racks.row)) s) (PySem.W.Hook.obs (PySem.W.kHook kK kas (λ_=>by kernel_rfl))) (PySem.W.Hook.val (PySem.W.kHook kK kas (λ_=>by kernel_rfl))) 7398:=SK.left_tree (by kernel_rfl) (by kernel_rfl) (λ_=>by kernel_rfl) lk
end SK.k71
namespace L2
open PySem PySem.Spec PyProof.Rows
noncomputable abbrev Key:=Sum Int Str
def qV:Key->Value->Bool
 |.inl k,v=>Value.isInt k v
 |.inr x,v=>Value.isStrOf x v
def aR7(w:World):Key->Int
 |.inl k=>hashInt k
 |.inr x=>hashStr w x
theorem bQ: ∀{k:Key} {v:Value},qV k v=true->(∃i t,k=Sum.inl i/\v=Value.int i t)\/(∃x t,k=Sum.inr x/\v=Value.str x t)
 |.inl i,v,h=>by
  obtain⟨t,e⟩:=Value.isInt_shape (k:=i) (v:=v) h;exact .inl ⟨i,t,rfl,e⟩
 |.inr x,v,h=>by
  obtain⟨t,e⟩:=Value.isStrOf_shape (x:=x) (v:=v) h;exact .inr ⟨x,t,rfl,e⟩
theorem wD(i:Int)(t:Tok):qV (.inl i) (.int i t)=true:=by simp[qV,Value.isInt]
theorem wE(x:Str)(t:Tok):qV (.inr x) (.str x t)=true:=by simp[qV,Value.isStrOf]
theorem aKf(a b:Int):decide ((Sum.inl a:Key)=Sum.inl b)=(a==b):=by
 by_cases e:a=b
 ·subst e;simp
 ·have h: ¬(Sum.inl a:Key)=Sum.inl b:=λq=>e (Sum.inl.inj q)
  rw[decide_eq_false h];exact(beq_eq_false_iff_ne.mpr e).symm
theorem aKg(a b:Str):decide ((Sum.inr a:Key)=Sum.inr b)=decide (a=b):=by
 by_cases e:a=b
 ·subst e;simp
 ·have h: ¬(Sum.inr a:Key)=Sum.inr b:=λq=>e (Sum.inr.inj q)
  rw[decide_eq_false h,decide_eq_false e]
theorem aKh(a:Int)(b:Str):decide ((Sum.inl a:Key)=Sum.inr b)=false:=decide_eq_false (λq=>nomatch q)
theorem aKi(a:Str)(b:Int):decide ((Sum.inr a:Key)=Sum.inl b)=false:=decide_eq_false (λq=>nomatch q)
def aZ(prog:Program)(w:World):PySem.KeyKind prog w Key where
 is:=qV
 hash:=aR7 w
 inj:=λv a b ha hb=>by
  rcases bQ ha with ⟨i,t,rfl,rfl⟩|⟨x,t,rfl,rfl⟩
  ·rcases bQ hb with ⟨j,u,rfl,e⟩|⟨y,u,rfl,e⟩
   ·injection e with e1 _;rw[e1]
   ·exact nomatch e
  ·rcases bQ hb with ⟨j,u,rfl,e⟩|⟨y,u,rfl,e⟩
   ·exact nomatch e
   ·injection e with e1 _;rw[e1]
 byValue:=λk v h=>by
  rcases bQ h with ⟨i,t,rfl,rfl⟩|⟨x,t,rfl,rfl⟩<;>rfl
 pyHash:=λhv h=>by
  rcases bQ hv with ⟨i,t,rfl,rfl⟩|⟨x,t,rfl,rfl⟩
  ·exact wpAny_pyHash_int h
  ·exact wpAny_pyHash_str h
 eqBool:=λhu hv h=>by
  rcases bQ hu with ⟨i,t,rfl,rfl⟩|⟨x,t,rfl,rfl⟩
  ·rcases bQ hv with ⟨j,u,rfl,rfl⟩|⟨y,u,rfl,rfl⟩
   ·rw[aKf]at h;exact wpAny_eqBool_int h
   ·rw[aKh]at h;exact SeqAt.EqAt.int_str i t y u _ _ _ _ h
  ·rcases bQ hv with ⟨j,u,rfl,rfl⟩|⟨y,u,rfl,rfl⟩
   ·rw[aKi]at h;exact SeqAt.EqAt.str_int x t j u _ _ _ _ h
   ·rw[aKg]at h;exact wpAny_eqBool_str h
 «strs»:=λk x t v h=>by
  rcases bQ h with ⟨i,u,rfl,e⟩|⟨y,u,rfl,e⟩
  ·exact nomatch e
  ·injection e with e1 _
   subst e1
   cases v<;>rfl
theorem qW(prog:Program)(w:World)(i:Int)(t:Tok):(aZ prog w).is (.inl i) (.int i t)=true:=wD i t
theorem j0(prog:Program)(w:World)(x:Str)(t:Tok):(aZ prog w).is (.inr x) (.str x t)=true:=wE x t
inductive V where
 |non|bl (b:Bool)|int (i:Int)|str (x:Str)|byt (b:Array UInt8)|flt (b:UInt64)|ref (a:Addr)|ty (n:String)
 deriving DecidableEq
def bA:V->Value->Prop
 |.non,u=>u=Value.none
 |.bl b,u=>u=Value.bool b
 |.int i,u=>∃t,u=Value.int i t
 |.str x,u=>∃t,u=Value.str x t
 |.byt b,u=>∃t,u=Value.bytes b t
 |.flt b,u=>∃t,u=Value.float b t
 |.ref a,u=>u=Value.ref a
 |.ty n,u=>u=Value.type n
abbrev cN:List V->List Value->Prop:=Paired bA
theorem cN.length(r:cN xs us):xs.length=us.length:=Paired.length r
theorem cN.get: ∀{xs:List V} {us:List Value} {i:Nat} {x:V},cN xs us->xs[i]? =some x->∃u,us[i]? =some u/\bA x u
 |_,_,_,_,.nil,e=>by simp at e
 |_,_,0,_,.cons r _,e=>by simp at e;subst e;exact⟨_,rfl,r⟩
 |_,_,i+1,x,.cons _ t,e=>by
  obtain⟨u,b,a⟩:=cN.get (i:=i) (x:=x) t (by simpa using e)
  exact⟨u,by simpa using b,a⟩
theorem cN.set{x:V}{u:Value}(r:bA x u): ∀{xs:List V} {us:List Value} (i:Nat),cN xs us->cN (xs.set i x) (us.set i u)
 |_,_,_,.nil=>.nil
 |_,_,0,.cons _ t=>.cons r t
 |_,_,i+1,.cons q t=>.cons q (cN.set r i t)
theorem cN.append: ∀{xs ys:List V} {us ws:List Value},cN xs us->cN ys ws->cN (xs++ys) (us++ws)
 |_,_,_,_,.nil,s=>s
 |_,_,_,_,.cons r t,s=>.cons r (cN.append t s)
noncomputable def lR:Option V->Option Value->Prop
 |some v,some u=>bA v u
 |none,none=>True
 |_,_=>False
def KV{κ:Type}:List (κ×V)->List (κ×Value)->Prop:=Paired λ(p:κ×V) (q:κ×Value)=>p.1=q.1/\bA p.2 q.2
def kV:Key->V
 |.inl i=>.int i
 |.inr x=>.str x
inductive HO where
 /-- a list -/
 |lst (xs:List V)
 /-- a tuple (never changes) -/
 |tup (xs:List V)
 /-- a dict whose keys are ints and texts;one whose keys are tuples of ints and texts (the empty one is both) -/
 |dK (kvs:List (Key×V))|dT (kvs:List (List Key×V))
 /-- a set of ints:its members,its size -/
 |set (S:Int->Bool) (n:Nat)
 /-- an instance of the class at C,its dict at dx,its attributes -/
 |ins (C dx:Addr) (fs:List (Str×V))
 /-- the dict of the instance at x -/
 |own (x:Addr)
 /-- the dict of an exception -/
 |xd (fs:List (Str×V))
 /-- a bound method,f of x -/
 |met (f x:Addr)
 /-- a range object lo,lo+1,.. below hi -/
 |rng (lo hi:Int)
 /-- a thing that is known to the object (the script;a dict while a loop walks it):read,never written while it is so -/
 |frz (o:Obj) (u:HO)
 /-- a code object's table -/
 |tbl (ps:Array Value)
 /-- any other thing,by what is true of its one object (a def of one's own:SetO a S n:=HO.ext λh=>..) -/
 |ext (φ:Heap->Prop)
abbrev Hp:=Addr->Option HO
def upd(H:Hp)(a:Addr)(o:HO):Hp:=λb=>if b=a then some o else H b
theorem aF:upd H a o a=some o:=by unfold upd;rw[if_pos rfl]
theorem aB(h:b≠a):upd H a o b=H b:=by unfold upd;rw[if_neg h]
theorem wF:upd (upd H a o) a u=upd H a u:=by
 funext b;unfold upd;split<;>rfl
theorem aPb{H:Hp}(h:H a=some o)(h':H b=some u)(d:o≠u):a≠b:=by
 intro e;subst e;rw[h]at h';exact d (Option.some.inj h')
theorem aM{H:Hp}(h:H a=some o)(h':H b=none):a≠b:=by
 intro e;subst e;rw[h]at h';cases h'
def aKj(h:Heap)(a:Addr):Prop:= ∃o,h.get? a=some o/\o.dict=none
section
variable (P:Program) (w:World)
def ObjOk(H:Hp)(h:Heap)(a:Addr):HO->Prop
 |.lst xs=>xs.length<=sizeLine/\∃(its:List Value) (n:Nat),cN xs its/\h.get? a=some {cls:=.type "list",data:=.seq its.toArray n}
 |.tup xs=>xs.length<=sizeLine/\∃its:List Value,cN xs its/\IsTup h a its.toArray/\aKj h a
 |.dK kvs=>kvs.length<=sizeLine/\(a==sysModules)=false/\∃vs,KV kvs vs/\h.DictOf (aZ P w) a vs
 |.dT kvs=>kvs.length<=sizeLine/\(a==sysModules)=false/\∃xs:List (List Key×Addr×Value),
   Paired (λ(p:List Key×V) (q:List Key×Addr×Value)=>p.1=q.1/\H q.2.1=some (.tup (p.1.map kV))/\bA p.2 q.2.2) kvs xs/\
   ∃o es ep,h.get? a=some o/\o.ExactDict/\o.data= .dict es ep/\es.toList=xs.map (entryOfKey (tupleKind (aZ P w)))/\(xs.map (·.1)).Nodup
 |.set S n=>h.SetOf (intKind P w) a S n
 |.ins C dx fs=>H dx=some (.own a)/\fs.length<=1000/\dx≠a/\h.get? a=some (PySem.W.instObj C dx)/\
   ∃mA,h.Ns1 dx mA/\(∀f,lR (fs.lookup f) (mA f))/\PySem.Within mA (fs.map (·.1))
 |.own _=>∃o,h.get? a=some o
 |.xd fs=>∃mA,h.Ns1 a mA/\∀f,lR (fs.lookup f) (mA f)
 |.rng lo hi=>∃t u v,h.get? a=some {cls:=.type "range",data:=.fields #[.int lo t,.int hi u,.int 1 v]}
 |.frz o u=>h.get? a=some o/\ObjOk H h a u
 |.tbl ps=>h.get? a=some {cls:=.none,data:=.fields ps}
 |.met f x=>h.get? a=some (PySem.W.methodObj (.ref f) (.ref x))
 |.ext φ=>φ h/\(∃o,h.get? a=some o)/\∀h1 h2:Heap,φ h1->(∀o,h1.get? a=some o->h2.get? a=some o)->φ h2
def HOk(H:Hp)(h:Heap):Prop:= ∀a o,H a=some o->ObjOk P w H h a o
end
section
variable {P:Program} {w:World} {H H':Hp} {h h':Heap} {a:Addr} {o:HO}
theorem ObjOk.lt(x:ObjOk P w H h a o):a<h.objs.size:=by
 cases o with
 |lst c=>obtain⟨_,_,_,_,e⟩:=x;exact ah e
 |tup c=>obtain⟨_,_,_,p,_⟩:=x;exact p.lt
 |dK b=>obtain⟨_,_,_,_,o,_,_,e,_⟩:=x;exact ah e
 |dT b=>obtain⟨_,_,_,_,o,_,_,e,_⟩:=x;exact ah e
 |set S n=>obtain⟨o,_,_,_,e,_⟩:=x;exact ah e
 |ins C i fs=>obtain⟨_,_,_,e,_⟩:=x;exact ah e
 |own y=>obtain⟨_,e⟩:=x;exact ah e
 |xd fs=>obtain⟨_,⟨_,_,_,e,_⟩,_⟩:=x;exact ah e
 |rng g d=>obtain⟨_,_,_,e⟩:=x;exact ah e
 |frz l u=>obtain⟨e,_⟩:=x;exact ah e
 |tbl j=>exact ah (show h.get? a=some _ from x)
 |met f y=>exact ah (show h.get? a=some _ from x)
 |ext m=>obtain⟨_,⟨_,e⟩,_⟩:=x;exact ah e
theorem Paired.mapP{α β:Type}{F G:α->β->Prop}: ∀{l₁:List α} {l₂:List β},Paired F l₁ l₂->(∀a b,F a b->G a b)->Paired G l₁ l₂
 |_,_,.nil,_=>.nil
 |_,_,.cons r t,f=>.cons (f _ _ r) (Paired.mapP t f)
theorem ObjOk.stay(x:ObjOk P w H h a o)(k: ∀b u,(b=a\/H b=some (.own a))->h.get? b=some u->h'.get? b=some u)
  (ho: ∀b,H b=some (.own a)->H' b=some (.own a)) (ht: ∀b xs,H b=some (.tup xs)->H' b=some (.tup xs)):ObjOk P w H' h' a o:=by
 induction o with
 |lst xs=>obtain⟨z,l,n,r,e⟩:=x;exact⟨z,l,n,r,k _ _ (.inl rfl) e⟩
 |tup xs=>obtain⟨z,l,r,⟨g,e,c⟩,m,K,d⟩:=x;exact⟨z,l,r,⟨g,k _ _ (.inl rfl) e,c⟩,m,k _ _ (.inl rfl) K,d⟩
 |dK A=>obtain⟨z,y,I,r,g,i,j,e,c⟩:=x;exact⟨z,y,I,r,g,i,j,k _ _ (.inl rfl) e,c⟩
 |dT A=>
  obtain⟨z,y,xs,r,g,i,j,e,c⟩:=x;exact⟨z,y,xs,Paired.mapP r λp q z=>⟨z.1,ht _ _ z.2.1,z.2.2⟩,g,i,j,k _ _ (.inl rfl) e,c⟩
 |set S n=>obtain⟨g,i,j,t,e,c⟩:=x;exact⟨g,i,j,t,k _ _ (.inl rfl) e,c⟩
 |ins C Q fs=>
  obtain⟨d,z,G,e,s,⟨m,i,j,J,c⟩,r⟩:=x;exact⟨ho _ d,z,G,k _ _ (.inl rfl) e,s,⟨m,i,j,k _ _ (.inr d) J,c⟩,r⟩
 |own y=>obtain⟨g,e⟩:=x;exact⟨g,k _ _ (.inl rfl) e⟩
 |xd fs=>obtain⟨s,⟨m,i,j,e,c⟩,r⟩:=x;exact⟨s,⟨m,i,j,k _ _ (.inl rfl) e,c⟩,r⟩
 |rng N M=>obtain⟨t,u,v,e⟩:=x;exact⟨t,u,v,k _ _ (.inl rfl) e⟩
 |frz g u L=>obtain⟨e,q⟩:=x;exact⟨k _ _ (.inl rfl) e,L q⟩
 |tbl B=>
  have e:h.get? a=some {cls:=.none,data:=.fields B}:=x
  show h'.get? a=some {cls:=.none,data:=.fields B};exact k a _ (.inl rfl) e
 |met f y=>
  have e:h.get? a=some (PySem.W.methodObj (.ref f) (.ref y)):=x
  show h'.get? a=some (PySem.W.methodObj (.ref f) (.ref y));exact k a _ (.inl rfl) e
 |ext O=>obtain⟨p,⟨o,e⟩,E⟩:=x;exact⟨E _ _ p λo q=>k _ _ (.inl rfl) q,⟨o,k _ _ (.inl rfl) e⟩,E⟩
theorem HOk.lt(x:HOk P w H h)(e:H a=some o):a<h.objs.size:=(x a o e).lt
theorem HOk.fresh(x:HOk P w H h)(e:h.objs.size<=a):H a=none:=by
 cases q:H a with
 |none=>rfl
 |some u=>exact absurd (bh (x.lt q) e) (Nat.lt_irrefl _)
theorem HOk.kept(x:HOk P w H h)(k: ∀b u,h.get? b=some u->h'.get? b=some u):HOk P w H h':=λa o e=>
 (x a o e).stay (λb u _ q=>k b u q) (λ_ q=>q) λ_ _ q=>q
theorem HOk.laid(x:HOk P w H h)(k: ∀b u,h.get? b=some u->h'.get? b=some u)(hp:h.objs.size<=a)(new:ObjOk P w (upd H a o) h' a o):HOk P w (upd H a o) h':=λb u e=>by
 have d:=x.fresh hp
 by_cases f:b=a
 ·subst f;rw[aF]at e;cases e;exact new
 ·rw[aB f]at e;exact(x b u e).stay (λc v _ q=>k c v q) (λc q=>by rw[aB (aM q d)];exact q) λc g q=>by rw[aB (aM q d)];exact q
end
def Rd(H:Hp)(a:Addr)(u:HO):Prop:=H a=some u\/∃o,H a=some (.frz o u)
theorem Rd.ok(r:Rd H a u)(x:HOk P w H h):ObjOk P w H h a u:=by
 rcases r with r|⟨o,r⟩
 ·exact x a u r
 ·obtain⟨_,q⟩:=x a _ r;exact q
def Mut:Option HO->Prop
 |some (.lst _)=>True
 |some (.dK _)=>True
 |some (.dT _)=>True
 |some (.set _ _)=>True
 |some (.ins _ _ _)=>True
 |some (.ext _)=>True
 |_=>False
section
variable {P:Program} {w:World} {H:Hp} {h h':Heap} {x e:Addr} {o':HO}
theorem HOk.write(ok:HOk P w H h)(mu:Mut (H x))(he:e=x\/H e=some (.own x))(k: ∀b u,b≠e->h.get? b=some u->h'.get? b=some u)(heo: ∃u,h'.get? e=some u)
  (new:ObjOk P w (upd H x o') h' x o'):HOk P w (upd H x o') h':=λb u q=>by
 have d: ∀c y,H c=some (.own y)->c≠x:=λc y r z=>by subst z;rw[r]at mu;exact mu
 have f: ∀c j,H c=some (.tup j)->c≠x:=λc j r z=>by subst z;rw[r]at mu;exact mu
 by_cases i:b=x
 ·subst i;rw[aF]at q;cases q;exact new
 ·rw[aB i]at q
  by_cases a:b=e
  ·have l:H b=some (.own x):=by
    rcases he with z|z
    ·exact absurd (a.trans z) i
    ·rw[a];exact z
   rw[q]at l;cases l;obtain⟨v,m⟩:=heo;exact⟨v,by rw[a];exact m⟩
  ·refine(ok b u q).stay (λc v g r=>k c v ?_ r) (λc r=>by rw[aB (d c b r)];exact r) λc j r=>by rw[aB (f c j r)];exact r
   rcases g with rfl|g
   ·exact a
   ·rintro rfl;rcases he with z|z
    ·exact d c b g z
    ·rw[g]at z;cases z;exact i rfl
end
structure Un(fs ex:List Addr)(H H':Hp)(h h':Heap):Prop where
 keep: ∀b o,h.get? b=some o->H b=none->b∉fs->b∉ex->h'.get? b=some o
 slot: ∀b o,h.get? b=some o->H b=none->b∈fs->b∉ex->∃sl,h'.get? b=some {o with slots:=sl}
 free: ∀b o,h.get? b=some o->H b=none->b∉ex->H' b=none
 there: ∀b o,h.get? b=some o->b∉ex->∃o',h'.get? b=some o'
 tups: ∀b xs,H b=some (.tup xs)->H' b=some (.tup xs)
 frzs: ∀b o u,H b=some (.frz o u)->H' b=some (.frz o u)
 tbls: ∀b ps,H b=some (.tbl ps)->∃more,H' b=some (.tbl (ps++more))
section
variable {fs fs' ex ex':List Addr} {H H1 H2:Hp} {h h1 h2 h':Heap} {a x e:Addr} {o:HO}
theorem Un.any(u:Un fs ex H H1 h h1)(q:h.get? b=some ob)(n:H b=none)(hx:b∉ex): ∃sl,h1.get? b=some {ob with slots:=sl}:=by
 by_cases a:b∈fs
 ·exact u.slot b ob q n a hx
 ·exact⟨ob.slots,u.keep b ob q n a hx⟩
theorem Un.kept(k: ∀b u,h.get? b=some u->h'.get? b=some u):Un fs ex H H h h':=
 ⟨λb a q _ _ _=>k b a q,λb a q _ _ _=>⟨a.slots,k b a q⟩,λ_ _ _ n _=>n,λb a q _=>⟨a,k b a q⟩,λ_ _ q=>q,λ_ _ _ q=>q,λ_ c q=>⟨#[],by rw[q];simp⟩⟩
theorem Un.refl:Un fs ex H H h h:=Un.kept λ_ _ q=>q
theorem Un.laid(k: ∀b u,h.get? b=some u->h'.get? b=some u)(hp:h.objs.size<=a)(hn:H a=none):Un fs ex H (upd H a o) h h' where
 keep:=λb u q _ _ _=>k b u q
 slot:=λb u q _ _ _=>⟨u.slots,k b u q⟩
 free:=λb u q n _=>by rw[aB (bj (bh (ah q) hp))];exact n
 there:=λb u q _=>⟨u,k b u q⟩
 tups:=λb c q=>by rw[aB (aM q hn)];exact q
 frzs:=λb u c q=>by rw[aB (aM q hn)];exact q
 tbls:=λb d q=>⟨#[],by rw[aB (aM q hn),q];simp⟩
theorem Un.write(mu:Mut (H x))(he:e=x\/H e=some (.own x))(k: ∀b u,b≠e->h.get? b=some u->h'.get? b=some u)(heo: ∃u,h'.get? e=some u):Un fs ex H (upd H x o) h h':=by
 have f: ∀b,H b=none->b≠x:=λb n z=>by subst z;rw[n]at mu;exact mu
 have d: ∀b,H b=none->b≠e:=λb n z=>by
  subst z;rcases he with r|r
  ·exact f b n r
  ·rw[n]at r;cases r
 have c: ∀b u,H b=some u->¬Mut (some u)->b≠x:=λb u q nm z=>by subst z;rw[q]at mu;exact nm mu
 refine⟨λb u q n _ _=>k b u (d b n) q,λb u q n _ _=>⟨u.slots,k b u (d b n) q⟩,λb u q n _=>by rw[aB (f b n)];exact n,λb u q _=>?_,
  λb g q=>by rw[aB (c b _ q λz=>z)];exact q,λb u g q=>by rw[aB (c b _ q λz=>z)];exact q,λb i q=>⟨#[],by rw[aB (c b _ q λz=>z),q];simp⟩⟩
 by_cases a:b=e
 ·subst a;exact heo
 ·exact⟨u,k b u a q⟩
end
def trk(h:Heap)(H:Hp):List Addr:=(List.range h.objs.size).filter λa=>(H a).isSome
def aKk(h:Heap)(H:Hp):Heap:=PySem.W.hideAll h (trk h H)
theorem wG(h:Heap)(H:Hp):(aKk h H).objs.size=h.objs.size:=PySem.W.hideAll_size _ _
theorem aBm(e:h.get? b=some o)(n:H b=none):(aKk h H).get? b=some o:=
 PySem.W.hideAll_get _ e λa=>by
  have q:(H b).isSome=true:=(List.mem_filter.mp a).2
  rw[n]at q;simp at q
theorem qY(e:(aKk h H).get? b=some o):h.get? b=some o/\H b=none:=by
 have a:h.get? b=some o:=PySem.W.of_hideAll (trk h H) e
 refine⟨a,?_⟩
 cases q:H b with
 |none=>rfl
 |some x=>
  have c:b∈trk h H:=List.mem_filter.mpr ⟨zPd (ah a),by simp[q]⟩
  have z:(aKk h H).get? b=none:=PySem.W.hideAll_none (trk h H) c
  rw[z]at e;cases e
noncomputable def aFz(g h:Heap)(L:Addr):cg:=(List.range h.objs.size).filterMap λa=>if a=L\/(g.get? a).isSome=true then none else(h.get? a).map λo=>(a,o)
def dU(g h:Heap)(L d:Addr):cg:=(aFz g h L).filter λp=>decide (p.1≠d)
structure Mod(K:PySem.W.Frag)(mg:Str->Option Value)(base:Heap):Prop where
 kin:K.In base
 glob:base.Ns mainGlobals mg
 blt: ∃mb,base.Ns builtinsNs mb/\∀x:Str,x≠"__name__"->mb x=bootBuiltins x
 nolimit:base.NoLimit
structure Cx where
 prog:Program
 w:World
 K:PySem.W.Frag
 mg:Str->Option Value
 base:Heap
 A:Around
 N:List Str
 s₀:Shared
 H₀:Hp
 env:Env
 outer:List Env
 stack:List Env
 ex:List Addr
 fn:Str->Bool
 calm:Bool
 pn:cg
 xe:Value->Shared->Prop
noncomputable def frs(l:List Env):List Addr:=l.filterMap (·.frame)
abbrev Cx.fs(X:Cx):List Addr:=frs X.outer
def Vis(sc:Scope)(x:Str):Prop:=sc.names.lookup x=some .local\/sc.names.lookup x=some .cell\/sc.names.lookup x=some .free
def Loc(sc:Scope)(x:Str):Prop:=sc.names.lookup x=some .local\/sc.names.lookup x=some .cell
def aR8(env:Env)(h:Heap)(m:Str->Option Value)(x:Str)(u:Value):Prop:=
 (env.kindOf x=some .local/\m x=some u)\/((env.kindOf x=some .cell\/env.kindOf x=some .free)/\∃c,env.cells.lookup x=some c/\h.IsCell c (some u))
structure Cx.Ok(X:Cx):Prop where
 mod:Mod X.K X.mg X.base
 kind:X.env.scope.kind= .function
 glob:X.env.globals=mainGlobals
 blt:X.env.builtins=builtinsNs
 above:X.s₀.heap.objs.size<=X.env.locals
 inj: ∀x y c,X.env.cells.lookup x=some c->X.env.cells.lookup y=some c->x=y
 has: ∀x,(X.env.kindOf x=some .cell\/X.env.kindOf x=some .free)->∃c,X.env.cells.lookup x=some c
 cab: ∀x c,X.fn x=true->X.env.cells.lookup x=some c->X.s₀.heap.objs.size<=c
 hd:X.calm=true->X.A.handled=none
 frames:X.A.frames=some X.stack
 stk:X.stack=X.outer\/(X.stack=X.env::X.outer/\X.env.frame=some X.env.locals)
 exf: ∀b∈X.ex,b≠X.env.locals/\∀x c,X.env.cells.lookup x=some c->c≠b
 bs: ∀b o,X.base.get? b=some o->X.s₀.heap.get? b=some o/\X.H₀ b=none
 bsz:X.base.objs.size<=X.s₀.heap.objs.size
 noex: ∀b o,X.base.get? b=some o->b∉X.ex
 exfs: ∀b∈X.ex,b∉X.fs
 funs:X.s₀.heap.FunFrames X.base X.outer
 frf: ∀b∈X.fs,X.H₀ b=none
structure Inv(X:Cx)(ce:cg)(σ:List (Option V))(H:Hp)(s:Shared):Prop where
 ok:X.Ok
 os:s.os=X.s₀.os
 bare:AllBare s.gens
 base:Un X.fs X.ex X.H₀ H X.s₀.heap s.heap
 loc: ∃m,s.heap.Ns X.env.locals m/\∀(i:Nat) (x:Str) (v:V),X.N[i]? =some x->σ[i]? =some (some v)->Vis X.env.scope x->∃u,bA v u/\aR8 X.env s.heap m x u
 cell: ∀x c,X.env.cells.lookup x=some c->∃v,s.heap.IsCell c v
 free:H X.env.locals=none
 freeC: ∀x c,X.env.cells.lookup x=some c->H c=none
 pin: ∀p∈X.pn++ce,s.heap.get? p.1=some p.2/\H p.1=none/\p.1≠X.env.locals/\p.1∉X.fs/\∀v,p.2.data≠ .cell v
 hok:HOk X.prog X.w H s.heap
 len:σ.length=X.N.length
section
variable {X:Cx} {ce:cg} {σ:List (Option V)} {H H':Hp} {s:Shared} {h':Heap}
theorem Cx.Ok.nofr(ok:X.Ok)(e:X.base.get? b=some o):b∉X.fs:=λa=>by
 have:=(ok.funs.mem a).1
 rw[e]at this;cases this
theorem Inv.bs(I:Inv X ce σ H s): ∀b o,X.base.get? b=some o->s.heap.get? b=some o/\H b=none:=λb o e=>
 ⟨I.base.keep b o (I.ok.bs b o e).1 (I.ok.bs b o e).2 (I.ok.nofr e) (I.ok.noex b o e),I.base.free b o (I.ok.bs b o e).1 (I.ok.bs b o e).2 (I.ok.noex b o e)⟩
theorem Inv.bk(I:Inv X ce σ H s): ∀b o,X.base.get? b=some o->s.heap.get? b=some o:=λb o e=>(I.bs b o e).1
theorem Inv.mod(I:Inv X ce σ H s):Mod X.K X.mg X.base:=I.ok.mod
theorem Inv.kIn(I:Inv X ce σ H s):X.K.In s.heap:=I.ok.mod.kin.keeps I.bk
theorem Inv.lt(I:Inv X ce σ H s):X.env.locals<s.heap.objs.size:=let ⟨_,hn,_⟩:=I.loc;hn.lt
theorem Inv.sz(I:Inv X ce σ H s):X.s₀.heap.objs.size<=s.heap.objs.size:=Nat.le_trans I.ok.above (Nat.le_of_lt I.lt)
theorem Inv.nofs(I:Inv X ce σ H s){a:Addr}(h:s.heap.objs.size<=a):a∉X.fs:=λc=>by
 obtain⟨_,o,b,_⟩:=I.ok.funs.mem c;exact absurd (bh (ah b) (Nat.le_trans I.sz h)) (Nat.lt_irrefl _)
theorem Inv.cne(I:Inv X ce σ H s): ∀x c,X.env.cells.lookup x=some c->c≠X.env.locals:=λx c e z=>by
 obtain⟨v,o,d,f⟩:=I.cell x c e;obtain⟨m,⟨g,i,h,b,a,_⟩,_⟩:=I.loc;rw[z,b]at d;cases d;rw[a]at f;cases f
theorem Inv.funs(I:Inv X ce σ H s):s.heap.FunFrames X.base X.outer:=by
 have all: ∀(l:List Env),(∀b∈frs l,b∈X.fs)->X.s₀.heap.FunFrames X.base l->s.heap.FunFrames X.base l:=by
  intro l
  induction l with
  |nil=>intro _ _;trivial
  |cons j r p=>
   intro f h;obtain⟨hk,⟨L,o,d,m,n,g⟩,i⟩:=h;have c:L∈X.fs:=f L (by unfold frs;rw[List.filterMap_cons,d];exact List.mem_cons_self)
   obtain⟨q,e⟩:=I.base.slot L o n (I.ok.frf L c) c λz=>I.ok.exfs L z c
   exact⟨hk,⟨L,_,d,m,e,g⟩,p (λb a=>f b (by unfold frs;rw[List.filterMap_cons,d];exact List.mem_cons_of_mem _ a)) i⟩
 exact all X.outer (λ_ a=>a) I.ok.funs
theorem Inv.stack(I:Inv X ce σ H s):s.heap.FunFrames X.base X.stack:=by
 rcases I.ok.stk with e|⟨e,hf⟩
 ·rw[e];exact I.funs
 ·rw[e];obtain⟨m,a,_⟩:=I.loc;refine .cons (by rw[I.ok.kind];decide) hf a ?_ I.funs
  exact Heap.get?_none_of_le (Nat.le_trans I.ok.bsz I.ok.above)
theorem Inv.stkSub(I:Inv X ce σ H s): ∀b∈frs X.stack,b∈X.env.locals::X.fs:=λb a=>by
 rcases I.ok.stk with e|⟨e,hf⟩
 ·rw[e]at a;exact List.mem_cons_of_mem _ a
 ·rw[e]at a;unfold frs at a;rw[List.filterMap_cons,hf]at a;exact a
theorem Inv.stkFree(I:Inv X ce σ H s): ∀b∈frs X.stack,H b=none:=λb a=>by
 rcases av.mp (I.stkSub b a)with e|a
 ·rw[e];exact I.free
 ·obtain⟨_,o,c,_⟩:=I.ok.funs.mem a;exact I.base.free b o c (I.ok.frf b a) λz=>I.ok.exfs b z a
theorem Inv.step{ch:List Addr}(I:Inv X ce σ H s)(hch: ∀b∈ch,(b∈X.ex\/X.s₀.heap.objs.size<=b)/\b≠X.env.locals/\(∀x c,X.env.cells.lookup x=some c->c≠b)/\∀p∈X.pn++ce,p.1≠b)(keep: ∀b o,b≠X.env.locals->b∉X.fs->b∉ch->s.heap.get? b=some o->H b=none->h'.get? b=some o)(slot: ∀b o,b≠X.env.locals->b∈X.fs->b∉ch->s.heap.get? b=some o->H b=none->∃sl,h'.get? b=some {o with slots:=sl})(free: ∀b o,b∉ch->s.heap.get? b=some o->H b=none->H' b=none)(there: ∀b o,b∉ch->s.heap.get? b=some o->∃o',h'.get? b=some o')(tups: ∀b xs,H b=some (.tup xs)->H' b=some (.tup xs))(frzs: ∀b o u,H b=some (.frz o u)->H' b=some (.frz o u))(tbls: ∀b ps,H b=some (.tbl ps)->∃more,H' b=some (.tbl (ps++more)))(ns: ∀m,s.heap.Ns X.env.locals m->h'.Ns X.env.locals m)(hok:HOk X.prog X.w H' h')(hg:AllBare g'):
  Inv X ce σ H' {s with heap:=h',gens:=g',drawn:=d',toks:=t'}:=by
 have B: ∀b o,X.s₀.heap.get? b=some o->b≠X.env.locals:=λb o e=>bj (bh (ah e) I.ok.above)
 have j: ∀b o,X.s₀.heap.get? b=some o->b∉X.ex->b∉ch:=λb o e a t=>by
  rcases(hch b t).1 with z|z
  ·exact a z
  ·exact absurd (bh (ah e) z) (Nat.lt_irrefl _)
 have g: ∀x c,X.env.cells.lookup x=some c->∀v,s.heap.IsCell c v->h'.IsCell c v:=λx c e v ⟨o,y,C⟩=>by
  have f:c∉ch:=λz=>(hch c z).2.2.1 x c e rfl
  by_cases K:c∈X.fs
  ·obtain⟨sl,q⟩:=slot c o (I.cne x c e) K f y (I.freeC x c e);exact⟨_,q,C⟩
  ·exact⟨o,keep c o (I.cne x c e) K f y (I.freeC x c e),C⟩
 refine⟨I.ok,I.os,hg,⟨λb o e n t a=>?_,λb o e n t a=>?_,λb o e n a=>?_,λb o e a=>?_,λb xs e=>tups b xs (I.base.tups b xs e),λb o xs e=>frzs b o xs (I.base.frzs b o xs e),λb ps e=>?_⟩,?_,λx c e=>?_,?_,λx c e=>?_,λp J=>?_,hok,I.len⟩
 ·exact keep b o (B b o e) t (j b o e a) (I.base.keep b o e n t a) (I.base.free b o e n a)
 ·obtain⟨sl,h⟩:=I.base.slot b o e n t a;obtain⟨E,A⟩:=slot b _ (B b o e) t (j b o e a) h (I.base.free b o e n a);exact⟨E,A⟩
 ·obtain⟨o',h⟩:=I.base.there b o e a;exact free b o' (j b o e a) h (I.base.free b o e n a)
 ·obtain⟨o',h⟩:=I.base.there b o e a;exact there b o' (j b o e a) h
 ·obtain⟨Q,h⟩:=I.base.tbls b ps e;obtain⟨N,A⟩:=tbls b _ h;exact⟨Q++N,by rw[A,Array.append_assoc]⟩
 ·obtain⟨m,S,O⟩:=I.loc;refine⟨m,ns m S,λi x v h A M=>?_⟩
  obtain⟨u,r,l⟩:=O i x v h A M;refine⟨u,r,?_⟩;rcases l with l|⟨k,c,e,z⟩
  ·exact .inl l
  ·exact .inr ⟨k,c,e,g x c e _ z⟩
 ·obtain⟨v,z⟩:=I.cell x c e;exact⟨v,g x c e v z⟩
 ·obtain⟨m,⟨o,_,_,y,_⟩,_⟩:=I.loc;exact free _ o (λz=>(hch _ z).2.1 rfl) y I.free
 ·obtain⟨v,o,y,C⟩:=I.cell x c e;exact free c o (λz=>(hch c z).2.2.1 x c e rfl) y (I.freeC x c e)
 ·obtain⟨e,n,L,G,d⟩:=I.pin p J;have f:p.1∉ch:=λz=>(hch p.1 z).2.2.2 p J rfl
  exact⟨keep p.1 p.2 L G f e n,free p.1 p.2 f e n,L,G,d⟩
theorem Inv.un(I:Inv X ce σ H s)(u:Un X.fs [] H H' s.heap h')(hok:HOk X.prog X.w H' h'):Inv X ce σ H' {s with heap:=h',toks:=t'}:=by
 obtain⟨m,⟨o,p,t,g,r⟩,_⟩:=id I.loc;obtain⟨v,i⟩:=u.any g I.free (by simp)
 exact I.step (g':=s.gens) (d':=s.drawn) (ch:=[]) (λ_ z=>nomatch z) (λb o _ d _ e n=>u.keep b o e n d (by simp)) (λb o _ d _ e n=>u.slot b o e n d (by simp)) (λb o _ e n=>u.free b o e n (by simp)) (λb o _ e=>u.there b o e (by simp)) u.tups u.frzs u.tbls (λl j=>by
  obtain⟨q,f,c,a,h⟩:=j;rw[g]at a;cases a;exact⟨_,f,c,i,h⟩) hok I.bare
theorem Inv.call(I:Inv X ce σ H s)(u:Un (frs X.stack) ch H H' s.heap h')(hok:HOk X.prog X.w H' h')(hg:AllBare g')(hch: ∀b∈ch,(b∈X.ex\/X.s₀.heap.objs.size<=b)/\b≠X.env.locals/\(∀x c,X.env.cells.lookup x=some c->c≠b)/\∀p∈X.pn++ce,p.1≠b):
  Inv X ce σ H' {s with heap:=h',gens:=g',drawn:=d',toks:=t'}:=by
 obtain⟨m,⟨o,v,A,i,r⟩,_⟩:=id I.loc;obtain⟨B,g⟩:=u.any i I.free λz=>(hch _ z).2.1 rfl
 exact I.step (ch:=ch) hch (λb o g l a e n=>u.keep b o e n (λz=>(av.mp (I.stkSub b z)).elim g l) a) (λb o _ _ a e n=>u.any e n a) (λb o a e n=>u.free b o e n a) (λb o a e=>u.there b o e a) u.tups u.frzs u.tbls (λt q=>by
  obtain⟨y,h,f,d,j⟩:=q;rw[i]at d;cases d;exact⟨_,h,f,g,j⟩) hok hg
theorem Inv.turned(I:Inv X ce σ H s)(k: ∀b o,b≠it->s.heap.get? b=some o->h'.get? b=some o)(hn:H it=none)(hL:it≠X.env.locals)(h1:it∈X.ex\/X.s₀.heap.objs.size<=it)(h2: ∀x c,X.env.cells.lookup x=some c->c≠it)(h3: ∀p∈X.pn++ce,p.1≠it):Inv X ce σ H {s with heap:=h',toks:=t'}:=by
 have d: ∀b u,H b=some u->b≠it:=λb u e z=>by rw[z,hn]at e;cases e
 refine I.step (g':=s.gens) (d':=s.drawn) (ch:=[it]) (λb g=>?_) (λb o _ _ a e _=>k b o (λz=>a (by simp[z])) e) (λb o _ _ a e _=>⟨o.slots,k b o (λz=>a (by simp[z])) e⟩) (λ_ _ _ _ n=>n)
  (λb o a e=>⟨o,k b o (λz=>a (by simp[z])) e⟩) (λ_ _ e=>e) (λ_ _ _ e=>e) (λb l e=>⟨#[],by rw[e];simp⟩) (λm j=>?_) (λb u e=>?_) I.bare
 ·have e:b=it:=by simpa using g
  subst e;exact⟨h1,hL,h2,h3⟩
 ·obtain⟨o,f,i,h,r⟩:=j;exact⟨o,f,i,k _ o (Ne.symm hL) h,r⟩
 ·refine(I.hok b u e).stay (λc v a q=>k c v ?_ q) (λ_ q=>q) λ_ _ q=>q
  rcases a with z|z
  ·rw[z];exact d b u e
  ·exact d c _ z
theorem Inv.tok(I:Inv X ce σ H s)(t:Nat):Inv X ce σ H {s with toks:=t}:=I.un (h':=s.heap) (t':=t) Un.refl I.hok
theorem Inv.kept(I:Inv X ce σ H s)(k: ∀b u,s.heap.get? b=some u->h'.get? b=some u):Inv X ce σ H {s with heap:=h',toks:=t'}:=I.un (Un.kept k) (I.hok.kept k)
theorem Inv.laid{a:Addr}(I:Inv X ce σ H s)(k: ∀b u,s.heap.get? b=some u->h'.get? b=some u)(hp:s.heap.objs.size<=a)(new:ObjOk X.prog X.w (upd H a o) h' a o):
  Inv X ce σ (upd H a o) {s with heap:=h',toks:=t'}:=I.un (Un.laid k hp (I.hok.fresh hp)) (I.hok.laid k hp new)
theorem Inv.write(I:Inv X ce σ H s)(mu:Mut (H x))(he:e=x\/H e=some (.own x))(k: ∀b u,b≠e->s.heap.get? b=some u->h'.get? b=some u)(heo: ∃u,h'.get? e=some u)(new:ObjOk X.prog X.w (upd H x o) h' x o):Inv X ce σ (upd H x o) {s with heap:=h',toks:=t'}:=I.un (Un.write mu he k heo) (I.hok.write mu he k heo new)
theorem Inv.pins_of(I:Inv X ce σ H s)(h: ∀p∈pins',s.heap.get? p.1=some p.2/\H p.1=none/\p.1≠X.env.locals/\p.1∉X.fs/\∀v,p.2.data≠ .cell v):Inv X pins' σ H s:=
 ⟨I.ok,I.os,I.bare,I.base,I.loc,I.cell,I.free,I.freeC,λp a=>(List.mem_append.mp a).elim (λz=>I.pin p (List.mem_append_left _ z)) (h p),I.hok,I.len⟩
theorem mX{N:List Str}(hN:N.Nodup){i j:Nat}(a:N[i]? =some x)(b:N[j]? =some x):i=j:=by
 obtain⟨f,d⟩:=ay.mp a;obtain⟨e,c⟩:=ay.mp b;exact(List.getElem_inj hN).mp (d.trans c.symm)
theorem oM{M:Model}{A:Around}{E:cf}{i:Nat}{x:Str}{v:V}{u:Value}{Q:Unit->Shared->Prop}(I:Inv X ce σ H s)(hN:X.N.Nodup)(hi:X.N[i]? =some x)(hx:Loc X.env.scope x)(r:bA v u)
  (h: ∀s',Inv X ce (σ.set i (some v)) H s'->(∃a,Heap.SameBut a s.heap s'.heap/\(a=X.env.locals\/X.env.cells.lookup x=some a))->Q () s') (hf:X.fn x=true\/X.env.scope.names.lookup x=some .local:=by first|exact .inl rfl|exact .inr rfl|assumption):wpAny M A (storeName X.env x u) Q E s:=by
 obtain⟨m,hn,hl⟩:=id I.loc
 have W:(X.env.scope.kind== .class||(X.env.scope.kind== .module&&X.env.locals != X.env.globals))=false:=by rw[I.ok.kind];rfl
 have G:i<σ.length:=by rw[I.len];exact(ay.mp hi).1
 have cne:=I.cne
 have l: ∀{a:Addr} {O:Heap},(∃o,s.heap.get? a=some o/\H a=none)->Heap.SameBut a s.heap O->HOk X.prog X.w H O:=λ{a O} ha f b ob e=>by
  obtain⟨_,_,B⟩:=ha;refine(I.hok b ob e).stay (λc w' t q=>(f.2 c ?_).trans q) (λ_ q=>q) λ_ _ q=>q
  rintro rfl;rcases t with rfl|t
  ·rw[B]at e;cases e
  ·rw[B]at t;cases t
 rcases hx with hk|hk
 ·refine wpAny_storeName_local hk hn (λO ac f=>?_) W
  obtain⟨oL,_,_,ab,_⟩:=id hn;refine h _ ⟨I.ok,I.os,I.bare,⟨λb o e n L hx=>?_,λb o e n L hx=>?_,I.base.free,λb o e hx=>?_,I.base.tups,I.base.frzs,I.base.tbls⟩,⟨_,ac,λj y v' g C e3=>?_⟩,λy c e=>?_,I.free,I.freeC,λp hp=>?_,l ⟨oL,ab,I.free⟩ f,by simpa using I.len⟩ ⟨_,f,.inl rfl⟩
  ·exact(f.2 b (bj (bh (ah e) I.ok.above))).trans (I.base.keep b o e n L hx)
  ·obtain⟨sl,g⟩:=I.base.slot b o e n L hx;exact⟨sl,(f.2 b (bj (bh (ah e) I.ok.above))).trans g⟩
  ·obtain⟨o',g⟩:=I.base.there b o e hx;exact⟨o',(f.2 b (bj (bh (ah e) I.ok.above))).trans g⟩
  ·by_cases J:j=i
   ·subst J;rw[hi]at g;cases g;rw[bn G]at C;cases C;exact⟨u,r,.inl ⟨hk,by simp⟩⟩
   ·rw[bd (Ne.symm J)]at C;obtain⟨u',r',q⟩:=hl j y v' g C e3;refine⟨u',r',?_⟩;rcases q with ⟨k,e⟩|⟨k,c,e,z⟩
    ·refine .inl ⟨k,?_⟩
     have:y≠x:=λe=>J (mX hN g (e▸hi))
     simp[this,e]
    ·exact .inr ⟨k,c,e,z.sameBut f (cne y c e)⟩
  ·obtain⟨w',z⟩:=I.cell y c e;exact⟨w',z.sameBut f (cne y c e)⟩
  ·obtain⟨e,n,Z,nf,d⟩:=I.pin p hp;exact⟨(f.2 p.1 Z).trans e,n,Z,nf,d⟩
 ·have K:X.fn x=true:=by
   rcases hf with z|z
   ·exact z
   ·rw[z]at hk;cases hk
  obtain⟨c,t⟩:=I.ok.has x (.inl hk);obtain⟨w',z⟩:=I.cell x c t;refine wpAny_storeName_cell I.ok.kind hk t z (λO S f=>?_)
  obtain⟨oc,Y,T⟩:=id z;refine h {s with heap:=O} ⟨I.ok,I.os,I.bare,⟨λb o e n L hx=>?_,λb o e n L hx=>?_,I.base.free,λb o e hx=>?_,I.base.tups,I.base.frzs,I.base.tbls⟩,⟨m,hn.sameBut f (Ne.symm (cne x c t)),λj y v' g C e3=>?_⟩,λy c' e=>?_,I.free,I.freeC,λp hp=>?_,l ⟨oc,Y,I.freeC x c t⟩ f,by simpa using I.len⟩ ⟨c,f,.inr t⟩
  ·exact(f.2 b (bj (bh (ah e) (I.ok.cab x c K t)))).trans (I.base.keep b o e n L hx)
  ·obtain⟨sl,g⟩:=I.base.slot b o e n L hx;exact⟨sl,(f.2 b (bj (bh (ah e) (I.ok.cab x c K t)))).trans g⟩
  ·obtain⟨o',g⟩:=I.base.there b o e hx;exact⟨o',(f.2 b (bj (bh (ah e) (I.ok.cab x c K t)))).trans g⟩
  ·by_cases J:j=i
   ·subst J;rw[hi]at g;cases g;rw[bn G]at C;cases C;exact⟨u,r,.inr ⟨.inl hk,c,t,S⟩⟩
   ·rw[bd (Ne.symm J)]at C;obtain⟨u',r',q⟩:=hl j y v' g C e3;refine⟨u',r',?_⟩;rcases q with q|⟨k,c',e,z'⟩
    ·exact .inl q
    ·refine .inr ⟨k,c',e,z'.sameBut f ?_⟩;rintro rfl;exact J (mX hN g (I.ok.inj _ _ _ e t▸hi))
  ·by_cases U:c'=c
   ·subst U;exact⟨_,S⟩
   ·obtain⟨w2,z2⟩:=I.cell y c' e;exact⟨w2,z2.sameBut f U⟩
  ·obtain⟨e,n,Z,nf,d⟩:=I.pin p hp;refine⟨(f.2 p.1 ?_).trans e,n,Z,nf,d⟩;intro q;rw[q,Y]at e
   have q':oc=p.2:=Option.some.inj e
   exact d w' (by rw[<-q'];exact T)
theorem f8{M:Model}{A:Around}{E:cf}{i:Nat}{x:Str}{v:V}{u:Value}{Q:Unit->Shared->Prop}(I:Inv X ce σ H s)(hN:X.N.Nodup)(hi:X.N[i]? =some x)(hx:Loc X.env.scope x)(r:bA v u)
  (h: ∀s',Inv X ce (σ.set i (some v)) H s'->Q () s') (hf:X.fn x=true\/X.env.scope.names.lookup x=some .local:=by first|exact .inl rfl|exact .inr rfl|assumption):wpAny M A (storeName X.env x u) Q E s:=
 oM I hN hi hx r (λs' a _=>h s' a) hf
theorem Inv.call'(I:Inv X ce σ H s)(ho:s'.os=s.os)(u:Un (frs X.stack) ch H H' s.heap s'.heap)(hok:HOk X.prog X.w H' s'.heap)(hg:AllBare s'.gens)(hch: ∀b∈ch,(b∈X.ex\/X.s₀.heap.objs.size<=b)/\b≠X.env.locals/\(∀x c,X.env.cells.lookup x=some c->c≠b)/\∀p∈X.pn++ce,p.1≠b):Inv X ce σ H' s':=by
 obtain⟨d,g',d',t',a⟩:=s'
 have e:a=s.os:=ho
 subst e;exact I.call (g':=g') (t':=t') (d':=d') u hok hg hch
end
abbrev XK:=Value->Option Addr->Hp->Prop
noncomputable abbrev St:=List (Option V)
abbrev VK:=V->Hp->Prop
abbrev TE:=St->Hp->VK->Prop
abbrev TT:=St->Hp->(Bool->Hp->Prop)->Prop
abbrev TA:=St->Hp->(List V->Hp->Prop)->Prop
structure Ends where
 nx:St->Hp->Prop
 rt:VK
 bk:St->Hp->Prop:=λ_ _=>False
 ct:St->Hp->Prop:=λ_ _=>False
abbrev TS:=Ends->St->Hp->Prop
def EP(X:Cx)(ce:cg)(σ:St)(Q:VK)(u:Value)(s':Shared):Prop:= ∃v H',Inv X ce σ H' s'/\bA v u/\Q v H'
def TP(X:Cx)(ce:cg)(σ:St)(Q:Bool->Hp->Prop)(b:Bool)(s':Shared):Prop:= ∃H',Inv X ce σ H' s'/\Q b H'
def AP(X:Cx)(ce:cg)(σ:St)(Q:List V->Hp->Prop)(us:List Value)(s':Shared):Prop:= ∃vs H',Inv X ce σ H' s'/\cN vs us/\Q vs H'
def SP(X:Cx)(ce:cg)(D:Ends)(f:Flow)(s':Shared):Prop:=
 match f with
 |.next=>∃σ' H',Inv X ce σ' H' s'/\D.nx σ' H'
 |.brk=>∃σ' H',Inv X ce σ' H' s'/\D.bk σ' H'
 |.cont=>∃σ' H',Inv X ce σ' H' s'/\D.ct σ' H'
 |.ret u=>∃v σ' H',Inv X ce σ' H' s'/\bA v u/\D.rt v H'
def PE(X:Cx)(e:Expr)(t:TE):Prop:=
 ∀(ce:cg) (s:Shared) (σ:St) (H:Hp) (Q:VK),Inv X ce σ H s->t σ H Q->wpAny (model X.prog X.w) X.A (eval e X.env) (EP X ce σ Q) X.xe s
def PT(X:Cx)(e:Expr)(t:TT):Prop:=
 ∀(ce:cg) (s:Shared) (σ:St) (H:Hp) (Q:Bool->Hp->Prop),Inv X ce σ H s->t σ H Q->wpAny (model X.prog X.w) X.A (isTrue e X.env (eval e X.env)) (TP X ce σ Q) X.xe s
def PW(X:Cx)(e:Expr)(t:TT):Prop:=
 ∀(whole:Sem Value) (ce:cg) (s:Shared) (σ:St) (H:Hp) (Q:Bool->Hp->Prop),Inv X ce σ H s->t σ H Q->wpAny (model X.prog X.w) X.A (isTrue e X.env whole) (TP X ce σ Q) X.xe s
def PA(X:Cx)(es:List Expr)(t:TA):Prop:=
 ∀(pos:Pos) (ce:cg) (s:Shared) (σ:St) (H:Hp) (Q:List V->Hp->Prop),Inv X ce σ H s->t σ H Q->wpAny (model X.prog X.w) X.A (spliced (backTo pos (starEach es X.env))) (AP X ce σ Q) X.xe s
def PS(X:Cx)(st:Stmt)(t:TS):Prop:=
 ∀(ce:cg) (s:Shared) (σ:St) (H:Hp) (D:Ends),Inv X ce σ H s->t D σ H->wpAny (model X.prog X.w) X.A (exec st X.env) (SP X ce D) X.xe s
def PSs(X:Cx)(st:List Stmt)(t:TS):Prop:=
 ∀(ce:cg) (s:Shared) (σ:St) (H:Hp) (D:Ends),Inv X ce σ H s->t D σ H->wpAny (model X.prog X.w) X.A (execs st X.env) (SP X ce D) X.xe s
theorem thn{t:Sem α}{Q Q':α->Shared->Prop}{E:cf}(h:wpAny M A t Q E s)(hQ: ∀a s,Q a s->Q' a s):wpAny M A t Q' E s:=wpAny_mono h hQ λ_ _ x=>x
section
variable {X:Cx}
def aKl(i:Nat):TE:=λσ H Q=>∃v,σ[i]? =some (some v)/\Q v H
def tC(v:V):TE:=λ_ H Q=>Q v H
theorem cP{i:Nat}{x:Str}{pos:Pos}(hN:X.N[i]? =some x)(hv:Vis X.env.scope x)(hd:(x==("__debug__":Str))=false:=by decide)(hcd:(x==("__classdict__":Str))=false:=by decide):PE X (.Name x pos) (aKl i):=by
 intro j s g H Q I h;obtain⟨v,e,h⟩:=h;obtain⟨m,n,f⟩:=I.loc;obtain⟨u,r,l⟩:=f i x v hN e hv;have b:EP X j g Q u s:=⟨v,H,I,r,h⟩;rcases l with ⟨hk,o⟩|⟨hk,c,d,a⟩
 ·exact wpAny_Name (wpAny_loadName_local I.ok.kind hk n o b) hd
 ·rcases hk with hk|hk
  ·exact wpAny_Name (wpAny_loadName_cell I.ok.kind hk d a b) hd
  ·exact wpAny_Name (wpAny_loadName_free I.ok.kind hk d a b hcd) hd
theorem aKm:PE X (.Constant (.int i) j pos) (tC (.int i)):=λ_ _ _ H _ I h=>wpAny_Constant_int ⟨.int i,H,I.tok _,⟨_,rfl⟩,h⟩
theorem aPc:PE X (.Constant (.bool b) j pos) (tC (.bl b)):=λ_ _ _ H _ I h=>Constant_bool ⟨.bl b,H,I,rfl,h⟩
theorem aKn:PE X (.Constant .none j pos) (tC .non):=λ_ _ _ H _ I h=>Constant_none ⟨.non,H,I,rfl,h⟩
theorem aKo:PE X (.Constant (.str x) j pos) (tC (.str x)):=λ_ _ _ H _ I h=>Calls.Constant_str ⟨.str x,H,I.tok _,⟨_,rfl⟩,h⟩
noncomputable def Gl(X:Cx)(x:Str):Prop:=X.env.kindOf x=some .globalImplicit
theorem fD{E:cf}{ce:cg}{s:Shared}{σ:St}{H:Hp}{x:Str}{u:Value}{pos:Pos}{Q:cf}(I:Inv X ce σ H s)(hg:Gl X x)(hm:X.mg x=some u)(h:Q u s)
  (hd:(x==("__debug__":Str))=false:=by decide):wpAny (model X.prog X.w) X.A (eval (.Name x pos) X.env) Q E s:=
 Calls.Name_function_global I.ok.kind hg (Calls.loadGlobal_global (by rw[I.ok.glob];exact I.mod.glob.keeps I.bk) hm h) hd
theorem fN{E:cf}{ce:cg}{s:Shared}{σ:St}{H:Hp}{x:Str}{u:Value}{pos:Pos}{Q:cf}(I:Inv X ce σ H s)(hg:Gl X x)(hm:X.mg x=none)(hv:bootBuiltins x=some u)(h:Q u s)
  (hn:x≠"__name__":=by decide) (hd:(x==("__debug__":Str))=false:=by decide):wpAny (model X.prog X.w) X.A (eval (.Name x pos) X.env) Q E s:=by
 obtain⟨c,b,a⟩:=I.mod.blt;exact Calls.Name_function_global I.ok.kind hg (Calls.loadGlobal_builtin (by rw[I.ok.glob];exact I.mod.glob.keeps I.bk) hm (by rw[I.ok.blt];exact b.keeps I.bk) ((a x hn).trans hv) h) hd
theorem aF0{x:Str}{v:V}{u:Value}{pos:Pos}(hg:Gl X x)(hm:X.mg x=some u)(r:bA v u)(hd:(x==("__debug__":Str))=false:=by decide):PE X (.Name x pos) (tC v):=
 λ_ _ _ H _ I h=>fD I hg hm ⟨v,H,I,r,h⟩ hd
variable {a b:Expr} {ta tb:TE} {pos:Pos}
def PC(X:Cx)(op:CmpOp)(a b:Expr)(t:TE):Prop:=
 ∀(ce:cg) (s:Shared) (σ:St) (H:Hp) (Q:VK),Inv X ce σ H s->t σ H Q->
  wpAny (model X.prog X.w) X.A (eval a X.env) (λv s₁=>wpAny (model X.prog X.w) X.A (eval b X.env) (λu s₂=>wpAny (model X.prog X.w) X.A (compareOp op v u) (EP X ce σ Q) X.xe s₂) X.xe s₁) X.xe s
def tB(t:TE):TT:=λσ H Q=>t σ H λx H1=>∃c,x= .bl c/\Q c H1
theorem aKp{op:CmpOp}{t:TE}(h:PC X op a b t)(h1:behindInMarks op b=false:=by first|exact nobehind _ (by decide) (by decide)|rfl):PE X (.Compare a [op] [b] pos) t:=λd s c H Q I e=>wpAny_Compare1 (h d s c H Q I e) h1
theorem aKq{e:Expr}{t:TE}(h:PE X e t)(he: ∀whole,isTrue e X.env whole=(do let v<-whole;standAt e.pos;holding [v] (truthy v)):=by intro _;rfl):PT X e (tB t):=by
 intro b s a H Q I i;refine isTrue_plain (thn (h b s a H _ I i) λv j ⟨x,f,c,g,q1⟩=>?_) (he _)
 obtain⟨d,rfl,q⟩:=q1;cases g;exact wpAny_truthy_bool ⟨f,c,q⟩
variable {tA tB':TT} {dU:List Expr}
def aRe(t u:TT):TT:=λσ H Q=>t σ H λc H1=>if c=true then u σ H1 Q else Q false H1
def tOr(t u:TT):TT:=λσ H Q=>t σ H λc H1=>if c=true then Q true H1 else u σ H1 Q
def aRf(t:TT):TT:=λσ H Q=>t σ H λc H1=>Q (!c) H1
theorem pw_and1(ha:PT X a tA):PW X (.BoolOp .And [a] pos) tA:=by
 intro g d s b H Q I h;refine isTrue_and (thn (ha d s b H Q I h) λc f e=>?_)
 cases c with
 |true=>exact isTrue_and_nil e
 |false=>exact e
theorem pw_or1(ha:PT X a tA):PW X (.BoolOp .Or [a] pos) tA:=by
 intro g d s b H Q I h;refine isTrue_or (thn (ha d s b H Q I h) λc f e=>?_)
 cases c with
 |false=>exact isTrue_or_nil e
 |true=>exact e
theorem pw_and(ha:PT X a tA)(hb:PW X (.BoolOp .And (b::dU) pos) tB'):PW X (.BoolOp .And (a::b::dU) pos) (aRe tA tB'):=by
 intro l f s e H Q I h;refine isTrue_and (thn (ha f s e H _ I h) λc j d=>?_)
 obtain⟨g,i,q1⟩:=d
 cases c with
 |true=>exact hb l f j e g Q i q1
 |false=>exact⟨g,i,q1⟩
theorem pw_or(ha:PT X a tA)(hb:PW X (.BoolOp .Or (b::dU) pos) tB'):PW X (.BoolOp .Or (a::b::dU) pos) (tOr tA tB'):=by
 intro l f s e H Q I h;refine isTrue_or (thn (ha f s e H _ I h) λc j d=>?_)
 obtain⟨g,i,q1⟩:=d
 cases c with
 |true=>exact⟨g,i,q1⟩
 |false=>exact hb l f j e g Q i q1
theorem aKr(ha:PT X a tA):PT X (.UnaryOp .Not a pos) (aRf tA):=by
 intro d s b H Q I h;exact isTrue_not (ha d s b H (λc e=>Q (!c) e) I h)
def aKs(ta tb:TE):TE:=λσ H Q=>ta σ H λx H1=>∃c,x= .bl c/\if c=true then tb σ H1 Q else Q (.bl false) H1
def aRg(ta tb:TE):TE:=λσ H Q=>ta σ H λx H1=>∃c,x= .bl c/\if c=true then Q (.bl true) H1 else tb σ H1 Q
def aPd(ta:TE):TE:=λσ H Q=>ta σ H λx H1=>∃c,x= .bl c/\Q (.bl (!c)) H1
theorem aKt(h:PE X a t):PE X (.BoolOp op [a] pos) t:=λc s b H Q I d=>BoolOp_one (h c s b H Q I d)
theorem aKu(ha:PE X a ta)(hb:PE X (.BoolOp .And (b::dU) pos) tb):PE X (.BoolOp .And (a::b::dU) pos) (aKs ta tb):=by
 intro f s e H Q I h;refine BoolOp_and (thn (ha f s e H _ I h) λv l d=>?_)
 obtain⟨x,g,i,j,q1⟩:=d;obtain⟨c,rfl,q1⟩:=q1;cases j;refine wpAny_truthy_bool ?_
 cases c with
 |true=>exact hb f l e g Q i q1
 |false=>exact⟨.bl false,g,i,rfl,q1⟩
theorem aPe(ha:PE X a ta)(hb:PE X (.BoolOp .Or (b::dU) pos) tb):PE X (.BoolOp .Or (a::b::dU) pos) (aRg ta tb):=by
 intro f s e H Q I h;refine BoolOp_or (thn (ha f s e H _ I h) λv l d=>?_)
 obtain⟨x,g,i,j,q1⟩:=d;obtain⟨c,rfl,q1⟩:=q1;cases j;refine wpAny_truthy_bool ?_
 cases c with
 |false=>exact hb f l e g Q i q1
 |true=>exact⟨.bl true,g,i,rfl,q1⟩
theorem aKv(ha:PE X a ta):PE X (.UnaryOp .Not a pos) (aPd ta):=by
 intro e s d H Q I h;refine UnaryOp_ (thn (ha e s d H _ I h) λv j b=>?_)
 obtain⟨x,f,i,g,q1⟩:=b;obtain⟨c,rfl,q1⟩:=q1;cases g;exact not_of (wpAny_truthy_bool ⟨.bl (!c),f,i,rfl,q1⟩)
def tIf(t:TT)(ta tb:TE):TE:=λσ H Q=>t σ H λc H1=>if c=true then ta σ H1 Q else tb σ H1 Q
theorem aBn(hc:PT X c tA)(ha:PE X a ta)(hb:PE X b tb):PE X (.IfExp c a b pos) (tIf tA ta tb):=by
 intro f s e H Q I h;refine wpAny_IfExp (thn (hc f s e H _ I h) λd l g=>?_)
 obtain⟨i,j,q1⟩:=g
 cases d with
 |true=>exact ha f l e i Q j q1
 |false=>exact hb f l e i Q j q1
end
def SqL(K:PySem.W.Frag)(H:Hp)(a:Addr)(xs:List V):Prop:=
 Rd H a (.lst xs)\/
  ∃(o:Obj) (its:Array Value) (n:Nat),K.lookup a=some o/\o.cls= .type "list"/\o.dict=none/\o.data= .seq its n/\its.size<=sizeLine/\cN xs its.toList
def SqT(K:PySem.W.Frag)(H:Hp)(a:Addr)(xs:List V):Prop:=
 Rd H a (.tup xs)\/
  ∃(o:Obj) (its:Array Value) (n:Nat),K.lookup a=some o/\o.cls= .type "tuple"/\o.dict=none/\o.data= .seq its n/\its.size<=sizeLine/\cN xs its.toList
noncomputable def aR9:Value->Option V
 |.none=>some .non
 |.bool b=>some (.bl b)
 |.int i _=>some (.int i)
 |.str x _=>some (.str x)
 |.bytes b _=>some (.byt b)
 |.float b _=>some (.flt b)
 |.ref a=>some (.ref a)
 |.type n=>some (.ty n)
 |_=>none
theorem bA.abs(r:bA x u):aR9 u=some x:=by
 cases x with
 |non=>cases r;rfl
 |bl _=>cases r;rfl
 |int _=>obtain⟨t,rfl⟩:=r;rfl
 |str _=>obtain⟨t,rfl⟩:=r;rfl
 |byt _=>obtain⟨t,rfl⟩:=r;rfl
 |flt _=>obtain⟨t,rfl⟩:=r;rfl
 |ref _=>cases r;rfl
 |ty _=>cases r;rfl
theorem bA.inj(r:bA x u)(q:bA y u):x=y:=Option.some.inj (r.abs.symm.trans q.abs)
theorem cN.inj: ∀{xs ys:List V} {us:List Value},cN xs us->cN ys us->xs=ys
 |_,_,_,.nil,.nil=>rfl
 |_,_,_,.cons r t,.cons r' t'=>by rw[r.inj r',cN.inj t t']
section
variable {X:Cx} {ce:cg} {σ:St} {H:Hp} {s:Shared} {a:Addr} {xs ys:List V}
theorem SqL.of{K:PySem.W.Frag}(h:H a=some (.lst xs)):SqL K H a xs:=.inl (.inl h)
theorem SqT.of{K:PySem.W.Frag}(h:H a=some (.tup xs)):SqT K H a xs:=.inl (.inl h)
theorem Inv.list(I:Inv X ce σ H s)(h:SqL X.K H a xs): ∃its:List Value,cN xs its/\PlainL s.heap a its.toArray/\xs.length<=sizeLine:=by
 rcases h with h|⟨o,its,n,hk,hc,hd,hs,hz,r⟩
 ·obtain⟨z,its,n,r,e⟩:=h.ok I.hok;exact⟨its,r,⟨_,n,e,rfl,rfl,rfl⟩,z⟩
 ·refine⟨its.toList,r,⟨o,n,I.kIn a o hk,hc,hd,by simpa using hs⟩,?_⟩
  have e:=r.length;simp only[Array.length_toList]at e
  lia
theorem Inv.tuple(I:Inv X ce σ H s)(h:SqT X.K H a xs): ∃its:List Value,cN xs its/\IsTup s.heap a its.toArray/\xs.length<=sizeLine:=by
 rcases h with h|⟨o,its,n,hk,hc,_,hs,hz,r⟩
 ·obtain⟨z,its,r,p,_⟩:=h.ok I.hok;exact⟨its,r,p,z⟩
 ·refine⟨its.toList,r,⟨o,I.kIn a o hk,hc,n,by simpa using hs⟩,?_⟩
  have e:=r.length;simp only[Array.length_toList]at e
  lia
theorem Inv.list_inj(I:Inv X ce σ H s)(h:SqL X.K H a xs)(h':SqL X.K H a ys):xs=ys:=by
 obtain⟨c,r,⟨o,n,e,_,_,d⟩,_⟩:=I.list h;obtain⟨b,i,⟨j,l,f,_,_,g⟩,_⟩:=I.list h';rw[e]at f;cases f;rw[d]at g;injection g with d1 _
 have:c=b:=by simpa using congrArg Array.toList d1
 subst this;exact r.inj i
theorem Inv.tuple_inj(I:Inv X ce σ H s)(h:SqT X.K H a xs)(h':SqT X.K H a ys):xs=ys:=by
 obtain⟨c,r,⟨o,e,_,n,d⟩,_⟩:=I.tuple h;obtain⟨b,i,⟨j,f,_,l,g⟩,_⟩:=I.tuple h';rw[e]at f;cases f;rw[d]at g;injection g with d1 _
 have:c=b:=by simpa using congrArg Array.toList d1
 subst this;exact r.inj i
end
abbrev Cx.wish(X:Cx)(E:cf):Cx:={X with xe:=E}
section
variable {X:Cx} {ce:cg} {σ:St} {H:Hp} {s:Shared} {E:cf}
end
section
variable {X:Cx} {st:Stmt} {dU:List Stmt} {t u:TS} {e:Expr} {te:TE} {pos:Pos}
def aBo:TS:=λD σ H=>D.nx σ H
def aRh(t u:TS):TS:=λD σ H=>t {D with nx:=u D} σ H
theorem j4:PSs X [] aBo:=λ_ _ a H _ I h=>wpAny_execs_nil ⟨a,H,I,h⟩
theorem jO(h1:PS X st t)(h2:PSs X dU u):PSs X (st::dU) (aRh t u):=by
 intro b s c H D I h;refine wpAny_execs_cons (thn (h1 b s c H {D with nx:=u D} I h) λf g q=>?_)
 cases f with
 |next=>
  obtain⟨a,e,d,q⟩:=q;exact h2 b g a e D d q
 |ret v=>exact q
 |brk=>exact q
 |cont=>exact q
theorem qZ(h1:PS X st t):PSs X [st] t:=by
 intro b s a H D I h;refine wpAny_execs_cons (thn (h1 b s a H D I h) λf c q=>?_)
 cases f with
 |next=>exact wpAny_execs_nil q
 |ret v=>exact q
 |brk=>exact q
 |cont=>exact q
theorem wH:PS X (.Pass pos) aBo:=λ_ _ a H _ I h=>wpAny_Pass ⟨a,H,I,h⟩
theorem Inv.quiet{σ:St}(I:Inv X ce σ H s):interactive X.env=false:=by simp[interactive,I.ok.kind]
def aF1(te:TE):TS:=λD σ H=>te σ H λ_ H1=>D.nx σ H1
theorem mY(he:PE X e te)(hs:swapsWith e none pos.line X.env=pure false:=by rfl):PS X (.Expr e pos) (aF1 te):=by
 intro b s a H D I h;exact wpAny_Expr_any (thn (he b s a H _ I h) λv g ⟨x,c,d,f,q1⟩=>⟨a,c,d,q1⟩) I.quiet hs
def aSa(te:TE):TS:=λD σ H=>te σ H D.rt
theorem wI(he:PE X e te):PS X (.Return (some e) pos) (aSa te):=by
 intro b s a H D I h;exact wpAny_Return_some (thn (he b s a H _ I h) λv g ⟨x,c,f,d,q1⟩=>⟨x,a,c,f,d,q1⟩)
def aPf(c:TT)(t u:TS):TS:=λD σ H=>c σ H λb H1=>if b=true then t D σ H1 else u D σ H1
theorem aKw(hc:PT X c tc)(ha:PSs X a t)(hb:PSs X b u):PS X (.If c a b pos) (aPf tc t u):=by
 intro f s e H D I h;refine wpAny_If (thn (hc f s e H _ I h) λd l g=>?_)
 obtain⟨i,j,q1⟩:=g
 cases d with
 |true=>exact ha f l e i D j q1
 |false=>exact hb f l e i D j q1
end
abbrev TG:=V->St->Hp->(St->Hp->Prop)->Prop
abbrev TGs:=List V->St->Hp->(St->Hp->Prop)->Prop
def PG(X:Cx)(target:Expr)(t:TG):Prop:=
 ∀(ce:cg) (s:Shared) (σ:St) (H:Hp) (v:V) (u:Value) (Q:St->Hp->Prop),Inv X ce σ H s->bA v u->t v σ H Q->
  wpAny (model X.prog X.w) X.A (assign target X.env u) (λ_ s'=>∃σ' H',Inv X ce σ' H' s'/\Q σ' H') X.xe s
def PGs(X:Cx)(ts:List Expr)(t:TGs):Prop:=
 ∀(ce:cg) (s:Shared) (σ:St) (H:Hp) (vs:List V) (us:List Value) (Q:St->Hp->Prop),Inv X ce σ H s->cN vs us->t vs σ H Q->
  wpAny (model X.prog X.w) X.A (assignInOrder ((assignEach ts X.env).map (·.2)) us) (λ_ s'=>∃σ' H',Inv X ce σ' H' s'/\Q σ' H') X.xe s
abbrev aPg:=V->V->V->Hp->(Hp->Prop)->Prop
def aPh(X:Cx)(t:aPg):Prop:=
 ∀(ce:cg) (s:Shared) (σ:St) (H:Hp) (o i v:V) (ov iv u:Value) (Q:Hp->Prop),Inv X ce σ H s->bA o ov->bA i iv->bA v u->t o i v H Q->
  wpAny (model X.prog X.w) X.A (setItem ov iv u) (λ_ s'=>∃H',Inv X ce σ H' s'/\Q H') X.xe s
section
variable {X:Cx} {pos:Pos}
def jM(i:Nat):TG:=λv σ H Q=>Q (σ.set i (some v)) H
theorem j5{i:Nat}{x:Str}(hN:X.N.Nodup)(hi:X.N[i]? =some x)(hx:Loc X.env.scope x)(hf:X.fn x=true\/X.env.scope.names.lookup x=some .local:=by first|exact .inl rfl|exact .inr rfl|assumption):PG X (.Name x pos) (jM i):=by
 intro c s b H v u Q I r h;exact wpAny_assign_Name (f8 I hN hi hx r (λd a=>⟨_,H,a,h⟩) hf)
def aPi:TGs:=λvs σ H Q=>vs=[]/\Q σ H
def aF2(t:TG)(u:TGs):TGs:=λvs σ H Q=>∃v r,vs=v::r/\t v σ H λσ' H'=>u r σ' H' Q
theorem wJ:PGs X [] aPi:=by
 intro b s a H d c Q I r h;obtain⟨e,h⟩:=h;subst e;cases r;exact assignInOrder_nil ⟨a,H,I,h⟩
theorem sO{e:Expr}{es:List Expr}{t:TG}{u:TGs}(h1:PG X e t)(h2:PGs X es u)
  (hs:(assignEach (e::es) X.env).map (·.2)=assign e X.env::(assignEach es X.env).map (·.2):=by rfl):PGs X (e::es) (aF2 t u):=by
 intro c s g H n m Q I r h;obtain⟨v,o,d,h⟩:=h;subst d
 cases r with
 |cons r i=>
  rw[hs];refine assignInOrder_cons (thn (h1 c s g H _ _ _ I r h) λ_ f a=>?_)
  obtain⟨b,j,l,q1⟩:=a;exact h2 c f b j _ _ Q l i q1
def aKx(K:PySem.W.Frag)(n:Nat)(t:TGs):TG:=λv σ H Q=>∃a xs,v= .ref a/\SqT K H a xs/\xs.length=n/\t xs σ H Q
theorem aEf{es:List Expr}{k:Nat}{t:TGs}{n:Nat}(hc:X.calm=true)(h:PGs X es t)
  (hn:(assignEach es X.env).length=n:=by rfl) (hst:(assignEach es X.env).findIdx? (·.1)=none:=by rfl):PG X (.Tuple es k pos) (aKx X.K n t):=by
 intro f s d H v u Q I r c;obtain⟨a,q,i,z,p,c⟩:=c;subst i;cases r;obtain⟨y,g,j,A⟩:=I.tuple z;refine assign_Tuple_tuple (I.ok.hd hc) j (by simp[hn, <-p,g.length]) hst λm x=>?_
 have l:Inv X f d H {s with heap:=m}:=I.kept (t':=s.toks) λb o e=>x b o (bj (ah e)) e
 exact h f _ d H q _ Q l (by simpa using g) c
def aSb(to ti:TE)(t:aPg):TG:=λv σ H Q=>to σ H λo H1=>ti σ H1 λi H2=>t o i v H2 λH3=>Q σ H3
theorem aKy{o i:Expr}{to ti:TE}{t:aPg}(ho:PE X o to)(hi:PE X i ti)(hs:aPh X t)
  (ha: ∀v,assign (.Subscript o i pos) X.env v=(do
   let ov<-holding [v] (eval o X.env);let iv<-holding [v,ov] (eval i X.env)
   standAt pos
   holding [v,ov,iv] (setItem ov iv v)
   release [v,ov,iv] []):=by intro _;rfl):PG X (.Subscript o i pos) (aSb to ti t):=by
 intro c s b H v u Q I r h;rw[ha];refine aa (wpAny_holding (thn (ho c s b H _ I h) λov j a=>?_))
 obtain⟨x,p,A,f,q1⟩:=a;refine aa (wpAny_holding (thn (hi c j b p _ A q1) λiv l a=>?_))
 obtain⟨y,z,e,d,n⟩:=a;refine aa (wpAny_standAt (aa (wpAny_holding (thn (hs c l b z x y v ov iv u _ e f d r n) λ_ B a=>?_))))
 obtain⟨q,g,m⟩:=a;exact wpAny_release ⟨b,q,g,m⟩
def aF3(te:TE)(g:TG):TS:=λD σ H=>te σ H λx H1=>g x σ H1 D.nx
theorem wK{tg e:Expr}{te:TE}{g:TG}(he:PE X e te)(hg:PG X tg g)(hs:swapsWithSole [tg] e pos.line X.env=pure false:=by rfl)(hw:swappedStores [tg] e X.env=pure none:=by rfl)
  (h1:(assignEach [tg] X.env).map (·.2)=[assign tg X.env]:=by rfl):PS X (.Assign [tg] e pos) (aF3 te g):=by
 intro b s a H D I h;refine wpAny_Assign_stores (thn (he b s a H _ I h) λv i ⟨x,c,f,d,q1⟩=>?_) hs hw
 rw[h1];exact thn (hg b i a c x v _ f d q1) λ_ j q=>q
theorem sP{i:Nat}{x:Str}{e:Expr}{te:TE}{pos':Pos}(hN:X.N.Nodup)(hi:X.N[i]? =some x)(hx:Loc X.env.scope x)(he:PE X e te)(hs:swapsWith e (some (.Name x pos')) pos.line X.env=pure false:=by rfl)(hf:X.fn x=true\/X.env.scope.names.lookup x=some .local:=by first|exact .inl rfl|exact .inr rfl|assumption):
  PS X (.Assign [.Name x pos'] e pos) (aF3 te (jM i)):=by
 intro b s a H D I h;refine wpAny_Assign_Name (thn (he b s a H _ I h) λv j ⟨y,c,g,d,q1⟩=>?_) hs
 exact f8 g hN hi hx d (λl f=>⟨_,c,f,q1⟩) hf
def aSc(i j:Nat)(ta:TA):TS:=λD σ H=>ta σ H λvs H1=>∃v w,vs=[v,w]/\D.nx ((σ.set i (some v)).set j (some w)) H1
theorem aKz{i j:Nat}{x y:Str}{a b:Expr}{ta:TA}{px py pt:Pos}{kt k2 pt2}(hc:X.calm=true)(hN:X.N.Nodup)(hi:X.N[i]? =some x)(hj:X.N[j]? =some y)(hij:i≠j)
  (hx:X.env.scope.names.lookup x=some .local) (hy:X.env.scope.names.lookup y=some .local) (ha:PA X [a,b] ta)
  (hw:swappedStores [.Tuple [.Name x px,.Name y py] kt pt] (.Tuple [a,b] k2 pt2) X.env=pure (some [x,y]))
  (hs:swapsWithSole [.Tuple [.Name x px,.Name y py] kt pt] (.Tuple [a,b] k2 pt2) pos.line X.env=pure false:=by rfl):
  PS X (.Assign [.Tuple [.Name x px,.Name y py] kt pt] (.Tuple [a,b] k2 pt2) pos) (aSc i j ta):=by
 intro r s n H D I h;rw[exec_Assign_arm];refine aa (wpAny_standAt ?_);rw[hs];refine aa (ae ?_);rw[if_neg (by decide)]
 refine aa (Tuple_ (thn (ha _ r s n H _ I h) λL f m=>?_))
 obtain⟨Q,u,E,C,q1⟩:=m;obtain⟨v,w,z,q1⟩:=q1;subst z
 obtain⟨c,d,rfl,J,l⟩: ∃c d,L=[c,d]/\bA v c/\bA w d:=by
  cases C with
  |cons p q=>
   cases q with
   |cons G K=>
    cases K;exact⟨_,_,rfl,p,G⟩
 refine wpAny_newObj_type ?_ (by show 2<=sizeLine;decide)
 have B:Inv X r n u {f with heap:=f.heap.push {cls:=.type "tuple",data:=.seq [c,d].toArray} }:=E.kept (t':=f.toks) λb o e=>af _ e
 rw[hw];refine aa (ae ?_);show wpAny (model X.prog X.w) X.A (do rule "assign.swapped-stores";let items<-unpackItems (.ref f.heap.objs.size) 2 none;assignInOrder [λv=>bindName X.env y v,λv=>bindName X.env x v] items.reverse;pure Flow.next) _ _ _
 refine aa (wpAny_rule (aa (unpackItems_tuple (items:= #[c,d]) (I.ok.hd hc) (IsTup.new f.heap _) λh' g=>?_)))
 have M:=B.kept (h':=h') (t':=f.toks) λb o e=>g b o (bj (ah e)) e
 show wpAny _ _ (assignInOrder [λv=>bindName X.env y v,λv=>bindName X.env x v] [d,c] >>= λ_=>pure Flow.next) _ _ _
 refine aa (assignInOrder_cons (wpAny_bindName (f8 M hN hj (.inl hy) l (λS O=>?_) (.inr hy))))
 refine assignInOrder_cons (wpAny_bindName (f8 O hN hi (.inl hx) J (λT t=>assignInOrder_nil (ae ?_)) (.inr hx)))
 rw[List.set_comm _ _ (Ne.symm hij)]at t;exact⟨_,u,t,q1⟩
end
section
variable {X:Cx} {pos:Pos}
end
structure It where
 go:Nat->Hp->Prop
 yld:Nat->Hp->V->Hp->Prop
 stop:Nat->Hp->Prop
def oI(X:Cx)(ce:cg)(H:Hp)(b:Addr):Prop:=
 H b=none/\b≠X.env.locals/\b∉X.fs/\(b∈X.ex\/X.s₀.heap.objs.size<=b)/\(∀x c,X.env.cells.lookup x=some c->c≠b)/\∀p∈X.pn++ce,p.1≠b
theorem Inv.fpOk{σ:St}{b:Addr}(I:Inv X ce σ H s)(hb:s.heap.objs.size<=b)(hn:H' b=none):oI X ce H' b:=by
 refine⟨hn,Nat.ne_of_gt (bh I.lt hb),I.nofs hb,.inr (Nat.le_trans I.sz hb),λx c e z=>?_,λp a z=>?_⟩
 ·obtain⟨v,q⟩:=I.cell x c e;exact absurd (bh q.lt (by rw[z];exact hb)) (Nat.lt_irrefl _)
 ·exact absurd (bh (ah (I.pin p a).1) (by rw[z];exact hb)) (Nat.lt_irrefl _)
structure Turn(P:Program)(w:World)(K:PySem.W.Frag)(tg:Expr)(J:It)(fp:List Addr)(it:Addr)(tn:Nat->Heap->Prop):Prop where
 mem:it∈fp
 obj: ∀i h,tn i h->∀b∈fp, ∃o,h.get? b=some o/\∀v,o.data≠ .cell v
 keep: ∀i h h',tn i h->(∀b∈fp, ∀o,h.get? b=some o->h'.get? b=some o)->tn i h'
 item: ∀(X:Cx),X.prog=P->X.w=w->X.K=K->X.calm=true->∀(i:Nat) (ce:cg) (s:Shared) (σ:St) (H:Hp) (E:cf),Inv X ce σ H s->(∀b∈fp,oI X ce H b)->tn i s.heap->J.go i H->
  wpAny (model P w) X.A (pyNext (.ref it)) (λr s1=>∃u,r=some u/\
   wpAny (model P w) X.A (letOwnedTupleGo tg (.ref it) u) (λ_ s2=>∃x H',Inv X ce σ H' s2/\bA x u/\J.yld i H x H'/\tn (i+1) s2.heap/\∀b∈fp,H' b=none) E s1) E s
 done: ∀(X:Cx),X.prog=P->X.w=w->X.K=K->X.calm=true->∀(i:Nat) (ce:cg) (s:Shared) (σ:St) (H:Hp) (E:cf),Inv X ce σ H s->(∀b∈fp,oI X ce H b)->tn i s.heap->J.stop i H->
  wpAny (model P w) X.A (pyNext (.ref it)) (λr s1=>r=none/\Inv X ce σ H s1) E s
 self: ∀(A:Around) (i:Nat) (s:Shared) (Q:cf) (E:cf),tn i s.heap->Q (.ref it) s->wpAny (model P w) A (pyIter (.ref it)) Q E s
abbrev TI:=St->Hp->(It->Hp->Prop)->Prop
def PIE(X:Cx)(ce:cg)(σ:St)(tg:Expr)(R:It->Hp->Prop)(itv:Value)(s2:Shared):Prop:=
 ∃(it:Addr) (fp:List Addr) (tn:Nat->Heap->Prop) (J:It) (H':Hp),itv= .ref it/\Inv X ce σ H' s2/\Turn X.prog X.w X.K tg J fp it tn/\tn 0 s2.heap/\(∀b∈fp,oI X ce H' b)/\R J H'
def PI(X:Cx)(tg iter:Expr)(wi:TI):Prop:=
 ∀(ce:cg) (s:Shared) (σ:St) (H:Hp) (R:It->Hp->Prop),Inv X ce σ H s->wi σ H R->
  wpAny (model X.prog X.w) X.A (eval iter X.env) (λv s1=>wpAny (model X.prog X.w) X.A (pyIter v) (PIE X ce σ tg R) X.xe s1) X.xe s
theorem wL{E:cf}(ho:s.heap.get? it=some o)(hc:o.cls= .type n)(hd:o.data= .fields vs)(hn:["enumerate","zip","dict_itemiterator","dict_reverseitemiterator","odict_iterator","itertools.zip_longest","itertools.pairwise"].contains n=false)(hQ:Q () s):wpAny M A (letOwnedTupleGo tg (.ref it) u) Q E s:=by
 unfold letOwnedTupleGo
 cases tg<;>first
  |exact ae hQ
  |(cases u<;>first
    |exact ae hQ
    | (refine aa (wpAny_load ho ?_)
       rw[hc,hd];show wpAny M A (if(["enumerate","zip","dict_itemiterator","dict_reverseitemiterator","odict_iterator","itertools.zip_longest","itertools.pairwise"].contains n&&vs[0]? ==some (rawInt _))=true then _ else _) Q E s
       rw[if_neg (by intro h;rw[hn,Bool.false_and]at h;cases h)]
       exact ae hQ))
def Itl(K:PySem.W.Frag)(a:Addr):It:=
 ⟨λi H=>∃xs x,SqL K H a xs/\xs[i]? =some x,λi H x H'=>H'=H/\∀xs,SqL K H a xs->xs[i]? =some x,λi H=>∃xs,SqL K H a xs/\xs.length<=i⟩
def Itt(K:PySem.W.Frag)(a:Addr):It:=
 ⟨λi H=>∃xs x,SqT K H a xs/\xs[i]? =some x,λi H x H'=>H'=H/\∀xs,SqT K H a xs->xs[i]? =some x,λi H=>∃xs,SqT K H a xs/\xs.length<=i⟩
def Itr(lo:Int)(n:Nat):It:=⟨λi _=>i<n,λi H x H'=>H'=H/\x= .int (lo+i),λi _=>n<=i⟩
theorem oN{K:PySem.W.Frag}(a it:Addr):Turn P w K tg (Itl K a) [it] it (λi h=>h.IsListIter it a i) where
 mem:=by simp
 obj:=λi h f b g=>by
  have e:b=it:=by simpa using g
  subst e;obtain⟨o,e,c,d⟩:=f;exact⟨o,e,λv z=>by rw[d]at z;cases z⟩
 keep:=λi h l f k=>f.at λo e=>k it (by simp) o e
 item:=by
  intro X A N B S i Q s O H E I n f r;subst A N B;obtain⟨xs,x,m,q⟩:=r;obtain⟨L,t,p,hz⟩:=I.list m;obtain⟨u,hu,U⟩:=t.get q;obtain⟨y,G,f2,J,M,C⟩:=n it (by simp)
  refine wpAny_pyNext_list_item f p.isList (x:=u) (by simpa using hu) λl j T=>?_
  have I1:Inv X Q O H {s with heap:=l}:=I.turned (t':=s.toks) (λb o g e=>(T.2 b g).trans e) y G J M C
  obtain⟨o,e,c,d⟩:=id j;exact⟨u,rfl,wL (s:={s with heap:=l}) e c d (by decide) ⟨x,H,I1,U,⟨rfl,λys Y=>by rw[I.list_inj Y m];exact q⟩,j,λb g=>(n b g).1⟩⟩
 done:=by
  intro X A N B S i Q s O H E I n f r;subst A N B;obtain⟨xs,m,q⟩:=r;obtain⟨L,t,p,hz⟩:=I.list m;obtain⟨y,G,f2,J,M,C⟩:=n it (by simp)
  have hl:=t.length;exact wpAny_pyNext_list_end (I.ok.hd S) f p.isList (by simp;lia) λl Z=>⟨rfl,I.turned (t':=s.toks) (λb o g e=>Z b o g e) y G J M C⟩
 self:=λ_ _ _ _ _ f h=>wpAny_pyIter_listiter f h
theorem lZ{K:PySem.W.Frag}(a it:Addr):Turn P w K tg (Itt K a) [it] it (λi h=>h.IsTupleIter it a i) where
 mem:=by simp
 obj:=λi h f b g=>by
  have e:b=it:=by simpa using g
  subst e;obtain⟨o,e,c,d⟩:=f;exact⟨o,e,λv z=>by rw[d]at z;cases z⟩
 keep:=λi h m f k=>f.at λo e=>k it (by simp) o e
 item:=by
  intro X B N C S i Q s O H E I q f t;subst B N C;obtain⟨xs,x,n,r⟩:=t;obtain⟨j,y,p,hz⟩:=I.tuple n;obtain⟨u,hu,U⟩:=y.get r;obtain⟨A,J,f2,L,M,G⟩:=q it (by simp)
  refine wpAny_pyNext_tuple_item f (show s.heap.IsTuple a j.toArray from p) (x:=u) (by simpa using hu) λm l T=>?_
  have I1:Inv X Q O H {s with heap:=m}:=I.turned (t':=s.toks) (λb o g e=>(T.2 b g).trans e) A J L M G
  obtain⟨o,e,c,d⟩:=id l;exact⟨u,rfl,wL (s:={s with heap:=m}) e c d (by decide) ⟨x,H,I1,U,⟨rfl,λys Y=>by rw[I.tuple_inj Y n];exact r⟩,l,λb g=>(q b g).1⟩⟩
 done:=by
  intro X B N C S i Q s O H E I q f t;subst B N C;obtain⟨xs,n,r⟩:=t;obtain⟨j,y,p,hz⟩:=I.tuple n;obtain⟨A,J,f2,L,M,G⟩:=q it (by simp)
  have hl:=y.length;exact wpAny_pyNext_tuple_end (I.ok.hd S) f (show s.heap.IsTuple a j.toArray from p) (by simp;lia) λm Z=>⟨rfl,I.turned (t':=s.toks) (λb o g e=>Z b o g e) A J L M G⟩
 self:=λ_ _ _ _ _ f h=>wpAny_pyIter_tupleiter f h
theorem u8{K:PySem.W.Frag}(it:Addr)(lo:Int)(n:Nat):Turn P w K tg (Itr lo n) [it] it (λi h=>IsRangeIter h it (lo+(i:Nat)*1) ((n:Int)-(i:Nat)) 1) where
 mem:=by simp
 obj:=λi h a b c=>by
  have e:b=it:=by simpa using c
  subst e
  exact⟨_,a,λv z=>by
   have N:Data.fields _=Data.cell v:=z
   cases N⟩
 keep:=λi h f a k=>k it (by simp) _ a
 item:=by
  intro X p A q j i G s C H E I g a l;subst p A q;obtain⟨m,u,Q,x,y,r⟩:=g it (by simp)
  have W:=Walks.range (prog:=X.prog) (w:=X.w) (I.ok.hd j) it lo 1 n;refine W.item i s _ _ l a λv f B L d O=>?_
  obtain⟨t,rfl⟩:=L;have M:Inv X G C H {s with heap:=f,toks:=B}:=I.turned (λb o c e=>O b o (by simpa using c) e) m u x y r
  refine⟨_,rfl,wL (s:={s with heap:=f,toks:=B}) (n:="range_iterator") d rfl rfl (by decide) ⟨.int (lo+i),H,M,⟨t,?_⟩,⟨rfl,rfl⟩,d,λb c=>(g b c).1⟩⟩
  rw[Int.mul_one]
 done:=by
  intro X p A q j i G s C H E I g a l;subst p A q;obtain⟨m,u,Q,x,y,r⟩:=g it (by simp)
  exact wpAny_pyNext_range_end (I.ok.hd j) a (by have:n<=i:=l;lia) λf J=>⟨rfl,I.turned (t':=s.toks) (λb o c e=>J b o c e) m u x y r⟩
 self:=λ_ _ _ _ _ a h=>wpAny_pyIter_rangeiter a h
section
variable {X:Cx} {tg:Expr}
theorem aBp{σ:St}{E:cf}{lo hi:Int}(I:Inv X ce σ H s)(h1: -(2^62)<=lo)(h2:lo<2^62)(h3: -(2^62)<=hi)(h4:hi<2^62)(q:R (Itr lo (hi-lo).toNat) H):wpAny (model X.prog X.w) X.A (pyIter (.ref s.heap.objs.size)) (PIE X ce σ tg R) E {s with heap:=s.heap.push {cls:=.type "range",data:=.fields #[.int lo t,.int hi u,.int 1 v]},toks:=tk}:=by
 refine wpAny_pyIter_range (IsRange.new ..) (small_one h1 h2 h3 h4) ?_;have a:Inv X ce σ H {s with heap:=s.heap.push {cls:=.type "range",data:=.fields #[.int lo t,.int hi u,.int 1 v]},toks:=tk}:=I.kept λb o e=>af _ e
 refine⟨(s.heap.push {cls:=.type "range",data:=.fields #[.int lo t,.int hi u,.int 1 v]}).objs.size,[(s.heap.push {cls:=.type "range",data:=.fields #[.int lo t,.int hi u,.int 1 v]}).objs.size],_,_,H,rfl,
  a.kept (t':=tk) λb o e=>af _ e,u8 _ lo (hi-lo).toNat,?_,λb d=>?_,q⟩
 ·have c:lo+((0:Nat):Int)*1=lo:=by simp
  have f:(((hi-lo).toNat:Nat):Int)-((0:Nat):Int)=Builtin.Range.rangeSize lo hi 1:=by rw[rangeSize_one];split<;>lia
  show IsRangeIter _ _ (lo+((0:Nat):Int)*1) ((((hi-lo).toNat:Nat):Int)-((0:Nat):Int)) 1;rw[c,f];exact ag _ rfl
 ·have e:b=(s.heap.push {cls:=.type "range",data:=.fields #[.int lo t,.int hi u,.int 1 v]}).objs.size:=by simpa using d
  subst e;exact a.fpOk (aj _) (a.hok.fresh (aj _))
def aPj(ta:TA):TI:=λσ H R=>ta σ H λvs H1=>∃j:Int,vs=[.int j]/\ -(2^62)<=j/\j<2^62/\R (Itr 0 j.toNat) H1
theorem oO{a:Expr}{ta:TA}{p pos:Pos}(hg:Gl X "range")(hm:X.mg "range"=none)(ha:PA X [a] ta)(hs:starEach [a] X.env=[(false,eval a X.env)]:=by rfl):PI X tg (.Call (.Name "range" p) [a] [] pos) (aPj ta):=by
 intro d s c H R I h;refine Call_ (fN I hg hm boot_range (PyProof.Rows.callWith_type1 (thn (ha pos d s c H _ I h) λl n ⟨m,o,i,b,q1⟩=>?_) hs rfl))
 obtain⟨j,e,q1,f,q⟩:=q1;subst e
 cases b with
 |cons r g=>
  cases g;obtain⟨t,rfl⟩:=r;exact call_range_1 (aBp i (by lia) (by lia) q1 f (by simpa using q))
def aSd(wi:TI)(g:TG)(tb:TS):TS:=λD σ H=>wi σ H λJ H1=>∃W:Nat->Nat->St->Hp->Prop,(∃m,W 0 m σ H1)/\∀i m σ H,W i m σ H->
 (J.stop i H/\D.nx σ H)\/(J.go i H/\∃N:St->Hp->Prop,(∀σ' H',N σ' H'->∃m',m'<m/\W (i+1) m' σ' H')/\∀x H',J.yld i H x H'->g x σ H' λσ2 H2=>tb {D with nx:=N,ct:=N,bk:=D.nx} σ2 H2)
def fO(fp:List Addr)(h:Heap):cg:=fp.filterMap λb=>(h.get? b).map λo=>(b,o)
theorem f9(hb:b∈fp)(e:h.get? b=some o):(b,o)∈fO fp h:=List.mem_filterMap.mpr ⟨b,hb,by rw[e];rfl⟩
theorem j6(hp:p∈fO fp h):p.1∈fp/\h.get? p.1=some p.2:=by
 obtain⟨b,c,e⟩:=List.mem_filterMap.mp hp
 cases q:h.get? b with
 |none=>rw[q]at e;cases e
 |some o=>
  rw[q]at e
  have a:(b,o)=p:=Option.some.inj e
  subst a;exact⟨c,q⟩
theorem Inv.pinned{σ:St}(I:Inv X ce σ H s)(hf: ∀b∈fp,oI X ce H b)(ho: ∀b∈fp, ∃o,s.heap.get? b=some o/\∀v,o.data≠ .cell v):Inv X (ce++fO fp s.heap) σ H s:=
 I.pins_of λp i=>(List.mem_append.mp i).elim (λz=>I.pin p (bu _ z)) λz=>by
  obtain⟨c,e⟩:=j6 z;obtain⟨f,h,g,_⟩:=hf p.1 c;obtain⟨o,a,d⟩:=ho p.1 c;rw[e]at a;cases a;exact⟨e,f,h,g,d⟩
theorem Inv.unpinned{σ:St}(I:Inv X (ce++pl) σ H s):Inv X ce σ H s:=I.pins_of λp a=>I.pin p (bu _ (List.mem_append_left _ a))
end
abbrev R2:=V->V->Hp->VK->Prop
def OpR(X:Cx)(f:Value->Value->Sem Value)(r:R2):Prop:=
 ∀(ce:cg) (s:Shared) (σ:St) (H:Hp) (x y:V) (v u:Value) (Q:VK),Inv X ce σ H s->bA x v->bA y u->r x y H Q->
  wpAny (model X.prog X.w) X.A (f v u) (EP X ce σ Q) X.xe s
def lT(X:Cx)(f:Value)(r:List V->Hp->VK->Prop):Prop:=
 ∀(ce:cg) (s:Shared) (σ:St) (H:Hp) (xs:List V) (us:List Value) (Q:VK),Inv X ce σ H s->cN xs us->r xs H Q->
  wpAny (model X.prog X.w) X.A (call f us) (EP X ce σ Q) X.xe s
def tOp(r:R2)(ta tb:TE):TE:=λσ H Q=>ta σ H λx H1=>tb σ H1 λy H2=>r x y H2 Q
def rI(C:Int->Int->Prop)(g:Int->Int->V):R2:=λx y H Q=>∃i j,x= .int i/\y= .int j/\C i j/\Q (g i j) H
def rI0(g:Int->Int->V):R2:=λx y H Q=>∃i j,x= .int i/\y= .int j/\Q (g i j) H
section
variable {X:Cx} {a b c:Expr} {ta tb tc:TE} {pos:Pos}
theorem opI{g:Int->Int->Int}(rule: ∀(i j:Int) (t u:Tok) (s:Shared) (Q:cf) (E:cf),C i j->Q (.int (g i j) s.toks) {s with toks:=s.toks+1}->wpAny (model X.prog X.w) X.A (f (.int i t) (.int j u)) Q E s):
  OpR X f (rI C λi j=>.int (g i j)):=by
 intro l s e H x y v u Q I d a h;obtain⟨i,j,rfl,rfl,c,q⟩:=h;obtain⟨t,rfl⟩:=d;obtain⟨b,rfl⟩:=a;exact rule i j t b s _ _ c ⟨.int (g i j),H,I.tok _,⟨_,rfl⟩,q⟩
theorem aK0{g:Int->Int->Int}(rule: ∀(i j:Int) (t u:Tok) (s:Shared) (Q:cf) (E:cf),Q (.int (g i j) s.toks) {s with toks:=s.toks+1}->wpAny (model X.prog X.w) X.A (f (.int i t) (.int j u)) Q E s):
  OpR X f (rI0 λi j=>.int (g i j)):=by
 intro e s d H x y v u Q I c a h;obtain⟨i,j,rfl,rfl,q⟩:=h;obtain⟨t,rfl⟩:=c;obtain⟨b,rfl⟩:=a;exact rule i j t b s _ _ ⟨.int (g i j),H,I.tok _,⟨_,rfl⟩,q⟩
theorem aOw{g:Int->Int->Bool}(rule: ∀(i j:Int) (t u:Tok) (s:Shared) (Q:cf) (E:cf),Q (.bool (g i j)) s->wpAny (model X.prog X.w) X.A (f (.int i t) (.int j u)) Q E s):
  OpR X f (rI0 λi j=>.bl (g i j)):=by
 intro e s d H x y v u Q I c a h;obtain⟨i,j,rfl,rfl,q⟩:=h;obtain⟨t,rfl⟩:=c;obtain⟨b,rfl⟩:=a;exact rule i j t b s _ _ ⟨.bl (g i j),H,I,rfl,q⟩
def aSe(i j:Int):Prop:=0<j/\j<1073741824
def aSf(i j:Int):Prop:=0<=j/\j<=1000000/\i.natAbs<2^64
def aPk(i j:Int):Prop:=(-(2^64)<i/\i<2^64)\/(-(2^64)<j/\j<2^64)
theorem aPk.ok(h:aPk i j):IntMulOk i j:=by
 rcases h with ⟨b,a⟩|⟨b,a⟩
 ·exact .of_left (intBits_le_64 b a)
 ·exact .of_right (intBits_le_64 b a)
theorem aK1:OpR X (binaryOp .Add) (rI0 λi j=>.int (i+j)):=aK0 λ_ _ _ _ _ _ _ q=>add_int q
theorem aK2:OpR X (binaryOp .Sub) (rI0 λi j=>.int (i-j)):=aK0 λ_ _ _ _ _ _ _ q=>sub_int q
theorem aK3:OpR X (binaryOp .Mult) (rI aPk λi j=>.int (i*j)):=opI λ_ _ _ _ _ _ _ a q=>mul_int q a.ok
theorem aF4:OpR X (binaryOp .FloorDiv) (rI aSe λi j=>.int (i/j)):=opI λi j _ _ _ _ _ a q=>by
 have c:(0:Int)<j:=a.1;have b:j<1073741824:=a.2;exact floordiv_int (by lia) (by rw[Int.fdiv_eq_ediv_of_nonneg i (by lia)];exact q) (.inl (PyProof.noPylong_small (by lia)))
theorem aK4:OpR X (binaryOp .Mod) (rI (λ_ j=>0<j) λi j=>.int (i % j)):=opI λi j _ _ _ _ _ a q=>by
 have b:(0:Int)<j:=a;exact mod_int' (by lia) (by rw[Int.fmod_eq_emod_of_nonneg i (by lia)];exact q)
theorem aK5:OpR X (binaryOp .LShift) (rI aSf λi j=>.int (i*2^j.toNat)):=opI λ_ _ _ _ _ _ _ a q=>lshift_int_small a.1 a.2.1 a.2.2 q
theorem aK6:OpR X (binaryOp .BitAnd) (rI0 λi j=>.int (Builtin.bitAnd i j)):=aK0 λ_ _ _ _ _ _ _ q=>and_int q
theorem aPl:OpR X (binaryOp .BitOr) (rI0 λi j=>.int (Builtin.bitOr i j)):=aK0 λ_ _ _ _ _ _ _ q=>or_int q
theorem aK7:OpR X (binaryOp .BitXor) (rI0 λi j=>.int (Builtin.bitXor i j)):=aK0 λ_ _ _ _ _ _ _ q=>xor_int q
end
section
variable {X:Cx} {a b c:Expr} {ta tb tc:TE} {pos:Pos}
theorem aEg{σ:St}(I:Inv X ce σ H s)(q:Q (.bl k) H)(e:k=k'):EP X ce σ Q (.bool k') s:=by
 subst e;exact⟨.bl k,H,I,rfl,q⟩
theorem aPm:OpR X (compareOp .Lt) (rI0 λi j=>.bl (decide (i<j))):=aOw λ_ _ _ _ _ _ _ q=>lt_int q
theorem aPn:OpR X (compareOp .LtE) (rI0 λi j=>.bl (decide (i<=j))):=aOw λ_ _ _ _ _ _ _ q=>le_int q
theorem aPo:OpR X (compareOp .Gt) (rI0 λi j=>.bl (decide (j<i))):=aOw λ_ _ _ _ _ _ _ q=>gt_int q
theorem aPp:OpR X (compareOp .GtE) (rI0 λi j=>.bl (decide (j<=i))):=aOw λ_ _ _ _ _ _ _ q=>ge_int q
theorem aK8:OpR X (compareOp .Is) (λx y H Q=>y= .non/\Q (.bl (decide (x= .non))) H):=by
 intro d s c H x y v u Q I a b h;obtain⟨rfl,q⟩:=h;cases b;refine is_none_gen (aEg I q ?_)
 cases x<;>first
  |(cases a;rfl)
  |(obtain⟨t,rfl⟩:=a;rfl)
theorem aF5:OpR X (compareOp .IsNot) (λx y H Q=>y= .non/\Q (.bl (!decide (x= .non))) H):=by
 intro d s c H x y v u Q I a b h;obtain⟨rfl,q⟩:=h;cases b;refine isnot_none_gen (aEg I q ?_)
 cases x<;>first
  |(cases a;rfl)
  |(obtain⟨t,rfl⟩:=a;rfl)
def aPq(t:TE):TT:=λσ H Q=>t σ H λx H'=>∃k,x= .bl k/\Q k H'
theorem aF6(ho:OpR X (compareOp op) r)(ha:PE X a ta)(hb:PE X b tb)(hm:behindInMarks op b=false):PT X (.Compare a [op] [b] pos) (aPq (tOp r ta tb)):=by
 intro f s d H Q I h
 refine wpAny_isTrue_Compare1 (thn (ha f s d H _ I h) λv m ⟨x,q,B,j,q1⟩=>thn (hb f m d q _ B q1) λu n ⟨y,A,i,g,p⟩=>
  thn (ho f n d A x y v u _ i j g p) λc E ⟨z,t,l,C,k,e,o⟩=>?_) hm
 subst e;cases C;exact wpAny_truthy_bool ⟨t,l,o⟩
theorem l4:(sizeLine:Nat)<2^63:=by rw[sizeLine_eq];decide
theorem lU(r:cN [x] us): ∃u,us=[u]/\bA x u:=by
 cases r with
 |cons a b=>cases b;exact⟨_,rfl,a⟩
theorem wM(r:cN [x,y] us): ∃u w',us=[u,w']/\bA x u/\bA y w':=by
 cases r with
 |cons b c=>
  cases c with
  |cons a d=>cases d;exact⟨_,_,rfl,b,a⟩
theorem aK9(hc:X.calm=true):lT X (.builtin "max") (λxs H Q=>∃i j,xs=[.int i,.int j]/\Q (.int (if j > i then j else i)) H):=by
 intro g s f H xs c Q I r h;obtain⟨i,j,rfl,q⟩:=h;obtain⟨u,l,rfl,⟨t,rfl⟩,⟨e,rfl⟩⟩:=wM r;refine max_two_ints (I.ok.hd hc) λd b k=>⟨_,H,I.kept k,?_,q⟩
 by_cases a:j > i
 ·rw[if_pos a,if_pos a];exact⟨_,rfl⟩
 ·rw[if_neg a,if_neg a];exact⟨_,rfl⟩
theorem aLa(hc:X.calm=true):lT X (.builtin "min") (λxs H Q=>∃i j,xs=[.int i,.int j]/\Q (.int (if j<i then j else i)) H):=by
 intro g s f H xs c Q I r h;obtain⟨i,j,rfl,q⟩:=h;obtain⟨u,l,rfl,⟨t,rfl⟩,⟨e,rfl⟩⟩:=wM r;refine min_two_ints (I.ok.hd hc) λd b k=>⟨_,H,I.kept k,?_,q⟩
 by_cases a:j<i
 ·rw[if_pos a,if_pos a];exact⟨_,rfl⟩
 ·rw[if_neg a,if_neg a];exact⟨_,rfl⟩
theorem oP:lT X (.type "int") (λxs H Q=>(∃i,xs=[.int i]/\Q (.int i) H)\/∃k,xs=[.bl k]/\Q (.int (if k then 1 else 0)) H):=by
 intro d s c H xs b Q I r h;rcases h with ⟨i,rfl,q⟩|⟨k,rfl,q⟩
 ·obtain⟨u,rfl,t,rfl⟩:=lU r;exact call_int_int ⟨.int i,H,I,⟨_,rfl⟩,q⟩
 ·obtain⟨u,rfl,a⟩:=lU r;cases a;exact call_int_bool ⟨.int (if k then 1 else 0),H,I.tok _,⟨_,rfl⟩,q⟩
end
structure ObjM(h:Heap)(x dx C:Addr)(mA:Str->Option Value):Prop where
 obj:h.get? x=some (PySem.W.instObj C dx)
 ns:h.Ns1 dx mA
 ne:dx≠x
theorem wN{h:Heap}(n:h.Ns1 dx mA): ∃od,h.get? dx=some od/\∀name,PySem.W.lookIn name od=some (mA name):=by
 obtain⟨o,c,l,f,j,hk,_,i⟩:=n;refine⟨o,f,λname=>?_⟩
 have e:=i name;unfold nsFind findBy at e;rw[<-Array.find?_toList]at e;unfold PySem.W.lookIn;rw[j]
 dsimp only
 split
 ·rename_i y q;rw[q]at e;exact congrArg some e
 ·rename_i q;rw[q]at e
  have a:c.toList.any (·.refKey)=false:=by
   rw[List.any_eq_false];intro y g;obtain⟨z,t,b⟩:=hk y (Array.mem_toList_iff.mp g);simp[DictEntry.refKey,b]
  have d: ¬c.toList.any (·.refKey)=true:=by rw[a];exact bg
  rw[if_neg d];exact congrArg some e
theorem ObjM.look(I:ObjM h x dx C mA): ∃od,PySem.W.InstAt h x (PySem.W.instObj C dx) C (some od)/\∀name,PySem.W.lookIn name od=some (mA name):=
 let ⟨od,ho,hl⟩:=wN I.ns
 ⟨od,⟨I.obj,rfl,rfl,ho⟩,hl⟩
section
variable {prog:Program} {w:World} {A:Around} {E:cf} {s:Shared} {K:PySem.W.Frag} {x dx C f:Addr} {mA:Str->Option Value} {name:Str} {v:Value}
theorem aF7{Q:cf}(X:K.In s.heap)(I:ObjM s.heap x dx C mA)(hg:PySem.W.plainGet K C name=true)(hh:PySem.W.hasDictIn K C=true)(ha:PySem.W.findIn K (.ref C) name=some none)(hv:mA name=some v)(hv':PySem.W.handedIn v=true)(h:Q v {s with toks:=s.toks+1}):
  wpAny (model prog w) A (getAttr (.ref x) name expr) Q E s:=by
 obtain⟨b,J,a⟩:=I.look;exact PySem.W.get_value X J (PySem.W.plainGet_of hg).1 (PySem.W.findObj_own hh ha rfl (by rw[a,hv])) hv' h
theorem aBq(X:K.In s.heap)(I:ObjM s.heap x dx C mA)(hg:PySem.W.plainGet K C name=true)(hf:PySem.W.findIn K (.ref C) name=some (some (.ref f)))(ht:PySem.W.isFn K (.ref f)=true)(hv:mA name=none)(h:Q (.ref f,[.ref x]) s):
  wpAny (model prog w) A (getMethod (.ref x) name pl) Q E s:=by
 obtain⟨a,J,b⟩:=I.look;exact PySem.W.method_fn X J (PySem.W.plainGet_of hg).1 (PySem.W.plainGet_of hg).2 hf (beq_iff_eq.mp ht) (by show(PySem.W.lookIn name a).map (·.isSome)=some false;rw[b,hv];rfl) h
theorem aF8(X:K.In s.heap)(I:ObjM s.heap x dx C mA)(hs:PySem.W.findIn K (.ref C) "__setattr__"=some (some (.builtin "object.__setattr__")))(hp:PySem.W.plainOver K C=true)(ht:PySem.W.takerIn K C name=some none)(hh:PySem.W.hasDictIn K C=true)(hw:PySem.Within mA ns)(hsz:ns.length<=sizeLine)(h: ∀h',ObjM h' x dx C (λy=>if y=name then some v else mA y)->Heap.SameBut dx s.heap h'->Q () {s with heap:=h',toks:=s.toks+2}):
  wpAny (model prog w) A (setAttr (.ref x) name v) Q E s:=by
 obtain⟨q,J,t⟩:=I.look;refine PySem.W.set_plain X J hs (PySem.W.osa_open (s:={s with toks:=s.toks+1}) (r:=none) X J hp ht λb=>?_)
 obtain⟨o,l,e⟩:=PySem.W.any_some hh
 have m:s.heap.get? x=some ⟨.ref C,some dx,.plain, #[]⟩:=I.obj
 refine aa (ae (aa (aa (wpAny_loadPart m (aa (PySem.W.Looks.here (s:={s with toks:=s.toks+1}) (PySem.W.looks_clsIn X l) ?_))))))
 rw[e];refine ae (a:=some dx) (aa (ae (aa ?_)));refine wpAny_nsSet1 (s:={s with toks:=s.toks+1}) I.ns λh' d c=>?_
 obtain⟨p,j,n,g,i,f⟩:=d.count (PySem.Within.cons name v hw);refine aa (wpAny_lookBehind g (by rw[i];exact pastItsLine_dict (Nat.le_trans f (by rw[bt];lia))) ?_)
 exact ae (h _ ⟨(c.2 _ (Ne.symm I.ne)).trans I.obj,d,I.ne⟩ c)
theorem aBr(X:K.In s.heap)(hm:PySem.W.makesIn K C=true)(hi:PySem.W.findIn K (.ref C) "__init__"=some (some (.ref f)))(hf:PySem.W.typeIn K (.ref f)=some (.type "function"))(h:codeAny (model prog w) (A.under (.builtin "type.__call__" ⟨.ref C::vs,kw⟩)) (.call (.ref f) ⟨.ref (s.heap.objs.size+1)::vs,kw⟩) (PySem.W.InitBack (s.heap.objs.size+1) R)
   {s with heap:=(s.heap.push PySem.W.emptyDict).push (PySem.W.instObj C s.heap.objs.size)}):
  codeAny (model prog w) A (.call (.ref C) ⟨vs,kw⟩) R s:=by
 obtain⟨b,g,d,t,c⟩:=s;exact PySem.W.make_core (PySem.W.makes_of X hm) (PySem.W.looks_findIn X hi) (λa=>PySem.W.bind_fn X a hf) (.inl rfl) h
end
noncomputable def qN(f:Str)(v:V):List (Str×V)->List (Str×V)
 |[]=>[(f,v)]
 |(g,x)::r=>if g=f then(g,v)::r else(g,x)::qN f v r
theorem j7(f g:Str)(v:V): ∀fs:List (Str×V),(qN f v fs).lookup g=if g=f then some v else fs.lookup g
 |[]=>by
  show List.lookup g [(f,v)]=_
  by_cases h:g=f
  ·have a:(g==f)=true:=beq_iff_eq.mpr h
   simp only[List.lookup,a,if_pos h]
  ·have a:(g==f)=false:=beq_eq_false_iff_ne.mpr h
   simp only[List.lookup,a,if_neg h]
 |(k,x)::r=>by
  have b:=j7 f g v r;rw[show qN f v ((k,x)::r)=(if k=f then(k,v)::r else(k,x)::qN f v r) from rfl]
  by_cases hk:k=f
  ·rw[if_pos hk]
   by_cases h:g=k
   ·have a:(g==k)=true:=beq_iff_eq.mpr h
    simp only[List.lookup,a,if_pos (h.trans hk)]
   ·have a:(g==k)=false:=beq_eq_false_iff_ne.mpr h
    simp only[List.lookup,a,if_neg (λe:g=f=>h (e.trans hk.symm))]
  ·rw[if_neg hk]
   by_cases h:g=k
   ·have a:(g==k)=true:=beq_iff_eq.mpr h
    simp only[List.lookup,a,if_neg (λe:g=f=>hk (h.symm.trans e))]
   ·have a:(g==k)=false:=beq_eq_false_iff_ne.mpr h
    simp only[List.lookup,a];exact b
theorem j8(f:Str)(v:V): ∀fs:List (Str×V),f∈(qN f v fs).map (·.1)/\∀g,g∈fs.map (·.1)->g∈(qN f v fs).map (·.1)
 |[]=>⟨by simp[qN],λg h=>by simp at h⟩
 |(k,x)::r=>by
  obtain⟨a,b⟩:=j8 f v r;rw[show qN f v ((k,x)::r)=(if k=f then(k,v)::r else(k,x)::qN f v r) from rfl]
  by_cases hk:k=f
  ·rw[if_pos hk];subst hk;exact⟨by simp,λg h=>by simpa using h⟩
  ·rw[if_neg hk];refine⟨?_,λg h=>?_⟩
   ·rw[List.map_cons];exact List.mem_cons_of_mem _ a
   ·rw[List.map_cons]at h ⊢;rcases av.mp h with e|e
    ·exact av.mpr (.inl e)
    ·exact List.mem_cons_of_mem _ (b g e)
theorem j9(f:Str)(v:V): ∀fs:List (Str×V),(qN f v fs).length<=fs.length+1
 |[]=>by simp[qN]
 |(k,x)::r=>by
  have a:=j9 f v r;rw[show qN f v ((k,x)::r)=(if k=f then(k,v)::r else(k,x)::qN f v r) from rfl]
  by_cases hk:k=f
  ·rw[if_pos hk,bt,bt];lia
  ·rw[if_neg hk,bt,bt];lia
theorem lR.some_of(r:lR (some v) o): ∃u,o=some u/\bA v u:=by
 cases o with
 |none=>exact(show False from r).elim
 |some u=>exact⟨u,rfl,r⟩
theorem lR.none_of(r:lR none o):o=none:=by
 cases o with
 |none=>rfl
 |some u=>exact(show False from r).elim
theorem wO(r:bA v u):PySem.W.handedIn u=true:=by
 cases v with
 |non=>cases (show u=Value.none from r);rfl
 |bl b=>cases (show u=Value.bool b from r);rfl
 |int i=>obtain⟨t,e⟩:=(show ∃t,u=Value.int i t from r);cases e;rfl
 |str x=>obtain⟨t,e⟩:=(show ∃t,u=Value.str x t from r);cases e;rfl
 |byt b=>obtain⟨t,e⟩:=(show ∃t,u=Value.bytes b t from r);cases e;rfl
 |flt b=>obtain⟨t,e⟩:=(show ∃t,u=Value.float b t from r);cases e;rfl
 |ref a=>cases (show u=Value.ref a from r);rfl
 |ty n=>cases (show u=Value.type n from r);rfl
section
variable {P:Program} {w:World} {H H':Hp} {h h':Heap} {a C dx:Addr} {fs fs':List (Str×V)}
theorem q8(hok:HOk P w H h)(e:H a=some (.ins C dx fs)): ∃mA,ObjM h a dx C mA/\(∀f,lR (fs.lookup f) (mA f))/\PySem.Within mA (fs.map (·.1))/\fs.length<=1000/\H dx=some (.own a):=by
 obtain⟨d,z,c,b,mA,n,r,q⟩:=(show ObjOk P w H h a (.ins C dx fs) from hok a _ e)
 exact⟨mA,⟨b,n,c⟩,r,q,z,d⟩
end
structure Cls(K:PySem.W.Frag)(C:Addr):Prop where
 pg:PySem.W.plainGet K C Str.empty=true
 hd:PySem.W.hasDictIn K C=true
 po:PySem.W.plainOver K C=true
 sa:PySem.W.findIn K (.ref C) "__setattr__"=some (some (.builtin "object.__setattr__"))
theorem Cls.get{K:PySem.W.Frag}(c:Cls K C)(f:Str):PySem.W.plainGet K C f=true:=c.pg
def gM(K:PySem.W.Frag)(C:Addr)(f:Str):Prop:=PySem.W.findIn K (.ref C) f=some none
theorem gM.taker{K:PySem.W.Frag}(n:gM K C f):PySem.W.takerIn K C f=some none:=by
 unfold PySem.W.takerIn;rw[show PySem.W.findIn K (.ref C) f=some none from n]
 rfl
structure Meth(K:PySem.W.Frag)(C:Addr)(m:Str)(f:Addr):Prop where
 at_:PySem.W.findIn K (.ref C) m=some (some (.ref f))
 fn:PySem.W.isFn K (.ref f)=true
 kp:PySem.W.keepIn K (.ref f)=true
section
variable {X:Cx} {ce:cg} {σ:St} {H:Hp} {s:Shared} {a C dx:Addr} {fs:List (Str×V)} {f:Str} {v:V} {A:Around} {E:cf}
theorem u9{Q:cf}(I:Inv X ce σ H s)(e:H a=some (.ins C dx fs))(c:Cls X.K C)(n:gM X.K C f)(l:fs.lookup f=some v)(h: ∀u s',Inv X ce σ H s'->bA v u->Q u s'):wpAny (model X.prog X.w) A (getAttr (.ref a) f b) Q E s:=by
 obtain⟨i,O,r,_,_,_⟩:=q8 I.hok e;obtain⟨u,g,d⟩:=lR.some_of (v:=v) (o:=i f) (by rw[<-l];exact r f)
 exact aF7 I.kIn O (c.get f) c.hd n g (wO d) (h u _ (I.tok _) d)
theorem gA(I:Inv X ce σ H s)(e:H a=some (.ins C dx fs))(c:Cls X.K C)(k:Meth X.K C m g)(l:fs.lookup m=none)(h:Q (.ref g,[.ref a]) s):wpAny (model X.prog X.w) A (getMethod (.ref a) m pl) Q E s:=by
 obtain⟨d,O,r,_,_,_⟩:=q8 I.hok e
 have b:d m=none:=lR.none_of (by rw[<-l];exact r m)
 exact aBq I.kIn O (c.get m) k.at_ k.fn b h
theorem vA(I:Inv X ce σ H s)(e:H a=some (.ins C dx fs))(c:Cls X.K C)(n:gM X.K C f)(hl:fs.length<1000)(ry:bA y u)(h: ∀s',Inv X ce σ (upd H a (.ins C dx (qN f y fs))) s'->Q () s'):wpAny (model X.prog X.w) A (setAttr (.ref a) f u) Q E s:=by
 obtain⟨l,O,r,j,_,i⟩:=q8 I.hok e
 have m:(fs.map (·.1)).length<=sizeLine:=by rw[aq,sizeLine_eq];lia
 refine aF8 I.kIn O c.sa c.po n.taker c.hd j m λp d B=>h _ ?_
 have hd: ∃o,p.get? dx=some o:=let ⟨o,_,_,e',_⟩:=d.ns;⟨o,e'⟩
 refine I.write (x:=a) (e:=dx) (by rw[e];exact True.intro) (.inr i) (λb q t z=>(B.2 b t).trans z) hd ?_
 refine⟨by rw[aB O.ne];exact i,?_,O.ne,d.obj,_,d.ns,λg=>?_,λg v=>?_⟩
 ·have:=j9 f y fs;lia
 ·show lR ((qN f y fs).lookup g) (if g=f then some u else l g)
  rw[j7]
  by_cases q:g=f
  ·rw[if_pos q,if_pos q];exact ry
  ·rw[if_neg q,if_neg q];exact r g
 ·by_cases q:g=f
  ·rw[q];exact(j8 f y fs).1
  ·refine(j8 f y fs).2 g (j g λz=>v ?_)
   show(if g=f then some u else l g)=none
   rw[if_neg q];exact z
theorem Inv.made(I:Inv X ce σ H s):Inv X ce σ (upd (upd H s.heap.objs.size (.own (s.heap.objs.size+1))) (s.heap.objs.size+1) (.ins C s.heap.objs.size []))
  {s with heap:=(s.heap.push PySem.W.emptyDict).push (PySem.W.instObj C s.heap.objs.size)}:=by
 have c:(s.heap.push PySem.W.emptyDict).get? s.heap.objs.size=some PySem.W.emptyDict:=ag s.heap rfl
 have j:((s.heap.push PySem.W.emptyDict).push (PySem.W.instObj C s.heap.objs.size)).get? (s.heap.objs.size+1)=some (PySem.W.instObj C s.heap.objs.size):=by
  have:=ag (s.heap.push PySem.W.emptyDict) (o:=PySem.W.instObj C s.heap.objs.size) rfl
  rwa [ai]at this
 have f:(s.heap.push PySem.W.emptyDict).Ns s.heap.objs.size (λ_=>none):=⟨PySem.W.emptyDict, #[],_,c,rfl,(λe g=>absurd g (by simp)),λ_=>rfl⟩
 have i:=I.laid (a:=s.heap.objs.size) (o:=.own (s.heap.objs.size+1)) (h':=s.heap.push PySem.W.emptyDict) (t':=s.toks) (λb u q=>af _ q) (aj _) ⟨_,c⟩
 refine i.laid (a:=s.heap.objs.size+1) (o:=.ins C s.heap.objs.size []) (t':=s.toks) (λb u q=>af _ q) (Nat.le_of_eq (ai _ _)) ?_
 have d:s.heap.objs.size≠s.heap.objs.size+1:=bj (Nat.lt_succ_self _);refine⟨by rw[aB d,aF],bx _,d,j,λ_=>none,(Heap.Ns1.of_empty f).at λo q=>af _ q,λ_=>True.intro,λy h=>absurd rfl h⟩
theorem aF9{Q:cf}(hb:attributeBase e f env (eval e env)=eval e env)(h:wpAny (model prog w) A (eval e env) (λo s₁=>wpAny (model prog w) A (getAttr o f true) Q E s₁) E s):wpAny (model prog w) A (eval (.Attribute e f pos) env) Q E s:=
 Attribute_any_ h (by rw[arm_eval_Attribute,hb])
end
def aOx(K:PySem.W.Frag)(ta:TE)(f:Str):TE:=λσ H Q=>ta σ H λx H1=>∃a C dx fs v,x= .ref a/\H1 a=some (.ins C dx fs)/\Cls K C/\gM K C f/\fs.lookup f=some v/\Q v H1
def aSg(K:PySem.W.Frag)(ta tv:TE)(f:Str):TS:=λD σ H=>tv σ H λy H1=>ta σ H1 λx H2=>∃a C dx fs,x= .ref a/\H2 a=some (.ins C dx fs)/\Cls K C/\gM K C f/\fs.length<1000/\
 D.nx σ (upd H2 a (.ins C dx (qN f y fs)))
section
variable {X:Cx} {o e value:Expr} {f:Str} {pos pos' tpos:Pos} {ta tv:TE}
theorem hJ(he:PE X e ta)(hb:attributeBase e f X.env (eval e X.env)=eval e X.env):PE X (.Attribute e f pos) (aOx X.K ta f):=by
 intro j s i H Q I h;refine aF9 hb (thn (he j s i H _ I h) λu z b=>?_)
 obtain⟨x,o,t,r,a,C,y,fs,v,p,d,c,n,l,q⟩:=b;subst p;obtain rfl:u=Value.ref a:=r;exact u9 t d c n l λA B g m=>⟨v,o,g,m,q⟩
theorem sQ(ha:PE X o ta)(hv:PE X value tv)(hs:swapsWith value (some (.Attribute o f pos')) pos.line X.env=pure false):PS X (.Assign [.Attribute o f pos'] value pos) (aSg X.K ta tv f):=by
 intro d s b H D I h;refine plainObj_wpAny_Assign_Attribute (thn (hv d s b H _ I h) λu m ⟨y,r,z,e,q⟩=>thn (ha d m b r _ z q) λA E ⟨x,G,i,v,a,C,B,fs,t,g,c,n,l,p⟩=>?_) hs
 subst t;obtain rfl:A=Value.ref a:=v;exact vA i g c n l e λJ j=>⟨b,_,j,p⟩
end
section
variable {X:Cx} {ce:cg} {σ:St} {H:Hp} {s:Shared} {A:Around} {E:cf} {Q:cf} {c:Value} {b:Bool}
end
structure Room(k:Nat)(A:Around):Prop where
 hd:A.handled=none
 dp:A.depth+3*k+5<recursionLimit
 un:A.units+16*k+200<cLine
theorem Room.mono(r:Room k A)(h:j<=k):Room j A:=⟨r.hd,by have:=r.dp;lia,by have:=r.un;lia⟩
theorem Room.deeper(r:Room (k+1) A)(env:Env):Room k (A.deeper env):=
 ⟨r.hd,by have:=r.dp;show A.depth+1+3*k+5<_;lia,by have:=r.un;show A.units+3+16*k+200<_;lia⟩
theorem vB{A:Around}:(A.under (.builtin "type.__call__" ⟨.ref C::us,kw⟩)).depth=A.depth+1:=by
 first|rfl|simp[Around.under,Code.weight,Code.isCreation,Code.isGuard,Code.isCaller,Code.frames,Code.isFrame,guardIds]
theorem vC{A:Around}:(A.under (.builtin "type.__call__" ⟨.ref C::us,kw⟩)).units=A.units+1:=by
 first|rfl|simp[Around.under,Code.cUnits,Code.frames,Code.isFrame]
theorem Room.make(r:Room (k+1) A)(C:Addr)(us:List Value)(kw:List (Str×Value)):Room k (A.under (.builtin "type.__call__" ⟨.ref C::us,kw⟩)):=
 ⟨r.hd,by have:=r.dp;rw[vB];lia,by have:=r.un;rw[vC];lia⟩
theorem Room.depth(r:Room k A):A.depth<recursionLimit:=by have:=r.dp;lia
theorem Room.units(r:Room k A):A.units+64<cLine:=by have:=r.un;lia
def aJ4:TA:=λ_ H Q=>Q [] H
def q9(ta:TE)(tr:TA):TA:=λσ H Q=>ta σ H λx H1=>tr σ H1 λxs H2=>Q (x::xs) H2
section
variable {X:Cx} {e:Expr} {es:List Expr} {te:TE} {t:TA} {pos:Pos}
theorem dZ:PA X [] aJ4:=λ_ _ _ _ H Q I h=>Calls.spliced_nil ⟨[],H,I,.nil,h⟩
theorem bY(ha:PE X e te)(hr:PA X es t)(hs:starEach (e::es) X.env=(false,eval e X.env)::starEach es X.env:=by rfl):PA X (e::es) (q9 te t):=by
 intro a d s c H Q I h;rw[hs];show wpAny _ _ (spliced ((false,eval e X.env)::backTo a (starEach es X.env))) _ _ s;refine Calls.spliced_cons (thn (ha d s c H _ I h) λu j b=>?_)
 obtain⟨x,m,p,i,q1⟩:=b;exact thn (hr a d j c m _ p q1) λq r ⟨n,o,g,f,l⟩=>⟨x::n,o,g,.cons i f,l⟩
def aSh(t:TA):TE:=λσ H Q=>t σ H λxs H1=>xs.length<=sizeLine/\∀p,H1 p=none->Q (.ref p) (upd H1 p (.tup xs))
def aSi(t:TA):TE:=λσ H Q=>t σ H λxs H1=>xs.length<=sizeLine/\∀p,H1 p=none->Q (.ref p) (upd H1 p (.lst xs))
theorem aEh(h:PA X es t):PE X (.Tuple es x1 pos) (aSh t):=by
 intro i s g H Q I m;refine wpAny_Tuple_spliced (thn (h pos i s g H _ I m) λf a ⟨j,d,c,r,z,q⟩=>⟨by rw[<-r.length];exact z,?_⟩)
 have l:d a.heap.objs.size=none:=c.hok.fresh (aj _)
 refine⟨.ref a.heap.objs.size,upd d a.heap.objs.size (.tup j),c.laid (t':=a.toks) (λb u e=>af _ e) (aj _) ?_,rfl,q _ l⟩
 exact⟨z,f,r,⟨_,ag _ rfl,rfl,_,rfl⟩,⟨_,ag _ rfl,rfl⟩⟩
theorem sR(h:PA X es t):PE X (.List es pos) (aSi t):=by
 intro i s g H Q I m;refine wpAny_List_spliced (thn (h pos i s g H _ I m) λf a ⟨j,d,c,r,z,q⟩=>⟨by rw[<-r.length];exact z,?_⟩)
 have l:d a.heap.objs.size=none:=c.hok.fresh (aj _)
 refine⟨.ref a.heap.objs.size,upd d a.heap.objs.size (.lst j),c.laid (t':=a.toks) (λb u e=>af _ e) (aj _) ?_,rfl,q _ l⟩
 exact⟨z,f,0,r,ag _ rfl⟩
end
abbrev Sp:=List V->Hp->VK->XK->Prop
abbrev CXT:=List Env->Hp->Shared->XK->Value->Shared->Prop
structure Env0(P:Program)(w:World)(K:PySem.W.Frag)(mg:Str->Option Value)(base:Heap)(A:Around)(outer:List Env)(s:Shared)(H:Hp):Prop where
 frames:A.frames=some outer
 mod:Mod K mg base
 bs: ∀b o,base.get? b=some o->s.heap.get? b=some o/\H b=none
 bsz:base.objs.size<=s.heap.objs.size
 funs:s.heap.FunFrames base outer
 frf: ∀b∈frs outer,H b=none
 hok:HOk P w H s.heap
 bare:AllBare s.gens
def CE(outer:List Env)(P:Program)(w:World)(H:Hp)(s:Shared)(Q:VK)(u:Value)(s':Shared):Prop:=
 ∃v H',s'.os=s.os/\AllBare s'.gens/\Un (frs outer) [] H H' s.heap s'.heap/\HOk P w H' s'.heap/\bA v u/\Q v H'
def CR(CX:CXT)(outer:List Env)(P:Program)(w:World)(H:Hp)(s:Shared)(Q:VK)(E:XK)(r:Result)(s':Shared):Prop:=
 match r with
 |.ok (.ret u)=>CE outer P w H s Q u s'
 |.ok _=>False
 |.error e=>CX outer H s E e s'
structure FnOk(P:Program)(w:World)(K:PySem.W.Frag)(mg:Str->Option Value)(base:Heap)(CX:CXT)(k:Nat)(f:Addr)(fd:FuncData)(ps:List Str)(sp:Sp):Prop where
 len: ∀vs H Q E,sp vs H Q E->vs.length=ps.length
 run: ∀(A:Around) (outer:List Env) (s:Shared) (H:Hp) (args:Args) (us:List Value) (vs:List V) (Q:VK) (E:XK),Room k A->Env0 P w K mg base A outer s H->BindsTo s fd args (ps.zip us)->cN vs us->sp vs H Q E->
  codeAny (model P w) A (.call (.ref f) args) (CR CX outer P w H s Q E) s
theorem Env0.make{K:PySem.W.Frag}(e:Env0 P w K mg base A outer s H)(C:Addr)(us:List Value)(kw:List (Str×Value)):
  Env0 P w K mg base (A.under (.builtin "type.__call__" ⟨.ref C::us,kw⟩)) outer s H:=⟨by first|exact e.frames|(simpa[Around.under,Code.envs,Code.isFrame,pushEnvs]using e.frames),e.mod,e.bs,e.bsz,e.funs,e.frf,e.hok,e.bare⟩
section
variable {X:Cx} {ce:cg} {σ:St} {H:Hp} {s s':Shared}
theorem Inv.env0(I:Inv X ce σ H s):Env0 X.prog X.w X.K X.mg X.base X.A X.stack s H:=
 ⟨I.ok.frames,I.ok.mod,I.bs,Nat.le_trans I.ok.bsz I.sz,I.stack,I.stkFree,I.hok,I.bare⟩
theorem Inv.after(I:Inv X ce σ H s)(h:CE X.stack X.prog X.w H s Q u s'):EP X ce σ Q u s':=by
 obtain⟨v,i,os,a,un,e,r,q⟩:=h;obtain⟨f,g,d,t,c⟩:=s';obtain rfl:c=s.os:=os;exact⟨v,i,I.call (h':=f) (g':=g) (d':=d) (t':=t) (ch:=[]) un e a (λb z=>absurd z (by simp)),r,q⟩
end
def aPr(C:Addr)(sp:Sp)(dvs:List V)(E:XK)(t:TA):TE:=λσ H Q=>t σ H λvs H1=>∀x dx,H1 x=none->H1 dx=none->dx≠x->
 sp (.ref x::(vs++dvs)) (upd (upd H1 dx (.own x)) x (.ins C dx [])) (λv H2=>v= .non/\Q (.ref x) H2) E
def dW(K:PySem.W.Frag)(fd:FuncData)(ps:List Str)(ds:List Value):Prop:=
 ∀(s:Shared) (us:List Value),K.In s.heap->(us++ds).length=ps.length->BindsTo s fd ⟨us,[]⟩ (ps.zip (us++ds))
theorem dW.all{K:PySem.W.Frag}(h: ∀us:List Value,us.length=ps.length->bindArgs fd ⟨us,[]⟩=pure (ps.zip us)):dW K fd ps []:=λs us _ a=>by
 rw[List.append_nil]at a ⊢;exact .of_eq (h us a)
def aEi(CX:CXT)(X:Cx)(E:XK):Prop:= ∀(ce:cg) (σ:St) (H:Hp) (s:Shared) (e:Value) (s':Shared),Inv X ce σ H s->CX X.stack H s E e s'->X.xe e s'
section
variable {X:Cx} {CX:CXT} {k:Nat} {f C:Addr} {fd:FuncData} {ps:List Str} {sp:Sp} {dvs:List V} {ds:List Value} {E:XK} {x m:Str} {p pos apos:Pos} {e o:Expr} {es:List Expr} {ta:TE} {t:TA}
structure Mk(K:PySem.W.Frag)(C f:Addr):Prop where
 makes:PySem.W.makesIn K C=true
 init:PySem.W.findIn K (.ref C) "__init__"=some (some (.ref f))
 fn:PySem.W.isFn K (.ref f)=true
 kp:PySem.W.keepIn K (.ref C)=true
theorem aBs{σ:St}(M:Mk X.K C f)(F:FnOk X.prog X.w X.K X.mg X.base CX k f fd ps sp)(hr:Room (k+1) X.A)(hb:dW X.K fd ps ds)(hd:cN dvs ds)(hx:aEi CX X E)(I:Inv X ce σ H s)(r:cN vs us)(h: ∀x dx,H x=none->H dx=none->dx≠x->sp (.ref x::(vs++dvs)) (upd (upd H dx (.own x)) x (.ins C dx [])) (λv H2=>v= .non/\Q (.ref x) H2) E):
  wpAny (model X.prog X.w) X.A (call (.ref C) us) (EP X ce σ Q) X.xe s:=by
 have d:=h (s.heap.objs.size+1) s.heap.objs.size (I.hok.fresh (Nat.le_succ _)) (I.hok.fresh (aj _)) (bj (Nat.lt_succ_self _));have b:=Inv.made (C:=C) I;have c:cN (V.ref (s.heap.objs.size+1)::(vs++dvs)) (Value.ref (s.heap.objs.size+1)::(us++ds)):=.cons rfl (r.append hd)
 have j:(Value.ref (s.heap.objs.size+1)::us++ds).length=ps.length:=by
  have e:=c.length;rw[F.len _ _ _ _ d]at e;exact e.symm
 refine wpAny_call (aBr (f:=f) I.kIn M.makes M.init (beq_iff_eq.mp M.fn) (codeAny_mono (F.run _ X.stack _ _ ⟨Value.ref (s.heap.objs.size+1)::us,[]⟩ (Value.ref (s.heap.objs.size+1)::(us++ds)) _ _ E (hr.make C us [])
  (b.env0.make C us []) (hb _ (Value.ref (s.heap.objs.size+1)::us) b.kIn j) c d) λr g a=>?_))
 cases r with
 |error e=>exact hx ce σ _ _ e g b a
 |ok m=>
  cases m with
  |ret u=>
   obtain⟨v,n,i,o,ev,l⟩:=b.after a;subst ev;exact⟨o,⟨V.ref (s.heap.objs.size+1),n,i,rfl,l⟩⟩
  |next=>exact ba a
  |brk=>exact ba a
  |cont=>exact ba a
theorem aBt(M:Mk X.K C f)(F:FnOk X.prog X.w X.K X.mg X.base CX k f fd ps sp)(hr:Room (k+1) X.A)(hg:Gl X x)(hm:X.mg x=some (.ref C))(hb:dW X.K fd ps ds)(hd:cN dvs ds)(hx:aEi CX X E)
  (hdb:(x==("__debug__":Str))=false:=by decide):PE X (.Call (.Name x p) [] [] pos) (aPr C sp dvs E aJ4):=by
 intro b s a H Q I h;refine wpAny_Call_Name_kw (fD I hg hm ?_ hdb);exact PySem.W.callWith_K0 I.kIn M.kp (aBs (us:=[]) M F hr hb hd hx I .nil h)
end
section
variable {X:Cx} {CX:CXT} {k:Nat} {f C:Addr} {fd:FuncData} {ps ks:List Str} {sp:Sp} {E:XK} {x m:Str} {p pos apos kpos:Pos} {e o:Expr} {es:List Expr} {kws:List Keyword} {te ta:TE} {t tk:TA} {nm:Option Str}
variable {g:List Value->List Value->List Value} {gV:List V->List V->List V}
end
structure FnScope(N P:List Str)(sc:Scope):Prop where
 kind:sc.kind= .function
 co:sc.isCoroutine=false
 gen:sc.isGenerator=false
 nd:N.Nodup
 pre:N.take P.length=P
 par: ∀x∈P,sc.names.lookup x=some .local\/sc.names.lookup x=some .cell
 nofree: ∀y∈sc.names,y.2≠ .free
theorem oQ{kindOf:Str->Option NameKind}{x:Str}: ∀{binds:List (Str×Value)} {m:Str->Option Value},(∀v,(x,v)∉binds)->bindL kindOf binds m x=m x
 |[],_,_=>rfl
 |(n,v)::r,m,h=>by
  unfold bindL;rw[oQ λw a=>h w (List.mem_cons_of_mem _ a)]
  split
  ·have:x≠n:=by rintro rfl;exact h v List.mem_cons_self
   simp[this]
  ·rfl
theorem oR{kindOf:Str->Option NameKind}{x:Str}: ∀{binds:List (Str×Value)} {m:Str->Option Value},(∀v,(x,v)∉binds)->bindC kindOf binds m x=m x
 |[],_,_=>rfl
 |(n,v)::r,m,h=>by
  unfold bindC;rw[oR λw a=>h w (List.mem_cons_of_mem _ a)]
  split
  ·rfl
  ·have:x≠n:=by rintro rfl;exact h v List.mem_cons_self
   simp[this]
theorem oS{kindOf:Str->Option NameKind}{x:Str}{v:Value}: ∀{P:List Str} {vs:List Value} {i:Nat} {m:Str->Option Value},P.Nodup->P[i]? =some x->vs[i]? =some v->kindOf x=some .local->
  bindL kindOf (P.zip vs) m x=some v
 |[],_,_,_,_,h,_,_=>by simp at h
 |_::_,[],_,_,_,_,h,_=>by simp at h
 |p::P,w::vs,0,m,nd,h1,h2,hk=>by
  simp at h1 h2;subst h1;subst h2
  show bindL kindOf ((p,w)::P.zip vs) m p=_;unfold bindL;rw[oQ λv a=>(List.nodup_cons.mp nd).1 (List.of_mem_zip a).1,if_pos hk]
  simp
 |p::P,w::vs,i+1,m,nd,h1,h2,hk=>by
  show bindL kindOf ((p,w)::P.zip vs) m x=_;unfold bindL;exact oS (i:=i) (List.nodup_cons.mp nd).2 (by simpa using h1) (by simpa using h2) hk
theorem oT{kindOf:Str->Option NameKind}{x:Str}{v:Value}: ∀{P:List Str} {vs:List Value} {i:Nat} {m:Str->Option Value},P.Nodup->P[i]? =some x->vs[i]? =some v->kindOf x≠some .local->
  bindC kindOf (P.zip vs) m x=some v
 |[],_,_,_,_,h,_,_=>by simp at h
 |_::_,[],_,_,_,_,h,_=>by simp at h
 |p::P,w::vs,0,m,nd,h1,h2,hk=>by
  simp at h1 h2;subst h1;subst h2
  show bindC kindOf ((p,w)::P.zip vs) m p=_;unfold bindC;rw[oR λv a=>(List.nodup_cons.mp nd).1 (List.of_mem_zip a).1,if_neg hk]
  simp
 |p::P,w::vs,i+1,m,nd,h1,h2,hk=>by
  show bindC kindOf ((p,w)::P.zip vs) m x=_;unfold bindC;exact oT (i:=i) (List.nodup_cons.mp nd).2 (by simpa using h1) (by simpa using h2) hk
def start(N:List Str)(vs:List V):St:=vs.map some++ao (N.length-vs.length) none
def jP(CX:CXT)(P:Program)(w:World)(K:PySem.W.Frag)(mg:Str->Option Value)(base:Heap)(N:List Str)(qual:Str)(scope:Scope)(f:Addr)(cd:Value)(A:Around)(outer:List Env)(s:Shared)(H:Hp)(E:XK):Cx where
 prog:=P
 w:=w
 K:=K
 mg:=mg
 base:=base
 A:=A.deeper (envOfC qual scope s.heap.objs.size f cd)
 N:=N
 s₀:=s
 H₀:=H
 env:=envOfC qual scope s.heap.objs.size f cd
 outer:=outer
 stack:=envOfC qual scope s.heap.objs.size f cd::outer
 ex:=[]
 calm:=true
 fn:=λ_=>true
 pn:=[]
 xe:=λe s'=>wpAny (model P w) (A.deeper (envOfC qual scope s.heap.objs.size f cd)) (leaving (envOfC qual scope s.heap.objs.size f cd) e) (λ_ s''=>CX outer H s E e s'') (λe' s''=>CX outer H s E e' s'') s'
theorem sS{sc:Scope}(h:sc.names.lookup x=some .cell): ∃c,(cellsFrom n sc.names []).lookup x=some c:=by
 have q:=PySem.W.cellsFrom_some sc.names n [] (.inl h);exact Option.isSome_iff_exists.mp q
theorem fP{K:PySem.W.Frag}(S:FnScope N ps scope)(hd:A.handled=none)(e0:Env0 P w K mg base A outer s H)(hl:vs.length=ps.length)(r:cN vs us)(x:InCallC s s.heap.objs.size (bindL (envOfC qual scope s.heap.objs.size f cd).kindOf (ps.zip us) λ_=>none) (cellsFrom (s.heap.objs.size+1) scope.names []) (bindC (envOfC qual scope s.heap.objs.size f cd).kindOf (ps.zip us) λ_=>none) s1):
  Inv (jP CX P w K mg base N qual scope f cd A outer s H E) [] (start N vs) H s1:=by
 have C:ps.length<=N.length:=by have:=congrArg List.length S.pre;rw[List.length_take]at this;lia
 obtain⟨t,J,rfl,hk⟩:=x.done;have g: ∀b:Addr,b∉(jP CX P w K mg base N qual scope f cd A outer s H E).ex:=λb z=>absurd (show b∈([]:List Addr) from z) (by simp)
 refine⟨⟨e0.mod,S.kind,rfl,rfl,aj _,λy z c t d=>?_,λy j=>?_,λy c _ h=>?_,λ_=>hd,Around.frames_deeper e0.frames,.inr ⟨rfl,rfl⟩,λb z=>absurd z (g b),e0.bs,e0.bsz,λb _ _=>g b,λb z=>absurd z (g b),e0.funs,e0.frf⟩,
  rfl,e0.bare,Un.kept hk,⟨_,x.toInCall.ns,λi y v t d L=>?_⟩,λy c h=>⟨_,x.cell y c h⟩,e0.hok.fresh (aj _),λy c h=>?_,λp m=>absurd (show p∈([]:cg) from m) (by simp),e0.hok.kept hk,?_⟩
 ·exact name_of_addr x.apart (PySem.mem_of_lookup t) (PySem.mem_of_lookup d)
 ·have j:scope.names.lookup y=some .cell\/scope.names.lookup y=some .free:=j
  rcases j with j|j
  ·exact sS j
  ·exact absurd rfl (S.nofree _ (PySem.mem_of_lookup j))
 ·exact Nat.le_of_lt (x.above y c (PySem.mem_of_lookup h))
 ·have o:i<vs.length:=by
   unfold start at d
   by_cases o:i<vs.length
   ·exact o
   ·rw[bo (by simpa using o)]at d
    rw[List.getElem?_replicate]at d;split at d<;>cases d
  have I:vs[i]? =some v:=by
   unfold start at d;rw[cb (by simpa using o),List.getElem?_map]at d
   cases e:vs[i]? with
   |none=>rw[e]at d;cases d
   |some a=>rw[e]at d;cases d;rfl
  obtain⟨u,B,G⟩:=r.get I
  have m:ps[i]? =some y:=by
   rw[<-S.pre,List.getElem?_take_of_lt (by lia)];exact t
  have l:ps.Nodup:=by rw[<-S.pre];exact S.nd.sublist (List.take_sublist _ _)
  refine⟨u,G,?_⟩;rcases S.par y (List.mem_of_getElem? m)with k|k
  ·exact .inl ⟨k,oS l m B k⟩
  ·obtain⟨c,e⟩:=sS (n:=s.heap.objs.size+1) k;refine .inr ⟨.inl k,c,e,?_⟩;have q:=x.cell y c e;rw[oT l m B (by show scope.names.lookup y≠_;rw[k];decide)]at q
   exact q
 ·exact e0.hok.fresh (Nat.le_of_lt (x.above y c (PySem.mem_of_lookup h)))
 ·unfold start;show _=N.length;rw[bq,aq,List.length_replicate]
  lia
theorem aGa{K:PySem.W.Frag}{dV kV doc pm cdv ct oc:Value}(lk:K.lookup f=some ⟨oc,od,.func (PySem.W.fnOf name qual params body scope dV kV doc pm an cdv ct),osl⟩)(hcd:PySem.W.codeIn K cdv qual=true)(S:FnScope N ps scope)(len: ∀vs H Q E,sp vs H Q E->vs.length=ps.length)(hbody: ∀(A:Around) (outer:List Env) (s:Shared) (H:Hp) (vs:List V) (Q:VK) (E:XK),Room k (A.deeper (envOfC qual scope s.heap.objs.size f cdv))->sp vs H Q E->
   ∃t,PSs (jP CX P w K mg base N qual scope f cdv A outer s H E) body t/\t {nx:=λ_ H'=>Q .non H',rt:=Q} (start N vs) H):
  FnOk P w K mg base CX (k+1) f (PySem.W.fnOf name qual params body scope dV kV doc pm an cdv ct) ps sp:=by
 refine⟨len,λA outer s H args T vs Q E p h X r g=>?_⟩
 have G:=len _ _ _ _ g;have z:K.In s.heap:=h.mod.kin.keeps λb o e=>(h.bs b o e).1
 have j:s.heap.NoLimit:=h.mod.nolimit.keeps λb o e=>(h.bs b o e).1
 have c: ∀y∈ps.zip T,scope.names.lookup y.1=some .local\/(scope.names.lookup y.1=some .cell/\((cellsFrom (s.heap.objs.size+1) scope.names []).lookup y.1).isSome=true):=λ⟨n,v⟩ M=>by
  rcases S.par n (List.of_mem_zip M).1 with q|q
  ·exact .inl q
  ·exact .inr ⟨q,PySem.W.cellsFrom_some _ _ _ (.inl q)⟩
 refine codeAny_call_function p.depth (z _ _ lk) rfl S.co S.gen rfl (PySem.W.codeRec_of z hcd) (X _ _ _ _ ?_);refine wpAny_newFunctionEnv_cells S.kind c λL C B x=>?_
 subst C;refine⟨j.keeps x.toInCall.keep,codeAny_func ?_⟩;obtain⟨t,O,Y⟩:=hbody A outer s H vs Q E (p.deeper _) g;have I:Inv (jP CX P w K mg base N qual scope f cdv A outer s H E) [] (start N vs) H B:=fP S p.hd h G r x;refine wpAny_mono (O [] B (start N vs) H _ I Y) (λU l d=>?_) λe l d=>d
 have i: ∀{a:St} {H':Hp} {v:V} {u:Value},Inv (jP CX P w K mg base N qual scope f cdv A outer s H E) [] a H' l->bA v u->Q v H'->CE outer P w H s Q u l:=
  λ{a H' v u} J m q=>⟨v,H',J.os,J.bare,J.base,J.hok,m,q⟩
 cases U with
 |ret u=>
  obtain⟨v,a,H',J,m,q⟩:=d;exact i J m q
 |next=>
  obtain⟨a,H',J,q⟩:=d;exact i (v:=V.non) (u:=Value.none) J rfl q
 |brk=>
  obtain⟨_,_,_,q⟩:=d;exact ba q
 |cont=>
  obtain⟨_,_,_,q⟩:=d;exact ba q
section
variable {X:Cx} {x:Str} {p pos:Pos} {e:Expr} {es:List Expr} {t:TA} {id T:String} {r:List V->Hp->VK->Prop}
def tCB(r:List V->Hp->VK->Prop)(t:TA):TE:=λσ H Q=>t σ H λvs H1=>r vs H1 Q
theorem sT(hc:lT X (.builtin id) r)(hg:Gl X x)(hm:X.mg x=none)(hv:bootBuiltins x=some (.builtin id))(ha:PA X (e::es) t)(hn:x≠"__name__":=by decide)(hdb:(x==("__debug__":Str))=false:=by decide)
  (he:starEach (e::es) X.env=(false,eval e X.env)::starEach es X.env:=by rfl) (hpl:(backTo pos (starEach es X.env)).any (·.1)=false:=by rfl):PE X (.Call (.Name x p) (e::es) [] pos) (tCB r t):=by
 intro b s a H Q I h;refine wpAny_Call_Name_kw (fN I hg hm hv ?_ hn hdb);exact PyProof.Rows.callWith_builtin1 (thn (ha pos b s a H _ I h) λc j ⟨f,d,i,g,q1⟩=>hc b j a d f c Q i g q1) he hpl
end
end L2
namespace HT
open PySem PyProof.Rows
section
open PySem.SeqAt
open PySem.AutoSeq1 (wpAny_loadPart')
open PySem.MeetsSeq PySem.MeetsSeq2 PySem.MeetsSeq3
end
section
variable {prog:Program} {w:World} {A:Around} {E:cf} {s:Shared}
end
end HT
namespace L2
open PySem PySem.Spec PyProof.Rows
abbrev TO:=St->Hp->(Option Int->Hp->Prop)->Prop
section
variable {X:Cx} {e:Expr} {te:TE} {lo hi:Option Expr} {tl th:TO} {pos p2:Pos}
end
noncomputable def ixN(n:Nat)(i:Int):Option Nat:=if 0<=i then(if i<n then some i.toNat else none)else if -(n:Int)<=i then some (i+n).toNat else none
def atI{α:Type}(xs:List α)(i:Int):Option α:=(ixN xs.length i).bind λj=>xs[j]?
theorem wP(h:ixN n i=some j):seqIndex? i n=some j/\j<n/\ -(n:Int)<=i/\i<n:=by
 unfold ixN at h
 by_cases b:0<=i
 ·rw[if_pos b]at h
  by_cases a:i<n
  ·rw[if_pos a]at h
   have e:i.toNat=j:=Option.some.inj h
   exact⟨by rw[seqIndex_of b a,e],by lia,by lia,a⟩
  ·rw[if_neg a]at h;cases h
 ·rw[if_neg b]at h
  by_cases a: -(n:Int)<=i
  ·rw[if_pos a]at h
   have e:(i+n).toNat=j:=Option.some.inj h
   exact⟨by rw[seqIndex_neg (by lia) a,e],by lia,a,by lia⟩
  ·rw[if_neg a]at h;cases h
theorem rB{xs:List α}{v:α}(h:atI xs i=some v): ∃j,seqIndex? i xs.length=some j/\xs[j]? =some v/\j<xs.length/\ -(xs.length:Int)<=i/\i<xs.length:=by
 unfold atI at h
 cases e:ixN xs.length i with
 |none=>rw[e]at h;cases h
 |some j=>
  rw[e]at h;obtain⟨c,a,d,b⟩:=wP e;exact⟨j,c,h,a,d,b⟩
def wQ(b:Expr):Prop:= ∀o i,subscripted b false o i=operate [o,i] (getItem o i)
def IxR(X:Cx)(r:R2):Prop:=
 ∀(value slice:Expr) (ce:cg) (s:Shared) (σ:St) (H:Hp) (x y:V) (v u:Value) (Q:VK),Inv X ce σ H s->bA x v->bA y u->r x y H Q->
  subscripted slice false v u=operate [v,u] (getItem v u)->wpAny (model X.prog X.w) X.A (subscriptTail value slice v u) (EP X ce σ Q) X.xe s
def MtR(X:Cx)(id:String)(r:V->List V->Hp->VK->Prop):Prop:=
 ∀(ce:cg) (s:Shared) (σ:St) (H:Hp) (x:V) (xs:List V) (v:Value) (us:List Value) (Q:VK),Inv X ce σ H s->bA x v->cN xs us->r x xs H Q->
  wpAny (model X.prog X.w) X.A (call (.builtin id) (v::us)) (EP X ce σ Q) X.xe s
section
variable {X:Cx} {a b:Expr} {ta tb:TE} {pos:Pos}
def aRi(K:PySem.W.Frag):R2:=λx y H Q=>∃p xs i v,x= .ref p/\y= .int i/\SqL K H p xs/\atI xs i=some v/\Q v H
def aRj(K:PySem.W.Frag):R2:=λx y H Q=>∃p xs i v,x= .ref p/\y= .int i/\SqT K H p xs/\atI xs i=some v/\Q v H
def aRk:R2:=λx y H Q=>∃z i c,x= .str z/\y= .int i/\z.length<=sizeLine/\atI z.cps.toList i=some c/\Q (.str ⟨#[c]⟩) H
theorem aGb:IxR X (aRi X.K):=by
 intro d f n s m H x y v u Q I M E h B;obtain⟨p,Y,i,z,rfl,rfl,S,J,q⟩:=h;cases M;obtain⟨t,rfl⟩:=E;obtain⟨l,r,g,W⟩:=I.list S;obtain⟨j,b,N,T,G,O⟩:=rB J;obtain⟨w,o,e⟩:=r.get N;have L:=r.length;have U:=l4;have a:EP X n m Q w s:=⟨z,H,I,e,q⟩
 by_cases A:0<=i
 ·have c:i.toNat=j:=by
   rw[seqIndex_of A O]at b;exact Option.some.inj b
  exact item_listR g.isList A (by lia) (by rw[c];simpa using o) a B
 ·have c:(i+(l.toArray.size:Int)).toNat=j:=by
   rw[seqIndex_neg (by lia) G]at b
   rw[ax, <-L];exact Option.some.inj b
  exact subscriptTail_builtinR (x:=w) g.isList.typeIs slot_list_getitem.lookup
   (wpAny_getItem_list_neg (Q:=λr C=>r=w/\EP X n m Q r C) g.isList (by lia) (by rw[ax]<;>lia) (by lia) (by rw[c];simpa using o) ⟨rfl,a⟩) B
theorem aLb:IxR X (aRj X.K):=by
 intro a c f s e H x y v u Q I B m h L;obtain⟨p,U,i,z,rfl,rfl,J,n,q⟩:=h;cases B;obtain⟨t,rfl⟩:=m;obtain⟨G,r,g,S⟩:=I.tuple J;obtain⟨j,A,E,N,M,T⟩:=rB n;obtain⟨w,C,b⟩:=r.get E;have o:=r.length;have O:=l4;have d:EP X f e Q w s:=⟨z,H,I,b,q⟩
 exact subscriptTail_builtinR (x:=w) g.typeIs slot_tuple_getitem.lookup
  (getItem_tuple (j:=j) (Q:=λr l=>r=w/\EP X f e Q r l) g (by lia) (by lia) (by rw[ax, <-o];exact A) (by simpa using C) ⟨rfl,d⟩) L
theorem fK:IxR X aRk:=by
 intro a b J s G H x y v u Q I r g h A;obtain⟨z,i,c,rfl,rfl,B,n,q⟩:=h;obtain⟨t,rfl⟩:=r;obtain⟨C,rfl⟩:=g;obtain⟨j,d,e,E,m,f⟩:=rB n
 have p:z.cps.toList.length=z.length:=by simp[Str.length]
 rw[p]at d m f;have K:=l4
 exact tail_any (typeIs_str s z t) slot_str_getitem.lookup (getItem_str (c:=c) (by
  have l:decide (i< -(2^63:Int))=false:=decide_eq_false (by lia)
  have o:decide (i≥2^63)=false:=decide_eq_false (by lia)
  rw[l,o,Bool.or_false]) (by rw[d];simpa using e) ⟨.str ⟨#[c]⟩,H,I.tok _,⟨_,rfl⟩,q⟩) A
def rIx(K:PySem.W.Frag):R2:=λx y H Q=>aRi K x y H Q\/aRj K x y H Q\/aRk x y H Q
theorem vD(its:List Value)(n j:Nat)(u:Value):Obj.mapSeq (·.setIfInBounds j u) {cls:=.type "list",data:=.seq its.toArray n}={cls:=.type "list",data:=.seq (its.set j u).toArray n}:=by
 simp[Obj.mapSeq]
theorem Inv.lst{σ:St}(I:Inv X ce σ H s)(h:H p=some (.lst xs)):
  ∃(its:List Value) (n:Nat),cN xs its/\s.heap.get? p=some {cls:=.type "list",data:=.seq its.toArray n}/\xs.length<=sizeLine:=by
 obtain⟨z,its,n,r,e⟩:=I.hok p _ h;exact⟨its,n,r,e,z⟩
theorem Inv.lstUpd{σ:St}{its its':List Value}(I:Inv X ce σ H s)(h:H p=some (.lst xs))(ho:s.heap.get? p=some {cls:=.type "list",data:=.seq its.toArray n})(hf:f {cls:=.type "list",data:=.seq its.toArray n}={cls:=.type "list",data:=.seq its'.toArray n'})(r:cN ys its')(hz:ys.length<=sizeLine)(t:Nat):
  Inv X ce σ (upd H p (.lst ys)) {s with heap:=s.heap.update p f,toks:=t}:=by
 have e:(s.heap.update p f).get? p=some {cls:=.type "list",data:=.seq its'.toArray n'}:=by
  rw[Heap.get?_update_self f ho (by rw[hf]<;>rfl),hf]
 refine I.write (x:=p) (e:=p) (by rw[h];trivial) (.inl rfl) (λb u a q=>(Heap.get?_update_other _ _ (Ne.symm a)).trans q) ⟨_,e⟩ ?_
 exact⟨hz,its',n',r,e⟩
def aLc:V->V->V->Hp->(Hp->Prop)->Prop:=λo i v H Q=>∃p xs k j,o= .ref p/\i= .int k/\H p=some (.lst xs)/\ixN xs.length k=some j/\Q (upd H p (.lst (xs.set j v)))
theorem aBu:aPh X aLc:=by
 intro A s z H o i v K iv u Q I E x B h;obtain⟨p,G,k,j,rfl,rfl,g,y,q⟩:=h;cases E;obtain⟨t,rfl⟩:=x;obtain⟨a,n,r,d,C⟩:=I.lst g;obtain⟨b,L,f,e⟩:=wP y;have c:=r.length;have J:=l4
 have m:Inv X A z (upd H p (.lst (G.set j v))) {s with heap:=s.heap.update p (Obj.mapSeq (·.setIfInBounds j u))}:=
  I.lstUpd g d (vD a n j u) (r.set B j) (by rw[List.length_set];exact C) s.toks
 by_cases l:0<=k
 ·have hk:k.toNat=j:=by
   rw[seqIndex_of l e]at b;exact Option.some.inj b
  exact PySem.W.ki_setAt d l (by lia) (by rw[ax, <-c];exact e) (by rw[hk];exact⟨_,m,q⟩)
 ·have hk:(k+(a.toArray.size:Int)).toNat=j:=by
   rw[seqIndex_neg (by lia) f]at b
   rw[ax, <-c];exact Option.some.inj b
  exact PySem.W.ki_setBack d (by lia) (by rw[ax, <-c];exact f) (by lia) (by rw[hk];exact⟨_,m,q⟩)
theorem oU:lT X (.builtin "len") (λxs H Q=>∃p ys,xs=[.ref p]/\(SqL X.K H p ys\/SqT X.K H p ys)/\Q (.int ys.length) H):=by
 intro l s j H xs i Q I r h;obtain⟨p,ys,rfl,b,q⟩:=h;obtain⟨u,rfl,g⟩:=lU r;cases g;have m:=l4;rcases b with b|b
 ·obtain⟨e,c,d,f⟩:=I.list b;have a:=c.length;exact Calls.call_len_list d.isList (by simp only[ax]<;>lia) ⟨.int ys.length,H,I.tok _,⟨s.toks+1,by rw[ax,a]⟩,q⟩
 ·obtain⟨e,c,d,f⟩:=I.tuple b;have a:=c.length;exact len_tuple d (by simp only[ax]<;>lia) ⟨.int ys.length,H,I.tok _,⟨s.toks+1,by rw[ax,a]⟩,q⟩
theorem oV:lT X (.builtin "len") (λxs H Q=>∃z,xs=[.str z]/\z.length<=sizeLine/\Q (.int z.length) H):=by
 intro d s c H xs b Q I r h;obtain⟨z,rfl,a,q⟩:=h;obtain⟨u,rfl,t,rfl⟩:=lU r;have e:=l4;exact len_str (by lia) ⟨.int z.length,H,I.tok _,⟨_,rfl⟩,q⟩
theorem oW:lT X (.type "list") (λxs H Q=>∃p ys,xs=[.ref p]/\(SqL X.K H p ys\/SqT X.K H p ys)/\∀l,H l=none->Q (.ref l) (upd H l (.lst ys))):=by
 intro B s A H xs E Q I r h;obtain⟨p,ys,rfl,m,q⟩:=h;obtain⟨u,rfl,C⟩:=lU r;cases C
 have j: ∀(a:List Value),cN ys a->ys.length<=sizeLine->∀(c:Heap) (d:Nat),(∀b o',s.heap.get? b=some o'->c.get? b=some o')->
   c.get? s.heap.objs.size=some {cls:=.type "list",dict:=none,data:=.seq a.toArray d,slots:= #[]}->EP X B A Q (.ref s.heap.objs.size) {s with heap:=c}:=λa f g c d t e=>
  ⟨.ref s.heap.objs.size,_,I.laid (t':=s.toks) t (aj _) (show ObjOk X.prog X.w _ c _ (.lst ys) from⟨g,a,d,f,e⟩),rfl,q _ (I.hok.fresh (aj _))⟩
 rcases m with m|m
 ·obtain⟨a,f,x,g⟩:=I.list m;have i:=f.length;obtain⟨o,z,y,n,v⟩:=x.isList;exact call_list_seq p (.inl rfl) z y v (λc d t e=>j a f g c d t e) (by simp only[ax]<;>lia)
 ·obtain⟨a,f,x,g⟩:=I.tuple m;have i:=f.length;obtain⟨o,z,y,n,v⟩:=x;exact call_list_seq p (.inr rfl) z y v (λc d t e=>j a f g c d t e) (by simp only[ax]<;>lia)
theorem hU:lT X (.type "tuple") (λxs H Q=>∃p ys,xs=[.ref p]/\((SqL X.K H p ys/\∀l,H l=none->Q (.ref l) (upd H l (.tup ys)))\/(SqT X.K H p ys/\Q (.ref p) H))):=by
 intro t s n H xs z Q I r h;obtain⟨p,ys,rfl,h⟩:=h;obtain⟨u,rfl,x⟩:=lU r;cases x;rcases h with ⟨g,q⟩|⟨g,q⟩
 ·obtain⟨a,d,f,i⟩:=I.list g;have m:=d.length;refine call_tuple_list f.isList (λc y=>?_) (by simp only[ax]<;>lia)
  have j:Inv X t n H {s with heap:=c}:=I.kept (t':=s.toks) y
  have v:Inv X t n (upd H c.objs.size (.tup ys)) {s with heap:=c.push {cls:=.type "tuple",data:=.seq a.toArray} }:=
   j.laid (t':=s.toks) (λb o e=>af _ e) (aj _) (show ObjOk X.prog X.w _ _ _ (.tup ys) from⟨i,a,d,IsTup.new _ _,⟨_,ag _ rfl,rfl⟩⟩)
  exact⟨.ref c.objs.size,_,v,rfl,q _ (j.hok.fresh (aj _))⟩
 ·obtain⟨a,d,f,i⟩:=I.tuple g;exact call_tuple_same f ⟨.ref p,H,I,rfl,q⟩
def tyV(K:PySem.W.Frag)(T:String)(x:V)(H:Hp):Prop:=match x with
 |.str _=>T="str"
 |.int _=>T="int"
 |.ref p=>(T="list"/\∃xs,SqL K H p xs)\/(T="tuple"/\∃o,K.lookup p=some o/\o.cls= .type "tuple"/\o.dict=none)\/
   (T="dict"/\((∃kvs,H p=some (.dK kvs))\/∃kvs,H p=some (.dT kvs)))\/(T="set"/\∃S n,H p=some (.set S n))
 |_=>False
theorem aLd{σ:St}(I:Inv X ce σ H s)(r:bA x v)(ty:tyV X.K T x H):
  s.TypeIs v T/\∀a,v= .ref a->∃ob,s.heap.get? a=some ob/\ob.dict=none:=by
 cases x with
 |str z=>
  obtain⟨t,rfl⟩:=r
  cases (show T="str" from ty)
  exact⟨typeIs_str s z t,λ_ e=>nomatch e⟩
 |int i=>
  obtain⟨t,rfl⟩:=r
  cases (show T="int" from ty)
  exact⟨typeIs_int s i t,λ_ e=>nomatch e⟩
 |ref p=>
  cases r;rcases ty with ⟨rfl,q,m⟩|⟨rfl,o,hk,j,f⟩|⟨rfl,hk⟩|⟨rfl,S,n,hk⟩
  ·obtain⟨l,_,h,_⟩:=I.list m;refine⟨h.isList.typeIs,λa e=>?_⟩
   cases e;obtain⟨o,n,e,c,f,_⟩:=h;exact⟨o,e,f⟩
  ·refine⟨⟨o,I.kIn p o hk,j⟩,λa e=>?_⟩
   cases e;exact⟨o,I.kIn _ o hk,f⟩
  ·have z: ∃o,s.heap.get? p=some o/\o.ExactDict:=by
    rcases hk with ⟨d,hk⟩|⟨d,hk⟩
    ·obtain⟨_,_,_,_,o,_,_,e,b,_⟩:=I.hok p _ hk;exact⟨o,e,b⟩
    ·obtain⟨_,_,_,_,o,_,_,e,b,_⟩:=I.hok p _ hk;exact⟨o,e,b⟩
   obtain⟨o,e,b⟩:=z;refine⟨⟨o,e,b.1⟩,λa g=>?_⟩
   cases g;exact⟨o,e,b.2.1⟩
  ·obtain⟨o,_,_,_,e,b,_⟩:=I.hok p _ hk;refine⟨⟨o,e,b.1⟩,λa g=>?_⟩
   cases g;exact⟨o,e,b.2.1⟩
 |_=>exact ba ty
def tBM(K:PySem.W.Frag)(T:String)(r:V->List V->Hp->VK->Prop)(to:TE)(t:TA):TE:=λσ H Q=>to σ H λx H1=>tyV K T x H1/\t σ H1 λxs H2=>r x xs H2 Q
variable {o e:Expr} {es:List Expr} {to:TE} {t:TA} {name:Str} {apos cpos:Pos} {T id:String} {r:V->List V->Hp->VK->Prop}
theorem aPs(pa:PlainAttrs T)(slot:Slot T name id)(hty:typeOf (.builtin id)=pure (.type "method_descriptor"))(hm:MtR X id r)(ho:PE X o to)(ha:PA X (e::es) t)
  (hbase:attributeBase o name X.env (eval o X.env)=eval o X.env:=by rfl)
  (hfew:((backTo cpos (starEach (e::es) X.env)).all (λx=> !x.1)&&(backToKw cpos (keywordEach [] X.env)).all (λx=>x.1.isSome)
   &&decide ((e::es).length+([]:List Keyword).length+(if([]:List Keyword).isEmpty then 0 else 1)<30))=true:=by rfl)
  (hline:(apos.endLine==cpos.line)=true:=by rfl) (hs:starEach (e::es) X.env=(false,eval e X.env)::starEach es X.env:=by rfl) (hplain:(backTo cpos (starEach es X.env)).any (·.1)=false:=by rfl):
  PE X (.Call (.Attribute o name apos) (e::es) [] cpos) (tBM X.K T r to t):=by
 intro b s a H Q I h;refine wpAny_Call_method_late hbase hfew hline rfl (thn (ho b s a H _ I h) λv p c=>?_)
 obtain⟨x,z,g,f,ty,q1⟩:=c;obtain⟨y,i⟩:=aLd g f ty;refine⟨T,id,pa,slot,hty,y,i,?_⟩;have d:=ha cpos b p a z _ g q1;rw[hs]at d ⊢;refine Calls.callWith_builtin (by show(false||(backTo cpos (starEach es X.env)).any (·.1))=false;rw[hplain]<;>rfl) (Calls.evalArgs_plain ?_)
 exact thn d λj q ⟨n,A,m,l,u⟩=>hm b q a A x n v j Q m f l u
end
def MtM(X:Cx)(id:String)(r:V->List V->Hp->VK->Prop):Prop:=
 ∀(ce:cg) (s:Shared) (σ:St) (H:Hp) (x:V) (xs:List V) (v:Value) (us:List Value) (Q:VK),Inv X ce σ H s->bA x v->cN xs us->r x xs H Q->
  wpAny (model X.prog X.w) X.A (call (.builtin id) (v::us)) (EP X ce σ Q) X.xe s
theorem cN.one: ∀{x:V} {us:List Value},cN [x] us->∃u,us=[u]/\bA x u:=by
 intro x us h
 cases h with
 |cons r t=>
  cases t;exact⟨_,rfl,r⟩
theorem cN.two: ∀{x y:V} {us:List Value},cN [x,y] us->∃u v,us=[u,v]/\bA x u/\bA y v:=by
 intro x y us h
 cases h with
 |cons r t=>
  cases t with
  |cons q t=>
   cases t;exact⟨_,_,rfl,r,q⟩
section
variable {X:Cx} {ce:cg} {σ:St} {H:Hp} {s:Shared} {l b:Addr} {xs ys zs:List V}
theorem Inv.lset{its its':List Value}(I:Inv X ce σ H s)(hH:H l=some (.lst xs))(e:s.heap.get? l=some {cls:=.type "list",data:=.seq its.toArray n})(hf:f its.toArray=its'.toArray)(hv:cN ys its')(hz:ys.length<=sizeLine):
  Inv X ce σ (upd H l (.lst ys)) {s with heap:=s.heap.update l (Obj.mapSeq f),toks:=t'}:=by
 have q:=PySem.IsL.update e f;rw[hf]at q;refine I.write (x:=l) (e:=l) (by rw[hH];exact trivial) (.inl rfl) (λc u b a=>(Heap.get?_update_other s.heap (Obj.mapSeq f) (Ne.symm b)).trans a) ⟨_,q⟩ ?_
 exact⟨hz,its',_,hv,q⟩
theorem Inv.lnew(I:Inv X ce σ H s)(hv:cN ys its)(hz:ys.length<=sizeLine):
  Inv X ce σ (upd H s.heap.objs.size (.lst ys)) {s with heap:=s.heap.push {cls:=.type "list",data:=.seq its.toArray},toks:=t'}:=
 I.laid (λ_ _ q=>af _ q) (aj _) ⟨hz,its,0,hv,ag _ rfl⟩
theorem Inv.fresh(I:Inv X ce σ H s):H s.heap.objs.size=none:=I.hok.fresh (aj _)
theorem Inv.lstM(I:Inv X ce σ H s)(hH:H l=some (.lst xs)):xs.length<=sizeLine/\∃(its:List Value) (n:Nat),cN xs its/\xs.length=its.length/\s.heap.get? l=some {cls:=.type "list",data:=.seq its.toArray n}:=by
 obtain⟨z,its,n,r,e⟩:=I.hok l _ hH;exact⟨z,its,n,r,r.length,e⟩
end
section
variable {X:Cx}
def aGc:V->List V->Hp->VK->Prop:=λx vs H Q=>∃l xs y,x= .ref l/\vs=[y]/\H l=some (.lst xs)/\xs.length<sizeLine/\Q .non (upd H l (.lst (xs++[y])))
theorem oX:MtM X "list.append" aGc:=by
 intro p s o H x j v i Q I d f h;obtain⟨l,t,y,rfl,rfl,b,g,q⟩:=h;cases d;obtain⟨u,rfl,c⟩:=f.one;obtain⟨z,a,n,r,m,e⟩:=I.lstM b;refine call_meets F.slot_list_append ⟨_,e,rfl⟩ F.entry_list_append (F.args_list_append_2 _ _) (PySem.list_append l a.toArray n u (by rw[ax];lia)) ⟨e,?_⟩
 refine⟨.non,_,I.lset (its':=a++[u]) b e (by simp) (r.append (.cons c .nil)) ?_,rfl,q⟩
 rw[bq,List.length_singleton]
 lia
end
section
variable {prog:Program} {w:World} {A:Around} {E:cf} {s:Shared}
end
section
variable {X:Cx}
end
end L2
namespace Att
open PySem PySem.W PySem.Calls PyProof.Rows
theorem kA: ∀(ns:List Int) (vs:List Value),WellAll P h vs (ns.map WData.int)->IntsAre vs ns:=by
 intro ns
 induction ns with
 |nil=>
  intro vs w;rw[List.map_nil]at w;cases w;exact .nil
 |cons n ns c=>
  intro vs w;rw[List.map_cons]at w
  cases w with
  |cons a b=>
   cases a;exact .cons _ _ (c _ b)
theorem wR{l:OpenLaw}(hn:l.most=some n)(hpre:l.row.toRowW.claim.pre args=true)(hwl:WellAll P h vals args):
  ∃a vs ns,vals=[Value.ref a]/\args=[WData.list (ns.map WData.int)]/\h.get? a=some {cls:=.type "list",data:=.seq vs.toArray}/\IntsAre vs ns/\ns.length<=n:=by
 have hsh:WShape.hasAll [] args [.list .int]=true:=(pre_splitW hpre).1
 have g:l.pre.holds [] {args:=args}=true:=(pre_splitW hpre).2;obtain⟨d,r,rfl,o,i⟩:=hasAllW_cons hsh;obtain rfl:=hasAllW_nil i;obtain⟨u,rfl,m⟩:=hasW_list o;obtain⟨ns,rfl⟩:=items_int m
 have b:ns.length<=n:=by
  unfold OpenLaw.pre at g
  have f:(WTm.not (.lt (.lit (.int (n:Int))) (.len (.arg 0)))).holds [] {args:=[.list (ns.map .int)]}=true:=by
   have f:=(holds_andW g).1;rw[hn]at f;exact f
  have e:=condW_of f (w_not (w_lt w_lit (w_len_list (w_arg rfl))));rw[aq]at e;refine Nat.le_of_not_lt λq=>?_
  have t:(n:Int)<((ns.length:Nat):Int):=by lia
  first
   |(rw[decide_eq_true t]at e;exact absurd e (by decide))
   |(simp at e;lia)
 cases hwl with
 |cons p j=>
  cases j
  cases p with
  |list s c=>exact⟨_,_,ns,rfl,rfl,s,kA ns _ c,b⟩
theorem wS(l:OpenLaw)(args:List WData):l.row.toRowW.claim.post args (.bool true) args=true:=
 postW_of (r:=l.row.toRowW) (X:=(true==true))
  (show WShape.has [] (.bool true) .bool=true by first|rfl|decide|simp[WShape.has,WShape.arms,WShape.armsAll])
  (show(WTm.eq .res (.lit (.bool true))).value [] {args:=args,res:=some (.bool true),after:=args}=some (.bool (true==true)) from w_eq_bool (w_res rfl) w_lit) rfl
theorem attach_call{l:OpenLaw}(hn:l.most=some n)(hdf:d.params.defaults=[])(call: ∀(w:World) (s₀ s₁:Shared) (mg mb:Str->Option Value) (fa:Addr) (o:Obj) (pm cd doc:Value) (a:Addr) (vs:List Value) (ns:List Int),
   Ground q loose [] XP w s₀ mg mb s₁.heap->YP w s₁.heap->
   s₁.heap.get? fa=some o->o.data= .func (docDef d.name d.params d.body d.scope pm cd doc)->s₁.heap.CodeRec cd d.name->mg d.name=some (.ref fa)->
   s₁.heap.get? a=some {cls:=.type "list",data:=.seq vs.toArray}->IntsAre vs ns->ns.length<=n->s₁.gens= #[]->
   codeAny (model l.prog w) callerA (.call (.ref fa) ⟨[.ref a],[]⟩) (λr s'=>r= .ok (.ret (.bool true))/\OldK s₁.heap s'.heap/\s'.os=s₁.os/\AllBare s'.gens) s₁):
  WalkO q loose XP YP l.row.toRowW d [] (λf vs=>PySem.call f vs):=by
 intro w s₀ s₁ mg mb G Y fa o pm cd doc v kV x B j hD i y args m H c p E h t;obtain rfl:v= .none:=Dflts.none hD hdf;obtain rfl:kV= .none:=Dflts.noKw hD;obtain⟨a,vs,ns,rfl,rfl,e,b,g⟩:=wR hn c h;refine enter_call (codeAny_mono (call w s₀ s₁ mg mb fa o pm cd doc a vs ns G Y x (fd_plain B) j i e b g y) λr s' C=>?_)
 obtain⟨rfl,A,u,s⟩:=C;exact⟨.inl ⟨.bool true,.bool true,[],rfl,λ_=>rfl,.bool true,wS l _,λ_=>⟨List.Pairwise.nil,λ_ z=>(nomatch z)⟩⟩,A,u,s⟩
section
variable {prog:Program} {w:World} {A:Around} {E:cf} {s:Shared} {K:Frag}
noncomputable def aRl(h:Heap)(L d:Addr):cg:=(List.range h.objs.size).filterMap λa=>if a=L\/a=d then none else(h.get? a).map λo=>(a,o)
end
end Att
namespace L2
open PySem PySem.Spec PyProof.Rows
theorem oY: ∀{vs:List Value} {ns:List Int},IntsAre vs ns->cN (ns.map V.int) vs
 |_,_,.nil=>.nil
 |_,_,.cons n t h=>.cons ⟨t,rfl⟩ (oY h)
def aPt(H:Hp):Prop:= ∀b,H b=none\/∃o xs,H b=some (.frz o (.lst xs))
abbrev KOf{K:PySem.W.Frag}{h:Heap}(_:K.In h):PySem.W.Frag:=K
structure Fun(K:PySem.W.Frag)(x qual:Str)(st:Stmt)(f:Addr)(fd:FuncData):Prop where
 ex: ∃(oc:Value) (od:Option Addr) (kV doc pm:Value) (an:Option Addr) (cdv ct:Value) (osl:Array (Option Value)),
  fd=PySem.W.fnOf x qual (defArgs st) (defBody st) (defScope st) .none kV doc pm an cdv ct/\K.lookup f=some ⟨oc,od,.func fd,osl⟩/\PySem.W.codeIn K cdv qual=true
 kp:PySem.W.keepIn K (.ref f)=true
section
variable {P:Program} {w:World} {K:PySem.W.Frag} {mg:Str->Option Value} {base:Heap}
theorem Fun.binds{st:Stmt}(F:Fun K x qual st f fd)(h: ∀(kV doc pm:Value) (an:Option Addr) (cdv ct:Value) (us:List Value),us.length=ps.length->bindArgs (PySem.W.fnOf x qual (defArgs st) (defBody st) (defScope st) .none kV doc pm an cdv ct) ⟨us,[]⟩=pure (ps.zip us)):dW K fd ps []:=by
 obtain⟨c,d,kV,doc,pm,an,cdv,ct,b,rfl,lk,a⟩:=F.ex;exact .all (h kV doc pm an cdv ct)
theorem l6{st:Stmt}{kV doc pm cdv ct:Value}(l:K.lookup f=some ⟨oc,od,.func (PySem.W.fnOf x qual (defArgs st) (defBody st) (defScope st) .none kV doc pm an cdv ct),osl⟩)(c:PySem.W.codeIn K cdv qual=true)(k:PySem.W.keepIn K (.ref f)=true):Fun K x qual st f (PySem.W.fnOf x qual (defArgs st) (defBody st) (defScope st) .none kV doc pm an cdv ct):=⟨⟨oc,od,kV,doc,pm,an,cdv,ct,osl,rfl,l,c⟩,k⟩
end
section
variable {X:Cx}
end
theorem aBf{A B:Prop}(h:B):if false=true then A else B:=by
 rw[if_neg bg];exact h
theorem wT{A B:Prop}(h:A):if true=true then A else B:=by
 rw[if_pos rfl];exact h
def Same(H H':Hp):Prop:= ∀b o,H b=some o->H' b=some o
theorem Same.refl(H:Hp):Same H H:=λ_ _ h=>h
theorem Same.trans(a:Same H H1)(b:Same H1 H2):Same H H2:=λc o h=>b c o (a c o h)
theorem Same.free(e:Same H H')(h:H' l=Option.none):H l=Option.none:=by
 cases q:H l with
 |none=>rfl
 |some o=>
  rw[e l o q]at h;cases h
theorem Same.seq{K:PySem.W.Frag}(e:Same H H')(h:SqL K H a xs):SqL K H' a xs:=by
 rcases h with (h|⟨o,h⟩)|h
 ·exact .inl (.inl (e _ _ h))
 ·exact .inl (.inr ⟨o,e _ _ h⟩)
 ·exact .inr h
end L2
namespace SK
open PySem PySem.Spec PyProof.Rows L2
open PySem.AutoSeq1 (wpAny_loadPart' idx_int)
open PySem.AutoSeq1 (wpAny_loadPart' idx_int)
inductive D where
 |non|bl (b:Bool)|int (i:Int)|str (x:Str)
 |tup (xs:List D)|lst (xs:List D)
 |exc (c:Nat)|fn (f:Nat)|dct (ks:List Str) (vs:List D)
 deriving Inhabited
noncomputable def b2i(b:Bool):Int:=if b then 1 else 0
mutual
def deq:D->D->Bool
 |.non,.non=>true
 |.bl a,.bl b=>a==b
 |.bl a,.int j=>b2i a==j
 |.int i,.bl b=>i==b2i b
 |.int i,.int j=>i==j
 |.str x,.str y=>x==y
 |.tup xs,.tup ys=>vE xs ys
 |.lst xs,.lst ys=>vE xs ys
 |_,_=>false
def vE:List D->List D->Bool
 |[],[]=>true
 |x::xs,y::ys=>deq x y&&vE xs ys
 |_,_=>false
end
mutual
noncomputable def plain:D->Bool
 |.non=>true
 |.bl _=>true
 |.int _=>true
 |.str x=>x.cps.all (· <0x110000)
 |.tup xs=>bP xs
 |.lst xs=>bP xs
 |.exc _=>false
 |.fn _=>false
 |.dct _ _=>false
noncomputable def bP:List D->Bool
 |[]=>true
 |x::xs=>plain x&&bP xs
end
mutual
def dep:D->Nat
 |.tup xs=>wB xs+1
 |.lst xs=>wB xs+1
 |_=>0
def wB:List D->Nat
 |[]=>0
 |x::xs=>max (dep x) (wB xs)
end
def hV(x y:D):Bool:=plain x&&plain y&&decide (min (dep x) (dep y)<=60)
inductive R where
 |ok (d:D)|ow (xs:List D)|ex (c:Nat)|bad
noncomputable def R.bind(r:R)(k:D->R):R:=match r with
 |.ok d=>k d
 |.ow xs=>k (.lst xs)
 |.ex c=>.ex c
 |.bad=>.bad
structure Rk where
 held:List (Str×D)
 done:List D
 undone:List D
inductive RM where
 |pure (x:R)|chg (x:D) (r:Rk)
abbrev FM:=Rk->List D->RM
def RM.told:RM->R
 |.pure x=>x
 |.chg _ _=>.bad
inductive Slot where
 |no|sh (d:D)|ow (xs:List D)|dc (kvs:List (Str×D))|sd (kvs:List (Str×D))|rk (C:Nat) (r:Rk)
def Slot.isRk:Slot->Bool
 |.rk _ _=>true
 |_=>false
def Slot.owns:Slot->Bool
 |.ow _=>true
 |.dc _=>true
 |.sd _=>true
 |_=>false
noncomputable abbrev Rho:=List Slot
abbrev F:=Rho->R
inductive Out where
 |nx (ρ:Rho)|rt (r:R)|bk (ρ:Rho)|ct (ρ:Rho)|ex (c:Nat) (ρ:Rho)
abbrev FS:=Rho->Out
abbrev Fn:=List D->R
def LIM:Nat:=100000
noncomputable def sml(i:Int):Bool:=decide (-18446744073709551616<i)&&decide (i<18446744073709551616)
def eN(op:Operator)(i j:Int):R:=match op with
 |.Add=>.ok (.int (i+j))
 |.Sub=>.ok (.int (i-j))
 |.Mult=>if sml i||sml j then .ok (.int (i*j))else .bad
 |.FloorDiv=>if 0<j/\j<1073741824 then .ok (.int (i/j))else .bad
 |.Mod=>if 0<j then .ok (.int (i % j))else .bad
 |.LShift=>if 0<=j/\j<=1000/\sml i=true then .ok (.int (i*2^j.toNat))else .bad
 |_=>.bad
def kB(op:Operator)(x y:D):R:=match x,y with
 |.int i,.int j=>(match op with
  |.BitAnd=>.ok (.int (Builtin.bitAnd i j))
  |.BitOr=>.ok (.int (Builtin.bitOr i j))
  |.BitXor=>.ok (.int (Builtin.bitXor i j))
  |op=>eN op i j)
 |.lst xs,.lst ys=>(match op with
  |.Add=>if xs.length+ys.length<=LIM then .ow (xs++ys)else .bad
  |_=>.bad)
 |_,_=>.bad
def items:D->Option (List D)
 |.tup xs=>some xs
 |.lst xs=>some xs
 |_=>none
noncomputable def vF(x:Str):List D:=x.cps.toList.map λc=>D.str ⟨#[c]⟩
def hW:D->Option (List D)
 |.tup xs=>some xs
 |.lst xs=>some xs
 |.str x=>if x.cps.size<=1000 then some (vF x)else none
 |.dct ks _=>if ks.length<=1000 then some (ks.map D.str)else none
 |_=>none
def oZ:D->Bool
 |.non=>true
 |_=>false
noncomputable def aTb(b:Bool):D->Bool
 |.bl a=>a==b
 |_=>false
def aGd(x:D)(ys:List D):Bool:=ys.all λy=>hV y x
def inS(x y:D)(neg:Bool):R:=match x,y with
 |.str a,.dct ks _=>.ok (.bl (neg != ks.contains a))
 |_,_=>.bad
noncomputable def bI(kvs:List (Str×D))(x:Str):Option D:=(kvs.find? λp=>decide (p.1=x)).map (·.2)
def aEj(a b:List (Str×D)):Bool:=a.length==b.length&&a.all λp=>match bI b p.1 with|some w=>deq p.2 w|none=>false
def mZ(neg:Bool)(x y:D):R:=match x,y with
 |.dct ks vs,.dct ls ws=>if(vs.all λd=>ws.all λe=>hV d e)=true then .ok (.bl (neg != aEj (ks.zip vs) (ls.zip ws)))else .bad
 |_,_=>.bad
def eE(op:CmpOp)(x y:D):R:=match op with
 |.Eq=>if hV x y then .ok (.bl (deq x y))else mZ false x y
 |.NotEq=>if hV x y then .ok (.bl (!deq x y))else mZ true x y
 |.Lt=>(match x,y with|.int i,.int j=>.ok (.bl (decide (i<j)))|_,_=>.bad)
 |.LtE=>(match x,y with|.int i,.int j=>.ok (.bl (decide (i<=j)))|.str i,.str j=>.ok (.bl (!decide (j.cps.toList<i.cps.toList)))|_,_=>.bad)
 |.Gt=>(match x,y with|.int i,.int j=>.ok (.bl (decide (j<i)))|_,_=>.bad)
 |.GtE=>(match x,y with|.int i,.int j=>.ok (.bl (decide (j<=i)))|_,_=>.bad)
 |.Is=>(match y with
  |.non=>.ok (.bl (oZ x))
  |_=>.bad)
 |.IsNot=>(match y with
  |.non=>.ok (.bl (!oZ x))
  |_=>.bad)
 |.In=>inS x y false
 |.NotIn=>inS x y true
noncomputable def ixD(n:Nat)(i:Int):Option Nat:=if 0<=i then(if i<n then some i.toNat else none)else if -(n:Int)<=i then some (i+n).toNat else none
def ixS(x y:D):R:=match x,y with
 |.str z,.int i=>if z.length<=LIM then(match(ixD z.cps.toList.length i).bind λj=>z.cps.toList[j]? with|some c=>.ok (.str ⟨#[c]⟩)|none=>.bad)else .bad
 |.dct ks vs,.str k=>(match bI (ks.zip vs) k with|some d=>.ok d|none=>.bad)
 |_,_=>.bad
def dIx(x y:D):R:=match items x,y with
 |some xs,.int i=>(match(ixD xs.length i).bind λj=>xs[j]? with|some d=>.ok d|none=>.bad)
 |some _,_=>.bad
 |none,_=>ixS x y
def aRm:D->(Int->R)->R
 |.int i,k=>k i
 |_,_=>.bad
def aA(i:Nat):F:=λρ=>match ρ[i]? with|some (.sh d)=>.ok d|_=>.bad
def aD(i:Nat):F:=λρ=>match ρ[i]? with|some (.sh d)=>.ok d|some (.ow xs)=>.ok (.lst xs)|_=>.bad
def rK(d:D):F:=λ_=>.ok d
def bF(op:Operator)(a b:F):F:=λρ=>(a ρ).bind λx=>(b ρ).bind λy=>kB op x y
def o0(a:F):F:=λρ=>(a ρ).bind λx=>match x with|.bl b=>.ok (.bl (!b))|_=>.bad
def hX(a b:F):F:=λρ=>(a ρ).bind λx=>match x with|.bl true=>b ρ|.bl false=>.ok (.bl false)|_=>.bad
def rOr(a b:F):F:=λρ=>(a ρ).bind λx=>match x with|.bl true=>.ok (.bl true)|.bl false=>b ρ|_=>.bad
def aY(op:CmpOp)(a b:F):F:=λρ=>(a ρ).bind λx=>(b ρ).bind λy=>eE op x y
def jG(op op':CmpOp)(a b c:F):F:=λρ=>(a ρ).bind λx=>(b ρ).bind λy=>(eE op x y).bind λz=>match z with
 |.bl true=>(c ρ).bind λw=>eE op' y w
 |.bl false=>.ok (.bl false)
 |_=>.bad
inductive RA where
 |ok (ds:List D)|ex (c:Nat)|bad
noncomputable def RA.cons(x:D):RA->RA
 |.ok ds=>.ok (x::ds)
 |.ex c=>.ex c
 |.bad=>.bad
def RA.then(r:RA)(k:List D->R):R:=match r with
 |.ok ds=>k ds
 |.ex c=>.ex c
 |.bad=>.bad
def args:List F->Rho->RA
 |[],_=>.ok []
 |f::fs,ρ=>match f ρ with
  |.ok x=>(args fs ρ).cons x
  |.ow xs=>(args fs ρ).cons (.lst xs)
  |.ex c=>.ex c
  |.bad=>.bad
def l7(fs:List F)(ρ:Rho)(k:List D->R):R:=(args fs ρ).then k
def eF(fs:List F):F:=λρ=>l7 fs ρ λxs=>.ok (.tup xs)
def iU(fs:List F):F:=λρ=>l7 fs ρ λxs=>.ow xs
def rIx(a b:F):F:=λρ=>(a ρ).bind λx=>(b ρ).bind λy=>dIx x y
def aG(f:Fn)(fs:List F):F:=λρ=>l7 fs ρ f
def rC(r:Fn)(a b:F):F:=λρ=>(a ρ).bind λx=>match x with|.lst ds=>(b ρ).bind λy=>r [.lst ds,y]|_=>.bad
def rIs(p:D->Option Bool)(a:F):F:=λρ=>(a ρ).bind λx=>match p x with|some b=>.ok (.bl b)|none=>.bad
def bG(f:D->Option (Option D)):List D->Option (List D)
 |[]=>some []
 |d::r=>match f d with
  |none=>none
  |some none=>bG f r
  |some (some x)=>(bG f r).map (x:: ·)
def tgt(n:Nat)(d:D):Option (List Slot):=match n with
 |0=>some [.sh d]
 |n=>match d with
  |.tup ds=>if ds.length=n then some (ds.map Slot.sh)else none
  |_=>none
def iT(cs:List Nat)(ρ:Rho):List Slot:=cs.map λi=>(ρ[i]?).getD .no
def cR(n:Nat)(cs:List Slot)(c:Option F)(e:F)(d:D):Option (Option D):=match tgt n d with
 |none=>none
 |some ts=>match c with
  |none=>(match e (ts++cs)with|.ok x=>some (some x)|.ow xs=>some (some (.lst xs))|_=>none)
  |some c=>match c (ts++cs)with
   |.ok (.bl true)=>(match e (ts++cs)with|.ok x=>some (some x)|.ow xs=>some (some (.lst xs))|_=>none)
   |.ok (.bl false)=>some none
   |_=>none
def bB(n:Nat)(cs:List Nat)(it:F)(c:Option F)(e:F):F:=λρ=>(it ρ).bind λx=>match hW x with
 |some ds=>(match bG (cR n (iT cs ρ) c e) ds with|some xs=>.ow xs|none=>.bad)
 |none=>.bad
noncomputable def qO(n:Nat):List D:=(List.range n).map λ(i:Nat)=>D.int (i:Int)
def cS(a:F):F:=λρ=>(a ρ).bind λx=>aRm x λi=>if -100000<=i/\i<=100000 then .ok (.lst (qO i.toNat))else .bad
def aSj(a:F):F:=λρ=>(a ρ).bind λx=>match items x with
 |some xs=>.ok (.lst (xs.zipIdx.map λp=>D.tup [.int (p.2:Nat),p.1]))
 |none=>.bad
def o7(a b:F):F:=λρ=>(a ρ).bind λx=>(b ρ).bind λy=>match x,y with
 |.tup xs,.tup ys=>.ok (.lst ((xs.zip ys).map λp=>D.tup [p.1,p.2]))
 |.lst xs,.lst ys=>.ok (.lst ((xs.zip ys).map λp=>D.tup [p.1,p.2]))
 |.lst xs,.tup ys=>.ok (.lst ((xs.zip ys).map λp=>D.tup [p.1,p.2]))
 |.tup xs,.lst ys=>.ok (.lst ((xs.zip ys).map λp=>D.tup [p.1,p.2]))
 |_,_=>.bad
def aRn:D->R|.str z=>if z.length<=100000 then .ok (.int z.length)else .bad|_=>.bad
def rD:Fn|[x]=>(match items x with|some xs=>.ok (.int xs.length)|none=>aRn x)|_=>.bad
def aBg:Fn|[.int i]=>.ok (.int i)|[.bl b]=>.ok (.int (b2i b))|[.str x]=>(match x.cps.toList with|[c]=>if 48<=c/\c<58 then .ok (.int ((c-48:Nat):Int))else .bad|_=>.bad)|_=>.bad
def gN:Fn|[x]=>(match items x with|some xs=>.ok (.tup xs)|none=>.bad)|_=>.bad
def vG:Fn|[x]=>(match items x with|some xs=>.ow xs|none=>.bad)|_=>.bad
def gT:List D->Option (List Int)
 |[]=>some []
 |.int i::r=>(gT r).map (i:: ·)
 |_::_=>none
def eX:List D->Option (List Bool)
 |[]=>some []
 |.bl b::r=>(eX r).map (b:: ·)
 |_::_=>none
def aBh:Fn|[x]=>(match(items x).bind gT with|some xs=>.ok (.int xs.sum)|none=>.bad)|_=>.bad
def aJ5:Fn|[x]=>(match(items x).bind eX with|some xs=>.ok (.bl (xs.all id))|none=>.bad)|_=>.bad
def aTc:Fn|[x]=>(match(items x).bind eX with|some xs=>.ok (.bl (xs.any id))|none=>.bad)|_=>.bad
def aTd:Fn|[.int i,.int j]=>.ok (.int (if j > i then j else i))|_=>.bad
def aTe:Fn|[.int i,.int j]=>.ok (.int (if j<i then j else i))|_=>.bad
noncomputable def aBv:Int->List Int->Int
 |m,[]=>m
 |m,i::r=>aBv (if m<i then i else m) r
def aRo:Int->List Int->Int
 |m,[]=>m
 |m,i::r=>aRo (if i<m then i else m) r
def aSk:Fn|[x]=>(match(items x).bind gT with|some (n::ns)=>.ok (.int (aBv n ns))|_=>.bad)|_=>.bad
def aTf:Fn|[.int i]=>.ok (.int (if i<0 then -i else i))|_=>.bad
noncomputable def rE:List Int->List Int->Bool
 |[],[]=>false
 |[],_::_=>true
 |_::_,[]=>false
 |a::r,b::t=>if a=b then rE r t else decide (a<b)
mutual
def same:D->D->Bool
 |.int _,.int _=>true
 |.tup xs,.tup ys=>cQ xs ys
 |_,_=>false
def cQ:List D->List D->Bool
 |[],[]=>true
 |x::xs,y::ys=>same x y&&cQ xs ys
 |_,_=>false
end
mutual
def sU:D->List Int
 |.int i=>[i]
 |.tup xs=>kC xs
 |_=>[]
def kC:List D->List Int
 |[]=>[]
 |x::xs=>sU x++kC xs
end
def ltD(x y:D):Bool:=rE (sU x) (sU y)
def aRp(d:D):List D->D
 |[]=>d
 |e::r=>aRp (if ltD e d then e else d) r
def aLe:D->Bool
 |.tup (_::_)=>true
 |_=>false
def aLf:D->Bool
 |.tup _=>true
 |_=>false
def aPu:List D->Bool
 |[]=>false
 |d::r=>aLf d&&(r.isEmpty||aLe d)&&decide (dep d<=8)&&same d d&&r.all (same d)
def aPv(ds:List D):R:=if aPu ds then(match ds with|d::r=>.ok (aRp d r)|[]=>.bad)else .bad
def aPw(ds:List D):R:=match gT ds with
 |some ns=>(match ns with|n::r=>.ok (.int (aRo n r))|[]=>.bad)
 |none=>aPv ds
def aSl:Fn|[x]=>(match items x with|some ds=>aPw ds|none=>.bad)|_=>.bad
noncomputable def aSm(ns:List Int):List Int:=((List.range 17).filter λ(k:Nat)=>ns.contains (k:Int)).map λ(k:Nat)=>(k:Int)
noncomputable def aSn(ns:List Int):Bool:=ns.all λn=>decide (0<=n/\n<17)
def aSo(ds:List D):R:=match gT ds with|some ns=>if aSn ns then .ok (.int ((aSm ns).length:Nat))else .bad|none=>.bad
def dLS:Fn|[x]=>(match x with|.lst ds=>aSo ds|_=>.bad)|_=>.bad
def wU:Fn|[.lst ys,x]=>if aGd x ys then .ok (.int ((ys.countP λy=>deq y x):Nat))else .bad|_=>.bad
def wV:Fn|[.lst ys,x]=>if aGd x ys then(match ys.findIdx? λy=>deq y x with|some k=>.ok (.int (k:Nat))|none=>.bad)else .bad|_=>.bad
def orP(p q:D->Option Bool):D->Option Bool:=λd=>match p d,q d with|some a,some b=>some (a||b)|_,_=>none
mutual
def hkD:D->Bool
 |.non=>true
 |.int _=>true
 |.tup xs=>aRq xs
 |_=>false
def aRq:List D->Bool
 |[]=>true
 |x::xs=>hkD x&&aRq xs
end
def aSp(kvs:List (D×D))(k:D):Bool:=kvs.any λp=>deq p.1 k
noncomputable def putK(kvs:List (D×D))(k d:D):List (D×D):=if aSp kvs k then kvs.map (λp=>if deq p.1 k then(p.1,d)else p)else kvs++[(k,d)]
noncomputable def inK(op:CmpOp)(b:Bool):R:=match op with
 |.In=>.ok (.bl b)
 |.NotIn=>.ok (.bl !b)
 |_=>.bad
def put(ρ:Rho)(i:Nat)(s:Slot):Rho:=ρ.set i s
def frz1(i:Nat)(ρ:Rho):Rho:=match ρ[i]? with|some (.ow xs)=>ρ.set i (.sh (.lst xs))|some (.dc kvs)=>ρ.set i (.sh (.dct (kvs.map (·.1)) (kvs.map (·.2))))|_=>ρ
def frz(is:List Nat)(ρ:Rho):Rho:=is.foldl (λρ i=>frz1 i ρ) ρ
def aOy(is:List Nat)(s:FS):FS:=λρ=>s (frz is ρ)
def eY(ρ:Rho)(r:R)(k:D->Out):Out:=match r with
 |.ok d=>k d
 |.ow xs=>k (.lst xs)
 |.ex c=>.ex c ρ
 |.bad=>.rt .bad
def g6(i:Nat)(e:F):FS:=λρ=>eY ρ (e ρ) λd=>.nx (ρ.set i (.sh d))
def sV(i:Nat)(e:F):FS:=λρ=>match e ρ with
 |.ok d=>.nx (ρ.set i (.sh d))
 |.ow xs=>.nx (ρ.set i (.ow xs))
 |.ex c=>.ex c ρ
 |.bad=>.rt .bad
mutual
def noL:D->Bool
 |.non=>true
 |.bl _=>true
 |.int _=>true
 |.str _=>true
 |.tup xs=>aRr xs
 |_=>false
def aRr:List D->Bool
 |[]=>true
 |x::xs=>noL x&&aRr xs
end
def aSq(j i:Nat):FS:=λρ=>match ρ[j]? with
 |some (.ow xs)=>.nx ((ρ.set j .no).set i (.ow xs))
 |_=>.rt .bad
def setN:List Nat->List D->Rho->Rho
 |i::is,d::ds,ρ=>setN is ds (ρ.set i (.sh d))
 |_,_,ρ=>ρ
def fQ(is:List Nat)(e:F):FS:=λρ=>eY ρ (e ρ) λd=>match d with
 |.tup ds=>if ds.length=is.length then .nx (setN is ds ρ)else .rt .bad
 |.lst ds=>if ds.length=is.length then .nx (setN is ds ρ)else .rt .bad
 |_=>.rt .bad
def aTg(i:Nat)(op:Operator)(e:F):FS:=λρ=>match ρ[i]? with
 |some (.sh (.int a))=>eY ρ (e ρ) λd=>(match d,op with
  |.int b,.Add=>.nx (ρ.set i (.sh (.int (a+b))))
  |.int b,.Sub=>.nx (ρ.set i (.sh (.int (a-b))))
  |_,_=>.rt .bad)
 |_=>.rt .bad
def jN(e:F):FS:=λρ=>eY ρ (e ρ) λ_=>.nx ρ
def dG(e:F):FS:=λρ=>match e ρ with
 |.ok d=>.rt (.ok d)
 |.ow xs=>.rt (.ow xs)
 |.ex c=>.ex c ρ
 |.bad=>.rt .bad
def a9:FS:=λρ=>.nx ρ
def bL(a b:FS):FS:=λρ=>match a ρ with|.nx ρ'=>b ρ'|o=>o
def sIf(c:F)(a b:FS):FS:=λρ=>match c ρ with
 |.ok (.bl true)=>a ρ
 |.ok (.bl false)=>b ρ
 |.ex c=>.ex c ρ
 |_=>.rt .bad
def l8(c:Nat):FS:=λρ=>.ex c ρ
def aSr(i:Nat)(e:F):FS:=λρ=>match ρ[i]? with
 |some (.ow xs)=>eY ρ (e ρ) λd=>if xs.length<LIM then .nx (ρ.set i (.ow (xs++[d])))else .rt .bad
 |_=>.rt .bad
noncomputable def fR(kvs:List (Str×D))(x:Str)(d:D):List (Str×D):=if(kvs.any λp=>decide (p.1=x))=true then kvs.map (λp=>if p.1=x then(p.1,d)else p)else kvs++[(x,d)]
def wC(i:Nat)(k e:F):FS:=λρ=>eY ρ (e ρ) λd=>match ρ[i]? with
 |some (.ow xs)=>eY ρ (k ρ) λy=>(match y with
  |.int j=>(match ixD xs.length j with|some m=>.nx (ρ.set i (.ow (xs.set m d)))|none=>.rt .bad)
  |_=>.rt .bad)
 |some (.dc kvs)=>eY ρ (k ρ) λy=>(match y with
  |.str x=>if kvs.length<LIM then .nx (ρ.set i (.dc (fR kvs x d)))else .rt .bad
  |_=>.rt .bad)
 |_=>.rt .bad
def l9(i:Nat)(e:F):FS:=λρ=>eY ρ (e ρ) λd=>match d with
 |.dct ks vs=>.nx (ρ.set i (.dc (ks.zip vs)))
 |_=>.rt .bad
def aSs:List D->Option (D×D)
 |[a,b]=>some (a,b)
 |_=>none
def aSt:D->Option (D×D)
 |.tup ds=>aSs ds
 |_=>none
def aSu(i:Nat)(k l e:F):FS:=λρ=>eY ρ (e ρ) λd=>(match aSt d with
 |some (d1,d2)=>(match ρ[i]? with
  |some (.ow xs)=>eY ρ (k ρ) λy=>(match y with
   |.int j=>(match ixD xs.length j with
    |some m=>eY (ρ.set i (.ow (xs.set m d1))) (l (ρ.set i (.ow (xs.set m d1)))) λz=>(match z with
     |.int j2=>(match ixD (xs.set m d1).length j2 with
      |some m2=>.nx ((ρ.set i (.ow (xs.set m d1))).set i (.ow ((xs.set m d1).set m2 d2)))
      |none=>.rt .bad)
     |_=>.rt .bad)
    |none=>.rt .bad)
   |_=>.rt .bad)
  |_=>.rt .bad)
 |none=>.rt .bad)
def aSv(i:Nat)(k e:F):FS:=λρ=>match ρ[i]? with
 |some (.ow xs)=>eY ρ (k ρ) λy=>(match y with
  |.int j=>(match ixD xs.length j with
   |some m=>(match xs[m]? with
    |some (.int a)=>eY ρ (e ρ) λd=>(match d with
     |.int b=>.nx (ρ.set i (.ow (xs.set m (.int (a+b)))))
     |_=>.rt .bad)
    |_=>.rt .bad)
   |none=>.rt .bad)
  |_=>.rt .bad)
 |_=>.rt .bad
def mB:D->Option (List D)
 |.dct ks _=>if ks.length<=1000 then some (ks.map D.str)else none
 |x=>items x
def o8(is:List Nat)(one:Bool)(d:D)(ρ:Rho):Option Rho:=match one,is with
 |true,[i]=>some (ρ.set i (.sh d))
 |false,is=>(match d with
  |.tup ds=>if ds.length=is.length then some (setN is ds ρ)else none
  |_=>none)
 |_,_=>none
def fS(t:D->Rho->Option Rho)(b:FS):List D->Rho->Out
 |[],ρ=>.nx ρ
 |d::r,ρ=>match t d ρ with
  |none=>.rt .bad
  |some ρ1=>match b ρ1 with
   |.nx ρ2=>fS t b r ρ2
   |.ct ρ2=>fS t b r ρ2
   |.bk ρ2=>.nx ρ2
   |.rt r=>.rt r
   |.ex c ρ2=>.ex c ρ2
def vH(is:List Nat)(one:Bool)(it:F)(b:FS):FS:=λρ=>eY ρ (it ρ) λx=>match mB x with
 |some ds=>fS (o8 is one) b ds ρ
 |none=>.rt .bad
def aOz:FS:=λ_=>.rt .bad
def aTh(i j:Nat)(hit:Nat->Bool)(b:FS):FS:=λρ=>match b ρ with
 |.ex c ρ'=>if hit c then .nx ((ρ'.set i .no).set j (.sh (.exc c)))else .ex c ρ'
 |o=>o
def fnOf(n:Nat)(b:FS):Fn:=λds=>match b (ds.map Slot.sh++ao (n-ds.length) .no)with
 |.rt (.ok d)=>.ok d
 |.rt (.ow xs)=>.ow xs
 |.rt _=>.bad
 |.nx _=>.ok .non
 |.ex c _=>.ex c
 |_=>.bad
inductive Py where
 |len|range|enum|zip|isin|int|bool|str|tuple|list|sum|all|any|sorted|min|max|abs|set|dict
 deriving DecidableEq
inductive Gl where
 |fn (k n:Nat) (f:Fn)|exc (c:Nat)|verr|val (d:D)|py (p:Py)|tbl (kvs:List (Str×D))|cls (a:Nat) (ms:List (Str×Nat×FM))
noncomputable def hit(c e:Nat):Bool:=c==e||c==0||c==100
structure Ctx where
 tab:List (Str×Gl)
 fns:List (Nat×Fn)
 sc:Scope
 N:List Str
 bs:List Str
noncomputable def idx(x:Str):List Str->Option Nat
 |[]=>none
 |y::r=>if x=y then some 0 else(idx x r).map (· +1)
def loc(C:Ctx)(x:Str):Option Nat:=match C.sc.names.lookup x with
 |some .local=>idx x C.N
 |some .cell=>idx x C.N
 |some .free=>idx x C.N
 |_=>none
def eO(C:Ctx)(x:Str):Option Nat:=match C.sc.names.lookup x with
 |some .cell=>idx x C.N
 |some .free=>idx x C.N
 |_=>none
def glo(C:Ctx)(x:Str):Option Gl:=match C.sc.names.lookup x with
 |some .globalImplicit=>C.tab.lookup x
 |_=>none
def isP:Gl->Option (D->Option Bool)
 |.py .int=>some λd=>match d with|.int _=>some true|.bl _=>some true|.exc _=>none|.fn _=>none|.dct _ _=>none|_=>some false
 |.py .bool=>some λd=>match d with|.bl _=>some true|.exc _=>none|.fn _=>none|.dct _ _=>none|_=>some false
 |.py .tuple=>some λd=>match d with|.tup _=>some true|.exc _=>none|.fn _=>none|.dct _ _=>none|_=>some false
 |.py .list=>some λd=>match d with|.lst _=>some true|.exc _=>none|.fn _=>none|.dct _ _=>none|_=>some false
 |.py .str=>some λd=>match d with|.str _=>some true|.exc _=>none|.fn _=>none|.dct _ _=>none|_=>some false
 |.exc c=>some λd=>match d with|.exc e=>some (hit c e)|_=>none
 |.verr=>some λd=>match d with|.exc e=>some (hit 100 e)|_=>none
 |_=>none
noncomputable def kD:Const->Option D
 |.int i=>some (.int i)
 |.bool b=>some (.bl b)
 |.none=>some .non
 |.str x=>some (.str x)
 |_=>none
noncomputable def dR{α β:Type}(f:α->Option β):List α->Option (List β)
 |[]=>some []
 |x::r=>match f x with
  |none=>none
  |some y=>(dR f r).map (y:: ·)
def bZ:Expr->Option (List Str×Nat)
 |.Name x _=>some ([x],0)
 |.Tuple es _ _=>(dR (λ(e:Expr)=>match e with|.Name x _=>some x|_=>none) es).bind λxs=>if 2<=xs.length then some (xs,xs.length)else none
 |_=>none
noncomputable def aP(sc:Scope):List Str:=(sc.names.filter λp=>p.2== .free).map (·.1)
def o9(sc:Scope):List Str:=(sc.names.filter λp=>p.2== .cell).map (·.1)
def kF(sc:Scope)(xs:List Str):Bool:=
 sc.kind== .function&&((o9 sc).isEmpty||(decide (o9 sc=xs)&&decide (xs.length=1)))&&xs.all (λx=>sc.names.lookup x==some (if(o9 sc).isEmpty then .local else .cell))&&
  sc.names.all (λp=>p.2 != .local||sc.names.lookup p.1==some .local)&&decide (xs++aP sc).Nodup&&(xs++aP sc).all (λx=>x != "__debug__"&&x != "__classdict__")&&(aP sc).all (λx=>sc.names.lookup x==some .free)
def one:List Expr->Option Expr
 |[a]=>some a
 |_=>none
def two:List Expr->Option (Expr×Expr)
 |[a,b]=>some (a,b)
 |_=>none
def cG:Expr->Option (Str×Pos)
 |.Name x p=>some (x,p)
 |_=>none
noncomputable def aGe:Expr->Option (List Expr×Nat×Pos)
 |.Tuple es k p=>some (es,k,p)
 |_=>none
noncomputable def aSw:Expr->Bool
 |.Constant c _ _=>(match c with|.int i=>i==1|_=>false)
 |_=>false
def aGf:Expr->Bool
 |.Name _ _=>true
 |_=>false
def aRs:Expr->Bool
 |.Subscript _ _ _=>true
 |_=>false
def aSx(e:Expr):Option (Str×Str):=(aGe e).bind λ(es,_)=>(two es).bind λ(u,v)=>(cG u).bind λ(x,_)=>(cG v).map λ(y,_)=>(x,y)
def aGg:Expr->Bool
 |.Constant c _ _=>(match c with|.str _=>true|_=>false)
 |_=>false
def aLg(dE:Expr->Option F)(C:Ctx)(a:Expr):Option F:=match a with
 |.Call f as kws _=>if kws.isEmpty then(cG f).bind λ(x,_)=>(one as).bind λb=>(match loc C x,glo C x with
  |none,some (.py .range)=>dE b
  |_,_=>none)else none
 |_=>none
def aGh(dE:Expr->Option F)(C:Ctx)(a:Expr):Option F:=match a with
 |.Call f as kws _=>if kws.isEmpty then(cG f).bind λ(x,_)=>(two as).bind λ(b,c)=>(match loc C x,glo C x with
  |none,some (.py .zip)=>(dE b).bind λf=>(dE c).map λg=>o7 f g
  |_,_=>none)else none
 |_=>none
def aLh(b:Bool)(r:Rk):List D:=if b then r.done else r.undone
def aBw(A i:Nat)(k:Rk->R):F:=λρ=>match ρ[i]? with
 |some (.rk C r)=>if C=A then k r else .bad
 |_=>.bad
def aJ6(A i:Nat)(b:Bool):F:=aBw A i λr=>.ok (.lst (aLh b r))
def aJ7(neg:Bool)(A i:Nat)(f:F):F:=λρ=>(f ρ).bind λd=>aBw A i (λr=>match d with
 |.str x=>.ok (.bl (neg != (bI r.held x).isSome))
 |_=>.bad) ρ
def vI(A i:Nat)(f:F):F:=λρ=>aBw A i (λr=>(f ρ).bind λd=>match d with
 |.str x=>(match bI r.held x with|some d=>.ok d|none=>.bad)
 |_=>.bad) ρ
def aBx(A i:Nat)(f:F):F:=λρ=>aBw A i (λr=>(f ρ).bind λd=>match d with
 |.str x=>.ok ((bI r.held x).getD .non)
 |_=>.bad) ρ
def dA(A i:Nat)(m:FM)(fs:List F):F:=λρ=>aBw A i (λr=>l7 fs ρ λds=>(m r ds).told) ρ
def ltS(x y:Str):Bool:=decide (x.cps.toList<y.cps.toList)
def aBy(x:Str):List Str->List Str
 |[]=>[x]
 |y::l=>if ltS y x then y::aBy x l else x::y::l
def fE:List Str->List Str
 |[]=>[]
 |x::l=>aBy x (fE l)
def cD:Fn
 |[.dct ks _]=>if ks.length<64 then .ow ((fE ks).map D.str)else .bad
 |_=>.bad
def sW(k1 k2:Str)(f1 f2:F):F:=λρ=>(f1 ρ).bind λx=>(f2 ρ).bind λy=>if k1=k2 then .bad else .ok (.dct [k1,k2] [x,y])
def kG:F:=λ_=>.ok (.dct [] [])
def pA(f g h:F):F:=λρ=>(f ρ).bind λx=>match x with
 |.dct ks vs=>(g ρ).bind λy=>(h ρ).bind λz=>(match y with
  |.str k=>.ok ((bI (ks.zip vs) k).getD z)
  |_=>.bad)
 |_=>.bad
def aGi(A i:Nat):F:=aBw A i λr=>if r.held.length<64 then .ow ((fE (r.held.map (·.1))).map D.str)else .bad
noncomputable def aBz:Expr->Option (Expr×Str×Pos)
 |.Attribute o f p=>some (o,f,p)
 |_=>none
def atF(C:Ctx)(f:Str)(e:Expr):Option Nat:=(aBz e).bind λ(o,g,_)=>if g=f then(cG o).bind λ(x,_)=>loc C x else none
def aLi(C:Ctx)(e:Expr):Option (Nat×Bool):=match atF C "done" e with
 |some i=>some (i,true)
 |none=>(atF C "undone" e).map λi=>(i,false)
def rkc(C:Ctx):Option (Nat×List (Str×Nat×FM)):=match C.tab.lookup ("Rack":Str)with
 |some (.cls a ms)=>some (a,ms)
 |_=>none
def aPx:CmpOp->Option Bool
 |.In=>some false
 |.NotIn=>some true
 |_=>none
def aLj(dE:Expr->Option F)(C:Ctx)(A:Nat)(op:CmpOp)(a b:Expr):Option F:=match aPx op with
 |some neg=>(atF C "held" b).bind λi=>(dE a).map λf=>aJ7 neg A i f
 |none=>(aLi C a).bind λ(i,bb)=>(dE b).map λg=>aY op (aJ6 A i bb) g
def aLk(dE:Expr->Option F)(C:Ctx)(A:Nat)(ms:List (Str×Nat×FM))(o:Expr)(m:Str)(as:List Expr):Option F:=match cG o with
 |some (x,_)=>(loc C x).bind λi=>(ms.lookup m).bind λ(n,M)=>if as.length<20 then(dR dE as).bind λfs=>if fs.length=n then some (dA A i M fs)else none else none
 |none=>if m="get" then(atF C "held" o).bind λi=>(one as).bind λa=>(dE a).map λg=>aBx A i g else none
def aRt(C:Ctx)(A:Nat)(x:Str)(a:Expr):Option F:=match glo C x with
 |some (.py .sorted)=>(atF C "held" a).map λi=>aGi A i
 |some (.py .len)=>(aLi C a).map λ(i,bb)=>aG rD [aJ6 A i bb]
 |_=>none
def aO0(dE:Expr->Option F)(C:Ctx)(e:Expr):Option F:=match rkc C with
 |none=>none
 |some (A,ms)=>(match e with
  |.Compare a [op] cs _=>(one cs).bind λb=>aLj dE C A op a b
  |.Subscript a b _=>(atF C "held" a).bind λi=>(dE b).map λg=>vI A i g
  |.Call f as kws cp=>if kws.isEmpty then(match f with
   |.Attribute o m ap=>if(ap.endLine==cp.line)=true then aLk dE C A ms o m as else none
   |.Name x _=>(one as).bind λa=>aRt C A x a
   |_=>none)else none
  |_=>none)
def jH:List D->Option (List (Str×D))
 |[]=>some []
 |d::r=>match d with
  |.tup [.str k,x]=>(jH r).map ((k,x):: ·)
  |_=>none
def rF(ps:List (Str×D)):List (Str×D):=ps.foldl (λacc p=>fR acc p.1 p.2) []
def mC(x:D):R:=match x with
 |.lst ds=>(match jH ds with
  |some ps=>if ps.length<=1000 then .ok (.dct ((rF ps).map (·.1)) ((rF ps).map (·.2)))else .bad
  |none=>.bad)
 |_=>.bad
def mD(f:F):F:=λρ=>(f ρ).bind mC
def aO1(o:Option Expr):Option Str:=o.bind λe=>match e with
 |.Constant c _ _=>(match c with|.str x=>some x|_=>none)
 |_=>none
def aPy:List (Option Expr)->Option (Option Expr×Option Expr)
 |[a,b]=>some (a,b)
 |_=>none
def dkD(dE:Expr->Option F)(ks:List (Option Expr))(vs:List Expr):Option F:=if ks.isEmpty&&vs.isEmpty then some kG else
 (aPy ks).bind λ(k1,k2)=>(two vs).bind λ(v1,v2)=>(aO1 k1).bind λx=>(aO1 k2).bind λy=>(dE v1).bind λf=>(dE v2).map λg=>sW x y f g
def dkE(dE:Expr->Option F)(C:Ctx)(e:Expr):Option F:=match e with
 |.Call f as kws cp=>if kws.isEmpty then(match f with
  |.Attribute o m ap=>if m="get"/\aGf o=true/\(ap.endLine==cp.line)=true then(two as).bind λ(a,b)=>(dE o).bind λf=>(dE a).bind λg=>(dE b).map λh=>pA f g h else none
  |.Name x _=>(one as).bind λa=>(match loc C x,glo C x with
   |none,some (.py .dict)=>(dE a).map λf=>mD f
   |_,_=>none)
  |_=>none)else none
 |_=>none
def rkE(dE:Expr->Option F)(C:Ctx)(e:Expr):Option F:=match aO0 dE C e with
 |some f=>some f
 |none=>dkE dE C e
def aB0(C:Ctx)(e:Expr):Option Expr:=match e with
 |.Call f as kws _=>if kws.isEmpty then(cG f).bind λ(x,_)=>(one as).bind λa=>(match loc C x,glo C x with
  |none,some (.py .dict)=>some a
  |_,_=>none)else none
 |_=>none
def bsN(C:Ctx)(e:Expr):Bool:=match e with|.Name x _=>C.bs.contains x|_=>false
def aGj(dE dL:Expr->Option F)(C:Ctx)(p:Py)(as:List Expr):Option F:=match p with
 |.len=>(one as).bind λa=>(dL a).map λf=>aG rD [f]
 |.int=>(one as).bind λa=>(dL a).map λf=>aG aBg [f]
 |.tuple=>(one as).bind λa=>(dL a).map λf=>aG gN [f]
 |.list=>(one as).bind λa=>(match dL a with
  |some f=>some (aG vG [f])
  |none=>(aGh dE C a).map λf=>aG vG [f])
 |.sum=>(one as).bind λa=>(dL a).map λf=>aG aBh [f]
 |.all=>(one as).bind λa=>(dL a).map λf=>aG aJ5 [f]
 |.any=>none
 |.abs=>none
 |.sorted=>(one as).bind λa=>(dL a).map λf=>aG cD [f]
 |.min=>none
 |.max=>none
 |.isin=>(two as).bind λ(a,b)=>(cG b).bind λ(t,_)=>(if bsN C a then dL a else dE a).bind λf=>(glo C t).bind λg=>(isP g).map λP=>rIs P f
 |_=>none
def wW(dE:Expr->Option F)(C:Ctx)(tt:Bool)(x:Str)(as:List Expr):Option F:=match glo C x,as with
 |some (.py .range),[a]=>(dE a).map cS
 |some (.py .zip),[a,b]=>if tt then(dE a).bind λf=>(dE b).map λg=>o7 f g else none
 |_,_=>none
def aEk(x:Str):Str:=x++"{}"
mutual
def bN:Nat->Ctx->Expr->Option F
 |0,_,_=>none
 |n+1,C,e=>match e with
  |.Name x _=>(match loc C x with
   |some i=>some (aA i)
   |none=>match glo C x with
    |some (.val d)=>some (rK d)
    |some (.fn k _ _)=>some (rK (.fn k))
    |_=>none)
  |.Constant c _ _=>(kD c).map rK
  |.BinOp a op b _=>(bN n C a).bind λf=>(bN n C b).map λg=>bF op f g
  |.UnaryOp op a _=>(bN n C a).bind λf=>(match op with|.Not=>some (o0 f)|_=>none)
  |.BoolOp op es p=>(match es with
   |[a,b]=>(bN n C a).bind λf=>(bN n C b).map λg=>(match op with|.And=>hX f g|.Or=>rOr f g)
   |a::b::c::r=>(bN n C a).bind λf=>(bN n C (.BoolOp op (b::c::r) p)).map λg=>(match op with|.And=>hX f g|.Or=>rOr f g)
   |_=>none)
  |.Compare a ops cs q=>(match rkE (bN n C) C (.Compare a ops cs q)with
   |some f=>some f
   |none=>match ops with
   |[op]=>(one cs).bind λb=>(bN n C a).bind λf=>(bN n C b).map λg=>aY op f g
   |[op,op']=>(two cs).bind λ(b,c)=>(bN n C a).bind λf=>(bN n C b).bind λg=>(bN n C c).map λh=>jG op op' f g h
   |_=>none)
  |.Dict ks vs _=>dkD (bN n C) ks vs
  |.Tuple es _ _=>if es.length<=1000 then(dR (bN n C) es).map eF else none
  |.List es _=>if es.length<=1000 then(dR (bN n C) es).map iU else none
  |.Subscript a b q=>(match rkE (bN n C) C (.Subscript a b q)with
   |some f=>some f
   |none=>(aBi n C a).bind λf=>(bN n C b).map λg=>rIx f g)
  |.ListComp elt gens sc _=>(match gens with
   |[⟨tg,it,ifs,as⟩]=>if as=0 then(bZ tg).bind λ(xs,k)=>(aEl n C (k != 0) it).bind λfi=>if kF sc xs then
     (dR (λx=>eO C x) (aP sc)).bind λcs=>(match ifs with
     |[]=>some none
     |[c]=>(bN n {C with sc:=sc,N:=xs++aP sc} c).map some
     |_=>none).bind λc=>(bN n {C with sc:=sc,N:=xs++aP sc} elt).map λe=>bB k cs fi c e
    else none else none
   |_=>none)
  |.Call f as kws cp=>(match rkE (bN n C) C (.Call f as kws cp)with
   |some f=>some f
   |none=>(if kws.isEmpty then(match f with
   |.Name x _=>(match loc C x with
    |some _=>none
    |none=>(match glo C x with
     |some (.fn _ k f)=>if as.isEmpty then none else(dR (bN n C) as).bind λfs=>if fs.length=k then some (aG f fs)else none
     |some (.py p)=>aGj (bN n C) (aBi n C) C p as
     |_=>none))
   |_=>none)else none))
  |_=>none
def aBi:Nat->Ctx->Expr->Option F
 |0,_,_=>none
 |n+1,C,e=>match e with
  |.Name x p=>(match loc C x with
   |some i=>some (aD i)
   |none=>bN n C (.Name x p))
  |e=>bN n C e
def aEl:Nat->Ctx->Bool->Expr->Option F
 |0,_,_,_=>none
 |n+1,C,tt,e=>match e with
  |.Call f as kws q=>(match f with
   |.Name x p=>(match loc C x,glo C x,kws with
    |none,some (.py .range),[]=>wW (bN n C) C tt x as
    |none,some (.py .zip),[]=>wW (bN n C) C tt x as
    |none,some (.py .enum),[]=>wW (bN n C) C tt x as
    |_,_,_=>bN n C (.Call (.Name x p) as kws q))
   |f=>bN n C (.Call f as kws q))
  |e=>aBi n C e
end
def gv:Nat->Expr->List Str
 |0,_=>[]
 |n+1,e=>match e with
  |.Name x _=>[x]
  |.BinOp a _ b _=>gv n a++gv n b
  |.UnaryOp _ a _=>gv n a
  |.BoolOp _ as _=>as.flatMap (gv n)
  |.Compare a [_] [b] _=>(if aGf a then []else gv n a)++(if aGf b then []else gv n b)
  |.Compare a _ bs _=>gv n a++bs.flatMap (gv n)
  |.IfExp a b c _=>gv n a++gv n b++gv n c
  |.Tuple es _ _=>es.flatMap (gv n)
  |.List es _=>es.flatMap (gv n)
  |.Slice lo hi _ _=>(lo.map (gv n)).getD []++(hi.map (gv n)).getD []
  |.Subscript (.Name _ _) b _=>gv n b
  |.Subscript a b _=>gv n a++gv n b
  |.ListComp elt [⟨_,.Name _ _,ifs,_⟩] _ _=>ifs.flatMap (gv n)++gv n elt
  |.ListComp elt [⟨_,it,ifs,_⟩] _ _=>gv n it++ifs.flatMap (gv n)++gv n elt
  |.Call (.Name x _) as _ _=>if x="len"\/x="tuple"\/x="list"\/x="sum"\/x="sorted"\/x="all"\/x="any"\/x="isinstance" then
    as.flatMap λa=>match a with|.Name _ _=>[]|a=>gv n a else x::as.flatMap (gv n)
  |.Call (.Attribute (.Name _ _) _ _) as _ _=>as.flatMap (gv n)
  |.Call (.Attribute o _ _) as _ _=>gv n o++as.flatMap (gv n)
  |.Call f as _ _=>gv n f++as.flatMap (gv n)
  |_=>[]
def lV(C:Ctx)(e:Expr):List Nat:=match C.bs with
 |[]=>[]
 |_=>((gv 50 e).filter λx=>C.bs.contains x).filterMap λx=>loc C x
def eS(is:List Nat)(s:FS):FS:=match is with
 |[]=>s
 |is=>aOy is s
def aBj:Nat->List Stmt->List Str
 |0,_=>[]
 |n+1,ss=>ss.flatMap λs=>match s with
  |.Assign [.Subscript (.Name x _) _ _] _ _=>[x]
  |.Assign [.Name x _] (.Dict [] [] _) _=>[aEk x]
  |.Assign [.Tuple [_,.Name x _] _ _] (.Tuple [_,.Dict [] [] _] _ _) _=>[aEk x]
  |.AugAssign (.Subscript (.Name x _) _ _) _ _ _=>[x]
  |.Assign [.Tuple [.Subscript (.Name x _) _ _,_] _ _] _ _=>[x]
  |.Expr (.Call (.Attribute (.Name x _) m _) _ _ _) _=>if m="append"\/m="extend"\/m="remove" then [x]else []
  |.If _ a b _=>aBj n a++aBj n b
  |.For _ _ b _ _=>aBj n b
  |.While _ b _ _=>aBj n b
  |.Return (some (.Name x _)) _=>if x="numbers" then [x]else []
  |_=>[]
def wX:Expr->Bool
 |.Call _ _ _ _=>true
 |.Name _ _=>true
 |.Subscript _ _ _=>true
 |.ListComp _ _ _ _=>true
 |_=>false
def aGk(C:Ctx)(x y:Str)(px py:Pos)(a b:Expr):Bool:=
 C.sc.names.lookup x==some .local&&C.sc.names.lookup y==some .local&&x != y&&px.line==py.line&& !([a,b].all (foldedForSure 8))&& !([a,b].all (constantsAlone 8))&& !C.bs.contains x&& !C.bs.contains y
def kH(C:Ctx)(x y:Str):Bool:=(C.sc.names.lookup x==some .cell||C.sc.names.lookup y==some .cell)&& !C.bs.contains x&& !C.bs.contains y
def aTi:Operator->Bool
 |.Add=>true
 |_=>false
def aRu:Operator->Bool
 |.Add=>true
 |.Sub=>true
 |_=>false
structure Par where
 x:Str
 px:Pos
 y:Str
 py:Pos
 a:Expr
 b:Expr
def aLl(es:List Expr)(e:Expr):Option Par:=(two es).bind λ(u,v)=>(cG u).bind λ(x,px)=>(cG v).bind λ(y,py)=>(aGe e).bind λ(vs,_)=>(two vs).map λ(a,b)=>⟨x,px,y,py,a,b⟩
structure Par3 where
 x:Str
 px:Pos
 y:Str
 py:Pos
 z:Str
 pz:Pos
 a:Expr
 b:Expr
 c:Expr
def aB1:List Expr->Option (Expr×Expr×Expr)
 |[a,b,c]=>some (a,b,c)
 |_=>none
def aTj(es:List Expr)(e:Expr):Option Par3:=(aB1 es).bind λ(u,v,w)=>(cG u).bind λ(x,px)=>(cG v).bind λ(y,py)=>(cG w).bind λ(z,pz)=>(aGe e).bind λ(vs,_)=>(aB1 vs).map λ(a,b,c)=>⟨x,px,y,py,z,pz,a,b,c⟩
def aRv(C:Ctx)(q:Par3):Bool:=
 C.sc.names.lookup q.x==some .local&&C.sc.names.lookup q.y==some .local&&C.sc.names.lookup q.z==some .local&&q.x != q.y&&q.x != q.z&&q.y != q.z&&q.px.line==q.py.line&&q.px.line==q.pz.line&& !([q.a,q.b,q.c].all (foldedForSure 8))&& !([q.a,q.b,q.c].all (constantsAlone 8))&& !C.bs.contains q.x&& !C.bs.contains q.y&& !C.bs.contains q.z
def aRw:Expr->Option (Str×Expr)
 |.Subscript o k _=>(cG o).map λ(x,_)=>(x,k)
 |_=>none
def aTk(es:List Expr)(e:Expr):Option (Str×Expr×Expr):=(two es).bind λ(u,v)=>(aRw u).bind λ(x,k)=>(aRw v).bind λ(y,l)=>(aGe e).bind λ(vs,_)=>(two vs).bind λ_=>if x=y then some (x,k,l)else none
def aLm:List Stmt->Option Stmt
 |[s]=>some s
 |_=>none
def aSy:Stmt->Option (Str×Str)
 |.Assign ts e _=>(one ts).bind λt=>(cG t).bind λ(x,_)=>(cG e).map λ(y,_)=>(x,y)
 |_=>none
def aTl(C:Ctx)(hs:List ExceptHandler):Option (Nat×Nat):=match hs with
 |[.ExceptHandler ty nm b _]=>ty.bind λte=>nm.bind λe=>(cG te).bind λ(cx,_)=>(aLm b).bind λs=>(aSy s).bind λ(x,e')=>(match loc C cx,glo C cx with
  |none,some (.exc c)=>if c=0/\e=e' then(loc C e).bind λi=>(loc C x).bind λj=>if C.sc.names.lookup e==some .local&&i != j&&C.bs.isEmpty then some (i,j)else none else none
  |_,_=>none)
 |_=>none
mutual
def aBk:Nat->Bool->Ctx->Stmt->Option FS
 |0,_,_,_=>none
 |n+1,t,C,s=>match s with
  |.Pass _=>some a9
  |.Return v _=>(match v with
   |none=>none
   |some e=>(match cG e with
    |some (x,_)=>(match loc C x with
     |some i=>some (dG (aA i))
     |none=>(bN 50 C e).map dG)
    |none=>(bN 50 C e).map λf=>eS (lV C e) (dG f)))
  |.Assign ts e _=>(one ts).bind λtg=>(match tg with
   |.Name x _=>(loc C x).bind λi=>(match if C.bs.contains x then aB0 C e else none with
    |some a=>(bN 50 C a).map λf=>eS (lV C a) (l9 i f)
    |none=>(bN 50 C e).map λf=>eS (lV C e) (if C.bs.contains x then sV i f else g6 i f))
   |.Tuple es a b=>(match aLl es e with
    |some ⟨x,px,y,py,a,b⟩=>if aGk C x y px py a b then(loc C x).bind λi=>(loc C y).bind λj=>(bN 50 C a).bind λf=>(bN 50 C b).map λg=>eS (lV C e) (fQ [i,j] (eF [f,g]))else if kH C x y then(loc C x).bind λi=>(loc C y).bind λj=>(bN 50 C e).map λf=>eS (lV C e) (fQ [i,j] f)else none
    |none=>(if wX e then some ()else none).bind λ_=>(bZ (.Tuple es a b)).bind λ(xs,_)=>(dR (λx=>loc C x) xs).bind λis=>if xs.all (λx=> !C.bs.contains x)then
     (bN 50 C e).map λf=>eS (lV C e) (fQ is f)else none)
   |.Subscript o k _=>(cG o).bind λ(x,_)=>(loc C x).bind λi=>if C.bs.contains x then(bN 50 C e).bind λf=>(bN 50 C k).map λg=>eS (lV C e++lV C k) (wC i g f)else none
   |_=>none)
  |.Expr e _=>(match e with
   |.Call f as kws cp=>if kws.isEmpty then(match f with
    |.Name x p=>(bN 50 C (.Call (.Name x p) as [] cp)).map λf=>eS (lV C (.Call (.Name x p) as [] cp)) (jN f)
    |_=>none)else none
   |_=>none)
  |.If c a b _=>(bN 50 C c).bind λf=>(kJ n t C a).bind λg=>(kJ n t C b).map λh=>eS (lV C c) (sIf f g h)
  |.Raise x c _=>if t||c.isSome then none else x.bind λe=>(match e with
   |.Call f as kws _=>if kws.isEmpty then(cG f).bind λ(x,_)=>(one as).bind λa=>if aGg a then(match loc C x,glo C x with
    |none,some (.exc c)=>some (l8 c)
    |_,_=>none)else none else none
   |_=>none)
  |_=>none
def kJ:Nat->Bool->Ctx->List Stmt->Option FS
 |0,_,_,_=>none
 |n+1,t,C,ss=>match ss with
  |[]=>some a9
  |[a]=>some ((aBk n t C a).getD aOz)
  |a::r=>(kJ n t C r).map λg=>bL ((aBk n t C a).getD aOz) g
end
noncomputable def eG(a:Arguments):Option (List Str):=if a.posonlyargs.isEmpty&&a.vararg.isNone&&a.kwonlyargs.isEmpty&&a.kwarg.isNone&&a.defaults.isEmpty then some (a.args.map (·.arg))else none
noncomputable def aC(sc:Scope):List Str:=(sc.names.filter λp=>p.2== .local||p.2== .cell).map (·.1)
noncomputable def bT(N P:List Str)(sc:Scope):Bool:=
 sc.kind== .function&& !sc.isCoroutine&& !sc.isGenerator&&decide N.Nodup&&decide (N.take P.length=P)&&
  P.all (λx=>sc.names.lookup x==some .local||sc.names.lookup x==some .cell)&&sc.names.all (λp=>p.2 != .free)&&N.all (λx=>x != "__debug__"&&x != "__classdict__")
def aGl(tab:List (Str×Gl))(fns:List (Nat×Fn))(s:Stmt):Option (Nat×Fn):=match s with
 |.FunctionDef _ as b _ _ _ sc _ _ _=>(eG as).bind λP=>if bT (aC sc) P sc then
   (kJ 100 false ⟨tab,fns,sc,aC sc,aBj 50 b⟩ b).map λg=>(P.length,fnOf (aC sc).length g)else none
 |_=>none
def aJ8(g:Gl):D->Option Bool:=(isP g).getD λ_=>none
def aLn:D->Option Bool:=aJ8 (.py .int)
def aGm:D->Option Bool:=aJ8 (.py .bool)
def m7:D->Option Bool:=aJ8 (.py .tuple)
def aLo:D->Option Bool:=aJ8 (.py .str)
def lW:Nat->D->Option Bool
 |100=>aJ8 .verr
 |c=>aJ8 (.exc c)
mutual
def dS:D->PyData
 |.non=>.none
 |.bl b=>.bool b
 |.int i=>.int i
 |.str x=>.str x
 |.tup xs=>.tuple (eT xs)
 |.lst xs=>.list (eT xs)
 |.exc _=>.none
 |.fn _=>.none
 |.dct _ _=>.none
def eT:List D->List PyData
 |[]=>[]
 |x::xs=>dS x::eT xs
end
mutual
theorem jI: ∀{d:D},plain d=true->(dS d).canLay0=true
 |.non,_=>by simp[dS,PyData.canLay0]
 |.bl _,_=>by simp[dS,PyData.canLay0]
 |.int _,_=>by simp[dS,PyData.canLay0]
 |.str x,h=>by
  unfold plain at h;simp only[dS,PyData.canLay0];exact h
 |.tup xs,h=>by
  simp only[dS,PyData.canLay0];exact rH (by simpa[plain]using h)
 |.lst xs,h=>by
  simp only[dS,PyData.canLay0];exact rH (by simpa[plain]using h)
 |.exc _,h=>by simp[plain]at h
 |.fn _,h=>by simp[plain]at h
 |.dct _ _,h=>by simp[plain]at h
theorem rH: ∀{ds:List D},bP ds=true->PyData.canLayAll0 (eT ds)=true
 |[],_=>by simp[eT,PyData.canLayAll0]
 |d::ds,h=>by
  have a:plain d=true/\bP ds=true:=by simpa[bP]using h
  simp only[eT,PyData.canLayAll0,jI a.1,rH a.2,Bool.and_self]
end
mutual
theorem kM: ∀(d:D),(dS d).depth=dep d
 |.non=>by simp[dS,PyData.depth,dep]
 |.bl _=>by simp[dS,PyData.depth,dep]
 |.int _=>by simp[dS,PyData.depth,dep]
 |.str x=>by simp[dS,PyData.depth,dep]
 |.tup a=>by simp[dS,PyData.depth,dep,rJ a]
 |.lst a=>by simp[dS,PyData.depth,dep,rJ a]
 |.exc _=>by simp[dS,PyData.depth,dep]
 |.fn _=>by simp[dS,PyData.depth,dep]
 |.dct _ _=>by simp[dS,PyData.depth,dep]
theorem rJ: ∀(ds:List D),PyData.depthAll (eT ds)=wB ds
 |[]=>by simp[eT,PyData.depthAll,wB]
 |d::ds=>by simp[eT,PyData.depthAll,wB,kM d,rJ ds]
end
theorem aEm(b:Bool):b2i b=if b then 1 else 0:=rfl
mutual
theorem kN: ∀(x y:D),plain x=true->plain y=true->PyData.eqv (dS x) (dS y)=deq x y
 |.non,y,_,h=>by cases y<;>simp[plain]at h<;>simp[dS,PyData.eqv,deq]
 |.bl a,y,_,h=>by cases y<;>simp[plain]at h<;>simp[dS,PyData.eqv,deq,aEm]
 |.int a,y,_,h=>by cases y<;>simp[plain]at h<;>simp[dS,PyData.eqv,deq,aEm]
 |.str a,y,_,h=>by cases y<;>simp[plain]at h<;>simp[dS,PyData.eqv,deq]
 |.tup xs,y,g,h=>by
  cases y with
  |tup b=>simpa[dS,PyData.eqv,deq]using m8 xs b (by simpa[plain]using g) (by simpa[plain]using h)
  |_=>simp[plain]at h<;>simp[dS,PyData.eqv,deq]
 |.lst xs,y,g,h=>by
  cases y with
  |lst b=>simpa[dS,PyData.eqv,deq]using m8 xs b (by simpa[plain]using g) (by simpa[plain]using h)
  |_=>simp[plain]at h<;>simp[dS,PyData.eqv,deq]
 |.exc _,_,g,_=>by simp[plain]at g
 |.fn _,_,g,_=>by simp[plain]at g
 |.dct _ _,_,g,_=>by simp[plain]at g
theorem m8: ∀(xs ys:List D),bP xs=true->bP ys=true->PyData.eqvAll (eT xs) (eT ys)=vE xs ys
 |[],[],_,_=>by simp[eT,PyData.eqvAll,vE]
 |[],_::_,_,_=>by simp[eT,PyData.eqvAll,vE]
 |_::_,[],_,_=>by simp[eT,PyData.eqvAll,vE]
 |x::xs,y::ys,g,h=>by
  have a:plain x=true/\bP xs=true:=by simpa[bP]using g
  have b:plain y=true/\bP ys=true:=by simpa[bP]using h
  simp only[eT,PyData.eqvAll,vE,kN x y a.1 b.1,m8 xs ys a.2 b.2]
end
noncomputable abbrev St:=L2.St
structure Ad where
 cls:Nat->Addr
 fnA:Nat->Addr
 nb:Nat
def m9(h:Heap)(x C:Addr):Prop:= ∃o vs,h.get? x=some o/\o.cls= .ref C/\o.data= .fields vs
def aEn(C a:Addr):HO:=.ext λh=>m9 h a C
section
variable (K:PySem.W.Frag) (ad:Ad)
mutual
def Rep(G:Hp):D->V->Prop
 |.non,v=>v= .non
 |.bl b,v=>v= .bl b
 |.int i,v=>v= .int i
 |.str x,v=>v= .str x
 |.tup ds,v=>∃a vs,v= .ref a/\SqT K G a vs/\aJ G ds vs
 |.lst ds,v=>∃a vs,v= .ref a/\SqL K G a vs/\aJ G ds vs
 |.exc c,v=>∃a,v= .ref a/\G a=some (aEn (ad.cls c) a)
 |.fn k,v=>v= .ref (ad.fnA k)
 |.dct ks ds,v=>∃a o es,v= .ref a/\G a=some (.frz o (.dK es))/\es.map (·.1)=ks.map Sum.inr/\aJ G ds (es.map (·.2))
def aJ(G:Hp):List D->List V->Prop
 |[],vs=>vs=[]
 |d::ds,vs=>∃v r,vs=v::r/\Rep G d v/\aJ G ds r
end
end
section
variable {K:PySem.W.Frag} {ad:Ad} {G G' H H':Hp}
theorem _root_.L2.Same.seqT(e:Same H H')(h:SqT K H a xs):SqT K H' a xs:=by
 rcases h with (h|⟨o,h⟩)|h
 ·exact .inl (.inl (e _ _ h))
 ·exact .inl (.inr ⟨o,e _ _ h⟩)
 ·exact .inr h
mutual
theorem Rep.mono(e:Same G G'): ∀{d:D} {v:V},Rep K ad G d v->Rep K ad G' d v
 |.non,_,h=>h
 |.bl _,_,h=>h
 |.int _,_,h=>h
 |.str _,_,h=>h
 |.tup ds,v,h=>by
  unfold Rep at h ⊢;obtain⟨a,g,c,b,f⟩:=h;exact⟨a,g,c,e.seqT b,aJ.mono e f⟩
 |.lst ds,v,h=>by
  unfold Rep at h ⊢;obtain⟨a,g,c,b,f⟩:=h;exact⟨a,g,c,e.seq b,aJ.mono e f⟩
 |.exc _,_,h=>by
  unfold Rep at h ⊢;obtain⟨a,c,b⟩:=h;exact⟨a,c,e _ _ b⟩
 |.fn _,_,h=>h
 |.dct ks ds,v,h=>by
  unfold Rep at h ⊢;obtain⟨a,o,j,c,b,f,i⟩:=h;exact⟨a,o,j,c,e _ _ b,f,aJ.mono e i⟩
theorem aJ.mono(e:Same G G'): ∀{ds:List D} {vs:List V},aJ K ad G ds vs->aJ K ad G' ds vs
 |[],_,h=>h
 |d::ds,vs,h=>by
  unfold aJ at h ⊢;obtain⟨v,r,b,a,c⟩:=h;exact⟨v,r,b,Rep.mono e a,aJ.mono e c⟩
end
theorem aJ.length: ∀{ds:List D} {vs:List V},aJ K ad G ds vs->vs.length=ds.length
 |[],_,h=>by
  unfold aJ at h;subst h;rfl
 |d::ds,vs,h=>by
  unfold aJ at h;obtain⟨v,r,rfl,_,a⟩:=h;simp[aJ.length a]
theorem aJ.nil:aJ K ad G [] []:=by unfold aJ;rfl
theorem aJ.cons{d:D}{v:V}{ds:List D}{vs:List V}(h:Rep K ad G d v)(t:aJ K ad G ds vs):aJ K ad G (d::ds) (v::vs):=by
 unfold aJ;exact⟨v,vs,rfl,h,t⟩
theorem aJ.get: ∀{ds:List D} {vs:List V} {i:Nat} {d:D},aJ K ad G ds vs->ds[i]? =some d->∃v,vs[i]? =some v/\Rep K ad G d v
 |[],_,_,_,_,e=>by simp at e
 |d::ds,vs,i,d',h,e=>by
  unfold aJ at h;obtain⟨v,r,rfl,c,f⟩:=h
  cases i with
  |zero=>
   simp at e
   subst e;exact⟨v,rfl,c⟩
  |succ i=>
   obtain⟨w,a,b⟩:=aJ.get (i:=i) (d:=d') f (by simpa using e)
   exact⟨w,by simpa using a,b⟩
theorem aJ.append: ∀{ds es:List D} {vs ws:List V},aJ K ad G ds vs->aJ K ad G es ws->aJ K ad G (ds++es) (vs++ws)
 |[],_,_,_,h,t=>by
  unfold aJ at h;subst h;exact t
 |d::ds,es,vs,ws,h,t=>by
  unfold aJ at h;obtain⟨v,r,rfl,a,b⟩:=h;exact aJ.cons a (aJ.append b t)
theorem aJ.set{d:D}{v:V}(q:Rep K ad G d v): ∀(n:Nat) {ds:List D} {vs:List V},aJ K ad G ds vs->aJ K ad G (ds.set n d) (vs.set n v)
 |_,[],_,h=>by
  unfold aJ at h;subst h;exact aJ.nil
 |0,_::ds,vs,h=>by
  unfold aJ at h;obtain⟨w,r,rfl,b,a⟩:=h;exact aJ.cons q a
 |n+1,e::ds,vs,h=>by
  unfold aJ at h;obtain⟨w,r,rfl,b,a⟩:=h;exact aJ.cons b (aJ.set q n a)
theorem aJ.map_int: ∀{ns:List Int},aJ K ad G (ns.map D.int) (ns.map V.int)
 |[]=>aJ.nil
 |_::_=>aJ.cons (by unfold Rep;rfl) aJ.map_int
structure Step(G H G' H':Hp):Prop where
 sg:Same G G'
 gh:Same G' H'
 sh:Same H H'
 nw: ∀b,G b=none->G' b≠none->H b=none
theorem pB(e:Same H H')(h:H' b=none):H b=none:=e.free h
theorem Step.refl(h:Same G H):Step G H G H:=⟨Same.refl _,h,Same.refl _,λb c a=>absurd c a⟩
theorem Step.trans(a:Step G H G1 H1)(b:Step G1 H1 G2 H2):Step G H G2 H2:=
 ⟨a.sg.trans b.sg,b.gh,a.sh.trans b.sh,λx d c=>by
  cases q:G1 x with
  |none=>exact a.sh.free (b.nw x q c)
  |some o=>exact a.nw x d (by rw[q];exact λz=>nomatch z)⟩
theorem Same.upd_new(h:H p=none):Same H (upd H p o):=λb u e=>by rw[aB (aM e h)];exact e
theorem Step.new(h:Same G H)(n:H p=none):Step G H (upd G p o) (upd H p o):=by
 have c:G p=none:=h.free n
 refine⟨Same.upd_new c,λb u e=>?_,Same.upd_new n,λb d a=>?_⟩
 ·by_cases q:b=p
  ·subst q;rw[aF]at e ⊢;exact e
  ·rw[aB q]at e ⊢;exact h b u e
 ·by_cases q:b=p
  ·subst q;exact n
  ·rw[aB q]at a;exact absurd d a
theorem Step.own(h:Same G H)(n:H p=none):Step G H G (upd H p o):=
 ⟨Same.refl _,h.trans (Same.upd_new n),Same.upd_new n,λb c a=>absurd c a⟩
theorem Step.shareO(s:Step G H G' H')(n:H p=none)(m:G' p=none)(e:H' p=some o):Step G H (upd G' p o) H':=by
 refine⟨s.sg.trans (Same.upd_new m),λb u q=>?_,s.sh,λb c a=>?_⟩
 ·by_cases z:b=p
  ·subst z;rw[aF]at q;rw[e];exact q
  ·rw[aB z]at q;exact s.gh b u q
 ·by_cases z:b=p
  ·subst z;exact n
  ·rw[aB z]at a;exact s.nw b c a
theorem Step.share(s:Step G H G' H')(n:H p=none)(m:G' p=none)(e:H' p=some (.lst vs)):Step G H (upd G' p (.lst vs)) H':=s.shareO n m e
mutual
def hD:D->Int
 |.non=>0xFCA86420
 |.int i=>hashInt i
 |.tup xs=>reduceHash (Builtin.Tuple.tupleHashOf (hDs xs))
 |_=>0
def hDs:List D->List Int
 |[]=>[]
 |x::xs=>hD x::hDs xs
end
def HR(K:PySem.W.Frag)(ad:Ad)(G:Hp):List (Str×D)->List (Key×V)->Prop:=Paired λp q=>q.1=Sum.inr p.1/\Rep K ad G p.2 q.2
def dcO(_:Addr)(es:List (Key×V)):HO:=.dK es
def sdO(_:Addr)(es:Obj×List (Key×V)):HO:=.frz es.1 (.dK es.2)
abbrev DR:=HR
def KOk(_:List (Str×D)):Prop:=True
theorem HR.mono(h:HR K ad G ps qs)(e:Same G G'):HR K ad G' ps qs:=Paired.mapP h λ_ _ z=>⟨z.1,z.2.mono e⟩
structure RackIn(K:PySem.W.Frag)(ad:Ad)(C:Addr)(G H:Hp)(p:Addr)(r:Rk)(dx d l1 l2:Addr):Prop where
 ins:H p=some (.ins C dx [("held",.ref d),("done",.ref l1),("undone",.ref l2)])
 own:H dx=some (.own p)
 held: ∃kvs,H d=some (.dK kvs)/\HR K ad G r.held kvs
 done: ∃vs,H l1=some (.lst vs)/\aJ K ad G r.done vs
 undone: ∃vs,H l2=some (.lst vs)/\aJ K ad G r.undone vs
 ne:l1≠l2
 gp:G p=none
 gx:G dx=none
 gd:G d=none
 g1:G l1=none
 g2:G l2=none
theorem Step.gnone(st:Step G H G' H')(g:G b=none)(h:H b=some o):G' b=none:=by
 cases q:G' b with
 |none=>rfl
 |some a=>
  have:=st.nw b g (by rw[q];exact λz=>nomatch z)
  rw[h]at this;cases this
theorem RackIn.step(h:RackIn K ad C G H p r dx d l1 l2)(st:Step G H G' H'):RackIn K ad C G' H' p r dx d l1 l2:=by
 obtain⟨a,c,i⟩:=h.held;obtain⟨g,b,l⟩:=h.done;obtain⟨j,e,f⟩:=h.undone;exact⟨st.sh _ _ h.ins,st.sh _ _ h.own,⟨a,st.sh _ _ c,i.mono st.sg⟩,⟨g,st.sh _ _ b,l.mono st.sg⟩,⟨j,st.sh _ _ e,f.mono st.sg⟩,h.ne,st.gnone h.gp h.ins,st.gnone h.gx h.own,st.gnone h.gd c,st.gnone h.g1 b,st.gnone h.g2 e⟩
theorem RackIn.up(h:RackIn K ad C G H p r dx d l1 l2)(s:Same H H'):RackIn K ad C G H' p r dx d l1 l2:=by
 obtain⟨a,g,f⟩:=h.held;obtain⟨c,e,j⟩:=h.done;obtain⟨i,l,b⟩:=h.undone;exact⟨s _ _ h.ins,s _ _ h.own,⟨a,s _ _ g,f⟩,⟨c,s _ _ e,j⟩,⟨i,s _ _ l,b⟩,h.ne,h.gp,h.gx,h.gd,h.g1,h.g2⟩
def SLi(K:PySem.W.Frag)(ad:Ad)(G H:Hp):Slot->Option V->Prop
 |.no,_=>True
 |.sh d,ov=>∃v,ov=some v/\Rep K ad G d v
 |.ow xs,ov=>∃a vs,ov=some (.ref a)/\G a=none/\H a=some (.lst vs)/\aJ K ad G xs vs
 |.dc kvs,ov=>∃a es,ov=some (.ref a)/\G a=none/\H a=some (dcO a es)/\DR K ad G kvs es/\KOk kvs
 |.sd kvs,ov=>∃a es,ov=some (.ref a)/\G a=none/\H a=some (sdO a es)/\DR K ad G kvs es.2/\KOk kvs
 |.rk C r,ov=>∃p dx d l1 l2,ov=some (.ref p)/\RackIn K ad C G H p r dx d l1 l2
structure SL(K:PySem.W.Frag)(ad:Ad)(G H:Hp)(ρ:Rho)(σ:St):Prop where
 len:ρ.length=σ.length
 at_: ∀(i:Nat) (s:Slot),ρ[i]? =some s->∃ov,σ[i]? =some ov/\SLi K ad G H s ov
theorem SLi.step(st:Step G H G' H'): ∀{s:Slot} {ov:Option V},SLi K ad G H s ov->SLi K ad G' H' s ov
 |.no,_,_=>trivial
 |.sh d,_,⟨v,h1,h2⟩=>⟨v,h1,h2.mono st.sg⟩
 |.ow xs,_,⟨a,vs,h1,h2,h3,h4⟩=>by
  refine⟨a,vs,h1,?_,st.sh _ _ h3,h4.mono st.sg⟩
  cases q:G' a with
  |none=>rfl
  |some o=>
   have:=st.nw a h2 (by rw[q];exact λz=>nomatch z)
   rw[h3]at this;cases this
 |.dc kvs,_,⟨a,es,h1,h2,h3,h4,h5⟩=>by
  refine⟨a,es,h1,?_,st.sh _ _ h3,h4.mono st.sg,h5⟩
  cases q:G' a with
  |none=>rfl
  |some o=>
   have:=st.nw a h2 (by rw[q];exact λz=>nomatch z)
   rw[h3]at this;cases this
 |.sd kvs,_,⟨a,es,h1,h2,h3,h4,h5⟩=>by
  refine⟨a,es,h1,?_,st.sh _ _ h3,h4.mono st.sg,h5⟩
  cases q:G' a with
  |none=>rfl
  |some o=>
   have:=st.nw a h2 (by rw[q];exact λz=>nomatch z)
   rw[h3]at this;cases this
 |.rk C r,_,⟨p,dx,d,l1,l2,h1,h2⟩=>⟨p,dx,d,l1,l2,h1,h2.step st⟩
theorem SL.step(h:SL K ad G H ρ σ)(st:Step G H G' H'):SL K ad G' H' ρ σ:=
 ⟨h.len,λi s e=>let ⟨ov,h1,h2⟩:=h.at_ i s e;⟨ov,h1,h2.step st⟩⟩
theorem SL.sh{i:Nat}(h:SL K ad G H ρ σ)(e:ρ[i]? =some (.sh d)): ∃v,σ[i]? =some (some v)/\Rep K ad G d v:=by
 obtain⟨c,a,v,rfl,b⟩:=h.at_ i _ e;exact⟨v,a,b⟩
theorem SL.ow{i:Nat}(h:SL K ad G H ρ σ)(e:ρ[i]? =some (.ow xs)): ∃a vs,σ[i]? =some (some (.ref a))/\G a=none/\H a=some (.lst vs)/\aJ K ad G xs vs:=by
 obtain⟨d,b,a,vs,rfl,c⟩:=h.at_ i _ e;exact⟨a,vs,b,c⟩
theorem SL.dc{i:Nat}(h:SL K ad G H ρ σ)(e:ρ[i]? =some (.dc kvs)): ∃a es,σ[i]? =some (some (.ref a))/\G a=none/\H a=some (dcO a es)/\DR K ad G kvs es/\KOk kvs:=by
 obtain⟨d,b,a,es,rfl,c⟩:=h.at_ i _ e;exact⟨a,es,b,c⟩
theorem SL.rk{i C:Nat}(h:SL K ad G H ρ σ)(e:ρ[i]? =some (.rk C r)): ∃p dx d l1 l2,σ[i]? =some (some (.ref p))/\RackIn K ad C G H p r dx d l1 l2:=by
 obtain⟨c,a,p,dx,d,l1,l2,rfl,b⟩:=h.at_ i _ e;exact⟨p,dx,d,l1,l2,a,b⟩
def RK(K:PySem.W.Frag)(ad:Ad)(G H:Hp)(r:R)(Q:VK)(E:Nat->Hp->Prop):Prop:=match r with
 |.ok d=>∀v G' H',Step G H G' H'->Rep K ad G' d v->Q v H'
 |.ow xs=>∀p vs G' H',Step G H G' H'->H p=none->G' p=none->H' p=some (.lst vs)->aJ K ad G' xs vs->Q (.ref p) H'
 |.ex c=>∀G' H',Step G H G' H'->E c H'
 |.bad=>False
theorem RK.step(h:RK K ad G H r Q E)(st:Step G H G' H'):RK K ad G' H' r Q E:=by
 cases r with
 |ok d=>exact λv b a f q=>h v b a (st.trans f) q
 |ow i=>exact λp g b a f n m e q=>h p g b a (st.trans f) (st.sh.free n) m e q
 |ex c=>exact λb a f=>h b a (st.trans f)
 |bad=>exact h
theorem RK.ok_now(h:RK K ad G H (.ok d) Q E)(e:Same G H)(q:Rep K ad G d v):Q v H:=h v G H (Step.refl e) q
theorem RK.ow_new(h:RK K ad G H (.ow xs) Q E)(e:Same G H)(q:aJ K ad G xs vs)(n:H p=none):Q (.ref p) (upd H p (.lst vs)):=
 h p vs G (upd H p (.lst vs)) (Step.own e n) n (e.free n) aF q
theorem RK.tup_new(h:RK K ad G H (.ok (.tup xs)) Q E)(e:Same G H)(q:aJ K ad G xs vs)(n:H p=none):Q (.ref p) (upd H p (.tup vs)):=by
 refine h (.ref p) (upd G p (.tup vs)) (upd H p (.tup vs)) (Step.new e n) ?_;unfold Rep;exact⟨p,vs,rfl,SqT.of aF,q.mono (Same.upd_new (e.free n))⟩
end
def CXe(P:Program)(w:World):CXT:=λouter H s E e s'=>
 ∃(ea:Addr) (cls a0:Value) (H':Hp) (B:Heap),e= .ref ea/\s'.os=s.os/\AllBare s'.gens/\Heap.FlyingW B outer ea cls a0 s'.heap/\Un (frs outer) [] H H' s.heap s'.heap/\
  HOk P w H' s'.heap/\H' ea=none/\(∀b o,s.heap.get? b=some o->b∉frs outer->∃o',B.get? b=some o')/\(∀b o,H' b=some o->∃o',B.get? b=some o')/\E cls none H'
def xk(ad:Ad)(E:Nat->Hp->Prop):XK:=λcls _ H'=>∃c,cls= .ref (ad.cls c)/\E c H'
def XP(X:Cx)(ad:Ad)(σ:St)(E:Nat->Hp->Prop):Prop:=
 ∀(ce:cg) (H:Hp) (s:Shared) (e:Value) (s':Shared),Inv X ce σ H s->CXe X.prog X.w X.stack H s (xk ad E) e s'->X.xe e s'
def tE(X:Cx)(ad:Ad)(f:F):TE:=λσ H Q=>∃G ρ E,Same G H/\SL X.K ad G H ρ σ/\XP X ad σ E/\RK X.K ad G H (f ρ) Q E
abbrev ME(X:Cx)(ad:Ad)(e:Expr)(f:F):Prop:=PE X e (tE X ad f)
def kO(r:R):Prop:=(∃b,r= .ok (.bl b))\/∃c,r= .ex c
def tT(X:Cx)(ad:Ad)(f:F):TT:=λσ H Q=>∃G ρ E,Same G H/\SL X.K ad G H ρ σ/\XP X ad σ E/\kO (f ρ)/\RK X.K ad G H (f ρ) (λv H'=>∃b,v= .bl b/\Q b H') E
theorem tE.el{ad:Ad}{σ:St}{P:Prop}(h:tE X ad f σ H Q)(k: ∀G ρ E,Same G H->SL X.K ad G H ρ σ->XP X ad σ E->RK X.K ad G H (f ρ) Q E->P):P:=by
 obtain⟨G,ρ,E,c,a,d,b⟩:=h;exact k G ρ E c a d b
theorem tT.el{ad:Ad}{σ:St}{P:Prop}(h:tT X ad f σ H Q)(k: ∀G ρ E,Same G H->SL X.K ad G H ρ σ->XP X ad σ E->kO (f ρ)->RK X.K ad G H (f ρ) (λv H'=>∃b,v= .bl b/\Q b H') E->P):P:=by
 obtain⟨G,ρ,E,d,a,g,e,c⟩:=h;exact k G ρ E d a g e c
abbrev MT(X:Cx)(ad:Ad)(e:Expr)(f:F):Prop:=PT X e (tT X ad f)
abbrev MW(X:Cx)(ad:Ad)(e:Expr)(f:F):Prop:=PW X e (tT X ad f)
def AK(K:PySem.W.Frag)(ad:Ad)(G H:Hp)(r:RA)(Q:List V->Hp->Prop)(E:Nat->Hp->Prop):Prop:=match r with
 |.ok ds=>∀vs G' H',Step G H G' H'->aJ K ad G' ds vs->Q vs H'
 |.ex c=>∀G' H',Step G H G' H'->E c H'
 |.bad=>False
def tA(X:Cx)(ad:Ad)(fs:List F):TA:=λσ H Q=>∃G ρ E,Same G H/\SL X.K ad G H ρ σ/\XP X ad σ E/\AK X.K ad G H (args fs ρ) Q E
abbrev MA(X:Cx)(ad:Ad)(es:List Expr)(fs:List F):Prop:=PA X es (tA X ad fs)
section
variable {X:Cx} {ad:Ad} {ce:cg} {s:Shared} {σ:St} {H G:Hp} {ρ:Rho} {Q:VK} {E:Nat->Hp->Prop} {pos:Pos} {a b c:Expr} {f g h:F}
theorem cY(st:Step G H G1 H1)(n:H p=none)(m:G1 p=none)(e:H1 p=some (.lst vs))(q:aJ X.K ad G1 xs vs):
  ∃G2,Step G H G2 H1/\Rep X.K ad G2 (.lst xs) (.ref p):=by
 refine⟨upd G1 p (.lst vs),st.share n m e,?_⟩;unfold Rep;exact⟨p,vs,rfl,SqL.of aF,q.mono (Same.upd_new m)⟩
theorem ME.thn(ha:ME X ad a f)(I:Inv X ce σ H s)(hG:Same G H)(hS:SL X.K ad G H ρ σ)(hx:XP X ad σ E)(hr:RK X.K ad G H ((f ρ).bind k) Q E):
  wpAny (model X.prog X.w) X.A (eval a X.env) (λu s1=>∃v d G1 H1,Inv X ce σ H1 s1/\bA v u/\Step G H G1 H1/\Rep X.K ad G1 d v/\RK X.K ad G1 H1 (k d) Q E) X.xe s:=by
 cases e:f ρ with
 |ok d=>
  rw[e]at hr;refine L2.thn (ha ce s σ H (λv H1=>∃G1,Step G H G1 H1/\Rep X.K ad G1 d v) I ⟨G,ρ,E,hG,hS,hx,by rw[e];exact λv G1 H1 b q=>⟨G1,b,q⟩⟩) λu s1 ⟨v,H1,h,g,G1,b,q⟩=>?_
  exact⟨v,d,G1,H1,h,g,b,q,RK.step hr b⟩
 |ow i=>
  rw[e]at hr;refine L2.thn (ha ce s σ H (λv H1=>∃G1,Step G H G1 H1/\Rep X.K ad G1 (.lst i) v) I ⟨G,ρ,E,hG,hS,hx,by rw[e];exact λp l G1 H1 b n m j q=>cY b n m j q⟩) λu s1 ⟨v,H1,h,g,G1,b,q⟩=>?_
  exact⟨v,.lst i,G1,H1,h,g,b,q,RK.step hr b⟩
 |ex c=>
  rw[e]at hr;refine L2.thn (ha ce s σ H (λv H1=>False) I ⟨G,ρ,E,hG,hS,hx,by rw[e];exact hr⟩) λu s1 ⟨v,H1,h,g,q⟩=>q.elim
 |bad=>
  rw[e]at hr;exact ba hr
theorem bR:Rep X.K ad G (.int i) (.int i):=by unfold Rep;rfl
theorem cT:Rep X.K ad G (.bl i) (.bl i):=by unfold Rep;rfl
theorem aGn:Rep X.K ad G .non .non:=by unfold Rep;rfl
theorem wY:Rep X.K ad G (.str i) (.str i):=by unfold Rep;rfl
theorem wZ(hN:X.N[i]? =some x)(hv:Vis X.env.scope x)(hd:(x==("__debug__":Str))=false)(hcd:(x==("__classdict__":Str))=false):ME X ad (.Name x pos) (aA i):=by
 refine λj s h H Q I m=>m.el λG f E n g p a=>?_
 unfold aA at a
 cases e:f[i]? with
 |none=>
  rw[e]at a;exact a.elim
 |some o=>
  rw[e]at a
  cases o with
  |no=>exact a.elim
  |dc b=>exact a.elim
  |sd b=>exact a.elim
  |rk _ _=>exact a.elim
  |ow q=>exact a.elim
  |sh d=>
   obtain⟨v,l,c⟩:=g.sh e;exact cP hN hv hd hcd j s h H Q I ⟨v,l,a.ok_now n c⟩
def MLk(X:Cx)(ad:Ad)(e:Expr)(f:F):Prop:=
 ∀(ce:cg) (s:Shared) (σ:St) (H G:Hp) (ρ:Rho) (k:D->R) (Q:VK) (E:Nat->Hp->Prop),Inv X ce σ H s->Same G H->SL X.K ad G H ρ σ->XP X ad σ E->RK X.K ad G H ((f ρ).bind k) Q E->
  wpAny (model X.prog X.w) X.A (eval e X.env) (λu s1=>∃v d G1 H1,Inv X ce σ H1 s1/\bA v u/\Step G H G1 H1/\(Rep X.K ad G1 d v\/∃a vs ds,d= .lst ds/\v= .ref a/\G1 a=none/\H1 a=some (.lst vs)/\aJ X.K ad G1 ds vs)/\RK X.K ad G1 H1 (k d) Q E) X.xe s
theorem ME.look(ha:ME X ad a f):MLk X ad a f:=by
 intro r s p H G n k Q E I i c j h;exact L2.thn (ha.thn I i c j h) λu o ⟨v,d,b,l,m,e,g,q,z⟩=>⟨v,d,b,l,m,e,g,.inl q,z⟩
theorem jQ(e:kD k=some d):ME X ad (.Constant k j pos) (rK d):=by
 refine λc s b H Q I g=>g.el λG h E f m l a=>?_
 cases k with
 |int i=>cases e;exact aKm c s b H Q I (a.ok_now f bR)
 |bool i=>cases e;exact aPc c s b H Q I (a.ok_now f cT)
 |none=>cases e;exact aKn c s b H Q I (a.ok_now f aGn)
 |str i=>cases e;exact aKo c s b H Q I (a.ok_now f wY)
 |float _=>cases e
 |complex _ _=>cases e
 |bytes _=>cases e
 |ellipsis=>cases e
theorem w4(hg:L2.Gl X x)(hm:X.mg x=some u)(r:bA v u)(q: ∀G,Rep X.K ad G d v)(hd:(x==("__debug__":Str))=false):ME X ad (.Name x pos) (rK d):=by
 refine λc s b H Q I e=>e.el λG g E f i h a=>?_
 exact aF0 hg hm r hd c s b H Q I (a.ok_now f (q G))
def DOp(X:Cx)(ad:Ad)(t:Value->Value->Sem Value)(r:D->D->R):Prop:=
 ∀(ce:cg) (s:Shared) (σ:St) (H G:Hp) (x y:D) (v w:V) (u z:Value) (Q:VK) (E:Nat->Hp->Prop),Inv X ce σ H s->Same G H->Rep X.K ad G x v->Rep X.K ad G y w->bA v u->bA w z->
  RK X.K ad G H (r x y) Q E->wpAny (model X.prog X.w) X.A (t u z) (EP X ce σ Q) X.xe s
theorem w5(ho:DOp X ad t r)(ha:ME X ad a f)(hb:ME X ad b g)(I:Inv X ce σ H s)(hG:Same G H)(hS:SL X.K ad G H ρ σ)(hx:XP X ad σ E)(hr:RK X.K ad G H ((f ρ).bind λx=>(g ρ).bind λy=>r x y) Q E):
  wpAny (model X.prog X.w) X.A (eval a X.env) (λv s₁=>wpAny (model X.prog X.w) X.A (eval b X.env) (λu s₂=>wpAny (model X.prog X.w) X.A (t v u) (EP X ce σ Q) X.xe s₂) X.xe s₁) X.xe s:=by
 refine L2.thn (ha.thn I hG hS hx hr) λu J c=>?_
 obtain⟨v,d,C,L,q,m,st1,q1,h⟩:=c;refine L2.thn (hb.thn q st1.gh (hS.step st1) hx h) λz n c=>?_
 obtain⟨w,e,B,p,l,j,st2,o,i⟩:=c;exact ho ce n σ p B d e v w u z Q E l st2.gh (q1.mono st2.sg) o m j i
end
section
variable {X:Cx} {ad:Ad} {ce:cg} {s:Shared} {σ:St} {H G:Hp} {ρ:Rho} {Q:VK} {E:Nat->Hp->Prop} {pos:Pos} {a b c:Expr} {f g h:F}
theorem aLp(h:n<=LIM):n<=sizeLine:=Nat.le_trans h (by decide)
theorem rL(h:sml i=true): -(2^64)<i/\i<2^64:=by
 unfold sml at h;rw[aw]at h;exact⟨of_decide_eq_true h.1,of_decide_eq_true h.2⟩
theorem nA(h:sml i=true):i.natAbs<2^64:=by
 obtain⟨b,a⟩:=rL h
 lia
theorem aGo{l b:Addr}(I:Inv X ce σ H s)(hl:SqL X.K H l xs)(hb:SqL X.K H b ys)(hz:xs.length+ys.length<=sizeLine)(q: ∀p,H p=none->Q (.ref p) (upd H p (.lst (xs++ys)))):
  wpAny (model X.prog X.w) X.A (binaryOp .Add (.ref l) (.ref b)) (EP X ce σ Q) X.xe s:=by
 obtain⟨c,t,⟨⟨C,dd,y,E⟩,n,z,x,i,u⟩,_⟩:=I.list hl;obtain⟨a,r,⟨⟨v,m,j,o⟩,B,h,d,f,g⟩,_⟩:=I.list hb
 simp only at x u d g i f
 subst x u d g
 have e:c.toArray++a.toArray=(c++a).toArray:=by simp
 refine concat_meets ⟨_,z,rfl⟩ ⟨_,h,rfl⟩ noFill_list_add seq_list_add PySem.F.slot_list_add PySem.F.entry_list_add (PySem.F.args_list_add_2 _ _)
   (list_addW l b c.toArray a.toArray n B dd m E o (by rw[ax,ax, <-t.length, <-r.length];exact hz)) ⟨z,h,?_⟩
 rw[e];exact⟨.ref _,_,I.lnew (t':=s.toks) (t.append r) (by rw[bq];exact hz),rfl,q _ I.fresh⟩
theorem aGp(op:Operator):DOp X ad (binaryOp op) (kB op):=by
 intro m s l H G x y v w u z Q E I e o n f g d
 cases x with
 |int i=>
  unfold Rep at o;subst o
  cases y with
  |int j=>
   unfold Rep at n;subst n
   cases op with
   |Add=>exact aK1 m s l H _ _ u z Q I f g ⟨i,j,rfl,rfl,d.ok_now e bR⟩
   |Sub=>exact aK2 m s l H _ _ u z Q I f g ⟨i,j,rfl,rfl,d.ok_now e bR⟩
   |Mult=>
    have b:RK X.K ad G H (if sml i||sml j then R.ok (.int (i*j))else .bad) Q E:=d
    by_cases c:(sml i||sml j)=true
    ·rw[if_pos c]at b;refine aK3 m s l H _ _ u z Q I f g ⟨i,j,rfl,rfl,?_,b.ok_now e bR⟩;rcases(Bool.or_eq_true _ _).mp c with h|h
     ·exact .inl (rL h)
     ·exact .inr (rL h)
    ·rw[if_neg c]at b;exact b.elim
   |FloorDiv=>
    have b:RK X.K ad G H (if 0<j/\j<1073741824 then R.ok (.int (i/j))else .bad) Q E:=d
    by_cases c:0<j/\j<1073741824
    ·rw[if_pos c]at b;exact aF4 m s l H _ _ u z Q I f g ⟨i,j,rfl,rfl,c,b.ok_now e bR⟩
    ·rw[if_neg c]at b;exact b.elim
   |Mod=>
    have b:RK X.K ad G H (if 0<j then R.ok (.int (i % j))else .bad) Q E:=d
    by_cases c:0<j
    ·rw[if_pos c]at b;exact aK4 m s l H _ _ u z Q I f g ⟨i,j,rfl,rfl,c,b.ok_now e bR⟩
    ·rw[if_neg c]at b;exact b.elim
   |LShift=>
    have b:RK X.K ad G H (if 0<=j/\j<=1000/\sml i=true then R.ok (.int (i*2^j.toNat))else .bad) Q E:=d
    by_cases c:0<=j/\j<=1000/\sml i=true
    ·rw[if_pos c]at b;exact aK5 m s l H _ _ u z Q I f g ⟨i,j,rfl,rfl,⟨c.1,by lia,nA c.2.2⟩,b.ok_now e bR⟩
    ·rw[if_neg c]at b;exact b.elim
   |RShift=>exact ba d
   |BitAnd=>exact aK6 m s l H _ _ u z Q I f g ⟨i,j,rfl,rfl,d.ok_now e bR⟩
   |BitOr=>exact aPl m s l H _ _ u z Q I f g ⟨i,j,rfl,rfl,d.ok_now e bR⟩
   |BitXor=>exact aK7 m s l H _ _ u z Q I f g ⟨i,j,rfl,rfl,d.ok_now e bR⟩
   |MatMult=>exact ba d
   |Div=>exact ba d
   |Pow=>exact ba d
  |_=>cases op<;>exact ba d
 |lst t=>
  unfold Rep at o;obtain⟨p,M,rfl,C,B⟩:=o
  cases y with
  |lst r=>
   unfold Rep at n;obtain⟨q,N,rfl,J,A⟩:=n
   cases op with
   |Add=>
    have b:RK X.K ad G H (if t.length+r.length<=LIM then R.ow (t++r)else .bad) Q E:=d
    by_cases c:t.length+r.length<=LIM
    ·rw[if_pos c]at b
     cases (show u=Value.ref p from f)
     cases (show z=Value.ref q from g)
     exact aGo I (e.seq C) (e.seq J) (by rw[B.length,A.length];exact aLp c) λa L=>b.ow_new e (B.append A) L
    ·rw[if_neg c]at b;exact b.elim
   |_=>exact ba d
  |_=>cases op<;>exact ba d
 |_=>cases y<;>cases op<;>exact ba d
theorem aEo(ha:ME X ad a f)(hb:ME X ad b g):ME X ad (.BinOp a op b pos) (bF op f g):=by
 refine λl s j H Q I d=>d.el λG m E h i e c=>?_
 exact wpAny_BinOp (w5 (aGp op) ha hb I h i e c)
end
end SK
namespace L2
open PySem PySem.Spec PyProof.Rows
section
variable {κ:Type} [DecidableEq κ]
noncomputable def kP(kvs:List (κ×V))(k:κ):Option V:=(kvs.find? λkv=>decide (kv.1=k)).map (·.2)
noncomputable def putK(kvs:List (κ×V))(k:κ)(v:V):List (κ×V):=
 if(kvs.any λkv=>decide (kv.1=k))=true then kvs.map (λkv=>if kv.1=k then(kv.1,v)else kv)else kvs++[(k,v)]
noncomputable def dropK(kvs:List (κ×V))(k:κ):List (κ×V):=kvs.filter λkv=>decide (kv.1≠k)
theorem aB2{k:κ}:kP ([]:List (κ×V)) k=none:=rfl
theorem hZ{p:κ×V}{r:List (κ×V)}{k:κ}(e:p.1=k):kP (p::r) k=some p.2:=by simp[kP,List.find?_cons,e]
theorem gB{p:κ×V}{r:List (κ×V)}{k:κ}(e: ¬p.1=k):kP (p::r) k=kP r k:=by simp[kP,List.find?_cons,e]
theorem sX(k:κ): ∀kvs:List (κ×V),(kvs.any λkv=>decide (kv.1=k))=(kP kvs k).isSome
 |[]=>rfl
 |p::r=>by
  rw[List.any_cons]
  by_cases e:p.1=k
  ·simp only[hZ e,decide_eq_true e,Bool.true_or,Option.isSome_some]
  ·rw[gB e,decide_eq_false e,Bool.false_or];exact sX k r
theorem fF(kvs:List (κ×V))(k:κ)(v:V):(putK kvs k v).length<=kvs.length+1:=by
 unfold putK;split
 ·rw[aq];lia
 ·rw[bq,bt,List.length_nil];lia
theorem lR.isSome_eq(r:lR o u):o.isSome=u.isSome:=by
 cases o with
 |none=>cases u with
  |none=>rfl
  |some _=>exact(show False from r).elim
 |some _=>cases u with
  |none=>exact(show False from r).elim
  |some _=>rfl
theorem lR.getD(r:lR o u)(rd:bA d d'):bA (o.getD d) (u.getD d'):=by
 cases o with
 |none=>cases u with
  |none=>exact rd
  |some _=>exact(show False from r).elim
 |some _=>cases u with
  |none=>exact(show False from r).elim
  |some _=>exact r
theorem KV.val{kvs:List (κ×V)}{vs:List (κ×Value)}(r:KV kvs vs)(k:κ):lR (kP kvs k) (valueAt vs k):=by
 unfold KV at r
 induction r with
 |nil=>exact True.intro
 |@cons p q i c h t g=>
  obtain⟨d,f⟩:=h
  by_cases e:p.1=k
  ·have a:q.1=k:=d.symm.trans e
   have b:valueAt (q::c) k=some q.2:=by simp[valueAt,List.find?_cons,a]
   rw[hZ e,b];exact f
  ·have a: ¬q.1=k:=λz=>e (d.trans z)
   have b:valueAt (q::c) k=valueAt c k:=by simp[valueAt,List.find?_cons,a]
   rw[gB e,b];exact g
theorem KV.any{kvs:List (κ×V)}{vs:List (κ×Value)}(r:KV kvs vs)(k:κ):(kvs.any λkv=>decide (kv.1=k))=vs.any λkv=>decide (kv.1=k):=by
 unfold KV at r
 induction r with
 |nil=>rfl
 |cons h t a=>rw[List.any_cons,List.any_cons,a,h.1]
theorem KV.repl{kvs:List (κ×V)}{vs:List (κ×Value)}(r:KV kvs vs)(k:κ){y:V}{u:Value}(ry:bA y u):
  KV (kvs.map λkv=>if kv.1=k then(kv.1,y)else kv) (vs.map λkv=>if kv.1=k then(kv.1,u)else kv):=by
 unfold KV at r ⊢
 induction r with
 |nil=>exact .nil
 |@cons p q d f h t c=>
  rw[List.map_cons,List.map_cons];refine .cons ?_ c;obtain⟨a,b⟩:=h
  by_cases e:p.1=k
  ·rw[if_pos e,if_pos (a.symm.trans e)];exact⟨a,ry⟩
  ·rw[if_neg e,if_neg (λz=>e (a.trans z))];exact⟨a,b⟩
theorem KV.put{kvs:List (κ×V)}{vs:List (κ×Value)}(r:KV kvs vs)(k:κ){y:V}{u:Value}(ry:bA y u):KV (putK kvs k y) (stored vs k u):=by
 unfold putK stored;rw[r.any k]
 by_cases e:(vs.any λa=>decide (a.1=k))=true
 ·rw[if_pos e,if_pos e];exact r.repl k ry
 ·rw[if_neg e,if_neg e];exact Paired.snoc r ⟨rfl,ry⟩
theorem KV.drop{kvs:List (κ×V)}{vs:List (κ×Value)}(r:KV kvs vs)(k:κ):KV (dropK kvs k) (without vs k):=by
 unfold KV at r ⊢;unfold dropK without
 induction r with
 |nil=>exact .nil
 |@cons p q i j h t d=>
  obtain⟨c,f⟩:=h;rw[List.filter_cons,List.filter_cons]
  by_cases e:p.1=k
  ·have a: ¬decide (p.1≠k)=true:=by simp[e]
   have b: ¬decide (q.1≠k)=true:=by simp[c.symm.trans e]
   rw[if_neg a,if_neg b];exact d
  ·have g: ¬q.1=k:=λz=>e (c.trans z)
   have a:decide (p.1≠k)=true:=by simp[e]
   have b:decide (q.1≠k)=true:=by simp[g]
   rw[if_pos a,if_pos b];exact .cons ⟨c,f⟩ d
theorem KV.keys{kvs:List (κ×V)}{vs:List (κ×Value)}(r:KV kvs vs):kvs.map (·.1)=vs.map (·.1):=by
 unfold KV at r
 induction r with
 |nil=>rfl
 |cons h t a=>rw[List.map_cons,List.map_cons,a,h.1]
theorem KV.length{kvs:List (κ×V)}{vs:List (κ×Value)}(r:KV kvs vs):kvs.length=vs.length:=Paired.length r
theorem aB3(kvs:List (κ×V))(k:κ):(dropK kvs k).length<=kvs.length:=List.length_filter_le _ _
end
theorem lX(r:bA (kV k) u):(aZ P w).is k u=true:=by
 cases k with
 |inl i=>obtain⟨t,e⟩:=(show ∃t,u=Value.int i t from r);subst e;exact qW P w i t
 |inr x=>obtain⟨t,e⟩:=(show ∃t,u=Value.str x t from r);subst e;exact j0 P w x t
theorem pC{P:Program}{w:World}: ∀{ks:List Key} {us:List Value},cN (ks.map kV) us->ItemsAre (aZ P w) ks us
 |[],_,r=>by rw[List.map_nil]at r;cases r;exact .nil
 |k::ks,_,r=>by
  rw[List.map_cons]at r
  cases r with
  |cons h t=>exact .cons (lX h) (pC t)
abbrev KT(H:Hp):List (List Key×V)->List (List Key×Addr×Value)->Prop:=Paired λp q=>p.1=q.1/\H q.2.1=some (.tup (p.1.map kV))/\bA p.2 q.2.2
theorem KT.val(r:KT H kvs xs)(k:List Key):lR (kP kvs k) ((atKey xs k).map (·.2)):=by
 induction r with
 |nil=>exact True.intro
 |@cons p q i c h t g=>
  obtain⟨d,_,f⟩:=h
  by_cases e:p.1=k
  ·have a:q.1=k:=d.symm.trans e
   have b:atKey (q::c) k=some q.2:=by simp[atKey,List.find?_cons,a]
   rw[hZ e,b];exact f
  ·have a: ¬q.1=k:=λz=>e (d.trans z)
   have b:atKey (q::c) k=atKey c k:=by simp[atKey,List.find?_cons,a]
   rw[gB e,b];exact g
theorem KT.repl(r:KT H kvs xs)(k:List Key)(ry:bA y u):
  KT H (kvs.map λkv=>if kv.1=k then(kv.1,y)else kv) (xs.map (putAt k u)):=by
 induction r with
 |nil=>exact .nil
 |@cons p q f g h t c=>
  rw[List.map_cons,List.map_cons];refine .cons ?_ c;obtain⟨a,b,d⟩:=h;unfold putAt
  by_cases e:p.1=k
  ·rw[if_pos e,if_pos (a.symm.trans e)];exact⟨a,b,ry⟩
  ·rw[if_neg e,if_neg (λz=>e (a.trans z))];exact⟨a,b,d⟩
theorem KT.put(r:KT H kvs xs)(k:List Key)(hb:H b=some (.tup (k.map kV)))(ry:bA y u):
  KT H (putK kvs k y) (storedH xs k b u):=by
 have e:(kvs.any λa=>decide (a.1=k))=(atKey xs k).isSome:=by
  rw[sX,(r.val k).isSome_eq,Option.isSome_map]
 unfold putK storedH;rw[e]
 by_cases q:(atKey xs k).isSome=true
 ·rw[if_pos q,if_pos q];exact r.repl k ry
 ·rw[if_neg q,if_neg q];exact Paired.snoc r ⟨rfl,hb,ry⟩
theorem KT.keeps(r:KT H kvs xs)(ht: ∀b ys,H b=some (.tup ys)->H' b=some (.tup ys)):KT H' kvs xs:=
 Paired.mapP r λ_ _ z=>⟨z.1,ht _ _ z.2.1,z.2.2⟩
section
variable {P:Program} {w:World} {H:Hp} {h:Heap} {a:Addr}
theorem aLq(ok:HOk P w H h)(e:Rd H a u):ObjOk P w H h a u:=e.ok ok
theorem iV(ok:HOk P w H h)(e:Rd H a (.dK kvs)):kvs.length<=sizeLine/\(a==sysModules)=false/\∃vs,KV kvs vs/\h.DictOf (aZ P w) a vs:=
 show ObjOk P w H h a (.dK kvs) from aLq ok e
theorem w6(ok:HOk P w H h)(e:H a=some (.dK kvs)):kvs.length<=sizeLine/\(a==sysModules)=false/\∃vs,KV kvs vs/\h.DictOf (aZ P w) a vs:=iV ok (.inl e)
theorem kQ(ok:HOk P w H h)(e:H a=some (.tup (ks.map kV))):(tupleKind (aZ P w)).is h ks a:=by
 obtain⟨_,b,r,⟨o,d,c,n,f⟩,_⟩:=(show ObjOk P w H h a (.tup (ks.map kV)) from ok a _ e)
 exact⟨o,b.toArray,n,d,c,f,by simpa using pC r⟩
theorem pE(ok:HOk P w H h)(e:Rd H a (.dT kvs)):kvs.length<=sizeLine/\(a==sysModules)=false/\
  ∃xs,KT H kvs xs/\h.DictOfH (tupleKind (aZ P w)) a xs:=by
 obtain⟨z,y,xs,r,o,j,u,n,d,i,g,f⟩:=(show ObjOk P w H h a (.dT kvs) from aLq ok e)
 refine⟨z,y,xs,r,o,j,u,n,d,i,g,λx b=>?_,f⟩
 have all: ∀{l:List (List Key×V)} {m:List (List Key×Addr×Value)},KT H l m->∀x∈m,(tupleKind (aZ P w)).is h x.1 x.2.1:=by
  intro l m q
  induction q with
  |nil=>intro x b;exact nomatch b
  |@cons p q v A c t s=>
   intro x b;rcases av.mp b with e|b
   ·subst e;exact kQ ok (by rw[<-c.1];exact c.2.1)
   ·exact s x b
 exact all r x b
theorem aPz(ok:HOk P w H h)(e:H a=some (.dT kvs)):kvs.length<=sizeLine/\(a==sysModules)=false/\
  ∃xs,KT H kvs xs/\h.DictOfH (tupleKind (aZ P w)) a xs:=pE ok (.inl e)
end
def oJ(H:Hp)(a:Addr)(y:V)(r:Option V):Prop:=
 (∃kvs k,Rd H a (.dK kvs)/\y=kV k/\r=kP kvs k)\/∃kvs k b,Rd H a (.dT kvs)/\y= .ref b/\H b=some (.tup (k.map kV))/\r=kP kvs k
def aJ9(H:Hp)(a:Addr)(y v:V)(H':Hp):Prop:=
 (∃kvs k,H a=some (.dK kvs)/\y=kV k/\kvs.length<sizeLine/\H'=upd H a (.dK (putK kvs k v)))\/
 ∃kvs k b,H a=some (.dT kvs)/\y= .ref b/\H b=some (.tup (k.map kV))/\kvs.length<sizeLine/\H'=upd H a (.dT (putK kvs k v))
theorem oJ.k{k:Key}(e:H a=some (.dK kvs)):oJ H a (kV k) (kP kvs k):=.inl ⟨kvs,k,.inl e,rfl,rfl⟩
theorem aJ9.k{k:Key}(e:H a=some (.dK kvs))(hl:kvs.length<sizeLine):aJ9 H a (kV k) v (upd H a (.dK (putK kvs k v))):=.inl ⟨kvs,k,e,rfl,hl,rfl⟩
section
variable {X:Cx} {ce:cg} {σ:St} {H:Hp} {s:Shared} {a:Addr} {y v:V} {u r:Value} {o:Option V} {A:Around} {E:cf}
theorem Inv.bigK(I:Inv X ce σ H s):sysModules<s.heap.objs.size:=by
 have h:mainGlobals<s.heap.objs.size:=(I.mod.glob.keeps I.bk).lt;exact Nat.lt_trans (by decide) h
theorem w8{Q:cf}(hu:A.units+1<cLine)(I:Inv X ce σ H s)(g:oJ H a y (some v))(ry:bA y u)(h: ∀w' s',Inv X ce σ H s'->bA v w'->Q w' s'):
  wpAny (model X.prog X.w) A (getItem (.ref a) u) Q E s:=by
 rcases g with ⟨i,k,e,f,l⟩|⟨i,k,b,e,f,x,l⟩
 ·subst f;obtain⟨z,q,n,c,dd⟩:=iV I.hok e;obtain⟨w',m,d⟩:=lR.some_of (v:=v) (o:=valueAt n k) (by rw[l];exact c.val k)
  exact wpAny_getItem_of (lX ry) dd.mapOf m (h w' _ (I.tok _) d)
 ·subst f
  cases (show u=Value.ref b from ry)
  obtain⟨z,q,t,c,dd⟩:=pE I.hok e;obtain⟨w',m,d⟩:=lR.some_of (v:=v) (o:=(atKey t k).map (·.2)) (by rw[l];exact c.val k)
  obtain⟨p,r,j⟩:=zMd m;refine wpAny_getItem_heap (tupleKind_room_in1 hu) (kQ I.hok x) dd r ?_;rw[j];exact h w' _ (I.tok _) d
theorem aRx{Q:cf}(hu:A.units+1<cLine)(I:Inv X ce σ H s)(g:oJ H a y o)(ry:bA y u)(h: ∀s',Inv X ce σ H s'->Q (.bool o.isSome) s'):
  wpAny (model X.prog X.w) A (compareOp .In u (.ref a)) Q E s:=by
 rcases g with ⟨f,k,e,d,l⟩|⟨f,k,b,e,d,j,l⟩
 ·subst d;obtain⟨z,i,n,c,dd⟩:=iV I.hok e;refine wpAny_in_of (lX ry) i dd.mapOf ?_;rw[<-(c.val k).isSome_eq, <-l];exact h _ (I.tok _)
 ·subst d
  cases (show u=Value.ref b from ry)
  obtain⟨z,i,m,c,dd⟩:=pE I.hok e;refine wpAny_in_heap (tupleKind_room_in1 hu) (kQ I.hok j) i dd ?_;have q:=(c.val k).isSome_eq;rw[Option.isSome_map]at q;rw[<-q, <-l];exact h _ (I.tok _)
theorem w9{Q:cf}(hu:A.units+1<cLine)(I:Inv X ce σ H s)(g:oJ H a y o)(ry:bA y u)(h: ∀s',Inv X ce σ H s'->Q (.bool (!o.isSome)) s'):
  wpAny (model X.prog X.w) A (compareOp .NotIn u (.ref a)) Q E s:=by
 rcases g with ⟨f,k,e,d,l⟩|⟨f,k,b,e,d,j,l⟩
 ·subst d;obtain⟨z,i,n,c,dd⟩:=iV I.hok e;refine wpAny_notIn_of (lX ry) i dd.mapOf ?_;rw[<-(c.val k).isSome_eq, <-l];exact h _ (I.tok _)
 ·subst d
  cases (show u=Value.ref b from ry)
  obtain⟨z,i,m,c,dd⟩:=pE I.hok e;refine wpAny_notIn_heap (tupleKind_room_in1 hu) (kQ I.hok j) i dd ?_;have q:=(c.val k).isSome_eq;rw[Option.isSome_map]at q;rw[<-q, <-l];exact h _ (I.tok _)
theorem iW(I:Inv X ce σ H s)(mu:Mut (H a))(hs:Heap.SameBut a s.heap h')(he: ∃q,h'.get? a=some q)(new:ObjOk X.prog X.w (upd H a ob) h' a ob):
  Inv X ce σ (upd H a ob) {s with heap:=h',toks:=t'}:=
 I.write (x:=a) (e:=a) mu (.inl rfl) (λb q c z=>(hs.2 b c).trans z) he new
theorem mE(z:kvs.length<=sizeLine)(hd:(a==sysModules)=false)(rel:KV kvs vs)(dd:h'.DictOf (aZ P w) a vs):
  ObjOk P w H' h' a (.dK kvs):=⟨z,hd,vs,rel,dd⟩
theorem pF(hu:A.units+1<cLine)(I:Inv X ce σ H s)(g:aJ9 H a y v H')(ry:bA y u)(rv:bA v r)(h: ∀s',Inv X ce σ H' s'->Q () s'):
  wpAny (model X.prog X.w) A (setItem (.ref a) u r) Q E s:=by
 rcases g with ⟨f,k,e,o,l,m⟩|⟨f,k,b,e,o,G,l,m⟩
 ·subst o m;obtain⟨z,p,M,d,dd⟩:=w6 I.hok e
  have n:M.length<=sizeLine:=by rw[<-d.length];exact z
  have t:(putK f k v).length<=sizeLine:=by have:=fF f k v;lia
  refine wpAny_setItem_pairs (hsz:=n) (lX ry) dd λB i x=>h _ ?_
  have N: ∃q,B.get? a=some q:=let ⟨q,_,_,j,_⟩:=i;⟨q,j⟩
  exact iW I (by rw[e];exact True.intro) x N (mE t p (d.put k rv) i)
 ·subst o m
  cases (show u=Value.ref b from ry)
  obtain⟨z,p,T,d,dd⟩:=aPz I.hok e
  have n:T.length<=sizeLine:=by rw[<-Paired.length d];exact z
  have t:(putK f k v).length<=sizeLine:=by have:=fF f k v;lia
  refine wpAny_setItem_heap (hsz:=n) (tupleKind_room_in1 hu) (kQ I.hok G) dd λB i x=>h _ ?_
  obtain⟨q,S,U,j,J,O,L,_,K⟩:=i;refine iW I (by rw[e];exact True.intro) x ⟨q,j⟩ ⟨t,p,_,(d.put k G rv).keeps λc W C=>?_,q,S,U,j,J,O,L,K⟩
  rw[aB (aPb C e (λz=>nomatch z))]
  exact C
end
section
variable {X:Cx} {ce:cg} {σ:St} {H:Hp} {s:Shared} {a:Addr} {kvs:List (Key×V)} {k:Key} {u:Value} {A:Around} {E:cf}
theorem aP0{Q:cf}(I:Inv X ce σ H s)(e:H a=some (.dK kvs))(ry:bA (kV k) u)(l:kP kvs k=some v)(hm:more=[]\/∃x,more=[x])(h: ∀w' s',Inv X ce σ (upd H a (.dK (dropK kvs k))) s'->bA v w'->Q w' s'):wpAny (model X.prog X.w) A (call (.builtin "dict.pop") (.ref a::u::more)) Q E s:=by
 obtain⟨z,n,f,b,dd⟩:=w6 I.hok e;obtain⟨w',r,d⟩:=lR.some_of (v:=v) (o:=valueAt f k) (by rw[<-l];exact b.val k)
 have p:(keyPart u).isSome=true:=by
  cases k with
  |inl i=>obtain⟨t,q⟩:=(show ∃t,u=Value.int i t from ry);subst q;rfl
  |inr x=>obtain⟨t,q⟩:=(show ∃t,u=Value.str x t from ry);subst q;rfl
 have y:argsOk "dict.pop" ⟨.ref a::u::more,[]⟩:=by
  rcases hm with q|⟨x,q⟩
  ·subst q;exact PySem.F.args_dict_pop_2 _ _
  ·subst q;exact PySem.F.args_dict_pop_3 _ _ _
 refine call_meetsIn PySem.F.slot_dict_pop dd.typeIs PySem.F.entry_dict_pop y (meets_dict_pop_there (aZ X.prog X.w) a (lX ry) more hm p)
  ⟨f,w',dd,by rw[<-b.length];exact z,r,λm c g=>h w' _ ?_ d⟩
 have j: ∃q,m.get? a=some q:=let ⟨q,_,_,hq,_⟩:=c;⟨q,hq⟩
 exact iW I (by rw[e];exact True.intro) g j (mE (Nat.le_trans (aB3 kvs k) z) n (b.drop k) c)
end
def aP1(i:Expr):Prop:= ∀ov iv,subscripted i false ov iv=operate [ov,iv] (getItem ov iv)
theorem aGq{E:cf}{T id:String}{Q:cf}(hl:typeLookup (.type T) "__getitem__"=pure (some (.builtin id)))(hs:aP1 slice)(h:wpAny (model prog w) A (eval value env) (λo s₁=>wpAny (model prog w) A (eval slice env) (λi s₂=>s₂.TypeIs o T/\wpAny (model prog w) A (getItem o i) Q E s₂) E s₁) E s):
  wpAny (model prog w) A (eval (.Subscript value slice pos) env) Q E s:=by
 refine Subscript_ (wpAny_mono h (λo s₁ e=>wpAny_mono e (λi s₂ a=>?_) λ_ _ x=>x) λ_ _ x=>x)
 obtain⟨f,a⟩:=a;unfold subscriptTail;refine aa ?_;rw[getitemInPython_of_ne f.not_modules];refine aa (wpAny_specialOf f hl ?_)
 have c:wpAny (model prog w) A (subscripted slice false o i) (λr b=>wpAny (model prog w) A (letTemporaryGo value o r >>= λ_=>pure r) Q E b) E s₂:=by
  rw[hs o i];exact wpAny_operating (wpAny_mono a (λr b d=>aa (wpAny_letTemporaryGo (ae d))) λ_ _ x=>x)
 first
  |exact ae (aa c)
  |exact aa (ae (aa c))
  |exact aa c
theorem rM{σ:St}(I:Inv X ce σ H s)(g:oJ H a y o):s.TypeIs (.ref a) "dict":=by
 rcases g with ⟨c,k,e,_,_⟩|⟨c,k,b,e,_,_,_⟩
 ·obtain⟨_,_,f,_,dd⟩:=iV I.hok e;exact dd.typeIs
 ·obtain⟨_,_,d,_,dd⟩:=pE I.hok e;exact dd.typeIs
def aP2(td ty:TE):TE:=λσ H Q=>td σ H λx H1=>ty σ H1 λy H2=>∃a v,x= .ref a/\oJ H2 a y (some v)/\Q v H2
def aSz(ty td:TE):TE:=λσ H Q=>ty σ H λy H1=>td σ H1 λx H2=>∃a o,x= .ref a/\oJ H2 a y o/\Q (.bl o.isSome) H2
def aGr(ty td:TE):TE:=λσ H Q=>ty σ H λy H1=>td σ H1 λx H2=>∃a o,x= .ref a/\oJ H2 a y o/\Q (.bl (!o.isSome)) H2
def aP3(td ty tv:TE):TS:=λD σ H=>tv σ H λv H1=>td σ H1 λx H2=>ty σ H2 λy H3=>∃a H4,x= .ref a/\aJ9 H3 a y v H4/\D.nx σ H4
section
variable {X:Cx} {o i e value:Expr} {pos pos' tpos:Pos} {td ty tv:TE}
theorem aGs(hu:X.A.units+1<cLine)(ho:PE X o td)(hi:PE X i ty)(hs:aP1 i):PE X (.Subscript o i pos) (aP2 td ty):=by
 intro e s d H Q I h;refine aGq PySem.F.slot_dict_getitem.lookup hs (thn (ho e s d H _ I h) λu l ⟨x,n,t,q,q1⟩=>thn (hi e l d n _ t q1) λiv z ⟨y,r,c,f,a,v,p,g,m⟩=>?_)
 subst p;obtain rfl:u=Value.ref a:=q;exact⟨rM c g,w8 hu c g f λB C j b=>⟨v,r,j,b,m⟩⟩
theorem aLr(hu:X.A.units+1<cLine)(hi:PE X i ty)(ho:PE X o td):PC X .In i o (aSz ty td):=by
 intro c s b H Q I h;refine thn (hi c s b H _ I h) λiv j ⟨y,m,r,d,q1⟩=>thn (ho c j b m _ r q1) λu v ⟨x,q,e,p,a,t,n,g,l⟩=>?_
 subst n;obtain rfl:u=Value.ref a:=p;exact aRx hu e g d λz f=>⟨.bl t.isSome,q,f,rfl,l⟩
theorem xA(hu:X.A.units+1<cLine)(hi:PE X i ty)(ho:PE X o td):PC X .NotIn i o (aGr ty td):=by
 intro c s b H Q I h;refine thn (hi c s b H _ I h) λiv j ⟨y,m,r,d,q1⟩=>thn (ho c j b m _ r q1) λu v ⟨x,q,e,p,a,t,n,g,l⟩=>?_
 subst n;obtain rfl:u=Value.ref a:=p;exact w9 hu e g d λz f=>⟨.bl (!t.isSome),q,f,rfl,l⟩
theorem aGt(hu:X.A.units+1<cLine)(ho:PE X o td)(hi:PE X i ty)(hv:PE X value tv)(hs:swapsWith value (some (.Subscript o i pos')) pos.line X.env=pure false):
  PS X (.Assign [.Subscript o i pos'] value pos) (aP3 td ty tv):=by
 intro c s b H D I h;refine wpAny_Assign_Subscript (thn (hv c s b H _ I h) λr j ⟨v,t,E,G,q1⟩=>thn (ho c j b t _ E q1) λu l ⟨x,C,e,B,q⟩=>thn (hi c l b C _ e q) λiv K ⟨y,J,f,d,a,n,z,g,p⟩=>?_) hs
 subst z;obtain rfl:u=Value.ref a:=B;exact pF hu f g d G λL m=>⟨b,n,m,p⟩
end
theorem nB(h:Heap)(hb:sysModules<h.objs.size):ObjOk P w H (h.push {cls:=.type "dict",data:=.dict #[]}) h.objs.size (.dK []):=
 ⟨bx _,beq_eq_false_iff_ne.mpr (Ne.symm (bj hb)),[],.nil,Heap.DictOf.new h⟩
def aLs:TE:=λ_ H Q=>∀p,H p=none->Q (.ref p) (upd H p (.dK []))
section
variable {X:Cx} {pos:Pos}
theorem sY:PE X (.Dict [] [] pos) aLs:=λc s b H Q I h=>
 wpAny_Dict_empty ⟨.ref s.heap.objs.size,_,I.laid (a:=s.heap.objs.size) (o:=.dK []) (t':=s.toks) (λ_ _ q=>af _ q) (aj _) (nB s.heap I.bigK),rfl,h _ (I.hok.fresh (aj _))⟩
end
def xB:List (TE×TE)->St->Hp->(List (V×V)->Hp->Prop)->Prop
 |[],_,H,Q=>Q [] H
 |(tk,tv)::r,σ,H,Q=>tk σ H λx H1=>tv σ H1 λy H2=>xB r σ H2 λps H3=>Q ((x,y)::ps) H3
abbrev VV:List (V×V)->List (Value×Value)->Prop:=Paired λp q=>bA p.1 q.1/\bA p.2 q.2
def PPs(X:Cx)(pos:Pos)(keys:List (Option Expr))(values:List Expr)(trs:List (TE×TE)):Prop:=
 ∀(ce:cg) (s:Shared) (σ:St) (H:Hp) (Q:List (V×V)->Hp->Prop),Inv X ce σ H s->xB trs σ H Q->
  wpAny (model X.prog X.w) X.A (evalPairs (pairTrees keys values X.env pos)) (λvs s'=>∃ps H',Inv X ce σ H' s'/\VV ps vs/\Q ps H') X.xe s
theorem aGu:PPs X pos [] [] []:=λb s a H Q I h=>pairTrees_nil_walk ⟨[],H,I,.nil,h⟩
theorem sZ(hk:PE X k tk)(hv:PE X v tv)(hr:PPs X pos ks vs trs):
  PPs X pos (some k::ks) (v::vs) ((tk,tv)::trs):=λc s b H Q I h=>
 pairTrees_cons_walk (thn (hk c s b H _ I h) λu i ⟨x,n,r,p,q1⟩=>thn (hv c i b n _ r q1) λt j ⟨y,q,e,d,m⟩=>
  thn (hr c j b q _ e m) λA z ⟨f,o,g,a,l⟩=>⟨(x,y)::f,o,g,.cons ⟨p,d⟩ a,l⟩)
def iA(kvs more:List (Key×V)):List (Key×V):=more.foldl (λacc kv=>putK acc kv.1 kv.2) kvs
theorem KV.merge: ∀{more:List (Key×V)} {rs:List (Key×Value)} {kvs:List (Key×V)} {vs:List (Key×Value)},KV more rs->KV kvs vs->KV (iA kvs more) (merged vs rs):=by
 intro more rs kvs vs r;unfold KV at r
 induction r generalizing kvs vs with
 |nil=>intro q;exact q
 |@cons p q c d h t a=>
  intro b
  have e:KV (putK kvs p.1 p.2) (stored vs q.1 q.2):=by
   have:=b.put p.1 h.2
   rw[<-h.1];exact this
  exact a e
theorem iB: ∀(more kvs:List (Key×V)),(iA kvs more).length<=kvs.length+more.length
 |[],kvs=>by show kvs.length<=kvs.length+0;lia
 |p::r,kvs=>by
  have b:=iB r (putK kvs p.1 p.2);have a:=fF kvs p.1 p.2
  show(iA (putK kvs p.1 p.2) r).length<=_
  rw[bt];lia
theorem mF{P:Program}{w:World}: ∀{kvs:List (Key×V)} {ws:List (Value×Value)},VV (kvs.map λkv=>(kV kv.1,kv.2)) ws->∃rs,Carries (aZ P w) ws rs/\KV kvs rs
 |[],_,r=>by rw[List.map_nil]at r;cases r;exact⟨[],True.intro,.nil⟩
 |p::kvs,_,r=>by
  rw[List.map_cons]at r
  cases r with
  |@cons a b f bs h t=>
   obtain⟨rs,c,q⟩:=mF (P:=P) (w:=w) t;obtain⟨e,d⟩:=b;exact⟨(p.1,d)::rs,⟨lX h.1,rfl,c⟩,.cons ⟨rfl,h.2⟩ q⟩
def aP4(trs:List (TE×TE)):TE:=λσ H Q=>∀p,H p=none->xB trs σ (upd H p (.dK [])) λps H2=>H2 p=some (.dK [])/\∃kvs:List (Key×V),ps=kvs.map (λkv=>(kV kv.1,kv.2))/\kvs.length<=15/\Q (.ref p) (upd H2 p (.dK (iA [] kvs)))
theorem aGv(h:PPs X pos keys values trs)(hall:keys.all (·.isSome)=true)(hl:keys.length=values.length)(h0:keys≠[])(h15:keys.length<=15):PE X (.Dict keys values pos) (aP4 trs):=by
 intro m s l H Q I q;have r:=I.hok.fresh (aj s.heap.objs.size);have v:=I.laid (a:=s.heap.objs.size) (o:=.dK []) (h':=s.heap.push {cls:=.type "dict",data:=.dict #[]}) (t':=s.toks) (λ_ _ q=>af _ q) (aj _) (nB s.heap I.bigK)
 refine wpAny_Dict_walk (knd:=aZ X.prog X.w) hall hl h0 h15 (thn (h m _ l _ _ v (q _ r)) λJ E ⟨C,G,g,f,e,d,u,lk,n⟩=>?_)
 subst u;obtain⟨A,c,rk⟩:=mF (P:=X.prog) (w:=X.w) f;obtain⟨z,B,y,j,dd⟩:=w6 g.hok e;cases j;refine⟨A,c,dd,λh' b t=>⟨.ref s.heap.objs.size,_,?_,rfl,n⟩⟩
 have x:(iA [] d).length<=sizeLine:=by
  have p:=iB d [];rw[List.length_nil]at p;rw[sizeLine_eq];lia
 have i: ∃q,h'.get? s.heap.objs.size=some q:=let ⟨q,_,_,hq,_⟩:=b;⟨q,hq⟩
 exact iW g (by rw[e];exact True.intro) t i (mE x B (rk.merge .nil) b)
structure M1(X:Cx)(o:Expr)(m:Str)(apos:Pos)(e:Expr)(cpos:Pos):Prop where
 base:attributeBase o m X.env (eval o X.env)=eval o X.env
 few:((backTo cpos (starEach [e] X.env)).all (λx=> !x.1)&&(backToKw cpos (keywordEach [] X.env)).all (λx=>x.1.isSome)
  &&decide (([e]:List Expr).length+([]:List Keyword).length+(if([]:List Keyword).isEmpty then 0 else 1)<30))=true
 line:(apos.endLine==cpos.line)=true
 trees:backTo cpos (starEach [e] X.env)=[(false,eval e X.env)]
structure M2(X:Cx)(o:Expr)(m:Str)(apos:Pos)(e f:Expr)(cpos:Pos):Prop where
 base:attributeBase o m X.env (eval o X.env)=eval o X.env
 few:((backTo cpos (starEach [e,f] X.env)).all (λx=> !x.1)&&(backToKw cpos (keywordEach [] X.env)).all (λx=>x.1.isSome)
  &&decide (([e,f]:List Expr).length+([]:List Keyword).length+(if([]:List Keyword).isEmpty then 0 else 1)<30))=true
 line:(apos.endLine==cpos.line)=true
 trees:backTo cpos (starEach [e,f] X.env)=[(false,eval e X.env),(false,eval f X.env)]
def IsD(H:Hp)(a:Addr):Prop:=(∃kvs,Rd H a (.dK kvs))\/∃kvs,Rd H a (.dT kvs)
theorem xC{σ:St}(I:Inv X ce σ H s)(d:IsD H a):
  s.TypeIs (.ref a) "dict"/\(∀b,Value.ref a= .ref b->∃ob,s.heap.get? b=some ob/\ob.dict=none)/\(a==sysModules)=false:=by
 rcases d with ⟨g,e⟩|⟨g,e⟩
 ·obtain⟨_,h,j,_,dd⟩:=iV I.hok e;refine⟨dd.typeIs,λb q=>?_,h⟩
  cases q;obtain⟨ob,_,_,f,c,_⟩:=dd;exact⟨ob,f,c.2.1⟩
 ·obtain⟨_,h,i,_,dd⟩:=pE I.hok e;refine⟨dd.typeIs,λb q=>?_,h⟩
  cases q;obtain⟨ob,_,_,f,c,_⟩:=dd;exact⟨ob,f,c.2.1⟩
section
variable {X:Cx} {ce:cg} {σ:St} {H:Hp} {s:Shared} {a:Addr} {y d:V} {u r:Value} {o:Option V} {A:Around} {E:cf}
theorem aLt{Q:cf}(hu:A.units+1<cLine)(I:Inv X ce σ H s)(g:oJ H a y o)(ry:bA y u)(h: ∀w' s',Inv X ce σ H s'->bA (o.getD .non) w'->Q w' s'):
  wpAny (model X.prog X.w) A (call (.builtin "dict.get") [.ref a,u]) Q E s:=by
 rcases g with ⟨f,k,e,d,l⟩|⟨f,k,b,e,d,m,l⟩
 ·subst d;obtain⟨z,i,n,c,dd⟩:=iV I.hok e;refine call_meetsIn PySem.F.slot_dict_get dd.typeIs PySem.F.entry_dict_get (PySem.F.args_dict_get_2 _ _) (meets_dict_get (aZ X.prog X.w) a (lX ry) i) ⟨_,dd.mapOf,h _ _ (I.tok _) ?_⟩;rw[l];exact(c.val k).getD rfl
 ·subst d
  cases (show u=Value.ref b from ry)
  obtain⟨z,i,j,c,dd⟩:=pE I.hok e;refine call_meetsIn PySem.F.slot_dict_get dd.typeIs PySem.F.entry_dict_get (PySem.F.args_dict_get_2 _ _) (meetsH_dict_get (tupleKind (aZ X.prog X.w)) a b i) ⟨tupleKind_room_in1 hu,k,j,kQ I.hok m,dd,h _ _ (I.tok _) ?_⟩;rw[l];exact(c.val k).getD rfl
theorem aLu{Q:cf}(hu:A.units+1<cLine)(I:Inv X ce σ H s)(g:oJ H a y o)(ry:bA y u)(rd:bA d r)(h: ∀w' s',Inv X ce σ H s'->bA (o.getD d) w'->Q w' s'):
  wpAny (model X.prog X.w) A (call (.builtin "dict.get") [.ref a,u,r]) Q E s:=by
 rcases g with ⟨i,k,e,f,l⟩|⟨i,k,b,e,f,n,l⟩
 ·subst f;obtain⟨z,j,p,c,dd⟩:=iV I.hok e;refine call_meetsIn PySem.F.slot_dict_get dd.typeIs PySem.F.entry_dict_get (PySem.F.args_dict_get_3 _ _ _) (meets_dict_get_default (aZ X.prog X.w) a (lX ry) j r) ⟨_,dd.mapOf,h _ _ (I.tok _) ?_⟩;rw[l];exact(c.val k).getD rd
 ·subst f
  cases (show u=Value.ref b from ry)
  obtain⟨z,j,m,c,dd⟩:=pE I.hok e;refine call_meetsIn PySem.F.slot_dict_get dd.typeIs PySem.F.entry_dict_get (PySem.F.args_dict_get_3 _ _ _) (meetsH_dict_get_default (tupleKind (aZ X.prog X.w)) a b j r) ⟨tupleKind_room_in1 hu,k,m,kQ I.hok n,dd,h _ _ (I.tok _) ?_⟩;rw[l];exact(c.val k).getD rd
end
def aLv(td ty:TE):TE:=λσ H Q=>td σ H λx H1=>∃a,x= .ref a/\IsD H1 a/\ty σ H1 λy H2=>∃o,oJ H2 a y o/\Q (o.getD .non) H2
def aLw(td ty tx:TE):TE:=λσ H Q=>td σ H λx H1=>∃a,x= .ref a/\IsD H1 a/\ty σ H1 λy H2=>tx σ H2 λz H3=>∃o,oJ H3 a y o/\Q (o.getD z) H3
def aEp(td ty:TE):TE:=λσ H Q=>td σ H λx H1=>∃a,x= .ref a/\IsD H1 a/\ty σ H1 λy H2=>∃kvs k v,H2 a=some (.dK kvs)/\y=kV k/\kP kvs k=some v/\Q v (upd H2 a (.dK (dropK kvs k)))
section
variable {X:Cx} {o e f:Expr} {apos cpos:Pos} {td ty tx:TE}
theorem aB4(hu:X.A.units+1<cLine)(ho:PE X o td)(he:PE X e ty)(m:M1 X o "get" apos e cpos):PE X (.Call (.Attribute o "get" apos) [e] [] cpos) (aLv td ty):=by
 intro i s f H Q I h;refine wpAny_Call_method m.base m.few m.line PySem.F.plainAttrs_dict PySem.F.slot_dict_get PySem.F.type_dict_get (thn (ho i s f H _ I h) λu p ⟨x,t,c,z,a,v,d,q1⟩=>?_)
 subst v;obtain rfl:u=Value.ref a:=z;obtain⟨r,C,_⟩:=xC c d;refine⟨r,C,?_⟩;rw[m.trees];refine Calls.callWith_builtin rfl (Calls.evalArgs_plain (Calls.spliced_cons (thn (he i p f t _ c q1) λiv E ⟨y,B,l,j,K,g,q⟩=>Calls.spliced_nil ?_)))
 exact aLt hu l g j λG J n b=>⟨_,B,n,b,q⟩
theorem aB5(hu:X.A.units+1<cLine)(ho:PE X o td)(he:PE X e ty)(hf:PE X f tx)(m:M2 X o "get" apos e f cpos):PE X (.Call (.Attribute o "get" apos) [e,f] [] cpos) (aLw td ty tx):=by
 intro c s b H Q I h;refine wpAny_Call_method m.base m.few m.line PySem.F.plainAttrs_dict PySem.F.slot_dict_get PySem.F.type_dict_get (thn (ho c s b H _ I h) λu E ⟨x,J,j,B,a,v,d,q1⟩=>?_)
 subst v;obtain rfl:u=Value.ref a:=B;obtain⟨t,N,_⟩:=xC j d;refine⟨t,N,?_⟩;rw[m.trees]
 refine Calls.callWith_builtin rfl (Calls.evalArgs_plain (Calls.spliced_cons (thn (he c E b J _ j q1) λiv p ⟨y,M,n,l,r⟩=>
  Calls.spliced_cons (thn (hf c p b M _ n r) λT W ⟨z,L,C,K,S,g,q⟩=>Calls.spliced_nil ?_))))
 exact aLu hu C g l K λU O G i=>⟨_,L,G,i,q⟩
theorem aB6(ho:PE X o td)(he:PE X e ty)(m:M1 X o "pop" apos e cpos):PE X (.Call (.Attribute o "pop" apos) [e] [] cpos) (aEp td ty):=by
 intro g s f H Q I h;refine wpAny_Call_method m.base m.few m.line PySem.F.plainAttrs_dict PySem.F.slot_dict_pop PySem.F.type_dict_pop (thn (ho g s f H _ I h) λu t ⟨x,B,c,E,a,C,d,q1⟩=>?_)
 subst C;obtain rfl:u=Value.ref a:=E;obtain⟨A,G,_⟩:=xC c d;refine⟨A,G,?_⟩;rw[m.trees];refine Calls.callWith_builtin rfl (Calls.evalArgs_plain (Calls.spliced_cons (thn (he g t f B _ c q1) λiv J ⟨y,L,n,i,p,k,v,j,q,l,z⟩=>Calls.spliced_nil ?_)))
 subst q;exact aP0 n j i l (.inl rfl) λK M r b=>⟨v,_,r,b,z⟩
end
section
variable {X:Cx} {ce:cg} {σ:St} {H:Hp} {s:Shared} {a:Addr} {kvs:List (Key×V)} {A:Around} {E:cf}
theorem aB7{Q:cf}(I:Inv X ce σ H s)(e:Rd H a (.dK kvs))(h: ∀p s',H p=none->Inv X ce σ (upd H p (.dK kvs)) s'->Q (.ref p) s'):wpAny (model X.prog X.w) A (call (.type "dict") [.ref a]) Q E s:=by
 obtain⟨z,g,l,c,dd⟩:=iV I.hok e;refine kt_call_dict g dd (by rw[<-c.length];exact z) λj d i=>?_
 refine h _ _ (I.hok.fresh (aj _)) (I.laid (a:=s.heap.objs.size) (o:=.dK kvs) (t':=s.toks) (λb q f=>?_) (aj _) (mE z (beq_eq_false_iff_ne.mpr (Ne.symm (bj I.bigK))) c d))
 exact(i.2 b (bj (ah f))).trans (af _ f)
end
section
variable {X:Cx} {ce:cg} {σ:St} {H:Hp} {s:Shared} {a:Addr} {y:V} {u:Value} {A:Around} {E:cf}
end
section
variable {X:Cx}
end
section
variable {κ:Type} [DecidableEq κ]
end
end L2
namespace SK
open PySem PySem.Spec PyProof.Rows L2
section
variable {X:Cx} {ad:Ad} {ce:cg} {s:Shared} {σ:St} {H G:Hp} {ρ:Rho} {Q:VK} {E:Nat->Hp->Prop} {pos:Pos} {a b c:Expr} {f g h:F}
mutual
theorem eP(I:Inv X ce σ H s)(hG:Same G H): ∀{d:D} {v:V} {u:Value},plain d=true->Rep X.K ad G d v->bA v u->∃as,Reads s.heap u (dS d) as
 |.non,v,u,_,h,r=>by
  unfold Rep at h;subst h;cases r;unfold dS;exact⟨_,.none⟩
 |.bl b,v,u,_,h,r=>by
  unfold Rep at h;subst h;cases r;unfold dS;exact⟨_,.bool b⟩
 |.int i,v,u,_,h,r=>by
  unfold Rep at h;subst h;obtain⟨t,rfl⟩:=r;unfold dS;exact⟨_,.int i t⟩
 |.str x,v,u,_,h,r=>by
  unfold Rep at h;subst h;obtain⟨t,rfl⟩:=r;unfold dS;exact⟨_,.str x t⟩
 |.tup ds,v,u,p,h,r=>by
  unfold Rep at h;obtain⟨a,y,rfl,c,f⟩:=h;cases r;obtain⟨l,q,⟨o,j,g,n,e⟩,_⟩:=I.tuple (hG.seqT c);obtain⟨as,m⟩:=gU I hG (by simpa[plain]using p) f q
  unfold dS;exact⟨_,.tuple j g e (by simpa using m)⟩
 |.lst ds,v,u,p,h,r=>by
  unfold Rep at h;obtain⟨a,y,rfl,c,f⟩:=h;cases r;obtain⟨l,q,⟨o,n,j,g,_,e⟩,_⟩:=I.list (hG.seq c);obtain⟨as,m⟩:=gU I hG (by simpa[plain]using p) f q
  unfold dS;exact⟨_,.list j g e (by simpa using m)⟩
 |.exc _,_,_,p,_,_=>by simp[plain]at p
 |.fn _,_,_,p,_,_=>by simp[plain]at p
theorem gU(I:Inv X ce σ H s)(hG:Same G H): ∀{ds:List D} {vs:List V} {us:List Value},bP ds=true->aJ X.K ad G ds vs->cN vs us->∃as,ReadsAll s.heap us (eT ds) as
 |[],vs,us,_,h,r=>by
  unfold aJ at h;subst h;cases r;unfold eT;exact⟨_,.nil⟩
 |d::ds,vs,us,p,h,r=>by
  unfold aJ at h;obtain⟨v,i,rfl,b,g⟩:=h
  have a:plain d=true/\bP ds=true:=by simpa[bP]using p
  cases r with
  |cons f e=>
   obtain⟨as,q1⟩:=eP I hG a.1 b f;obtain⟨bs,c⟩:=gU I hG a.2 g e;unfold eT;exact⟨_,.cons q1 c⟩
end
theorem jR(h:hV x y=true):plain x=true/\plain y=true/\min (dep x) (dep y)<=60:=by
 unfold hV at h;rw[aw,aw]at h;exact⟨h.1.1,h.1.2,of_decide_eq_true h.2⟩
theorem xD(hu:A.units+61<cLine)(I:Inv X ce σ H s)(hG:Same G H)(h:hV x y=true)(rx:Rep X.K ad G x v)(ry:Rep X.K ad G y w)(ru:bA v u)(rz:bA w z):
  SeqAt.EqAt A s u z (deq x y):=by
 obtain⟨b,a,e⟩:=jR h;obtain⟨c,q1⟩:=eP I hG b rx ru;obtain⟨bs,d⟩:=eP I hG a ry rz;rw[<-kN x y b a];exact SeqAt.eqAt_reads (dS x) (dS y) A s u z c bs q1 d (jI b) (jI a) (by rw[kM,kM];lia)
theorem mG(r:Rep X.K ad G x v):decide (v= .non)=oZ x:=by
 cases x with
 |bl a=>unfold Rep at r;subst r;rfl
 |non=>unfold Rep at r;subst r;rfl
 |int _=>unfold Rep at r;subst r;rfl
 |str _=>unfold Rep at r;subst r;rfl
 |tup _=>unfold Rep at r;obtain⟨p,_,rfl,_⟩:=r;rfl
 |lst _=>unfold Rep at r;obtain⟨p,_,rfl,_⟩:=r;rfl
 |exc _=>unfold Rep at r;obtain⟨p,rfl,_⟩:=r;rfl
 |fn _=>unfold Rep at r;subst r;rfl
 |dct _ _=>unfold Rep at r;obtain⟨p,_,_,rfl,_⟩:=r;rfl
theorem xE(e:items y=some ys)(r:Rep X.K ad G y w): ∃a vs,w= .ref a/\(SqT X.K G a vs\/SqL X.K G a vs)/\aJ X.K ad G ys vs:=by
 cases y with
 |tup _=>cases e;unfold Rep at r;obtain⟨a,vs,c,b,d⟩:=r;exact⟨a,vs,c,.inl b,d⟩
 |lst _=>cases e;unfold Rep at r;obtain⟨a,vs,c,b,d⟩:=r;exact⟨a,vs,c,.inr b,d⟩
 |_=>cases e
theorem tD: ∀{ys:List D} {vs:List V} {us:List Value},aJ X.K ad G ys vs->cN vs us->∀u∈us, ∃d∈ys, ∃v,Rep X.K ad G d v/\bA v u
 |[],vs,us,h,r,u,hu=>by
  unfold aJ at h;subst h;cases r;cases hu
 |d::ds,vs,us,h,r,u,hu=>by
  unfold aJ at h;obtain⟨v,j,rfl,a,i⟩:=h
  cases r with
  |cons e b=>
   rcases av.mp hu with rfl|hu
   ·exact⟨d,.head _,v,a,e⟩
   ·obtain⟨c,f,g,q⟩:=tD i b u hu;exact⟨c,.tail _ f,g,q⟩
theorem tF(p:D->Bool)(q:Value->Bool): ∀{ys:List D} {vs:List V} {us:List Value},aJ X.K ad G ys vs->cN vs us->(∀d∈ys, ∀v u,Rep X.K ad G d v->bA v u->q u=p d)->us.any q=ys.any p
 |[],vs,us,h,r,_=>by
  unfold aJ at h;subst h;cases r;rfl
 |d::ds,vs,us,h,r,k=>by
  unfold aJ at h;obtain⟨v,i,rfl,a,g⟩:=h
  cases r with
  |cons e b=>
   rw[List.any_cons,List.any_cons,k d (.head _) v _ a e,tF p q g b λc f=>k c (.tail _ f)]
theorem mH(p:D->Bool)(q:Value->Bool): ∀{ys:List D} {vs:List V} {us:List Value},aJ X.K ad G ys vs->cN vs us->(∀d∈ys, ∀v u,Rep X.K ad G d v->bA v u->q u=p d)->us.countP q=ys.countP p
 |[],vs,us,h,r,_=>by
  unfold aJ at h;subst h;cases r;rfl
 |d::ds,vs,us,h,r,k=>by
  unfold aJ at h;obtain⟨v,i,rfl,a,g⟩:=h
  cases r with
  |cons e b=>
   rw[List.countP_cons,List.countP_cons,k d (.head _) v _ a e,mH p q g b λc f=>k c (.tail _ f)]
theorem pG(p:D->Bool)(q:Value->Bool): ∀{ys:List D} {vs:List V} {us:List Value},aJ X.K ad G ys vs->cN vs us->(∀d∈ys, ∀v u,Rep X.K ad G d v->bA v u->q u=p d)->us.findIdx? q=ys.findIdx? p
 |[],vs,us,h,r,_=>by
  unfold aJ at h;subst h;cases r;rfl
 |d::ds,vs,us,h,r,k=>by
  unfold aJ at h;obtain⟨v,i,rfl,a,g⟩:=h
  cases r with
  |cons e b=>
   rw[List.findIdx?_cons,List.findIdx?_cons,k d (.head _) v _ a e,pG p q g b λc f=>k c (.tail _ f)]
open Classical in
theorem aEq(hu:X.A.units+62<cLine)(I:Inv X ce σ H s)(hG:Same G H)(h:aGd x ys=true)(rx:Rep X.K ad G x v)(ru:bA v u)(r:aJ X.K ad G ys vs)(rv:cN vs its):
  ∃e:Value->Bool,(∀y,y∈its.toArray->SeqAt.EqAt X.A.in1 s y u (e y))/\its.toArray.any e=(ys.any λy=>deq y x)/\its.countP e=(ys.countP λy=>deq y x)/\its.findIdx? e=ys.findIdx? λy=>deq y x:=by
 have ok: ∀d∈ys,hV d x=true:=λd c=>zAd h d c
 have a: ∀d∈ys, ∀g f,Rep X.K ad G d g->bA g f->(decide (∃d' b,plain d'=true/\Reads s.heap f (dS d') b/\PyData.eqv (dS d') (dS x)=true))=deq d x:=λd c g f l j=>by
  obtain⟨i,m,_⟩:=jR (ok d c);obtain⟨b,q1⟩:=eP I hG i l j;rw[<-kN d x i m]
  by_cases z:PyData.eqv (dS d) (dS x)=true
  ·rw[z];exact decide_eq_true ⟨d,b,i,q1,z⟩
  ·rw[Bool.not_eq_true]at z;rw[z];refine decide_eq_false ?_;rintro⟨d',as',p',q',z'⟩
   have:=SeqAt.Reads.unique (dS d) (dS d') f b as' (jI i) q1 q'
   rw[<-this,z]at z';cases z'
 refine⟨λf=>decide (∃d' b,plain d'=true/\Reads s.heap f (dS d') b/\PyData.eqv (dS d') (dS x)=true),λy n=>?_,?_,mH _ _ r rv a,pG _ _ r rv a⟩
 ·obtain⟨d,c,g,l,j⟩:=tD r rv y (by simpa using n)
  have:=xD (A:=X.A.in1) (by show X.A.units+1+61<_;lia) I hG (ok d c) l rx j ru
  rw[<-a d c g y l j]at this;exact this
 ·rw[List.any_toArray];exact tF _ _ r rv a
theorem pH{x:Str}: ∀{ks:List Str} {ds:List D} {es:List (Key×V)},es.map (·.1)=ks.map Sum.inr->aJ X.K ad G ds (es.map (·.2))->(kP es (.inr x)=none/\bI (ks.zip ds) x=none/\ks.contains x=false)\/∃v d,kP es (.inr x)=some v/\bI (ks.zip ds) x=some d/\Rep X.K ad G d v/\d∈ds/\ks.contains x=true
 |[],ds,[],_,_=>.inl ⟨rfl,rfl,rfl⟩
 |[],_,_::_,h,_=>by simp at h
 |_::_,_,[],h,_=>by simp at h
 |k::ks,ds,(q,v)::es,h1,h2=>by
  rw[List.map_cons,List.map_cons]at h1;obtain⟨j,o⟩:=List.cons.inj h1;rw[List.map_cons]at h2
  cases ds with
  |nil=>unfold aJ at h2;cases h2
  |cons d ds=>
   unfold aJ at h2;obtain⟨u,t,l,n,m⟩:=h2;cases l
   have f:q= .inr k:=j
   subst f
   by_cases z:k=x
   ·subst z;exact .inr ⟨v,d,hZ rfl,by simp[bI],n,.head _,by simp⟩
   ·have i: ¬((Sum.inr k:Key)= .inr x):=λy=>z (by injection y)
    have g: ¬x=k:=λy=>z y.symm
    rcases pH (x:=x) o m with ⟨c,a,b⟩|⟨w,e,c,a,b,r,s⟩
    ·exact .inl ⟨(gB (p:=(Sum.inr k,v)) i).trans c,by simpa[bI,z]using a,by simpa[g]using b⟩
    ·exact .inr ⟨w,e,(gB (p:=(Sum.inr k,v)) i).trans c,by simpa[bI,z]using a,b,.tail _ r,by simpa[g]using s⟩
theorem xF{A:Around}(hu:A.units+61<cLine)(I:Inv X ce σ H s)(hG:Same G H){ls:List Str}{ws:List D}{eb:List (Key×V)}{kb:List (Key×Value)}(b1:eb.map (·.1)=ls.map Sum.inr)(b2:aJ X.K ad G ws (eb.map (·.2)))(b3:KV eb kb):
  ∀{ks:List Str} {ds:List D} {ea:List (Key×V)} {ka:List (Key×Value)},(∀d∈ds, ∀e∈ws,hV d e=true)->ea.map (·.1)=ks.map Sum.inr->aJ X.K ad G ds (ea.map (·.2))->KV ea ka->
   PySem.W.KeqHits A s kb ka ((ks.zip ds).all λp=>match bI (ls.zip ws) p.1 with|some w=>deq p.2 w|none=>false)
 |[],ds,[],_,_,_,_,.nil=>.nil
 |[],_,_::_,_,_,h,_,_=>by simp at h
 |_::_,_,[],_,_,h,_,_=>by simp at h
 |k::ks,ds,(q,v)::es,(q',u)::ka,ok,h1,h2,.cons h3 h4=>by
  rw[List.map_cons,List.map_cons]at h1;obtain⟨j,t⟩:=List.cons.inj h1;rw[List.map_cons]at h2
  cases ds with
  |nil=>unfold aJ at h2;cases h2
  |cons d ds=>
   unfold aJ at h2;obtain⟨M,L,m,o,n⟩:=h2;cases m;obtain⟨C,l⟩:=h3
   have g:q= .inr k:=j
   have c:q=q':=C
   subst c;subst g;have dU:=xF hu I hG b1 b2 b3 (ks:=ks) (ds:=ds) (ea:=es) (ka:=ka) (λd z e r=>ok d (.tail _ z) e r) t n h4
   rw[List.zip_cons_cons,List.all_cons];have a:=b3.val (.inr k);rcases pH (x:=k) b1 b2 with ⟨f,b,_⟩|⟨w,e,f,b,B,E,_⟩
   ·rw[f]at a;simp only[b,Bool.false_and];exact .miss (lR.none_of a)
   ·rw[f]at a;obtain⟨y,J,i⟩:=lR.some_of a;simp only[b];exact .hit J (xD hu I hG (ok d (.head _) e E) o B l i) dU
theorem aEr{ks:List Str}{es:List (Key×V)}(h1:es.map (·.1)=ks.map Sum.inr)(h2:aJ X.K ad G ds (es.map (·.2))):(ks.zip ds).length=es.length:=by
 have a:=congrArg List.length h1;have b:=h2.length
 simp at a b
 simp[<-a, <-b]
theorem aEs(hu:X.A.units+62<cLine)(I:Inv X ce σ H s)(hG:Same G H)(rx:Rep X.K ad G x v)(ry:Rep X.K ad G y w)(ru:bA v u)(rz:bA w z)(hr:RK X.K ad G H (mZ neg x y) Q E):
  wpAny (model X.prog X.w) X.A (compareOp (if neg then .NotEq else .Eq) u z) (EP X ce σ Q) X.xe s:=by
 cases x<;>try exact ba hr
 cases y<;>try exact ba hr
 rename_i r g m h
 have c:RK X.K ad G H (if(g.all λd=>h.all λe=>hV d e)=true then .ok (.bl (neg != aEj (r.zip g) (m.zip h)))else .bad) Q E:=hr
 by_cases i:(g.all λd=>h.all λe=>hV d e)=true
 ·rw[if_pos i]at c;unfold Rep at rx ry;obtain⟨a,U,ea,rfl,Z,p,j⟩:=rx;obtain⟨b,Y,eb,rfl,S,o,t⟩:=ry
  cases (show u=Value.ref a from ru)
  cases (show z=Value.ref b from rz)
  obtain⟨z1,q,N,n,B⟩:=iV I.hok (.inr ⟨U,hG _ _ Z⟩);obtain⟨z2,l,T,C,M⟩:=iV I.hok (.inr ⟨Y,hG _ _ S⟩)
  have ok: ∀d∈g, ∀e∈h,hV d e=true:=λd hd e O=>zAd (zAd i d hd) e O
  have f:=xF (A:=X.A.in1) (by show X.A.units+1+61<_;lia) I hG o t C ok p j n
  have J:N.length=(r.zip g).length:=by rw[aEr p j];exact(KV.length n).symm
  have L:T.length=(m.zip h).length:=by rw[aEr o t];exact(KV.length C).symm
  cases neg
  ·refine PySem.W.keq_eq q l B M (by lia) (λ_=>f) ?_
   rw[J,L];exact⟨.bl _,H,I,rfl,c.ok_now hG (by unfold Rep aEj;rw[Bool.false_bne]<;>rfl)⟩
  ·refine PySem.W.keq_ne q l B M (by lia) (λ_=>f) ?_
   rw[J,L];exact⟨.bl _,H,I,rfl,c.ok_now hG (by unfold Rep aEj;rw[Bool.true_bne]<;>rfl)⟩
 ·rw[if_neg i]at c;exact c.elim
theorem aEt(hu:X.A.units+1<cLine)(I:Inv X ce σ H s)(hG:Same G H)(rx:Rep X.K ad G (.str x) v)(ry:Rep X.K ad G (.dct ks ds) w)(ru:bA v u)(rz:bA w z)(hr:RK X.K ad G H (.ok (.bl (neg != ks.contains x))) Q E):
  wpAny (model X.prog X.w) X.A (compareOp (if neg then .NotIn else .In) u z) (EP X ce σ Q) X.xe s:=by
 unfold Rep at rx ry;subst rx;obtain⟨a,o,f,rfl,g,i,j⟩:=ry
 cases (show z=Value.ref a from rz)
 have e:(kP f (.inr x)).isSome=ks.contains x:=by
  rcases pH (x:=x) i j with ⟨b,_,d⟩|⟨_,_,b,_,_,_,d⟩
  ·rw[b,d];rfl
  ·rw[b,d];rfl
 have D:oJ H a (.str x) (kP f (.inr x)):=.inl ⟨f,.inr x,.inr ⟨o,hG _ _ g⟩,rfl,rfl⟩;cases neg
 ·refine aRx hu I D ru λh c=>?_
  rw[e];exact⟨.bl _,H,c,rfl,hr.ok_now hG (by unfold Rep;simp)⟩
 ·refine w9 hu I D ru λh c=>?_
  rw[e];exact⟨.bl _,H,c,rfl,hr.ok_now hG (by unfold Rep;simp)⟩
theorem fT(op:CmpOp)(hu:X.A.units+62<cLine):DOp X ad (compareOp op) (eE op):=by
 intro o s n H G x y v w u z Q E I e d b f g a
 cases op with
 |Eq=>
  have c:RK X.K ad G H (if hV x y then R.ok (.bl (deq x y))else mZ false x y) Q E:=a
  by_cases l:hV x y=true
  ·rw[if_pos l]at c;obtain⟨h,m,r⟩:=jR l;obtain⟨q,q1⟩:=eP I e h d f;obtain⟨bs,p⟩:=eP I e m b g;exact SeqAt.compareEq_reads q1 p (jI h) (jI m) (by rw[kM,kM];lia) (by rw[kN x y h m];exact⟨.bl _,H,I,rfl,c.ok_now e cT⟩)
  ·rw[if_neg l]at c;exact aEs (neg:=false) hu I e d b f g c
 |NotEq=>
  have c:RK X.K ad G H (if hV x y then R.ok (.bl (!deq x y))else mZ true x y) Q E:=a
  by_cases l:hV x y=true
  ·rw[if_pos l]at c;obtain⟨h,m,r⟩:=jR l;obtain⟨q,q1⟩:=eP I e h d f;obtain⟨bs,p⟩:=eP I e m b g;exact SeqAt.neOverData X.prog X.w X.A X.xe s u z (dS x) (dS y) q bs _ q1 p (jI h) (jI m) (by rw[kM,kM];lia) (by rw[kN x y h m];exact⟨.bl _,H,I,rfl,c.ok_now e cT⟩)
  ·rw[if_neg l]at c;exact aEs (neg:=true) hu I e d b f g c
 |Lt=>
  cases x<;>cases y<;>try exact ba a
  unfold Rep at d b;subst d;subst b;exact aPm o s n H _ _ u z Q I f g ⟨_,_,rfl,rfl,a.ok_now e cT⟩
 |LtE=>
  cases x<;>cases y<;>try exact ba a
  ·unfold Rep at d b;subst d;subst b;exact aPn o s n H _ _ u z Q I f g ⟨_,_,rfl,rfl,a.ok_now e cT⟩
  ·rename_i i j;unfold Rep at d b;subst d;subst b;obtain⟨t,rfl⟩:=(show ∃t,u=Value.str i t from f)
   obtain⟨B,rfl⟩:=(show ∃t,z=Value.str j t from g)
   exact PySem.P.le_str ⟨.bl _,H,I,rfl,a.ok_now e cT⟩
 |Gt=>
  cases x<;>cases y<;>try exact ba a
  unfold Rep at d b;subst d;subst b;exact aPo o s n H _ _ u z Q I f g ⟨_,_,rfl,rfl,a.ok_now e cT⟩
 |GtE=>
  cases x<;>cases y<;>try exact ba a
  unfold Rep at d b;subst d;subst b;exact aPp o s n H _ _ u z Q I f g ⟨_,_,rfl,rfl,a.ok_now e cT⟩
 |Is=>
  cases y<;>try exact ba a
  unfold Rep at b;subst b;exact aK8 o s n H _ _ u z Q I f g ⟨rfl,by rw[mG d];exact a.ok_now e cT⟩
 |IsNot=>
  cases y<;>try exact ba a
  unfold Rep at b;subst b;exact aF5 o s n H _ _ u z Q I f g ⟨rfl,by rw[mG d];exact a.ok_now e cT⟩
 |In=>
  cases x<;>try exact ba a
  cases y<;>try exact ba a
  exact aEt (neg:=false) (by lia) I e d b f g a
 |NotIn=>
  cases x<;>try exact ba a
  cases y<;>try exact ba a
  exact aEt (neg:=true) (by lia) I e d b f g a
end
theorem PE.imp(h:PE X e t)(k: ∀σ H Q,t' σ H Q->t σ H Q):PE X e t':=λa s σ H Q I w=>h a s σ H Q I (k σ H Q w)
theorem PT.imp(h:PT X e t)(k: ∀σ H Q,t' σ H Q->t σ H Q):PT X e t':=λa s σ H Q I w=>h a s σ H Q I (k σ H Q w)
theorem PW.imp(h:PW X e t)(k: ∀σ H Q,t' σ H Q->t σ H Q):PW X e t':=λb a s σ H Q I w=>h b a s σ H Q I (k σ H Q w)
theorem PS.imp(h:PS X e t)(k: ∀D σ H,t' D σ H->t D σ H):PS X e t':=λa s σ H D I w=>h a s σ H D I (k D σ H w)
theorem PSs.imp(h:PSs X e t)(k: ∀D σ H,t' D σ H->t D σ H):PSs X e t':=λa s σ H D I w=>h a s σ H D I (k D σ H w)
theorem PA.imp(h:PA X es t)(k: ∀σ H Q,t' σ H Q->t σ H Q):PA X es t':=λp a s σ H Q I w=>h p a s σ H Q I (k σ H Q w)
section
variable {X:Cx} {ad:Ad} {ce:cg} {s:Shared} {σ:St} {H G:Hp} {ρ:Rho} {Q:VK} {E:Nat->Hp->Prop} {pos:Pos} {a b c:Expr} {f g h:F}
theorem eU(hG:Same G H)(hS:SL X.K ad G H ρ σ)(hx:XP X ad σ E)(hr:RK X.K ad G H ((f ρ).bind k) Q E)(q: ∀v d G1 H1,Step G H G1 H1->Rep X.K ad G1 d v->RK X.K ad G1 H1 (k d) Q E->Q' v H1):tE X ad f σ H Q':=by
 refine⟨G,ρ,E,hG,hS,hx,?_⟩
 cases e:f ρ with
 |ok d=>
  rw[e]at hr;exact λv G1 H1 a r=>q v d G1 H1 a r (RK.step hr a)
 |ow i=>
  rw[e]at hr;intro p j G1 H1 a n m b r;obtain⟨h,st2,g⟩:=cY (X:=X) (ad:=ad) a n m b r;exact q _ _ h H1 st2 g (RK.step hr st2)
 |ex c=>
  rw[e]at hr;exact hr
 |bad=>
  rw[e]at hr;exact hr
theorem xG(hx:XP X ad σ E)(st:Step G H G1 H1)(hS:SL X.K ad G H ρ σ)(hr:RK X.K ad G1 H1 (f ρ) Q E):tE X ad f σ H1 Q:=⟨G1,ρ,E,st.gh,hS.step st,hx,hr⟩
theorem aLx(ha:ME X ad a f):ME X ad (.UnaryOp .Not a pos) (o0 f):=by
 refine PE.imp (aKv ha) ?_;rintro j H Q ⟨G,l,E,g,h,e,c⟩;refine eU g h e c λv d i m b r k=>?_
 cases d<;>try exact ba k
 unfold Rep at r;subst r;exact⟨_,rfl,k.ok_now b.gh cT⟩
theorem aLy(h:tE X ad (hX f g) σ H Q):aKs (tE X ad f) (tE X ad g) σ H Q:=by
 obtain⟨G,m,E,j,e,c,i⟩:=h;refine eU j e c i λv d l n a r k=>?_
 cases d<;>try exact ba k
 rename_i b;unfold Rep at r;subst r;refine⟨b,rfl,?_⟩
 cases b with
 |true=>exact wT (xG c a e k)
 |false=>exact aBf (k.ok_now a.gh cT)
theorem aP5(h:tE X ad (rOr f g) σ H Q):aRg (tE X ad f) (tE X ad g) σ H Q:=by
 obtain⟨G,m,E,j,e,c,i⟩:=h;refine eU j e c i λv d l n a r k=>?_
 cases d<;>try exact ba k
 rename_i b;unfold Rep at r;subst r;refine⟨b,rfl,?_⟩
 cases b with
 |true=>exact wT (k.ok_now a.gh cT)
 |false=>exact aBf (xG c a e k)
theorem aEu(ha:ME X ad a f)(hb:ME X ad (.BoolOp .And (b::r) pos) g):ME X ad (.BoolOp .And (a::b::r) pos) (hX f g):=PE.imp (aKu ha hb) λ_ _ _ h=>aLy h
theorem aLz(ha:ME X ad a f)(hb:ME X ad (.BoolOp .Or (b::r) pos) g):ME X ad (.BoolOp .Or (a::b::r) pos) (rOr f g):=PE.imp (aPe ha hb) λ_ _ _ h=>aP5 h
theorem aEv(hb:ME X ad b g):ME X ad (.BoolOp op [b] pos) g:=aKt hb
theorem aP6{Q:Bool->Hp->Prop}(h:tT X ad f σ H Q):tE X ad f σ H λx H1=>∃k,x= .bl k/\Q k H1:=by
 obtain⟨G,b,E,d,e,c,g,a⟩:=h;exact⟨G,b,E,d,e,c,a⟩
theorem aEw(ha:ME X ad a f)(he: ∀whole,isTrue a X.env whole=(do let v<-whole;standAt a.pos;holding [v] (truthy v))):MT X ad a f:=PT.imp (aKq ha he) λ_ _ _ h=>aP6 h
theorem gW{r:R}(h:kO (r.bind k)):(∃d,r= .ok d/\kO (k d))\/(∃xs,r= .ow xs/\kO (k (.lst xs)))\/∃c,r= .ex c:=by
 cases r with
 |ok d=>exact .inl ⟨d,rfl,h⟩
 |ow xs=>exact .inr (.inl ⟨xs,rfl,h⟩)
 |ex c=>exact .inr (.inr ⟨c,rfl⟩)
 |bad=>
  rcases h with ⟨_,h⟩|⟨_,h⟩<;>cases h
theorem dB: ¬kO .bad:=by
 rintro(⟨_,h⟩|⟨_,h⟩)<;>cases h
theorem aL0{Q:Bool->Hp->Prop}(h:tT X ad (o0 f) σ H Q):aRf (tT X ad f) σ H Q:=by
 obtain⟨G,i,E,o,l,n,g,m⟩:=h;rcases gW g with ⟨d,e,g⟩|⟨z,e,g⟩|⟨c,e⟩
 ·cases d<;>try exact(dB g).elim
  rename_i b;refine⟨G,i,E,o,l,n,.inl ⟨b,e⟩,?_⟩
  have a:RK X.K ad G H ((f i).bind λx=>match x with|.bl b=>.ok (.bl (!b))|_=>.bad) (λv j=>∃b,v= .bl b/\Q b j) E:=m
  rw[e]at a ⊢;intro v p u s r;unfold Rep at r;subst r;obtain⟨y,t,q⟩:=a (.bl (!b)) p u s cT;cases t;exact⟨b,rfl,q⟩
 ·exact(dB g).elim
 ·refine⟨G,i,E,o,l,n,.inr ⟨c,e⟩,?_⟩
  have a:RK X.K ad G H ((f i).bind λx=>match x with|.bl b=>.ok (.bl (!b))|_=>.bad) (λv j=>∃b,v= .bl b/\Q b j) E:=m
  rw[e]at a ⊢;exact a
theorem aEx(ha:MT X ad a f):MT X ad (.UnaryOp .Not a pos) (o0 f):=PT.imp (aKr ha) λ_ _ _ h=>aL0 h
theorem aL1{Q:Bool->Hp->Prop}(h:tT X ad (hX f g) σ H Q):aRe (tT X ad f) (tT X ad g) σ H Q:=by
 obtain⟨G,j,E,p,m,n,i,s⟩:=h
 have a:RK X.K ad G H ((f j).bind λx=>match x with|.bl true=>g j|.bl false=>.ok (.bl false)|_=>.bad) (λv y=>∃b,v= .bl b/\Q b y) E:=s
 rcases gW i with ⟨d,e,i⟩|⟨A,e,i⟩|⟨c,e⟩
 ·cases d<;>try exact(dB i).elim
  rename_i b;refine⟨G,j,E,p,m,n,.inl ⟨b,e⟩,?_⟩;rw[e]at a ⊢;intro v o u l r;unfold Rep at r;subst r;refine⟨b,rfl,?_⟩
  cases b with
  |true=>exact wT ⟨o,j,E,l.gh,m.step l,n,i,RK.step a l⟩
  |false=>
   obtain⟨z,t,q⟩:=a (.bl false) o u l cT;cases t;exact aBf q
 ·exact(dB i).elim
 ·refine⟨G,j,E,p,m,n,.inr ⟨c,e⟩,?_⟩;rw[e]at a ⊢;exact a
theorem aP7{Q:Bool->Hp->Prop}(h:tT X ad (rOr f g) σ H Q):tOr (tT X ad f) (tT X ad g) σ H Q:=by
 obtain⟨G,j,E,p,m,n,i,s⟩:=h
 have a:RK X.K ad G H ((f j).bind λx=>match x with|.bl true=>.ok (.bl true)|.bl false=>g j|_=>.bad) (λv y=>∃b,v= .bl b/\Q b y) E:=s
 rcases gW i with ⟨d,e,i⟩|⟨A,e,i⟩|⟨c,e⟩
 ·cases d<;>try exact(dB i).elim
  rename_i b;refine⟨G,j,E,p,m,n,.inl ⟨b,e⟩,?_⟩;rw[e]at a ⊢;intro v o u l r;unfold Rep at r;subst r;refine⟨b,rfl,?_⟩
  cases b with
  |true=>
   obtain⟨z,t,q⟩:=a (.bl true) o u l cT;cases t;exact wT q
  |false=>exact aBf ⟨o,j,E,l.gh,m.step l,n,i,RK.step a l⟩
 ·exact(dB i).elim
 ·refine⟨G,j,E,p,m,n,.inr ⟨c,e⟩,?_⟩;rw[e]at a ⊢;exact a
theorem aEy(ha:MT X ad a f)(hb:MW X ad (.BoolOp .And (b::r) pos) g):MW X ad (.BoolOp .And (a::b::r) pos) (hX f g):=PW.imp (pw_and ha hb) λ_ _ _ h=>aL1 h
theorem aGw(ha:MT X ad a f)(hb:MW X ad (.BoolOp .Or (b::r) pos) g):MW X ad (.BoolOp .Or (a::b::r) pos) (rOr f g):=PW.imp (pw_or ha hb) λ_ _ _ h=>aP7 h
theorem xH(hb:MT X ad b g):MW X ad (.BoolOp op [b] pos) g:=by
 cases op with
 |And=>exact pw_and1 hb
 |Or=>exact pw_or1 hb
theorem aL2(hu:X.A.units+62<cLine)(ha:ME X ad a f)(hb:ME X ad b g)(hm:behindInMarks op b=false):ME X ad (.Compare a [op] [b] pos) (aY op f g):=by
 refine λl s j H Q I d=>d.el λG m E h i e c=>?_
 exact wpAny_Compare1 (w5 (fT op hu) ha hb I h i e c) hm
theorem aEz(hu:X.A.units+62<cLine)(ha:ME X ad a f)(hb:ME X ad b g)(hm:behindInMarks op b=false):MT X ad (.Compare a [op] [b] pos) (aY op f g):=by
 refine λJ s C H Q I m=>m.el λG y E o h n t j=>?_
 refine wpAny_isTrue_Compare1 (L2.thn (w5 (fT op hu) ha hb I o h n j) λv z l=>L2.thn l λu B d=>L2.thn d λc K ⟨x,p,r,i,k,e,q⟩=>?_) hm
 subst e;cases i;exact wpAny_truthy_bool ⟨p,r,q⟩
theorem xI:(∃k,eE op x y= .ok (.bl k))\/eE op x y= .bad:=by
 cases op<;>unfold eE<;>(try unfold inS)<;>(try unfold mZ)<;>(repeat' split)<;>first|exact .inr rfl|exact .inl ⟨_,rfl⟩
theorem aP8(hu:X.A.units+62<cLine)(I:Inv X ce σ H s)(hG:Same G H)(rx:Rep X.K ad G x v)(ry:Rep X.K ad G y w)(ru:bA v u)(rz:bA w z)(hr:RK X.K ad G H ((eE op x y).bind k) Q E):wpAny (model X.prog X.w) X.A (compareOp op u z) (λd s3=>∃b G' H',d= .bool b/\Step G H G' H'/\Inv X ce σ H' s3/\RK X.K ad G' H' (k (.bl b)) Q E) X.xe s:=by
 rcases xI (op:=op) (x:=x) (y:=y)with ⟨b,e⟩|e
 ·rw[e]at hr;refine L2.thn (fT op hu ce s σ H G x y v w u z (λq H'=>∃G',Step G H G' H'/\q= .bl b) E I hG rx ry ru rz (by rw[e];exact λq G' H' a r=>⟨G',a,by unfold Rep at r;exact r⟩)) λd s3 ⟨q,H',f,g,G',a,c⟩=>?_
  subst c;cases g;exact⟨b,G',H',rfl,a,f,RK.step hr a⟩
 ·rw[e]at hr;exact hr.elim
theorem aB8(hu:X.A.units+62<cLine)(ha:ME X ad a f)(hb:ME X ad b g)(hc:ME X ad c h)(hm:lastMarks [op,op'] [b,c]=false):ME X ad (.Compare a [op,op'] [b,c] pos) (jG op op' f g h):=by
 refine λL s K H Q I h9=>h9.el λG ρ E hG m l U=>?_
 refine Compare_chain (L2.thn (ha.thn I hG m l U) λv s1 ⟨x,d1,G1,H1,M,J,st1,q1,z⟩=>chain_link (L2.thn (hb.thn M st1.gh (m.step st1) l z) λu s2 ⟨y,Z,G2,H2,C,q,st2,o,k2⟩=>
  L2.thn (aP8 hu C st2.gh (q1.mono st2.sg) o J q k2) λd s3 ⟨k,G3,H3,e,i,r,p⟩=>?_)) hm
 subst e;refine wpAny_truthy_bool ?_
 cases k with
 |false=>exact ite_ff ⟨.bl false,H3,r,rfl,p.ok_now i.gh cT⟩
 |true=>
  refine ite_tt (chain_last (L2.thn (hc.thn r i.gh (((m.step st1).step st2).step i) l p) λY O n=>?_))
  obtain⟨S,N,t,W,T,B,j,q4,k4⟩:=n;exact fT op' hu L O K W t Z N y S u Y Q E T j.gh ((o.mono i.sg).mono j.sg) q4 q B k4
theorem aB9(hu:X.A.units+62<cLine)(ha:ME X ad a f)(hb:ME X ad b g)(hc:ME X ad c h)(hm:lastMarks [op,op'] [b,c]=false):MT X ad (.Compare a [op,op'] [b,c] pos) (jG op op' f g h):=by
 refine λO s N H Q I h9=>h9.el λG ρ E hG n m ht hr=>?_
 refine isTrue_chain (L2.thn (ha.thn I hG n m hr) λv s1 ⟨x,d1,G1,H1,U,K,st1,q1,B⟩=>test_link (L2.thn (hb.thn U st1.gh (n.step st1) m B) λu s2 ⟨y,d2,G2,H2,J,q,st2,o,t⟩=>
  L2.thn (aP8 hu J st2.gh (q1.mono st2.sg) o K q t) λd s3 ⟨k,G3,H3,e,i,r,p⟩=>?_)) hm
 subst e;refine wpAny_truthy_bool ?_
 cases k with
 |false=>
  obtain⟨k',M,Y⟩:=p.ok_now (v:=.bl false) i.gh cT;cases M;exact ite_ff ⟨H3,r,Y⟩
 |true=>
  refine ite_tt (test_last (L2.thn (hc.thn r i.gh (((n.step st1).step st2).step i) m p) λw' Z j=>?_))
  obtain⟨z',W,z,H4,I4,C,l,q4,k4⟩:=j;refine L2.thn (fT op' hu O Z N H4 z d2 W y z' u w' _ E I4 l.gh ((o.mono i.sg).mono l.sg) q4 q C k4) λd' s5 j=>?_
  obtain⟨z2,H5,T,S,t,L,q5⟩:=j;subst L;cases S;exact wpAny_truthy_bool ⟨H5,T,q5⟩
theorem xJ:MA X ad [] []:=PA.imp dZ λc H Q ⟨G,d,E,b,f,e,a⟩=>a [] G H (Step.refl b) aJ.nil
theorem nC(ha:ME X ad a f)(hr:MA X ad es fs)(hs:starEach (a::es) X.env=(false,eval a X.env)::starEach es X.env):MA X ad (a::es) (f::fs):=by
 refine PA.imp (bY ha hr hs) ?_;rintro y H Q ⟨G,j,E,A,s,u,hr⟩
 have b: ∀d,AK X.K ad G H ((args fs j).cons d) Q E->∀v h i,Step G H h i->Rep X.K ad h d v->tA X ad fs y i λx l=>Q (v::x) l:=λd hk v h i g r=>by
  refine⟨h,j,E,g.gh,s.step g,u,?_⟩
  cases e:args fs j with
  |ok B=>rw[e]at hk;exact λt o l st2 q=>hk (v::t) o l (g.trans st2) (aJ.cons (r.mono st2.sg) q)
  |ex c=>rw[e]at hk;exact λo l st2=>hk o l (g.trans st2)
  |bad=>rw[e]at hk;exact hk
 refine⟨G,j,E,A,s,u,?_⟩;unfold args at hr
 cases e:f j with
 |ok d=>rw[e]at hr;exact λv h i g r=>b d hr v h i g r
 |ow x=>
  rw[e]at hr;intro p t h i g n m z r;obtain⟨o,st2,q⟩:=cY (X:=X) (ad:=ad) g n m z r;exact b _ hr _ o i st2 q
 |ex c=>rw[e]at hr;exact hr
 |bad=>rw[e]at hr;exact hr
theorem gC(h:args fs ρ= .ok ds):ds.length=fs.length:=by
 induction fs generalizing ds with
 |nil=>cases h;rfl
 |cons f fs b=>
  unfold args at h
  cases e:f ρ with
  |ok d=>
   rw[e]at h
   cases a:args fs ρ with
   |ok r=>rw[a]at h;cases h;simp[b a]
   |ex c=>rw[a]at h;cases h
   |bad=>rw[a]at h;cases h
  |ow d=>
   rw[e]at h
   cases a:args fs ρ with
   |ok r=>rw[a]at h;cases h;simp[b a]
   |ex c=>rw[a]at h;cases h
   |bad=>rw[a]at h;cases h
  |ex c=>rw[e]at h;cases h
  |bad=>rw[e]at h;cases h
theorem rN(hG:Same G H)(hS:SL X.K ad G H ρ σ)(hx:XP X ad σ E)(hr:RK X.K ad G H (l7 fs ρ k) Q E)(q: ∀vs ds G1 H1,Step G H G1 H1->aJ X.K ad G1 ds vs->ds.length=fs.length->RK X.K ad G1 H1 (k ds) Q E->Q' vs H1):tA X ad fs σ H Q':=by
 refine⟨G,ρ,E,hG,hS,hx,?_⟩;unfold l7 at hr
 cases e:args fs ρ with
 |ok ds=>rw[e]at hr;exact λvs G1 H1 a r=>q vs ds G1 H1 a r (gC e) (RK.step hr a)
 |ex c=>rw[e]at hr;exact hr
 |bad=>rw[e]at hr;exact hr
theorem aL3(ha:MA X ad es fs)(hl:fs.length<=1000):ME X ad (.Tuple es j pos) (eF fs):=by
 refine PE.imp (aEh ha) ?_;rintro q H Q ⟨G,b,E,l,f,i,h⟩;refine⟨G,b,E,l,f,i,?_⟩
 have a:RK X.K ad G H ((args fs b).then λm=>.ok (.tup m)) Q E:=h
 cases e:args fs b with
 |ok t=>
  rw[e]at a;intro o n s d r;refine⟨?_,λp g=>(RK.step a d).tup_new d.gh r g⟩
  have:=r.length
  rw[this,gC e];exact Nat.le_trans hl (by decide)
 |ex c=>rw[e]at a;exact a
 |bad=>rw[e]at a;exact a
theorem aE0(ha:MA X ad es fs)(hl:fs.length<=1000):ME X ad (.List es pos) (iU fs):=by
 refine PE.imp (sR ha) ?_;rintro o H Q ⟨G,b,E,j,f,i,h⟩;refine⟨G,b,E,j,f,i,?_⟩
 have a:RK X.K ad G H ((args fs b).then λl=>.ow l) Q E:=h
 cases e:args fs b with
 |ok s=>
  rw[e]at a;intro n m q d r;refine⟨?_,λp g=>(RK.step a d).ow_new d.gh r g⟩
  have:=r.length
  rw[this,gC e];exact Nat.le_trans hl (by decide)
 |ex c=>rw[e]at a;exact a
 |bad=>rw[e]at a;exact a
def Seq(X:Cx)(ad:Ad)(G H:Hp)(x:D)(v:V):Prop:=Rep X.K ad G x v\/∃a vs ds,x= .lst ds/\v= .ref a/\G a=none/\H a=some (.lst vs)/\aJ X.K ad G ds vs
theorem Seq.step(q:Seq X ad G H x v)(st:Step G H G1 H1):Seq X ad G1 H1 x v:=by
 rcases q with q|⟨a,vs,ds,e1,e2,h1,h2,h3⟩
 ·exact .inl (q.mono st.sg)
 ·refine .inr ⟨a,vs,ds,e1,e2,?_,st.sh _ _ h2,h3.mono st.sg⟩
  cases z:G1 a with
  |none=>rfl
  |some o=>
   have:=st.nw a h1 (by rw[z];exact λz=>nomatch z)
   rw[h2]at this;cases this
theorem Seq.items{x:D}{v:V}{ds:List D}(q:Seq X ad G H x v)(hG:Same G H)(e:items x=some ds): ∃a vs,v= .ref a/\(x= .tup ds/\SqT X.K H a vs\/x= .lst ds/\SqL X.K H a vs)/\aJ X.K ad G ds vs:=by
 rcases q with q|⟨a,vs,ds',e1,e2,d,b,c⟩
 ·cases x with
  |tup _=>cases e;unfold Rep at q;obtain⟨a,vs,d,b,c⟩:=q;exact⟨a,vs,d,.inl ⟨rfl,hG.seqT b⟩,c⟩
  |lst _=>cases e;unfold Rep at q;obtain⟨a,vs,d,b,c⟩:=q;exact⟨a,vs,d,.inr ⟨rfl,hG.seq b⟩,c⟩
  |_=>cases e
 ·subst e1;cases e;exact⟨a,vs,e2,.inr ⟨rfl,SqL.of b⟩,c⟩
theorem aE1(n:Nat)(i:Int):ixD n i=L2.ixN n i:=rfl
theorem aGx{Ex:cf}{T id:String}{Q:cf}(hl:typeLookup (.type T) "__getitem__"=pure (some (.builtin id)))(hs:subscripted slice false o i=operate [o,i] (getItem o i))(hT:s.TypeIs o T)(h:wpAny (model prog w) A (getItem o i) Q Ex s):wpAny (model prog w) A (subscriptTail value slice o i) Q Ex s:=by
 unfold subscriptTail;refine aa ?_;rw[getitemInPython_of_ne hT.not_modules];refine aa (wpAny_specialOf hT hl ?_)
 have b:wpAny (model prog w) A (subscripted slice false o i) (λr a=>wpAny (model prog w) A (letTemporaryGo value o r >>= λ_=>pure r) Q Ex a) Ex s:=by
  rw[hs];exact wpAny_operating (wpAny_mono h (λr a c=>aa (wpAny_letTemporaryGo (ae c))) λ_ _ x=>x)
 first
  |exact ae (aa b)
  |exact aa (ae (aa b))
  |exact aa b
theorem aL4(I:Inv X ce σ H s)(hG:Same G H)(rx:Rep X.K ad G (.dct ks ds) v)(ru:bA v u)(rz:bA (.str k) z)(hs:subscripted b false u z=operate [u,z] (getItem u z))(hr:RK X.K ad G H (match bI (ks.zip ds) k with|some d=>.ok d|none=>.bad) Q E):wpAny (model X.prog X.w) X.A (subscriptTail a b u z) (EP X ce σ Q) X.xe s:=by
 unfold Rep at rx;obtain⟨p,o,r,rfl,g,m,i⟩:=rx
 cases (show u=Value.ref p from ru)
 rcases pH (x:=k) m i with ⟨_,f,_⟩|⟨w,d,l,f,j,_,_⟩
 ·rw[f]at hr;exact hr.elim
 ·rw[f]at hr;obtain⟨B,t,q,c,dd⟩:=iV I.hok (.inr ⟨o,hG _ _ g⟩);have h:=c.val (.inr k);rw[l]at h;obtain⟨y,n,e⟩:=lR.some_of h;exact aGx PySem.F.slot_dict_getitem.lookup hs dd.typeIs (wpAny_getItem_of (lX (k:=.inr k) rz) dd.mapOf n ⟨w,H,I.tok _,e,hr.ok_now hG j⟩)
theorem aL5(ha:MLk X ad a f)(hb:ME X ad b g)(hs:wQ b):ME X ad (.Subscript a b pos) (rIx f g):=by
 refine λO s N H Q I h9=>h9.el λG ρ E hG hS hx hr=>?_
 refine Subscript_ (L2.thn (ha O s N H G ρ _ Q E I hG hS hx hr) λv s1 q=>?_)
 obtain⟨x,U,G1,H1,I1,L,st1,q1,k1⟩:=q;refine L2.thn (hb.thn I1 st1.gh (hS.step st1) hx k1) λu Z q=>?_
 obtain⟨y,Y,T,n,J,W,st2,r,t⟩:=q;have h:Seq X ad T n U x:=Seq.step (X:=X) (ad:=ad) q1 st2;unfold dIx at t
 cases e:items U with
 |none=>
  rw[e]at t;have B:RK X.K ad T n (ixS U Y) Q E:=t
  cases U<;>try exact ba B
  case dct ks M=>
   cases Y<;>try exact ba B
   rcases h with h|⟨_,_,_,w,_⟩
   ·unfold Rep at r;subst r;exact aL4 J st2.gh h L W (hs _ _) B
   ·cases w
  cases Y<;>try exact ba B
  rename_i z i
  have o:RK X.K ad T n (if z.length<=LIM then(match(ixD z.cps.toList.length i).bind λj=>z.cps.toList[j]? with|some c=>.ok (.str ⟨#[c]⟩)|none=>.bad)else .bad) Q E:=B
  unfold Rep at r;subst r
  by_cases hc:z.length<=LIM
  ·rw[if_pos hc]at o
   cases m:(ixD z.cps.toList.length i).bind λj=>z.cps.toList[j]? with
   |none=>rw[m]at o;exact o.elim
   |some c=>
    rw[m]at o;rcases h with h|⟨_,_,_,w,_⟩
    ·unfold Rep at h;subst h;exact fK a b O Z N n _ _ v u Q J L W ⟨z,i,c,rfl,rfl,Nat.le_trans hc (by decide),m,o.ok_now st2.gh wY⟩ (hs _ _)
    ·cases w
  ·rw[if_neg hc]at o;exact o.elim
 |some S=>
  rw[e]at t
  cases Y<;>try exact t.elim
  rename_i i;unfold Rep at r;subst r;obtain⟨p,M,rfl,C,rq⟩:=h.items st2.gh e
  have l:RK X.K ad T n (match(ixD S.length i).bind λj=>S[j]? with|some d=>.ok d|none=>.bad) Q E:=t
  cases m:(ixD S.length i).bind λj=>S[j]? with
  |none=>rw[m]at l;exact l.elim
  |some d=>
   rw[m]at l;obtain⟨j,e4,e5⟩:=zBd m;obtain⟨w,e6,r6⟩:=rq.get e5
   have A:atI M i=some w:=by
    unfold atI;rw[rq.length, <-aE1,e4];exact e6
   rcases C with ⟨_,C⟩|⟨_,C⟩
   ·exact aLb a b O Z N n _ _ v u Q J L W ⟨p,M,i,w,rfl,rfl,C,A,l.ok_now st2.gh r6⟩ (hs _ _)
   ·exact aGb a b O Z N n _ _ v u Q J L W ⟨p,M,i,w,rfl,rfl,C,A,l.ok_now st2.gh r6⟩ (hs _ _)
end
section
variable {X:Cx} {ad:Ad} {ce:cg} {s:Shared} {σ:St} {H G:Hp} {ρ:Rho} {Q:VK} {E:Nat->Hp->Prop} {pos p:Pos} {a b c:Expr} {f g h:F}
theorem RK.impE{K:PySem.W.Frag}(h:RK K ad G H r Q E)(k: ∀c H',E c H'->E' c H'):RK K ad G H r Q E':=by
 cases r with
 |ok d=>exact h
 |ow e=>exact h
 |ex c=>exact λb H' a=>k c H' (h b H' a)
 |bad=>exact h
def LK(X:Cx)(ad:Ad)(G H:Hp)(r:R)(Q:VK)(E:Nat->Hp->Prop):Prop:=match r with
 |.ok d=>∀v G' H',Step G H G' H'->Seq X ad G' H' d v->Q v H'
 |.ow xs=>∀p vs G' H',Step G H G' H'->H p=none->G' p=none->H' p=some (.lst vs)->aJ X.K ad G' xs vs->Q (.ref p) H'
 |.ex c=>∀G' H',Step G H G' H'->E c H'
 |.bad=>False
def tL(X:Cx)(ad:Ad)(f:F):TE:=λσ H Q=>∃G ρ E,Same G H/\SL X.K ad G H ρ σ/\XP X ad σ E/\LK X ad G H (f ρ) Q E
abbrev ML(X:Cx)(ad:Ad)(e:Expr)(f:F):Prop:=PE X e (tL X ad f)
theorem LK.rk(h:LK X ad G H r Q E):RK X.K ad G H r Q E:=by
 cases r with
 |ok d=>exact λv e b a q=>h v e b a (.inl q)
 |ow f=>exact h
 |ex c=>exact h
 |bad=>exact h
theorem ME.ml(ha:ME X ad a f):ML X ad a f:=PE.imp ha λh H Q ⟨G,c,E,e,g,d,b⟩=>⟨G,c,E,e,g,d,b.rk⟩
theorem xK(hN:X.N[i]? =some x)(hv:Vis X.env.scope x)(hd:(x==("__debug__":Str))=false)(hcd:(x==("__classdict__":Str))=false):ML X ad (.Name x pos) (aD i):=by
 rintro j s h H Q I ⟨G,m,E,l,g,u,a⟩;unfold aD at a
 cases e:m[i]? with
 |none=>
  rw[e]at a;exact a.elim
 |some t=>
  rw[e]at a
  cases t with
  |no=>exact a.elim
  |dc c=>exact a.elim
  |sd c=>exact a.elim
  |rk _ _=>exact a.elim
  |ow r=>
   obtain⟨p,o,f,b,q,n⟩:=g.ow e;exact cP hN hv hd hcd j s h H Q I ⟨.ref p,f,a (.ref p) G H (Step.refl l) (.inr ⟨p,o,r,rfl,rfl,b,q,n⟩)⟩
  |sh d=>
   obtain⟨w,f,b⟩:=g.sh e;exact cP hN hv hd hcd j s h H Q I ⟨w,f,a w G H (Step.refl l) (.inl b)⟩
theorem ML.lk(ha:ML X ad a f):MLk X ad a f:=by
 intro x s t H G j k Q E I y r z i
 cases e:f j with
 |ok d=>
  rw[e]at i;refine L2.thn (ha x s t H (λv g=>∃b,Step G H b g/\Seq X ad b g d v) I ⟨G,j,E,y,r,z,by rw[e];exact λv b g h q=>⟨b,h,q⟩⟩) λu A ⟨v,g,o,l,b,h,q⟩=>?_
  exact⟨v,d,b,g,o,l,h,q,RK.step i h⟩
 |ow B=>
  rw[e]at i;refine L2.thn (ha x s t H (λv g=>∃b,Step G H b g/\Rep X.K ad b (.lst B) v) I ⟨G,j,E,y,r,z,by rw[e];exact λp J b g h n m C q=>cY h n m C q⟩) λu A ⟨v,g,o,l,b,h,q⟩=>?_
  exact⟨v,.lst B,b,g,o,l,h,.inl q,RK.step i h⟩
 |ex c=>
  rw[e]at i;refine L2.thn (ha x s t H (λv g=>False) I ⟨G,j,E,y,r,z,by rw[e];exact i⟩) λu A ⟨v,g,o,l,q⟩=>q.elim
 |bad=>
  rw[e]at i;exact ba i
theorem xL(hG:Same G H)(hS:SL X.K ad G H ρ σ)(hx:XP X ad σ E)(hr:RK X.K ad G H ((f ρ).bind k) Q E)(q: ∀v d G1 H1,Step G H G1 H1->Seq X ad G1 H1 d v->RK X.K ad G1 H1 (k d) Q E->Q' v H1):tL X ad f σ H Q':=by
 refine⟨G,ρ,E,hG,hS,hx,?_⟩
 cases e:f ρ with
 |ok d=>
  rw[e]at hr;exact λv G1 H1 a r=>q v d G1 H1 a r (RK.step hr a)
 |ow i=>
  rw[e]at hr;intro p j G1 H1 a n m b r;obtain⟨h,st2,g⟩:=cY (X:=X) (ad:=ad) a n m b r;exact q _ _ h H1 st2 (.inl g) (RK.step hr st2)
 |ex c=>
  rw[e]at hr;exact hr
 |bad=>
  rw[e]at hr;exact hr
theorem tG:l7 [f] ρ k=(f ρ).bind λx=>k [x]:=by
 unfold l7 args
 cases f ρ<;>rfl
def BOp(X:Cx)(ad:Ad)(fv:Value)(r:Fn):Prop:=
 ∀(ce:cg) (s:Shared) (σ:St) (H G:Hp) (x:D) (v:V) (u:Value) (Q:VK) (E:Nat->Hp->Prop),Inv X ce σ H s->Same G H->Seq X ad G H x v->bA v u->RK X.K ad G H (r [x]) Q E->
  wpAny (model X.prog X.w) X.A (call fv [u]) (EP X ce σ Q) X.xe s
theorem kR{id:String}(ho:BOp X ad (.builtin id) r)(hg:L2.Gl X x)(hm:X.mg x=none)(hv:bootBuiltins x=some (.builtin id))(ha:ML X ad a f)(hn:x≠"__name__")(hdb:(x==("__debug__":Str))=false)(he:starEach [a] X.env=(false,eval a X.env)::starEach [] X.env):ME X ad (.Call (.Name x p) [a] [] pos) (aG r [f]):=by
 rintro j s i H Q I ⟨G,B,E,z,n,A,g⟩;refine wpAny_Call_Name_kw (fN I hg hm hv ?_ hn hdb);unfold aG at g;rw[tG]at g;refine PyProof.Rows.callWith_builtin1 (L2.thn (bY ha dZ he pos j s i H (λh c=>∃v d b,h=[v]/\Step G H b c/\Seq X ad b c d v/\RK X.K ad b c (r [d]) Q E) I ?_) λC t ⟨h,c,m,o,v,d,b,l,e,q,k⟩=>?_) he rfl
 ·exact xL z n A g λv d b c e q k=>⟨v,d,b,rfl,e,q,k⟩
 ·subst l;obtain⟨u,rfl,y⟩:=lU o;exact ho j t i c b d v u Q E m e.gh q y k
theorem xM(ho:BOp X ad (.type T) r)(hg:L2.Gl X x)(hm:X.mg x=none)(hv:bootBuiltins x=some (.type T))(ha:ML X ad a f)(hn:x≠"__name__")(hdb:(x==("__debug__":Str))=false)(he:starEach [a] X.env=(false,eval a X.env)::starEach [] X.env):ME X ad (.Call (.Name x p) [a] [] pos) (aG r [f]):=by
 rintro j s i H Q I ⟨G,B,E,z,n,A,g⟩;refine wpAny_Call_Name_kw (fN I hg hm hv ?_ hn hdb);unfold aG at g;rw[tG]at g;refine PyProof.Rows.callWith_type1 (L2.thn (bY ha dZ he pos j s i H (λh c=>∃v d b,h=[v]/\Step G H b c/\Seq X ad b c d v/\RK X.K ad b c (r [d]) Q E) I ?_) λC t ⟨h,c,m,o,v,d,b,l,e,q,k⟩=>?_) he rfl
 ·exact xL z n A g λv d b c e q k=>⟨v,d,b,rfl,e,q,k⟩
 ·subst l;obtain⟨u,rfl,y⟩:=lU o;exact ho j t i c b d v u Q E m e.gh q y k
theorem xN:BOp X ad (.builtin "len") rD:=by
 intro i s h H G x v u Q E I g q j m
 have a:RK X.K ad G H (match items x with|some xs=>.ok (.int xs.length)|none=>aRn x) Q E:=m
 cases e:items x with
 |none=>
  rw[e]at a
  cases x with
  |str z=>
   have b:RK X.K ad G H (if z.length<=100000 then .ok (.int z.length)else .bad) Q E:=a
   by_cases d:z.length<=100000
   ·rw[if_pos d]at b;rcases q with q|⟨_,_,_,y,_⟩
    ·unfold Rep at q;subst q;exact oV i s h H _ [u] Q I (.cons j .nil) ⟨_,rfl,Nat.le_trans d (by decide),b.ok_now g bR⟩
    ·cases y
   ·rw[if_neg d]at b;exact b.elim
  |_=>exact ba a
 |some o=>
  rw[e]at a;obtain⟨p,c,rfl,n,l⟩:=q.items g e;have f:SqL X.K H p c\/SqT X.K H p c:=n.elim (λz=>.inr z.2) λz=>.inl z.2
  refine oU i s h H [.ref p] [u] Q I (.cons j .nil) ⟨p,c,rfl,f,?_⟩;rw[l.length];exact a.ok_now g bR
theorem aGy:BOp X ad (.type "int") aBg:=by
 intro i s h H G x v u Q E I f q e b
 cases x<;>try exact ba b
 ·rcases q with q|⟨_,_,_,z,_⟩
  ·unfold Rep at q;subst q;exact oP i s h H _ [u] Q I (.cons e .nil) (.inr ⟨_,rfl,b.ok_now f bR⟩)
  ·cases z
 ·rcases q with q|⟨_,_,_,z,_⟩
  ·unfold Rep at q;subst q;exact oP i s h H _ [u] Q I (.cons e .nil) (.inl ⟨_,rfl,b.ok_now f bR⟩)
  ·cases z
 ·rename_i x;rcases q with q|⟨_,_,_,z,_⟩
  ·unfold Rep at q;subst q;obtain⟨t,rfl⟩:=(show ∃t,u=Value.str x t from e)
   have a:RK X.K ad G H (match x.cps.toList with|[c]=>if 48<=c/\c<58 then .ok (.int ((c-48:Nat):Int))else .bad|_=>.bad) Q E:=b
   split at a
   ·rename_i c n
    by_cases j:48<=c/\c<58
    ·rw[if_pos j]at a;obtain⟨d,l,rfl⟩: ∃d,d<10/\c=48+d:=⟨c-48,by lia,by lia⟩
     have g:x=⟨#[48+d]⟩:=PySem.Str.ext' (by rw[<-Array.toList_inj];exact n)
     subst g
     have m:PySem.intText? ⟨#[48+d]⟩=some (((48+d-48:Nat):Nat):Int):=(by decide+kernel: ∀d:Fin 10,PySem.intText? ⟨#[48+d.val]⟩=some (((48+d.val-48:Nat):Nat):Int)) ⟨d,l⟩
     exact PySem.W.KIN.call_text m (by show 1<=640;decide) ⟨.int _,H,I.tok _,⟨_,rfl⟩,a.ok_now f bR⟩
    ·rw[if_neg j]at a;exact a.elim
   ·exact a.elim
  ·cases z
theorem aCa:BOp X ad (.type "list") vG:=by
 intro j s h H G x v u Q E I d q m i
 have a:RK X.K ad G H (match items x with|some xs=>.ow xs|none=>.bad) Q E:=i
 cases e:items x with
 |none=>rw[e]at a;exact a.elim
 |some o=>
  rw[e]at a;obtain⟨p,b,rfl,n,f⟩:=q.items d e;have c:SqL X.K H p b\/SqT X.K H p b:=n.elim (λz=>.inr z.2) λz=>.inl z.2
  exact oW j s h H [.ref p] [u] Q I (.cons m .nil) ⟨p,b,rfl,c,λl g=>a.ow_new d f g⟩
theorem xO:BOp X ad (.type "tuple") gN:=by
 intro h s g H G x v u Q E I d q i n
 have a:RK X.K ad G H (match items x with|some xs=>.ok (.tup xs)|none=>.bad) Q E:=n
 cases e:items x with
 |none=>rw[e]at a;exact a.elim
 |some o=>
  rw[e]at a;obtain⟨p,f,rfl,b,j⟩:=q.items d e;rcases b with ⟨c,b⟩|⟨c,b⟩
  ·refine hU h s g H [.ref p] [u] Q I (.cons i .nil) ⟨p,f,rfl,.inr ⟨b,a.ok_now d ?_⟩⟩;rcases q with q|⟨_,_,_,z,_⟩
   ·rw[c]at q;exact q
   ·rw[c]at z;cases z
  ·exact hU h s g H [.ref p] [u] Q I (.cons i .nil) ⟨p,f,rfl,.inl ⟨b,λl m=>a.tup_new d j m⟩⟩
theorem pI: ∀{ds:List D} {ns:List Int} {vs:List V},gT ds=some ns->aJ X.K ad G ds vs->vs=ns.map V.int
 |[],ns,vs,e,r=>by
  cases e;unfold aJ at r;exact r
 |d::ds,ns,vs,e,r=>by
  cases d<;>try (unfold gT at e;cases e)
  rename_i i;unfold gT at e;obtain⟨g,b,f⟩:=zMd e;subst f;unfold aJ at r;obtain⟨v,h,rfl,a,c⟩:=r;unfold Rep at a;subst a;rw[pI b c];rfl
theorem mI: ∀{ds:List D} {ns:List Bool} {vs:List V},eX ds=some ns->aJ X.K ad G ds vs->vs=ns.map V.bl
 |[],ns,vs,e,r=>by
  cases e;unfold aJ at r;exact r
 |d::ds,ns,vs,e,r=>by
  cases d<;>try (unfold eX at e;cases e)
  rename_i i;unfold eX at e;obtain⟨g,b,f⟩:=zMd e;subst f;unfold aJ at r;obtain⟨v,h,rfl,a,c⟩:=r;unfold Rep at a;subst a;rw[mI b c];rfl
theorem tH(hh:A.handled=none)(I:Inv X ce σ H s){p:Addr}(hq:SqL X.K H p vs\/SqT X.K H p vs){Ex:cf}{Q':cf}(k: ∀(its:List Value) (s2:Shared) (I':Addr) (fp wr:List Addr) (Stt:Nat->Heap->Prop),cN vs its->Walks X.prog X.w A I' fp wr its.length (λi v=>its[i]? =some v) Stt->Stt 0 s2.heap->(∀b∈fp,b<s2.heap.objs.size)->s2.os=s.os->s2.gens=s.gens->s2.drawn=s.drawn->
   (∀b o,s.heap.get? b=some o->b∉wr)->(∀b o,s.heap.get? b=some o->s2.heap.get? b=some o)->Q' (.ref I') s2):wpAny (model X.prog X.w) A (pyIter (.ref p)) Q' Ex s:=by
 rcases hq with hq|hq
 ·obtain⟨its,j,g,_⟩:=I.list hq;have f:p<s.heap.objs.size:=by obtain⟨o,n,e,_⟩:=g;exact ah e
  refine wpAny_pyIter_list g.isList (k its _ s.heap.objs.size [s.heap.objs.size,p] [s.heap.objs.size] (λi h=>h.IsListIter s.heap.objs.size p i/\h.IsList p its.toArray) j ?_ (And.intro ⟨_,ag _ rfl,rfl,rfl⟩ ?_) ?_ rfl rfl rfl ?_ ?_)
  ·have W:=Walks.list (prog:=X.prog) (w:=X.w) hh s.heap.objs.size p (bj f) its.toArray;simpa using W
  ·obtain⟨o,n,e,c,d⟩:=g;exact⟨o,af _ e,c,n,d.2⟩
  ·intro b a;rcases av.mp a with rfl|a
   ·rw[ai];exact Nat.lt_succ_self _
   ·have:b=p:=by simpa using a
    subst this;rw[ai];exact Nat.lt_succ_of_lt f
  ·intro b o e a
   have:b=s.heap.objs.size:=by simpa using a
   subst this;exact absurd (ah e) (Nat.lt_irrefl _)
  ·exact λb o e=>af _ e
 ·obtain⟨its,j,g,_⟩:=I.tuple hq;have f:p<s.heap.objs.size:=g.lt;refine wpAny_pyIter_tuple (show s.heap.IsTuple p its.toArray from g) (k its _ s.heap.objs.size [s.heap.objs.size,p] [s.heap.objs.size] (λi h=>h.IsTupleIter s.heap.objs.size p i/\h.IsTuple p its.toArray) j ?_ (And.intro ⟨_,ag _ rfl,rfl,rfl⟩ ?_) ?_ rfl rfl rfl ?_ ?_)
  ·have W:=Walks.tuple (prog:=X.prog) (w:=X.w) hh s.heap.objs.size p (bj f) its.toArray;simpa using W
  ·obtain⟨o,e,c⟩:=g;exact⟨o,af _ e,c⟩
  ·intro b a;rcases av.mp a with rfl|a
   ·rw[ai];exact Nat.lt_succ_self _
   ·have:b=p:=by simpa using a
    subst this;rw[ai];exact Nat.lt_succ_of_lt f
  ·intro b o e a
   have:b=s.heap.objs.size:=by simpa using a
   subst this;exact absurd (ah e) (Nat.lt_irrefl _)
  ·exact λb o e=>af _ e
end
section
variable {X:Cx} {ad:Ad} {ce:cg} {s:Shared} {σ:St} {H G:Hp} {ρ:Rho} {Q:VK} {E:Nat->Hp->Prop} {pos p:Pos} {a b c:Expr} {f g h:F}
theorem _root_.L2.Inv.moved(I:Inv X ce σ H s)(k1: ∀b o,s.heap.get? b=some o->s2.heap.get? b=some o)(k2: ∀b o,s.heap.get? b=some o->b∉wr)(e1:s2.os=s.os)(e2:s2.gens=s.gens)(e3:s2.drawn=s.drawn)(m:Moved wr (λa b=>b=a) s2 s'):Inv X ce σ H s':=by
 have e:s'={s with heap:=s'.heap,toks:=s'.toks}:=by
  obtain⟨h,l,i,n,j⟩:=s';obtain⟨g,d,c,f,p⟩:=m
  simp only at d c f ⊢
  rw[d,c,f,e1,e2,e3]
 rw[e];exact I.kept λb o q=>m.heap b o (k2 b o q) (k1 b o q)
theorem aL6{ns:List Int}{its:List Value}(r:cN (ns.map V.int) its){i:Nat}{v:Value}(e:its[i]? =some v): ∃t,v= .int (ns.getD i 0) t:=by
 have f:=r.length;have g:i<its.length:=(ay.mp e).1;have a:i<ns.length:=by rw[aq]at f;lia
 have c:(ns.map V.int)[i]? =some (V.int ns[i]):=by simp[a]
 obtain⟨u,b,t,d⟩:=r.get c;rw[e]at b;cases b;refine⟨t,?_⟩;rw[d];simp[List.getD,a]
theorem aGz(hh:X.A.handled=none):BOp X ad (.builtin "sum") aBh:=by
 intro ce s σ H G x v u Q E I o q C U
 have a:RK X.K ad G H (match(items x).bind gT with|some xs=>.ok (.int xs.sum)|none=>.bad) Q E:=U
 cases e:items x with
 |none=>rw[e]at a;exact a.elim
 |some j=>
  rw[e]at a
  have b:RK X.K ad G H (match gT j with|some xs=>.ok (.int xs.sum)|none=>.bad) Q E:=a
  cases c:gT j with
  |none=>rw[c]at b;exact b.elim
  |some n=>
   rw[c]at b;obtain⟨p,h,rfl,Z,O⟩:=q.items o e;have f:SqL X.K H p h\/SqT X.K H p h:=Z.elim (λz=>.inr z.2) λz=>.inl z.2
   cases (show u=Value.ref p from C)
   have ev:=pI c O;subst ev;refine call_sum_walkAnyS (tH (A:=X.A.in1) hh I f λg s2 Y J S N l W T d B L y r M=>?_)
   refine⟨Y,J,S,_,g.length,_,_,λi=>n.getD i 0,rfl,W.toS,T,d,λi v e=>aL6 l e,λs' t m=>?_⟩
   refine⟨.int n.sum,H,I.moved M r B L y m,⟨t,?_⟩,b.ok_now o bR⟩;rw[preSum_getD, <-l.length,aq,List.take_length]
theorem aP9{ns:List Bool}{its:List Value}(r:cN (ns.map V.bl) its){i:Nat}{v:Value}(e:its[i]? =some v):v= .bool (ns.getD i false):=by
 have g:=r.length;have h:i<its.length:=(ay.mp e).1;have a:i<ns.length:=by rw[aq]at g;lia
 have c:(ns.map V.bl)[i]? =some (V.bl ns[i]):=by simp[a]
 obtain⟨u,b,f⟩:=r.get c;rw[e]at b;cases b
 have d:v= .bool ns[i]:=f
 rw[d];simp[List.getD,a]
theorem xP(ns:List Bool):(List.range ns.length).all (λi=>ns.getD i false)=ns.all id:=by
 induction ns with
 |nil=>rfl
 |cons x a b=>
  rw[bt,List.range_succ_eq_map,List.all_cons,List.all_map,List.all_cons]
  have:(List.range a.length).all ((λi=>(x::a).getD i false) ∘ Nat.succ)=a.all id:=by
   rw[<-b];rfl
  rw[this];rfl
theorem aG0(hh:X.A.handled=none):BOp X ad (.builtin "all") aJ5:=by
 intro ce s σ H G x v u Q E I l q B U
 have a:RK X.K ad G H (match(items x).bind eX with|some xs=>.ok (.bl (xs.all id))|none=>.bad) Q E:=U
 cases e:items x with
 |none=>rw[e]at a;exact a.elim
 |some h=>
  rw[e]at a
  have b:RK X.K ad G H (match eX h with|some xs=>.ok (.bl (xs.all id))|none=>.bad) Q E:=a
  cases c:eX h with
  |none=>rw[c]at b;exact b.elim
  |some Z=>
   rw[c]at b;obtain⟨p,g,rfl,Y,N⟩:=q.items l e;have d:SqL X.K H p g\/SqT X.K H p g:=Y.elim (λz=>.inr z.2) λz=>.inl z.2
   cases (show u=Value.ref p from B)
   have ev:=mI c N;subst ev;refine call_all_walkS (tH (A:=X.A.in1) hh I d λf s2 I' C S M j W T O y J r o L=>?_)
   refine⟨I',C,S,_,f.length,_,_,λi=>Z.getD i false,rfl,W.toS,T,?_,λs' m=>?_⟩
   ·intro i v s' Q' E' n t;rw[aP9 j n];exact wpAny_truthy_bool t
   ·refine⟨.bl _,H,I.moved L o y J r m,?_,b.ok_now l cT⟩;rw[<-j.length,aq,xP];rfl
theorem aS0{α:Type}{ds:List α}(h:ds.length=2): ∃d e,ds=[d,e]:=by
 cases ds with
 |nil=>cases h
 |cons d r=>
  cases r with
  |nil=>cases h
  |cons e r=>
   cases r with
   |nil=>exact⟨d,e,rfl⟩
   |cons _ _=>simp at h
theorem aKa{id:String}{op:Int->Int->Int}(hd: ∀i j,r [.int i,.int j]= .ok (.int (op i j)))(hb0: ∀x y Q E G H,RK X.K ad G H (r [x,y]) Q E->∃i j,x= .int i/\y= .int j)(ho:lT X (.builtin id) (λxs H Q=>∃i j,xs=[.int i,.int j]/\Q (.int (op i j)) H))(hg:L2.Gl X x)(hm:X.mg x=none)(hv:bootBuiltins x=some (.builtin id))(ha:ME X ad a f)(hb:ME X ad b g)(hn:x≠"__name__")(hdb:(x==("__debug__":Str))=false)(he:starEach [a,b] X.env=(false,eval a X.env)::starEach [b] X.env)(he2:starEach [b] X.env=(false,eval b X.env)::starEach [] X.env):ME X ad (.Call (.Name x p) [a,b] [] pos) (aG r [f,g]):=by
 refine PE.imp (sT (id:=id) ho hg hm hv (nC ha (nC hb xJ he2) he) hn hdb he (by rw[he2];rfl)) ?_
 rintro N H Q ⟨G,I,E,A,q,z,u⟩;refine rN A q z u λL O o B t m s k=>?_
 obtain⟨d,e,rfl⟩:=aS0 s;obtain⟨i,j,rfl,rfl⟩:=hb0 d e Q E o B k;unfold aJ at m;obtain⟨v,J,rfl,l,c⟩:=m;unfold aJ at c;obtain⟨M,C,rfl,n,h⟩:=c;unfold aJ at h;subst h;unfold Rep at l n;subst l;subst n;rw[hd]at k;exact⟨i,j,rfl,k.ok_now t.gh bR⟩
def vJ(K:PySem.W.Frag)(ad:Ad)(n:Nat)(F:Fn):Sp:=λvs H Q E=>∃G ds,Same G H/\aJ K ad G ds vs/\ds.length=n/\RK K ad G H (F ds) Q (λc H'=>E (.ref (ad.cls c)) none H')
theorem rO{f:Addr}{E:XK}(F:FnOk X.prog X.w X.K X.mg X.base CX k f fd ps sp)(hr:Room k X.A)(hb:dW X.K fd ps [])(I:Inv X ce σ H s)(r:cN vs us)(h:sp vs H Q E)(hx: ∀e s',CX X.stack H s E e s'->X.xe e s'):wpAny (model X.prog X.w) X.A (call (.ref f) us) (EP X ce σ Q) X.xe s:=by
 have c:(us++[]).length=ps.length:=by rw[List.append_nil, <-r.length];exact F.len _ _ _ _ h
 refine wpAny_call (codeAny_mono (F.run X.A X.stack s H ⟨us,[]⟩ us vs Q E hr I.env0 (by have:=hb s us I.kIn c;rwa [List.append_nil]at this) r h) λr s' a=>?_)
 cases r with
 |error e=>exact hx e s' a
 |ok b=>
  cases b with
  |ret u=>exact I.after a
  |next=>exact ba a
  |brk=>exact ba a
  |cont=>exact ba a
structure FnGood(X:Cx)(ad:Ad)(k:Nat)(x:Str)(n:Nat)(F:Fn)(f:Addr):Prop where
 mg:X.mg x=some (.ref f)
 kp:PySem.W.keepIn X.K (.ref f)=true
 ok: ∃fd ps,FnOk X.prog X.w X.K X.mg X.base (CXe X.prog X.w) k f fd ps (vJ X.K ad n F)/\dW X.K fd ps []
theorem xQ{F:Fn}{f:Addr}(T:FnGood X ad k x n F f)(hr:Room k X.A)(I:Inv X ce σ H s)(hG:Same G H)(hx:XP X ad σ E)(r:cN vs us)(rq:aJ X.K ad G ds vs)(hl:ds.length=n)(h:RK X.K ad G H (F ds) Q E):wpAny (model X.prog X.w) X.A (call (.ref f) us) (EP X ce σ Q) X.xe s:=by
 obtain⟨i,j,a,d⟩:=T.ok;exact rO (E:=xk ad E) a hr d I r ⟨G,ds,hG,rq,hl,h.impE λc l e=>⟨c,rfl,e⟩⟩ λe g b=>hx ce H s e g I b
theorem aG1{F:Fn}{f:Addr}(T:FnGood X ad k x n F f)(hr:Room k X.A)(hg:L2.Gl X x)(hdb:(x==("__debug__":Str))=false)(ha:MA X ad (a::es) fs)(hn:fs.length=n)(he:starEach (a::es) X.env=(false,eval a X.env)::starEach es X.env)(hpl:(backTo pos (starEach es X.env)).any (·.1)=false):ME X ad (.Call (.Name x p) (a::es) [] pos) (aG F fs):=by
 refine λt s q H Q I u=>u.el λG y E v o l e=>?_
 refine wpAny_Call_Name_kw (fD I hg T.mg ?_ hdb)
 refine PySem.W.callWith_K (h₀:=X.base) I.ok.mod.kin T.kp (L2.thn (ha pos t s q H (λg d=>∃c b,Step G H b d/\aJ X.K ad b c g/\c.length=fs.length/\RK X.K ad b d (F c) Q E) I
  (rN v o l e λg c b d j h i k=>⟨c,b,j,h,i,k⟩)) λz B ⟨g,d,m,r,c,b,j,h,i,k⟩=>⟨m.kIn,?_⟩) he hpl
 exact xQ T hr m j.gh l r h (i.trans hn) k
structure FnAt(X:Cx)(ad:Ad)(k:Nat)(n:Nat)(F:Fn)(f:Addr):Prop where
 kp:PySem.W.keepIn X.K (.ref f)=true
 ok: ∃fd ps,FnOk X.prog X.w X.K X.mg X.base (CXe X.prog X.w) k f fd ps (vJ X.K ad n F)/\dW X.K fd ps []
end
noncomputable def kS(cells:List (Str×Addr)):List (Str×NameKind)->List (Str×Addr)->List (Str×Addr)
 |[],acc=>acc
 |(x,k)::r,acc=>kS cells r (if k== .free then(x,(cells.lookup x).getD 0)::acc else acc)
theorem jS{cells:List (Str×Addr)}: ∀{ns:List (Str×NameKind)} {acc:List (Str×Addr)} {x:Str} {c:Addr},(kS cells ns acc).lookup x=some c->(∃k,(x,k)∈ns/\k= .free/\c=(cells.lookup x).getD 0)\/acc.lookup x=some c
 |[],acc,x,c,h=>.inr h
 |(y,k)::r,acc,x,c,h=>by
  rcases jS (ns:=r) h with ⟨f,d,b,g⟩|h
  ·exact .inl ⟨f,.tail _ d,b,g⟩
  ·by_cases hk:(k==NameKind.free)=true
   ·rw[if_pos hk,List.lookup_cons]at h
    cases a:x==y with
    |true=>
     rw[a]at h
     have e:x=y:=eq_of_beq a
     subst e;exact .inl ⟨k,.head _,eq_of_beq hk,(Option.some.inj h).symm⟩
    |false=>
     rw[a]at h;exact .inr h
   ·rw[if_neg hk]at h;exact .inr h
theorem tJ{cells:List (Str×Addr)}: ∀{ns:List (Str×NameKind)} {acc:List (Str×Addr)} {x:Str},(acc.lookup x).isSome=true->((kS cells ns acc).lookup x).isSome=true
 |[],_,_,h=>h
 |(y,k)::r,acc,x,h=>by
  refine tJ (ns:=r) ?_
  by_cases hk:(k==NameKind.free)=true
  ·rw[if_pos hk,List.lookup_cons]
   cases x==y with
   |true=>rfl
   |false=>exact h
  ·rw[if_neg hk];exact h
theorem jT{cells:List (Str×Addr)}: ∀{ns:List (Str×NameKind)} {acc:List (Str×Addr)} {x:Str},(x,NameKind.free)∈ns->((kS cells ns acc).lookup x).isSome=true
 |[],_,_,h=>nomatch h
 |(y,k)::r,acc,x,h=>by
  rcases av.mp h with e|h
  ·cases e;refine tJ (ns:=r) ?_;rw[if_pos (by rfl),List.lookup_cons,beq_self_eq_true]
   rfl
  ·exact jT (ns:=r) h
theorem iX(h: ∀x,(x,NameKind.free)∈sc.names->(env.cells.lookup x).isSome=true):closureFor sc env=pure (kS env.cells sc.names []):=by
 have n: ∀(d:List (Str×NameKind)) (a:List (Str×Addr)),(∀x,(x,NameKind.free)∈d->(env.cells.lookup x).isSome=true)->
   (forIn d a (λ(p:Str×NameKind) (b:List (Str×Addr))=>if p.2== .free then do let c<-cellOf env p.1;pure (ForInStep.yield ((p.1,c)::b))else pure (ForInStep.yield b)):Sem (List (Str×Addr)))=pure (kS env.cells d a):=by
  intro d
  induction d with
  |nil=>intro a _;rfl
  |cons p r l=>
   intro a g;obtain⟨x,k⟩:=p;rw[List.forIn_cons]
   by_cases hk:(k==NameKind.free)=true
   ·have o:k= .free:=eq_of_beq hk
    subst o;obtain⟨c,j⟩:=Option.isSome_iff_exists.mp (g x (.head _))
    have m:cellOf env x=pure c:=by unfold cellOf;rw[j]
    have f:=l ((x,c)::a) λy i=>g y (.tail _ i)
    simp only[beq_self_eq_true,if_true,m]
    show(forIn r ((x,c)::a) _:Sem (List (Str×Addr)))=_
    rw[f];show pure _=pure (kS env.cells r (if(NameKind.free==NameKind.free)=true then(x,(env.cells.lookup x).getD 0)::a else a))
    rw[if_pos (by rfl),j]
    rfl
   ·simp only[hk]
    show(forIn r a _:Sem (List (Str×Addr)))=_
    rw[l a λy i=>g y (.tail _ i)]
    show pure _=pure (kS env.cells r (if(k==NameKind.free)=true then _ else a))
    rw[if_neg hk]
 have e:=n sc.names [] h
 have f:closureFor sc env=((forIn sc.names ([]:List (Str×Addr)) (λ(p:Str×NameKind) (b:List (Str×Addr))=>if p.2== .free then do let c<-cellOf env p.1;pure (ForInStep.yield ((p.1,c)::b))else pure (ForInStep.yield b)):Sem (List (Str×Addr))) >>= λb=>pure b):=rfl
 rw[f,e];rfl
theorem bW{env:PySem.Env}{x:Str}: ∀{names:List (Str×NameKind)},(names.map λ(n,k)=>if(k==NameKind.free&&env.scope.kind== .function&&env.kindOf n==some .cell)then(n,NameKind.cell)else(n,k)).lookup x=
  (names.lookup x).map λk=>if(k==NameKind.free&&env.scope.kind== .function&&env.kindOf x==some .cell)then NameKind.cell else k
 |[]=>rfl
 |(n,k)::r=>by
  rw[List.map_cons];have c:= @bW env x r;show List.lookup x ((if(k==NameKind.free&&env.scope.kind== .function&&env.kindOf n==some .cell)=true then(n,NameKind.cell)else(n,k))::_)=_
  by_cases a:(k==NameKind.free&&env.scope.kind== .function&&env.kindOf n==some .cell)=true
  ·rw[if_pos a,List.lookup_cons,List.lookup_cons]
   cases b:x==n with
   |true=>
    have e:x=n:=eq_of_beq b
    subst e;simp only[Option.map,a,if_true]
   |false=>exact c
  ·rw[if_neg a,List.lookup_cons,List.lookup_cons]
   cases b:x==n with
   |true=>
    have e:x=n:=eq_of_beq b
    subst e;simp only[Option.map];rw[if_neg a]
   |false=>exact c
def aO2:Nat->Nat->TGs
 |_,0=>aPi
 |j,n+1=>aF2 (jM j) (aO2 (j+1) n)
def gO:Nat->List V->St->St
 |_,[],σ=>σ
 |j,v::r,σ=>gO (j+1) r (σ.set j (some v))
theorem xR: ∀{vs:List V} {j:Nat} {σ:St} {H:Hp} {Q:St->Hp->Prop},Q (gO j vs σ) H->aO2 j vs.length vs σ H Q
 |[],_,_,_,_,h=>⟨rfl,h⟩
 |v::r,j,σ,H,Q,h=>⟨v,r,rfl,xR (vs:=r) (j:=j+1) (σ:=σ.set j (some v)) h⟩
theorem fG: ∀{vs:List V} {j:Nat} {σ:St},(gO j vs σ).length=σ.length
 |[],_,_=>rfl
 |v::r,j,σ=>by
  show(gO (j+1) r (σ.set j (some v))).length=_
  rw[fG (vs:=r),List.length_set]
theorem kT: ∀{vs:List V} {j i:Nat} {σ:St},j+vs.length<=i\/i<j->(gO j vs σ)[i]? =σ[i]?
 |[],_,_,_,_=>rfl
 |v::r,j,i,σ,h=>by
  show(gO (j+1) r (σ.set j (some v)))[i]? =_
  simp only[bt]at h;rw[kT (vs:=r) (by lia),bd (by lia)]
theorem pJ: ∀{vs:List V} {j i:Nat} {σ:St} {v:V},vs[i]? =some v->j+vs.length<=σ.length->(gO j vs σ)[j+i]? =some (some v)
 |[],_,_,_,_,h,_=>by simp at h
 |w::r,j,0,σ,v,h,hl=>by
  simp at h
  subst h
  show(gO (j+1) r (σ.set j (some w)))[j]? =_
  rw[kT (vs:=r) (.inr (by lia)),bn (by simp only[bt]at hl;lia)]
 |w::r,j,i+1,σ,v,h,hl=>by
  show(gO (j+1) r (σ.set j (some w)))[j+(i+1)]? =_
  have e:j+(i+1)=(j+1)+i:=by lia
  rw[e];exact pJ (vs:=r) (by simpa using h) (by simp only[bt,List.length_set]at hl ⊢;lia)
section
variable {X:Cx} {ad:Ad}
theorem pK(hN:X.N.Nodup): ∀{es:List Expr} {xs:List Str} {j:Nat},dR (λ(e:Expr)=>match e with|.Name x _=>some x|_=>none) es=some xs->(∀(i:Nat) (x:Str),xs[i]? =some x->X.N[j+i]? =some x/\X.env.scope.names.lookup x=some .local)->PGs X es (aO2 j xs.length)
 |[],xs,j,e,_=>by
  cases e;exact wJ
 |a::es,xs,j,e,h=>by
  unfold dR at e
  cases a<;>try (cases e)
  rename_i x n
  simp only at e
  obtain⟨r,c,l⟩:=zMd e;subst l;obtain⟨d,b⟩:=h 0 x rfl;refine sO (j5 hN (by simpa using d) (.inl b) (.inr b)) (pK hN c λi y f=>?_) rfl
  obtain⟨m,g⟩:=h (i+1) y (by simpa using f)
  exact⟨by rw[<-m];congr 1;lia,g⟩
def gTg(K:PySem.W.Frag)(k:Nat):TG:=match k with
 |0=>jM 0
 |n+1=>aKx K (n+1) (aO2 0 (n+1))
theorem aQa{tg:Expr}(hc:X.calm=true)(hN:X.N.Nodup)(e:bZ tg=some (xs,k))(h: ∀(i:Nat) (x:Str),xs[i]? =some x->X.N[i]? =some x/\X.env.scope.names.lookup x=some .local):PG X tg (gTg X.K k):=by
 cases tg<;>try (cases e)
 ·rename_i x t;obtain⟨l,f⟩:=h 0 x rfl;exact j5 hN l (.inl f) (.inr f)
 ·rename_i m j t;unfold bZ at e;obtain⟨s,c,d⟩:=zBd e
  by_cases g:2<=s.length
  ·rw[if_pos g]at d;cases d
   have P:=pK (X:=X) hN (j:=0) c λi x v=>by
    obtain⟨l,f⟩:=h i x v;exact⟨by rw[Nat.zero_add];exact l,f⟩
   have b:(assignEach m X.env).length=xs.length/\(assignEach m X.env).findIdx? (·.1)=none:=by
    clear P g h e
    induction m generalizing xs with
    |nil=>cases c;exact⟨rfl,rfl⟩
    |cons a r y=>
     unfold dR at c
     cases a<;>try (cases c)
     rename_i z o
     simp only at c
     obtain⟨E,q,C⟩:=zMd c;subst C;obtain⟨A,B⟩:=y q
     have u:assignEach (Expr.Name z o::r) X.env=(false,assign (.Name z o) X.env)::assignEach r X.env:=rfl
     rw[u];refine⟨by simp[A],?_⟩
     rw[List.findIdx?_cons];simp[B]
   obtain⟨n,p⟩: ∃n,xs.length=n+1:=⟨xs.length-1,by lia⟩
   rw[p]at P ⊢;exact aEf hc P (by rw[<-p];exact b.1) b.2
  ·rw[if_neg g]at d;cases d
end
structure ItH(X:Cx)(ad:Ad)(J:It)(G H:Hp)(ds:List D):Prop where
 go: ∀(i:Nat) (G1 H1:Hp) (d:D),Step G H G1 H1->ds[i]? =some d->J.go i H1/\∀x H2,J.yld i H1 x H2->∃G2,Step G1 H1 G2 H2/\Rep X.K ad G2 d x
 stop: ∀(G1 H1:Hp),Step G H G1 H1->J.stop ds.length H1
 few:ds.length<=sizeLine
def IK(X:Cx)(ad:Ad)(G H:Hp)(r:R)(W:It->Hp->Prop)(E:Nat->Hp->Prop):Prop:=match r with
 |.ok d=>∃ds,hW d=some ds/\∀J G' H',Step G H G' H'->ItH X ad J G' H' ds->W J H'
 |.ow xs=>∀J G' H',Step G H G' H'->ItH X ad J G' H' xs->W J H'
 |.ex c=>∀G' H',Step G H G' H'->E c H'
 |.bad=>False
def tI(X:Cx)(ad:Ad)(f:F):TI:=λσ H W=>∃G ρ E,Same G H/\SL X.K ad G H ρ σ/\XP X ad σ E/\IK X ad G H (f ρ) W E
abbrev MI(X:Cx)(ad:Ad)(tg e:Expr)(f:F):Prop:=PI X tg e (tI X ad f)
def Cel(sc:Scope):Prop:=o9 sc=[]\/∃x,o9 sc=[x]/\sc.names.lookup x=some .cell
theorem cf0: ∀{ns:List (Str×NameKind)} {a:Nat} {acc:List (Str×Addr)},(ns.filter λp=>p.2== .cell).map (·.1)=[]->cellsFrom a ns acc=acc/\∀h,pushCells h ns=h
 |[],_,_,_=>⟨rfl,λ_=>rfl⟩
 |(y,k)::r,a,acc,e=>by
  by_cases hk:(k==NameKind.cell)=true
  ·simp[List.filter_cons,hk]at e
  ·have c:(r.filter λp=>p.2== .cell).map (·.1)=[]:=by simpa[List.filter_cons,hk]using e
   obtain⟨d,b⟩:=cf0 (a:=a) (acc:=acc) c;unfold cellsFrom pushCells;exact⟨by rw[if_neg hk];exact d,λh=>by rw[if_neg hk];exact b h⟩
theorem cf1: ∀{ns:List (Str×NameKind)} {a:Nat} {acc:List (Str×Addr)} {x:Str},(ns.filter λp=>p.2== .cell).map (·.1)=[x]->cellsFrom a ns acc=(x,a)::acc/\∀h,pushCells h ns=h.push {cls:=.type "cell",data:=.cell none}
 |[],_,_,_,e=>by simp at e
 |(y,k)::r,a,acc,x,e=>by
  by_cases hk:(k==NameKind.cell)=true
  ·have b:y=x/\(r.filter λp=>p.2== .cell).map (·.1)=[]:=by simpa[List.filter_cons,hk]using e
   obtain⟨rfl,b⟩:=b;obtain⟨d,c⟩:=cf0 (a:=a+1) (acc:=(y,a)::acc) b;unfold cellsFrom pushCells;exact⟨by rw[if_pos hk];exact d,λh=>by rw[if_pos hk];exact c _⟩
  ·have b:(r.filter λp=>p.2== .cell).map (·.1)=[x]:=by simpa[List.filter_cons,hk]using e
   obtain⟨d,c⟩:=cf1 (a:=a) (acc:=acc) b;unfold cellsFrom pushCells;exact⟨by rw[if_neg hk];exact d,λh=>by rw[if_neg hk];exact c h⟩
def clC(X:Cx)(sc:Scope)(L:Addr):List (Str×Addr):=cellsFrom (L+1) sc.names (kS X.env.cells sc.names [])
theorem fH(hc:Cel sc)(h:(clC X sc L).lookup y=some c):(o9 sc=[y]/\c=L+1)\/(kS X.env.cells sc.names []).lookup y=some c:=by
 unfold clC at h;rcases hc with e|⟨x,e,_⟩
 ·rw[(cf0 e).1]at h;exact .inr h
 ·rw[(cf1 e).1,List.lookup_cons]at h
  cases q:y==x with
  |true=>rw[q]at h;rw[eq_of_beq q];exact .inl ⟨e,(Option.some.inj h).symm⟩
  |false=>rw[q]at h;exact .inr h
theorem xS(e:o9 sc=[x]):(clC X sc L).lookup x=some (L+1):=by
 unfold clC;rw[(cf1 e).1,List.lookup_cons,beq_self_eq_true]
theorem tK(hc:Cel sc)(hy:sc.names.lookup y=some .free)(h:(kS X.env.cells sc.names []).lookup y=some c):(clC X sc L).lookup y=some c:=by
 unfold clC;rcases hc with e|⟨x,e,hx⟩
 ·rw[(cf0 e).1];exact h
 ·rw[(cf1 e).1,List.lookup_cons]
  cases q:y==x with
  |true=>rw[eq_of_beq q,hx]at hy;cases hy
  |false=>exact h
def cX(X:Cx)(N':List Str)(sc:Scope)(s3:Shared)(H3:Hp)(fp:List Addr)(ce:cg):Cx:=
 {X with N:=N',s₀:=s3,H₀:=H3,env:=compEnvC sc (clC X sc s3.heap.objs.size) s3.heap.objs.size X.env,outer:=X.stack,stack:=X.stack,ex:=fp,fn:=λy=>decide (o9 sc=[y]),pn:=X.pn++ce,xe:=λ_ _=>False}
section
variable {X:Cx} {ad:Ad} {ce:cg} {s s3:Shared} {σ:St} {H H3 G:Hp} {ρ:Rho} {Q:VK} {E:Nat->Hp->Prop} {pos:Pos} {sc:Scope} {N':List Str} {fp:List Addr}
theorem aCb(h:Y.xe=λ_ _=>False):XP Y ad σ (λ_ _=>False):=by
 intro d H s e i I a;obtain⟨f,b,g,j,B,_,_,_,_,_,_,_,_,_,c,_,z⟩:=a;exact z.elim
theorem Un.sameBut(u:Un fs ex H H' h h1)(sb:Heap.SameBut C h1 h2)(hC:h.objs.size<=C):Un fs ex H H' h h2:=by
 have d: ∀b o,h.get? b=some o->b≠C:=λb o e z=>by
  subst z;exact absurd (bh (ah e) hC) (Nat.lt_irrefl _)
 refine⟨λb o e n c a=>?_,λb o e n c a=>?_,u.free,λb o e a=>?_,u.tups,u.frzs,u.tbls⟩
 ·exact(sb.2 b (d b o e)).trans (u.keep b o e n c a)
 ·obtain⟨g,z⟩:=u.slot b o e n c a;exact⟨g,(sb.2 b (d b o e)).trans z⟩
 ·obtain⟨f,z⟩:=u.there b o e a;exact⟨f,(sb.2 b (d b o e)).trans z⟩
theorem aCc{fpO: ∀b∈fp,oI X ce H3 b}(I:Inv X ce σ H3 s3)(hk:sc.kind= .function)(hc:Cel sc)(hfree: ∀x,(x,NameKind.free)∈sc.names->X.env.kindOf x=some .cell\/X.env.kindOf x=some .free)(hnd: ∀x,(x,NameKind.free)∈sc.names->sc.names.lookup x=some .free)(hfo: ∀b∈fp,b<s3.heap.objs.size)(hns:h4.Ns s3.heap.objs.size m)(hkeep: ∀b o,s3.heap.get? b=some o->h4.get? b=some o)(hnew: ∀x,o9 sc=[x]->h4.IsCell (s3.heap.objs.size+1) none){σc:St}(hl:σc.length=N'.length)(hσ: ∀(i:Nat) (x:Str) (v:V),N'[i]? =some x->σc[i]? =some (some v)->∃j:Nat,X.N[j]? =some x/\σ[j]? =some (some v)/\(x,NameKind.free)∈sc.names):
  Inv (cX X N' sc s3 H3 fp ce) [] σc H3 {s3 with heap:=h4,toks:=t'}:=by
 have f: ∀x c,(kS X.env.cells sc.names []).lookup x=some c->(x,NameKind.free)∈sc.names/\X.env.cells.lookup x=some c:=λx c e=>by
  rcases jS e with ⟨k,B,s,W⟩|h
  ·subst s;refine⟨B,?_⟩;obtain⟨c',g⟩:=I.ok.has x (hfree x B);rw[g]at W;rw[W];exact g
  ·cases h
 have M: ∀x c,(kS X.env.cells sc.names []).lookup x=some c->c<s3.heap.objs.size:=λx c e=>by
  obtain⟨v,o,K,_⟩:=I.cell x c (f x c e).2;exact ah K
 have J: ∀b,b∈frs X.stack->b=X.env.locals\/b∈X.fs:=λb A=>av.mp (I.stkSub b A)
 refine⟨⟨I.ok.mod,hk,I.ok.glob,I.ok.blt,aj _,λx y c B s=>?_,λx hx=>?_,λx c B s=>?_,I.ok.hd,I.ok.frames,.inl rfl,λb A=>?_,I.bs,Nat.le_trans I.ok.bsz I.sz,λb o e A=>?_,λb A T=>?_,I.stack,I.stkFree⟩,
  rfl,I.bare,Un.kept hkeep,⟨m,hns,λi x v B s W=>?_⟩,λx c h=>?_,I.hok.fresh (aj _),λx c h=>?_,λq hq=>?_,I.hok.kept hkeep,hl⟩
 ·rcases fH hc B with ⟨S,Q⟩|Q
  ·rcases fH hc s with ⟨H,G⟩|G
   ·rw[S]at H;exact(List.cons.inj H).1
   ·have:=M y c G
    rw[Q]at this;exact absurd this (Nat.not_lt.mpr (Nat.le_succ _))
  ·rcases fH hc s with ⟨H,G⟩|G
   ·have:=M x c Q
    rw[G]at this;exact absurd this (Nat.not_lt.mpr (Nat.le_succ _))
   ·exact I.ok.inj x y c (f x c Q).2 (f y c G).2
 ·-- a name that is a cell here was free in the scope
  have e:(sc.names.lookup x).map (λk=>if(k==NameKind.free&&X.env.scope.kind== .function&&X.env.kindOf x==some .cell)then NameKind.cell else k)=some .cell\/(sc.names.lookup x).map (λk=>if(k==NameKind.free&&X.env.scope.kind== .function&&X.env.kindOf x==some .cell)then NameKind.cell else k)=some .free:=by
   rw[<-bW];exact hx
  cases q:sc.names.lookup x with
  |none=>rw[q]at e;rcases e with e|e<;>cases e
  |some k=>
   have hm:=PySem.mem_of_lookup q
   by_cases C:k= .free
   ·subst C;obtain⟨c,g⟩:=Option.isSome_iff_exists.mp (jT (cells:=X.env.cells) (acc:=[]) hm);exact⟨c,tK hc q g⟩
   ·have Z:(k==NameKind.free)=false:=by simpa using C
    rw[q]at e;simp only[Option.map,Z,Bool.false_and]at e;rcases e with e|e
    ·have U:k= .cell:=by simpa using e
     subst U;have p:x∈o9 sc:=au.mpr ⟨(x,.cell),List.mem_filter.mpr ⟨hm,by simp⟩,rfl⟩
     have E:o9 sc=[x]:=by
      rcases hc with z|⟨y,z,_⟩
      ·rw[z]at p;cases p
      ·rw[z]at p ⊢;rw[List.mem_singleton.mp p]
     exact⟨_,xS E⟩
    ·exact absurd (by simpa using e) C
 ·have E:o9 sc=[x]:=of_decide_eq_true B
  have:=s.symm.trans (xS E)
  cases this;exact Nat.le_succ _
 ·obtain⟨f0,f1,f2,f3,f4,f5⟩:=fpO b A;refine⟨bj (hfo b A),λx c h=>?_⟩
  rcases fH hc h with ⟨_,z⟩|z
  ·rw[z];exact(bj (Nat.lt_succ_of_lt (hfo b A))).symm
  ·exact f4 x c (f x c z).2
 ·obtain⟨f0,f1,f2,f3,f4,f5⟩:=fpO b A;rcases f3 with z|z
  ·exact I.ok.noex b o e z
  ·exact absurd (bh (ah e) (Nat.le_trans I.ok.bsz z)) (Nat.lt_irrefl _)
 ·obtain⟨f0,f1,f2,f3,f4,f5⟩:=fpO b A;rcases J b T with z|z
  ·exact f1 z
  ·exact f2 z
 ·obtain⟨j,j1,j2,O⟩:=hσ i x v B s;obtain⟨m0,ak,ac⟩:=I.loc;have L:=hfree x O
  have ab:Vis X.env.scope x:=by
   rcases L with z|z
   ·exact .inr (.inl z)
   ·exact .inr (.inr z)
  obtain⟨u,r,l⟩:=ac j x v j1 j2 ab;refine⟨u,r,.inr ?_⟩;rcases l with ⟨z,_⟩|⟨_,c,Y,t⟩
  ·rcases L with z'|z'
   ·have:X.env.kindOf x=some .local:=z
    rw[z']at this;cases this
   ·have:X.env.kindOf x=some .local:=z
    rw[z']at this;cases this
  ·refine⟨?_,c,?_,?_⟩
   ·have S:(relabel sc X.env).names.lookup x=(sc.names.lookup x).map (λk=>if(k==NameKind.free&&X.env.scope.kind== .function&&X.env.kindOf x==some .cell)then NameKind.cell else k):=bW
    have H:(relabel sc X.env).names.lookup x=some .cell\/(relabel sc X.env).names.lookup x=some .free:=by
     rw[S,hnd x O];simp only[Option.map];split
     ·exact .inl rfl
     ·exact .inr rfl
    exact H
   ·obtain⟨c',g⟩:=Option.isSome_iff_exists.mp (jT (cells:=X.env.cells) (acc:=[]) O)
    have:=(f x c' g).2
    rw[Y]at this;cases this;exact tK hc (hnd x O) g
   ·obtain⟨o,K,hd⟩:=t;exact⟨o,hkeep _ _ K,hd⟩
 ·rcases fH hc h with ⟨e,z⟩|z
  ·rw[z];exact⟨none,hnew x e⟩
  ·obtain⟨v,o,K,hd⟩:=I.cell x c (f x c z).2;exact⟨v,o,hkeep _ _ K,hd⟩
 ·rcases fH hc h with ⟨e,z⟩|z
  ·rw[z];exact I.hok.fresh (Nat.le_succ _)
  ·exact I.freeC x c (f x c z).2
 ·have ad:q∈X.pn++ce:=by
   have s:q∈(X.pn++ce)++[]:=hq
   rwa [List.append_nil]at s
  obtain⟨e,n,ne,nf,d⟩:=I.pin q ad;refine⟨hkeep _ _ e,n,bj (ah e),λz=>?_,d⟩
  rcases J _ z with z|z
  ·exact ne z
  ·exact nf z
theorem aE2{fpO: ∀b∈fp,oI X ce H3 b}{σc:St}(I:Inv X ce σ H3 s3)(J:Inv (cX X N' sc s3 H3 fp ce) pn' σc H' s')(sb:Heap.SameBut s3.heap.objs.size s'.heap h'):Inv X ce σ H' {s' with heap:=h'}:=by
 have a:H' s3.heap.objs.size=none:=J.free
 refine I.call' (ch:=fp) (s':={s' with heap:=h'}) J.os (Un.sameBut J.base sb (aj _)) (λb u e=>?_) J.bare λb i=>?_
 ·refine(J.hok b u e).stay (λc v h q=>?_) (λ_ q=>q) λ_ _ q=>q
  have j:c≠s3.heap.objs.size:=by
   rintro rfl;rcases h with z|z
   ·rw[<-z]at e;rw[a]at e;cases e
   ·rw[a]at z;cases z
  exact(sb.2 c j).trans q
 ·obtain⟨m,f,n,g,l,d⟩:=fpO b i;exact⟨g,f,l,d⟩
theorem rP(Iv:Nat->Shared->Prop)(turn: ∀n s,Iv n s->wpAny (model prog w) A (pyNext it) (λr s₁=>match r with
   |none=>Rr (.ok .next) s₁
   |some v=>wpAny (model prog w) A (letOwnedTupleGo target it v) (λ_ s₁'=>wpAny (model prog w) A (assign target env v) (λ_ s₂=>
     wpAny (model prog w) A (forIn ifs true λc r=>if r=true then do let ok<-isTrue c env (eval c env);pure (ForInStep.yield ok)else pure (ForInStep.yield r)) (λok s₃=>
      if ok=true then wpAny (model prog w) A (eval elt env) (λx s₄=>
       wpAny (model prog w) A (call (.builtin "list.append") [acc,x]) (λ_ s₅=>∃m,m<n/\Iv m s₅) (λ_ _=>False) s₄) (λ_ _=>False) s₃
      else ∃m,m<n/\Iv m s₃) (λ_ _=>False) s₂) (λ_ _=>False) s₁') (λ_ _=>False) s₁) (λ_ _=>False) s)(n:Nat)(h:Iv n s):
  codeAny (model prog w) A (.compLoop (.ListComp elt [⟨target,iter,ifs,0⟩] scope pos) 0 it acc env) Rr s:=by
 refine codeAny_loop rfl Iv (λn s j=>?_) n h
 show wpAny _ A ((compTurn (.ListComp elt [⟨target,iter,ifs,0⟩] scope pos) 0 it acc env).onRaise (λx=>do noteFrame x env;theTreesLotGoes x)) _ _ s
 refine wpAny_noted (wpAny_noRaise ?_);rw[compTurn_list];refine aa (wpAny_standAt (aa (wpAny_mono (turn n s j) (λr s₁ d=>?_) λ_ _ a=>a)))
 cases r with
 |none=>exact ae d
 |some v=>
  refine aa (wpAny_mono d (λ_ s₁' e=>?_) λ_ _ a=>a)
  refine aa (wpAny_mono e (λ_ s₂ f=>aa (wpAny_mono f (λok s₃ b=>?_) λ_ _ a=>a)) λ_ _ a=>a)
  cases ok with
  |false=>exact ae ⟨rfl,b⟩
  |true=>
   exact aa (aa (wpAny_mono b (λx s₄ i=>aa (wpAny_mono i (λ_ s₅ g=>ae (ae ⟨rfl,g⟩)) λ_ _ a=>a)) λ_ _ a=>a))
theorem kU(h:bG f (d::r)=some all):(f d=some none/\bG f r=some all)\/∃x all',f d=some (some x)/\bG f r=some all'/\all=x::all':=by
 unfold bG at h
 cases e:f d with
 |none=>rw[e]at h;cases h
 |some o=>
  rw[e]at h
  cases o with
  |none=>exact .inl ⟨rfl,h⟩
  |some x=>
   obtain⟨a,c,b⟩:=zMd h;exact .inr ⟨x,a,rfl,c,b.symm⟩
theorem xT{K:PySem.W.Frag}{ts cs:List Slot}(h:SL K ad G H (ts++cs) σ):SL K ad G H (ao ts.length .no++cs) σ:=by
 refine⟨by rw[<-h.len];simp,λi b e=>?_⟩
 by_cases a:i<ts.length
 ·rw[cb (by simpa using a),List.getElem?_replicate,if_pos a]at e
  cases e;have c:i<σ.length:=by rw[<-h.len,bq];lia
  exact⟨σ[i],by simp[c],trivial⟩
 ·rw[bo (by simpa using a),List.length_replicate]at e
  refine h.at_ i b ?_;rw[bo (by lia)]
  exact e
theorem aE3{K:PySem.W.Frag}{cs:List Slot}(h:SL K ad G H (ao n .no++cs) σ)(r:aJ K ad G ds vs)(hn:ds.length=n):SL K ad G H (ds.map Slot.sh++cs) (gO 0 vs σ):=by
 have q:=r.length;have m:=h.len;rw[bq,List.length_replicate]at m;refine⟨by rw[fG,bq,aq];lia,λi g e=>?_⟩
 by_cases p:i<n
 ·rw[cb (by rw[aq];lia),List.getElem?_map]at e
  cases a:ds[i]? with
  |none=>rw[a]at e;cases e
  |some d=>
   rw[a]at e;cases e;obtain⟨v,l,f⟩:=r.get a;refine⟨some v,?_,v,rfl,f⟩
   have:=pJ (j:=0) (σ:=σ) l (by lia)
   rwa [Nat.zero_add]at this
 ·rw[bo (by rw[aq];lia),aq,hn]at e
  obtain⟨o,c,b⟩:=h.at_ i g (by rw[bo (by rw[List.length_replicate];lia),List.length_replicate];exact e)
  exact⟨o,by rw[kT (.inl (by lia))];exact c,b⟩
theorem aL7{K:PySem.W.Frag}{ts cs:List Slot}{W:St->Hp->Prop}(e:tgt k d=some ts)(hn:n=if k=0 then 1 else k)(hG:Same G H)(r:Rep K ad G d v)(h:SL K ad G Hs (ao n .no++cs) σ)(q: ∀σ',σ'.length=σ.length->SL K ad G Hs (ts++cs) σ'->W σ' H):ts.length=n/\gTg K k v σ H W:=by
 cases k with
 |zero=>
  cases e;subst hn;refine⟨rfl,q _ (by rw[List.length_set]) ?_⟩
  have:=aE3 (ds:=[d]) (vs:=[v]) h (aJ.cons r aJ.nil) rfl
  exact this
 |succ k=>
  unfold tgt at e
  cases d<;>try (cases e)
  rename_i ds
  simp only at e
  by_cases b:ds.length=k+1
  ·rw[if_pos b]at e;cases e;rw[if_neg (by lia)]at hn
   subst hn;unfold Rep at r;obtain⟨a,vs,rfl,g,c⟩:=r;refine⟨by rw[aq];exact b,a,vs,rfl,hG.seqT g,by rw[c.length];exact b,?_⟩
   have f:vs.length=k+1:=by rw[c.length];exact b
   have:=xR (vs:=vs) (j:=0) (σ:=σ) (H:=H) (Q:=W) (q _ fG (aE3 h c b))
   rwa [f]at this
  ·rw[if_neg b]at e;cases e
end
section
variable {X:Cx} {ad:Ad} {ce:cg} {s s2 s3:Shared} {σ:St} {H H2 H3 G G2:Hp} {ρ:Rho} {Q:VK} {E:Nat->Hp->Prop} {pos:Pos} {sc:Scope} {N':List Str} {fp:List Addr}
 {tg it elt:Expr} {ifs:List Expr} {k nt:Nat} {xs:List Str} {cs:List Slot} {fc:Option F} {fe:F}
theorem fI{x:Str}: ∀{N:List Str} {i:Nat},idx x N=some i->N[i]? =some x
 |[],_,e=>by cases e
 |y::r,i,e=>by
  unfold idx at e
  by_cases h:x=y
  ·rw[if_pos h]at e;cases e;subst h;rfl
  ·rw[if_neg h]at e;obtain⟨j,b,a⟩:=zMd e;subst a;simpa using fI b
def MTs(X:Cx)(ad:Ad)(ifs:List Expr)(fc:Option F):Prop:=match ifs,fc with
 |[],none=>True
 |[c],some f=>MT X ad c f
 |_,_=>False
def aG2(K:PySem.W.Frag)(ad:Ad)(H G':Hp)(d:SK.D)(v:V):Prop:= ∃l q ws,d= .lst l/\v= .ref q/\H q=none/\G' q=some (.lst ws)/\aJ K ad G' l ws
def RN(K:PySem.W.Frag)(ad:Ad)(H G':Hp):List SK.D->List V->Prop:=Paired (aG2 K ad H G')
theorem aG2.up{K:PySem.W.Frag}(h:aG2 K ad H1 G' d v)(s:Same H H1)(t:Same G' G2):aG2 K ad H G2 d v:=by
 obtain⟨l,q,f,c,a,g,e,b⟩:=h;exact⟨l,q,f,c,a,s.free g,t _ _ e,b.mono t⟩
theorem RN.mono{K:PySem.W.Frag}(h:RN K ad H G' ds vs)(t:Same G' G2):RN K ad H G2 ds vs:=Paired.mapP h λ_ _ z=>z.up (Same.refl _) t
theorem RN.snoc{K:PySem.W.Frag}{H G':Hp}{d:SK.D}{v:V}(h:aG2 K ad H G' d v): ∀{ds:List SK.D} {vs:List V},RN K ad H G' ds vs->RN K ad H G' (ds++[d]) (vs++[v])
 |_,_,.nil=>.cons h .nil
 |_,_,.cons a r=>.cons a (RN.snoc h r)
theorem ME.val(ha:ME X ad a f)(I:Inv X ce σ H s)(hG:Same G H)(hS:SL X.K ad G H ρ σ)(hx:XP X ad σ E)(hf:f ρ= .ok x\/∃l,f ρ= .ow l/\x= .lst l):
  wpAny (model X.prog X.w) X.A (eval a X.env) (λu s1=>∃v G1 H1,Inv X ce σ H1 s1/\bA v u/\Step G H G1 H1/\Rep X.K ad G1 x v/\((∀y,f ρ≠ .ok y)->aG2 X.K ad H G1 x v)) X.xe s:=by
 rcases hf with e|⟨l,e,rfl⟩
 ·exact L2.thn (ha ce s σ H (λv H1=>∃G1,Step G H G1 H1/\Rep X.K ad G1 x v) I ⟨G,ρ,E,hG,hS,hx,by rw[e];exact λv G1 H1 b q=>⟨G1,b,q⟩⟩) λu s1 ⟨v,H1,g,d,G1,b,q⟩=>⟨v,G1,H1,g,d,b,q,λz=>absurd e (z x)⟩
 ·exact L2.thn (ha ce s σ H (λv H1=>∃G1,Step G H G1 H1/\Rep X.K ad G1 (.lst l) v/\aG2 X.K ad H G1 (.lst l) v) I ⟨G,ρ,E,hG,hS,hx,by
   rw[e];intro p c G1 H1 b n m i q;have h:=q.mono (Same.upd_new (o:=.lst c) m);exact⟨upd G1 p (.lst c),b.share n m i,by unfold Rep;exact⟨p,c,rfl,SqL.of aF,h⟩,l,p,c,rfl,rfl,n,aF,h⟩⟩) λu s1 ⟨v,H1,g,d,G1,b,q,j⟩=>⟨v,G1,H1,g,d,b,q,λ_=>j⟩
theorem MT.val{k:Bool}(ha:MT X ad a f)(I:Inv X ce σ H s)(hG:Same G H)(hS:SL X.K ad G H ρ σ)(hx:XP X ad σ E)(hf:f ρ= .ok (.bl k)):
  wpAny (model X.prog X.w) X.A (isTrue a X.env (eval a X.env)) (λb s1=>b=k/\∃G1 H1,Inv X ce σ H1 s1/\Step G H G1 H1) X.xe s:=by
 exact L2.thn (ha ce s σ H (λb H1=>b=k/\∃G1,Step G H G1 H1) I ⟨G,ρ,E,hG,hS,hx,.inl ⟨k,hf⟩,by rw[hf];exact λv G1 H1 c q=>⟨k,by unfold Rep at q;exact q,rfl,G1,c⟩⟩) λb s1 ⟨H1,d,e,G1,c⟩=>⟨e,G1,H1,d,c⟩
theorem iC{D:Addr}(st:Step G1 H1 G2 H2)(g:G1 D=none)(h:H1 D=some (.lst vs)):G2 D=none/\H2 D=some (.lst vs):=by
 refine⟨?_,st.sh _ _ h⟩
 cases z:G2 D with
 |none=>rfl
 |some o=>
  have:=st.nw D g (by rw[z];exact λz=>nomatch z)
  rw[h]at this;cases this
theorem pL{D:Addr}(st:Step G1 H1 G2 H2)(n:H1 D=none)(g:G2 D=none):Step G1 H1 G2 (upd H2 D o):=by
 refine⟨st.sg,λb u e=>?_,λb u e=>?_,st.nw⟩
 ·have a:b≠D:=λz=>by subst z;rw[g]at e;cases e
  rw[aB a];exact st.gh b u e
 ·have a:b≠D:=λz=>by subst z;rw[n]at e;cases e
  rw[aB a];exact st.sh b u e
def hid(D:Addr)(H:Hp):Hp:=λb=>if b=D then none else H b
theorem kW{D b:Addr}(h:b≠D):hid D H b=H b:=by unfold hid;rw[if_neg h]
theorem gE{D:Addr}:hid D H D=none:=by unfold hid;rw[if_pos rfl]
theorem xU{D:Addr}:Same (hid D H) H:=λb o e=>by
 by_cases z:b=D
 ·subst z;rw[gE]at e;cases e
 ·rwa [kW z]at e
theorem xV{D:Addr}:hid D (upd H D o)=hid D H:=by
 funext b
 by_cases z:b=D
 ·subst z;rw[gE,gE]
 ·rw[kW z,kW z,aB z]
theorem aL8{D:Addr}(h:H D=none):hid D H=H:=by
 funext b
 by_cases z:b=D
 ·subst z;rw[gE,h]
 ·rw[kW z]
theorem jU{D:Addr}(st:Step G1 H1 G2 H2)(g:G2 D=none):Step G1 (hid D H1) G2 (hid D H2):=by
 refine⟨st.sg,λb u e=>?_,λb u e=>?_,λb d c=>?_⟩
 ·have a:b≠D:=λz=>by subst z;rw[g]at e;cases e
  rw[kW a];exact st.gh b u e
 ·have a:b≠D:=λz=>by subst z;rw[gE]at e;cases e
  rw[kW a]at e ⊢;exact st.sh b u e
 ·by_cases z:b=D
  ·subst z;exact gE
  ·rw[kW z];exact st.nw b d c
theorem SL.up{K:PySem.W.Frag}(h:SL K ad G H ρ σ)(s:Same H H'):SL K ad G H' ρ σ:=by
 refine⟨h.len,λi n e=>?_⟩
 obtain⟨x,v,f⟩:=h.at_ i n e;refine⟨x,v,?_⟩
 cases n with
 |no=>trivial
 |sh d=>exact f
 |ow y=>
  obtain⟨a,t,b,c,g,j⟩:=f;exact⟨a,t,b,c,s _ _ g,j⟩
 |dc l=>
  obtain⟨a,m,b,c,g,j⟩:=f;exact⟨a,m,b,c,s _ _ g,j⟩
 |sd l=>
  obtain⟨a,m,b,c,g,j⟩:=f;exact⟨a,m,b,c,s _ _ g,j⟩
 |rk C r=>
  obtain⟨p,o,d,q,u,b,c⟩:=f;exact⟨p,o,d,q,u,b,c.up s⟩
theorem aCd{Ex:cf}{Q:PySem.Env->Shared->Prop}(hc:Cel sc)(h: ∀h4:Heap,h4.Ns s.heap.objs.size (λ_=>none)->(∀b ob,s.heap.get? b=some ob->h4.get? b=some ob)->(∀x,o9 sc=[x]->h4.IsCell (s.heap.objs.size+1) none)->
   Q (newEnv sc s.heap.objs.size gl (cellsFrom (s.heap.objs.size+1) sc.names cl) q none .none (some o) builtinsNs) {s with heap:=h4}):
  wpAny M A (newFunctionEnv sc gl cl [] q none .none (some o)) Q Ex s:=by
 simp only[newFunctionEnv,Option.isSome_some,if_true];refine aa (wpAny_alloc ?_);refine aa (wpAny_layCells _ (λl c d=>by cases i:c==NameKind.cell<;>simp[i]) _ _ _ _ ?_)
 have g:(s.heap.push {cls:=.type "dict",data:=.dict #[]}).Ns s.heap.objs.size (λ_=>none):=Heap.Ns.new s.heap (.type "dict")
 have f: ∀b ob,s.heap.get? b=some ob->(pushCells (s.heap.push {cls:=.type "dict",data:=.dict #[]}) sc.names).get? b=some ob:=λb ob e=>pushCells_keeps _ _ b ob (af _ e)
 have j:(s.heap.push {cls:=.type "dict",data:=.dict #[]}:Heap).objs.size=s.heap.objs.size+1:=ai ..;rw[List.forIn_nil];refine aa (ae (ae ?_))
 have:=h _ (g.keeps (pushCells_keeps _ _)) f λx e=>by
  rw[(cf1 (a:=0) (acc:=[]) e).2];refine⟨{cls:=.type "cell",data:=.cell none},?_,rfl⟩;rw[<-j];exact ag _ rfl
 rw[<-j]at this;exact this
theorem pM{W:Prop}(hw:W->∀ρ y,fe ρ≠ .ok y){RR:Value->Addr->Result->Shared->Prop}{Ex:cf}(hc:X.calm=true)(I2:Inv X ce σ H2 s2)(T:Turn X.prog X.w X.K tg J fp itA tn)(st2:tn 0 s2.heap)(f2: ∀b∈fp,oI X ce H2 b)(hit:ItH X ad J G2 H2 ds)(hgo:bG (cR k cs fc fe) ds=some all)(hG2:Same G2 H2)(hk:sc.kind= .function)(hC:Cel sc)(hfree: ∀x,(x,NameKind.free)∈sc.names->X.env.kindOf x=some .cell\/X.env.kindOf x=some .free)(hnd: ∀x,(x,NameKind.free)∈sc.names->sc.names.lookup x=some .free)(hl:σc.length=N'.length)(hσ: ∀(i:Nat) (x:Str) (v:V),N'[i]? =some x->σc[i]? =some (some v)->∃j:Nat,X.N[j]? =some x/\σ[j]? =some (some v)/\(x,NameKind.free)∈sc.names)(hnt:nt=if k=0 then 1 else k)(hsl:SL X.K ad G2 H2 (ao nt .no++cs) σc)(hg: ∀s3 H3 pins',PG (cX X N' sc s3 H3 fp pins') tg (gTg X.K k))(hts: ∀s3 H3 pins',MTs (cX X N' sc s3 H3 fp pins') ad ifs fc)(he: ∀s3 H3 pins',ME (cX X N' sc s3 H3 fp pins') ad elt fe)(hEnd: ∀(s3 s':Shared) (H3 H' G':Hp) (σ':St) (D:Addr) (vs:List V),Inv X ce σ H3 s3->(∀b∈fp,oI X ce H3 b)->Inv (cX X N' sc s3 H3 fp ce) [] σ' H' s'->Step G2 H2 G' H'->H2 D=none->G' D=none->H' D=some (.lst vs)->aJ X.K ad G' all vs->(W->RN X.K ad H2 G' all vs)->RR (.ref D) s3.heap.objs.size (.ok .next) s'):
  wpAny (model X.prog X.w) X.A (newList []) (λacc s₃=>wpAny (model X.prog X.w) X.A (newFunctionEnv sc X.env.globals (kS X.env.cells sc.names []) [] X.env.qual none .none (some X.env)) (λcenv s₄=>
   codeAny (model X.prog X.w) X.A (.compStart (.ListComp elt [⟨tg,it,ifs,0⟩] sc pos) 0 (.ref itA) acc {cenv with scope:=relabel sc X.env}) (RR acc cenv.locals) s₄) Ex s₃) Ex s2:=by
 refine wpAny_newObj_type ?_
 have hD:H2 s2.heap.objs.size=none:=I2.fresh
 have I3:Inv X ce σ (upd H2 s2.heap.objs.size (.lst [])) {s2 with heap:=s2.heap.push {cls:=.type "list",data:=.seq ([]:List Value).toArray} }:=I2.lnew (t':=s2.toks) .nil (bx _)
 generalize e3:({s2 with heap:=s2.heap.push {cls:=.type "list",data:=.seq ([]:List Value).toArray} }:Shared)=s3 at I3
 have ar:s3.heap.objs.size=s2.heap.objs.size+1:=by rw[<-e3];exact ai ..
 have c4: ∀b o,s2.heap.get? b=some o->s3.heap.get? b=some o:=λb o e=>by rw[<-e3];exact af _ e
 generalize eD:s2.heap.objs.size=D at hD I3 ar ⊢;generalize eH:upd H2 D (.lst [])=H3 at I3
 have b6:H3 D=some (.lst []):=by rw[<-eH];exact aF
 have a2:Step G2 H2 G2 H3:=by rw[<-eH];exact Step.own hG2 hD
 have a0: ∀b∈fp,b<D:=λb s=>by
  obtain⟨o,e,_⟩:=T.obj 0 _ st2 b s;rw[<-eD];exact ah e
 have f3: ∀b∈fp,oI X ce H3 b:=λb s=>by
  obtain⟨f0,fr⟩:=f2 b s;refine⟨?_,fr⟩;rw[<-eH,aB (bj (a0 b s))];exact f0
 refine aCd hC λh4 de Q b2=>?_
 have I4:Inv (cX X N' sc s3 H3 fp ce) [] σc H3 {s3 with heap:=h4}:=
  aCc (t':=s3.toks) (fpO:=f3) I3 hk hC hfree hnd (λb s=>bh (a0 b s) (by rw[ar];exact Nat.le_succ _)) de Q b2 hl hσ
 have ch:tn 0 h4:=T.keep _ _ _ st2 λb s o e=>Q b o (c4 b o e)
 have few:=hit.few
 -- what holds of the iterator's objects in the block
 have ak: ∀{H':Hp},(∀b∈fp,H' b=none)->∀b∈fp,oI (cX X N' sc s3 H3 fp ce) [] H' b:=λ{H'} hn b s=>by
  obtain⟨f0,f1,cn,dk,f4,f5⟩:=f3 b s;refine⟨hn b s,?_,λz=>?_,.inl s,λx c h=>?_,λq hq=>?_⟩
  ·have br:D<=s3.heap.objs.size:=by rw[ar];exact Nat.le_succ _
   exact bj (bh (a0 b s) br)
  ·rcases av.mp (I3.stkSub b z)with z|z
   ·exact f1 z
   ·exact cn z
  ·rcases fH hC h with ⟨_,z⟩|h'
   ·have br:D<=s3.heap.objs.size:=by rw[ar];exact Nat.le_succ _
    rw[z];exact(bj (Nat.lt_succ_of_lt (bh (a0 b s) br))).symm
   rcases jS h' with ⟨kk,h1,h2,h3⟩|h
   ·subst h2;obtain⟨c',b4⟩:=I3.ok.has x (hfree x h1);rw[b4]at h3
    have e:c=c':=h3
    rw[e];exact f4 x c' b4
   ·cases h
  ·have h2:q∈(X.pn++ce)++[]:=hq;rw[List.append_nil]at h2;exact f5 q h2
 have a6: ∀s4:Shared,s4={s3 with heap:=h4}->
   codeAny (model X.prog X.w) X.A (.compLoop (.ListComp elt [⟨tg,it,ifs,0⟩] sc pos) 0 (.ref itA) (.ref D) (cX X N' sc s3 H3 fp ce).env) (RR (.ref D) s3.heap.objs.size) s4:=by
  rintro s4 rfl
  obtain⟨Iv,bw⟩: ∃Iv:Nat->Shared->Prop, ∀n s',Iv n s'↔ ∃(i:Nat) (σ':St) (H' G':Hp) (ys dU:List SK.D) (vs:List V),Inv (cX X N' sc s3 H3 fp ce) [] σ' H' s'/\tn i s'.heap/\(∀b∈fp,H' b=none)/\Step G2 H2 G' H'/\G' D=none/\H' D=some (.lst vs)/\aJ X.K ad G' ys vs/\
   bG (cR k cs fc fe) (ds.drop i)=some dU/\ys++dU=all/\i<=ds.length/\n=ds.length-i/\ys.length<=i/\SL X.K ad G' (hid D H') (ao nt .no++cs) σ'/\(W->RN X.K ad H2 G' ys vs):=⟨_,λ_ _=>Iff.rfl⟩
  refine rP Iv ?_ ds.length
   ((bw _ _).mpr ⟨0,σc,H3,G2,[],all,[],I4,ch,λb s=>(f3 b s).1,a2,pB hG2 hD,b6,aJ.nil,hgo,rfl,bx _,rfl,aj _,by rw[<-eH,xV,aL8 hD];exact hsl,λ_=>.nil⟩)
  intro n s5 cv;obtain⟨i,a3,H5,G5,ys,dU,vs,I5,ca,cm,a5,cd,ck,r5,an,am,dh,rfl,dj,cp,bz⟩:=(bw _ _).mp cv
  by_cases b7:i<ds.length
  ·-- a turn
   have ed:ds[i]? =some ds[i]:=by simp[b7]
   generalize ds[i]=d at ed
   have bp:ds.drop i=d::ds.drop (i+1):=by
    rw[List.drop_eq_getElem_cons b7]
    congr 1
    have:=ay.mp ed
    exact this.2
   rw[bp]at an;obtain⟨go,yl⟩:=hit.go i G5 H5 d a5 ed;refine L2.thn (T.item (cX X N' sc s3 H3 fp ce) rfl rfl rfl hc i [] s5 a3 H5 (λ_ _=>False) I5 (ak cm) ca go) λr s6 g=>?_
   obtain⟨u,hr,h6⟩:=g;subst hr;refine L2.thn h6 λ_ s7 g=>?_
   obtain⟨x,H7,I7,r7,y7,bm,ct⟩:=g;obtain⟨G7,p,cq⟩:=yl x H7 y7;have cw:=I7.pinned (ak ct) (T.obj _ _ bm);obtain⟨bv,cl⟩:=iC p cd ck;have c9:=cp.step (jU p bv)
   -- the target
   have b0: ∃H,tgt k d=some H:=by
    cases z:tgt k d with
    |some H=>exact⟨H,rfl⟩
    |none=>
     exfalso;rcases kU an with ⟨e,_⟩|⟨x',_,e,_,_⟩<;>(unfold cR at e;rw[z]at e;cases e)
   obtain⟨H,bc⟩:=b0;obtain⟨c3,gt⟩:=aL7 (W:=λσ' H'=>H'=H7/\SL X.K ad G7 (hid D H7) (H++cs) σ') bc hnt p.gh cq c9 (λσ' _ q=>⟨rfl,q⟩)
   refine L2.thn (hg s3 H3 ce _ s7 a3 H7 x u _ cw r7 gt) λ_ s8 g=>?_
   obtain⟨O,H8,I8,e8,a4⟩:=g;subst e8
   -- M, at the turn's end
   have M: ∀{s9:Shared} {Y Z:Hp} {S G:List SK.D} {ap:List V},Inv (cX X N' sc s3 H3 fp ce) ([]++fO fp s7.heap) O Y s9->Step G2 H2 Z Y->Z D=none->Y D=some (.lst ap)->aJ X.K ad Z S ap->bG (cR k cs fc fe) (ds.drop (i+1))=some G->S++G=all->S.length<=i+1->
     SL X.K ad Z (hid D Y) (H++cs) O->(W->RN X.K ad H2 Z S ap)->∃m,m<ds.length-i/\Iv m s9:=by
    intro s9 Y Z S G ap I9 f L ac r9 c2 c1 cz as cx;refine⟨ds.length-(i+1),by lia,(bw _ _).mpr ⟨i+1,O,Y,Z,S,G,ap,I9.unpinned,T.keep _ _ _ bm λb s o e=>(I9.pin (b,o) (bu _ (bu _ (f9 s e)))).1,λb s=>?_,f,L,ac,r9,c2,c1,by lia,rfl,cz,?_,cx⟩⟩
    ·obtain⟨o,e,d'⟩:=T.obj _ _ bm b s;exact(I9.pin (b,o) (bu _ (bu _ (f9 s e)))).2.1
    ·have:=xT as
     rwa [c3]at this
   have b1:XP (cX X N' sc s3 H3 fp ce) ad O (λ_ _=>False):=aCb rfl
   have be:Step G2 H2 G7 H8:=a5.trans p
   -- the element
   have a7: ∀{s9:Shared} {Y Z:Hp} (x':SK.D) (t:List SK.D),Inv (cX X N' sc s3 H3 fp ce) ([]++fO fp s7.heap) O Y s9->Step G7 H8 Z Y->(fe (H++cs)= .ok x'\/∃l,fe (H++cs)= .ow l/\x'= .lst l)->bG (cR k cs fc fe) (ds.drop (i+1))=some t->dU=x'::t->
     wpAny (model X.prog X.w) X.A (eval elt (cX X N' sc s3 H3 fp ce).env) (λx s₄=>wpAny (model X.prog X.w) X.A (call (.builtin "list.append") [.ref D,x]) (λ_ b5=>∃m,m<ds.length-i/\Iv m b5) (λ_ _=>False) s₄) (λ_ _=>False) s9:=by
    intro s9 Y Z x' t I9 f hf B C;obtain⟨L,ac⟩:=iC f bv cl;have as:=a4.step (jU f L);refine L2.thn (ME.val (X:=cX X N' sc s3 H3 fp ce) (he s3 H3 ce) I9 f.gh (as.up xU) b1 hf) λc8 da g=>?_
    obtain⟨U,a1,ab,db,cy,I,df,b3⟩:=g;obtain⟨al,b8⟩:=iC I L ac
    have cj:vs.length<sizeLine:=by
     have:=r5.length
     lia
    refine L2.thn (oX (X:=cX X N' sc s3 H3 fp ce) _ da O ab (.ref D) [U] (.ref D) [c8] (λ_ H'=>H'=upd ab D (.lst (vs++[U]))) db rfl (.cons cy .nil) ⟨D,vs,U,rfl,rfl,b8,cj,rfl⟩) λ_ dl g=>?_
    obtain⟨_,dg,c7,_,c5⟩:=g;subst c5;have cr:Step G2 H2 a1 ab:=(be.trans f).trans I;have cu:Step G2 H2 a1 (upd ab D (.lst (vs++[U]))):=pL cr hD al;have rA:aJ X.K ad a1 (ys++[x']) (vs++[U]):=((r5.mono p.sg).mono f.sg).mono I.sg |>.append (aJ.cons df aJ.nil)
    have c6:SL X.K ad a1 (hid D (upd ab D (.lst (vs++[U])))) (H++cs) O:=by
     rw[xV];exact as.step (jU I al)
    refine M c7 cu al aF rA B ?_ (by simp;lia) c6 λw=>((((bz w).mono p.sg).mono f.sg).mono I.sg).snoc ((b3 (hw w _)).up (be.trans f).sh (Same.refl _))
    rw[List.append_assoc];rw[C]at am;exact am
   rcases kU an with ⟨e,B⟩|⟨x',t,e,B,C⟩
   ·-- left out
    unfold cR at e;rw[bc]at e
    cases fc with
    |none=>
     exfalso
     simp only at e
     cases z:fe (H++cs)<;>rw[z]at e<;>cases e
    |some f0=>
     simp only at e
     have E:=hts s3 H3 ce
     match ifs,E with
     |[c0],E=>
      have hv:f0 (H++cs)= .ok (.bl false):=by
       cases z:f0 (H++cs)with
       |ok dd=>
        rw[z]at e
        cases dd<;>try (cases e)
        rename_i bb
        cases bb with
        |false=>rfl
        |true=>
         exfalso
         simp only at e
         cases z':fe (H++cs)<;>rw[z']at e<;>cases e
       |ow _=>rw[z]at e;cases e
       |ex _=>rw[z]at e;cases e
       |bad=>rw[z]at e;cases e
      refine wpAny_tests_one (L2.thn (MT.val (X:=cX X N' sc s3 H3 fp ce) E I8 p.gh (a4.up xU) b1 hv) λok s9 g=>?_)
      obtain⟨eb,Z,Y,I9,f⟩:=g;subst eb;obtain⟨L,ac⟩:=iC f bv cl;exact aBf (M I9 (be.trans f) L ac ((r5.mono p.sg).mono f.sg) B am (by lia) (a4.step (jU f L)) λw=>((bz w).mono p.sg).mono f.sg)
     |[],E=>exact E.elim
     |_::_::_,E=>exact E.elim
   ·-- taken
    unfold cR at e;rw[bc]at e
    cases fc with
    |none=>
     have E:=hts s3 H3 ce
     match ifs,E with
     |[],_=>
      refine wpAny_tests_nil (wT ?_);refine a7 x' t I8 (Step.refl p.gh) ?_ B C
      simp only at e
      cases z:fe (H++cs)with
      |ok dd=>rw[z]at e;cases e;exact .inl rfl
      |ow l=>rw[z]at e;cases e;exact .inr ⟨l,rfl,rfl⟩
      |ex _=>rw[z]at e;cases e
      |bad=>rw[z]at e;cases e
     |_::r1,E=>cases r1<;>exact ba E
    |some f0=>
     simp only at e
     have E:=hts s3 H3 ce
     match ifs,E with
     |[c0],E=>
      have hv:f0 (H++cs)= .ok (.bl true)/\(fe (H++cs)= .ok x'\/∃l,fe (H++cs)= .ow l/\x'= .lst l):=by
       cases z:f0 (H++cs)with
       |ok dd=>
        rw[z]at e
        cases dd<;>try (cases e)
        rename_i bb
        cases bb with
        |false=>simp only at e;cases e
        |true=>
         simp only at e
         refine⟨rfl,?_⟩
         cases z':fe (H++cs)with
         |ok dd=>rw[z']at e;cases e;exact .inl rfl
         |ow l=>rw[z']at e;cases e;exact .inr ⟨l,rfl,rfl⟩
         |ex _=>rw[z']at e;cases e
         |bad=>rw[z']at e;cases e
       |ow _=>rw[z]at e;cases e
       |ex _=>rw[z]at e;cases e
       |bad=>rw[z]at e;cases e
      refine wpAny_tests_one (L2.thn (MT.val (X:=cX X N' sc s3 H3 fp ce) E I8 p.gh (a4.up xU) b1 hv.1) λok s9 g=>?_)
      obtain⟨eb,Z,Y,I9,f⟩:=g;subst eb;exact wT (a7 x' t I9 f hv.2 B C)
     |[],E=>exact E.elim
     |_::_::_,E=>exact E.elim
  ·-- the end
   have ei:i=ds.length:=by lia
   subst ei;rw[List.drop_length]at an;cases an;rw[List.append_nil]at am;subst am;refine L2.thn (T.done (cX X N' sc s3 H3 fp ce) rfl rfl rfl hc ds.length [] s5 a3 H5 (λ_ _=>False) I5 (ak cm) ca (hit.stop G5 H5 a5)) λr s6 g=>?_
   obtain⟨hr,I6⟩:=g;subst hr;exact hEnd s3 s6 H3 H5 G5 a3 D vs I3 f3 I6 a5 hD cd ck r5 bz
 exact codeAny_compStart_list (a6 _ rfl) (T.self _ 0 _ _ _ ch (a6 _ rfl))
theorem mJ{cs:List Nat}(hxs:xs.length=nt)(hN:X.N=C.N)(hcs:dR (λx=>eO C x) (aP sc)=some cs)(hfr: ∀x∈aP sc,(x,NameKind.free)∈sc.names)(hS:SL X.K ad G H ρ σ)(hlen:σ.length=X.N.length):
  ∃σc:St,σc.length=(xs++aP sc).length/\(∀(i:Nat) (x:Str) (v:V),(xs++aP sc)[i]? =some x->σc[i]? =some (some v)->∃j:Nat,X.N[j]? =some x/\σ[j]? =some (some v)/\(x,NameKind.free)∈sc.names)/\
   SL X.K ad G H (ao nt .no++iT cs ρ) σc:=by
 have p: ∀(d:List Str) (f:List Nat),dR (λx=>eO C x) d=some f->f.length=d.length/\∀(i:Nat) (y:Str),d[i]? =some y->∃j,f[i]? =some j/\C.N[j]? =some y:=by
  intro d
  induction d with
  |nil=>intro f e;cases e;exact⟨rfl,λi y h=>by simp at h⟩
  |cons y r J=>
   intro f e;unfold dR at e
   cases c:eO C y with
   |none=>rw[c]at e;cases e
   |some j=>
    rw[c]at e;obtain⟨t,U,E⟩:=zMd e;subst E;obtain⟨M,O⟩:=J t U;refine⟨by simp[M],λi z h=>?_⟩
    cases i with
    |zero=>
     simp at h
     subst h;refine⟨j,rfl,?_⟩
     have l:idx y C.N=some j:=by
      unfold eO at c;split at c
      ·exact c
      ·exact c
      ·cases c
     exact fI l
    |succ i=>
     obtain⟨T,m,b⟩:=O i z (by simpa using h)
     exact⟨T,by simpa using m,b⟩
 obtain⟨B,Q⟩:=p (aP sc) cs hcs;refine⟨ao nt none++cs.map (λj=>(σ[j]?).getD none),by simp[B,hxs],λi x v m b=>?_,?_,λi A e=>?_⟩
 ·by_cases a:i<nt
  ·rw[cb (by simpa using a),List.getElem?_replicate,if_pos a]at b
   cases b
  ·rw[bo (by simpa using a),List.length_replicate,List.getElem?_map]at b
   rw[bo (by lia),hxs]at m
   obtain⟨j,I,S⟩:=Q (i-nt) x m;rw[I]at b
   have n:(σ[j]?).getD none=some v:=Option.some.inj b
   refine⟨j,by rw[hN];exact S,?_,hfr x (List.mem_of_getElem? m)⟩
   cases q:σ[j]? with
   |none=>rw[q]at n;cases n
   |some L=>rw[q]at n;exact congrArg some n
 ·simp[iT]
 ·by_cases a:i<nt
  ·rw[cb (by simpa using a),List.getElem?_replicate,if_pos a]at e
   cases e;refine⟨none,?_,trivial⟩;rw[cb (by simpa using a),List.getElem?_replicate,if_pos a]
  ·rw[bo (by simpa using a),List.length_replicate]at e
   unfold iT at e;rw[List.getElem?_map]at e
   cases q:cs[i-nt]? with
   |none=>rw[q]at e;cases e
   |some j=>
    rw[q]at e
    have o:(ρ[j]?).getD .no=A:=Option.some.inj e
    refine⟨(σ[j]?).getD none,?_,?_⟩
    ·rw[bo (by simpa using a),List.length_replicate,List.getElem?_map,q]
     rfl
    ·cases s:ρ[j]? with
     |none=>rw[s]at o;subst o;trivial
     |some g=>
      rw[s]at o
      have u:g=A:=o
      subst u;obtain⟨L,Y,W⟩:=hS.at_ j g s;rw[Y];exact W
end
open PySem.W
def Its(x:Str):It:=⟨λi _=>i<x.cps.size,λi H v H'=>H'=H/\∃c,x.cps[i]? =some c/\v= .str ⟨#[c]⟩,λi _=>x.cps.size<=i⟩
theorem aCe{K:PySem.W.Frag}{tg:Expr}(it:Addr)(hty:ty="str_ascii_iterator"\/ty="str_iterator"):Turn P w K tg (Its x) [it] it (λi h=>h.IsStrIter it ty x t i) where
 mem:=by simp
 obj:=λi h g b f=>by
  have e:b=it:=by simpa using f
  subst e;obtain⟨o,e,c,d⟩:=g;exact⟨o,e,λv z=>by rw[d]at z;cases z⟩
 keep:=λi h a g k=>by
  obtain⟨o,e,r⟩:=g;exact⟨o,k it (by simp) o e,r⟩
 item:=by
  intro X Z S hK U i T s O H E I M g Y;subst Z S hK;have n:i<x.cps.size:=Y;obtain⟨C,J,f2,L,N,G⟩:=M it (by simp)
  have q: ∀(a:Heap),a.IsStrIter it ty x t (i+1)->(∀b o,b≠it->s.heap.get? b=some o->a.get? b=some o)->∀(p:Nat) (u:Tok), ∃u',(some (Value.str ⟨#[x.cps[i]]⟩ u):Option Value)=some u'/\wpAny (model X.prog X.w) X.A (letOwnedTupleGo tg (.ref it) u') (λ_ s2=>∃y H',Inv X T O H' s2/\bA y u'/\(Its x).yld i H y H'/\s2.heap.IsStrIter it ty x t (i+1)/\∀b∈[it],H' b=none) E {s with heap:=a,toks:=p}:=by
   intro a B sb p u;have I1:Inv X T O H {s with heap:=a,toks:=p}:=I.turned (t':=p) (λb o f e=>sb b o f e) C J L N G
   obtain⟨o,e,c,d⟩:=id B;refine⟨_,rfl,wL (s:={s with heap:=a,toks:=p}) e c d (by rcases hty with rfl|rfl<;>decide) ⟨.str ⟨#[x.cps[i]]⟩,H,I1,⟨u,rfl⟩,⟨rfl,_,by simp[n],rfl⟩,B,λb f=>(M b f).1⟩⟩
  rcases hty with rfl|rfl
  ·exact wpAny_pyNext_ascii_item g (c:=x.cps[i]) (by simp[n]) λa j l=>q a j (λb o f e=>l.extBut b o f e) _ _
  ·exact wpAny_pyNext_wide_item g (c:=x.cps[i]) (by simp[n]) λa j l=>q a j (λb o f e=>l.extBut b o f e) _ _
 done:=by
  intro X Z S hK U i T s O H E I M g Y;subst Z S hK
  have n:x.cps.size<=i:=Y
  obtain⟨C,J,f2,L,N,G⟩:=M it (by simp)
  rcases hty with rfl|rfl
  ·exact wpAny_pyNext_ascii_end (I.ok.hd U) g (by simp[n]) λa m=>⟨rfl,I.turned (t':=s.toks) (λb o f e=>m b o f e) C J L N G⟩
  ·exact wpAny_pyNext_wide_end (I.ok.hd U) g (by simp[n]) λa m=>⟨rfl,I.turned (t':=s.toks) (λb o f e=>m b o f e) C J L N G⟩
 self:=λA i s Q E g h=>by
  rcases hty with rfl|rfl
  ·exact wpAny_pyIter_striter_ascii g h
  ·exact wpAny_pyIter_striter_wide g h
def Itk(a:Addr)(o:Obj)(es:List (Key×V)):It:=⟨λi H=>i<es.length/\H a=some (.frz o (.dK es)),λi H v H'=>H'=H/\∃e,es[i]? =some e/\v=kV e.1,λi H=>es.length<=i/\H a=some (.frz o (.dK es))⟩
theorem iY{α β:Type}{R:α->β->Prop}: ∀{l:List α} {m:List β},Paired R l m->∀{i:Nat} {a:α},l[i]? =some a->∃b,m[i]? =some b/\R a b
 |_,_,.nil,i,b,h=>by simp at h
 |_,_,.cons r t,0,b,h=>by simp at h;subst h;exact⟨_,rfl,r⟩
 |_,_,.cons r t,i+1,b,h=>by
  obtain⟨a,e,r⟩:=iY t (i:=i) (a:=b) (by simpa using h)
  exact⟨a,by simpa using e,r⟩
theorem tN{σ:St}(I:Inv X ce σ H s)(ha:H a=some (.frz o (.dK es))):(a==sysModules)=false/\∃vs ep,KV es vs/\s.heap.DictAt (aZ X.prog X.w) a vs ep/\∃ar,o.data= .dict ar ep:=by
 obtain⟨e,z,g,vs,d,h,ar,ep,c,f,b,r⟩:=I.hok a _ ha;rw[e]at c;cases c;exact⟨g,vs,ep,d,⟨o,ar,e,f,b,r⟩,ar,b⟩
theorem tP{K:PySem.W.Frag}{tg:Expr}(it:Addr):Turn P w K tg (Itk a o es) [it] it (λi h=>∃ep ar,o.data= .dict ar ep/\h.IsKeyIter it a i es.length ep) where
 mem:=by simp
 obj:=λi h g b p=>by
  have e:b=it:=by simpa using p
  subst e;obtain⟨_,_,_,o,e,c,d⟩:=g;exact⟨o,e,λv z=>by rw[d]at z;cases z⟩
 keep:=λi h A g k=>by
  obtain⟨ep,ar,d,g⟩:=g;exact⟨ep,ar,d,g.at λo e=>k it (by simp) o e⟩
 item:=by
  intro X Q hw S hc i ce s σ H E I B g L;subst Q hw S;obtain⟨N,M⟩:=L;obtain⟨ep,ar,l,g⟩:=g;obtain⟨hd,G,J,m,da,Z,f⟩:=tN I M;rw[l]at f;cases f;obtain⟨O,Y,f2,f3,f4,T⟩:=B it (by simp)
  obtain⟨e,he⟩: ∃e,es[i]? =some e:=⟨es[i],by simp[N]⟩
  obtain⟨q,hq,r1,r2⟩:=iY m he
  have u:es.length=G.length:=KV.length m
  obtain⟨qk,qv⟩:=q;refine wpAny_pyNext_dict_item (knd:=aZ X.prog X.w) (by rw[<-u];exact g) da hq λC A y n ab=>?_
  have I1:Inv X ce σ H {s with heap:=A}:=I.turned (t':=s.toks) (λb o p e=>(ab.2 b p).trans e) O Y f3 f4 T
  obtain⟨oi,e1,c,d⟩:=id n;refine⟨_,rfl,wL (s:={s with heap:=A}) e1 c d (by decide) ⟨kV e.1,H,I1,?_,⟨rfl,e,he,rfl⟩,⟨ep,ar,l,by rw[u];exact n⟩,λb p=>(B b p).1⟩⟩
  have U:e.1=qk:=r1
  rw[U]
  have r:qV qk C=true:=y
  rcases bQ r with ⟨j,t,rfl,rfl⟩|⟨x,t,rfl,rfl⟩<;>exact⟨t,rfl⟩
 done:=by
  intro X Q hw S hc i ce s σ H E I B g L;subst Q hw S;obtain⟨N,M⟩:=L;obtain⟨ep,ar,l,g⟩:=g;obtain⟨hd,G,J,m,da,Z,f⟩:=tN I M;rw[l]at f;cases f
  have u:es.length=G.length:=KV.length m
  obtain⟨O,Y,f2,f3,f4,T⟩:=B it (by simp)
  exact wpAny_pyNext_dict_end (knd:=aZ X.prog X.w) (I.ok.hd hc) (by rw[<-u];exact g) da (List.getElem?_eq_none (by rw[<-u];exact N)) λA ac=>⟨rfl,I.turned (t':=s.toks) (λb o p e=>ac b o p e) O Y f3 f4 T⟩
 self:=λ_ _ _ _ _ g h=>by
  obtain⟨_,_,_,g⟩:=g;exact wpAny_pyIter_keyiter g h
section
variable {X:Cx} {ad:Ad} {ce:cg} {s:Shared} {σ:St} {H G:Hp} {ρ:Rho} {Q:VK} {E:Nat->Hp->Prop} {pos p:Pos} {a b c e:Expr} {f g h:F} {tg:Expr}
theorem aG3(hG:Same G H)(few:x.cps.size<=1000):ItH X ad (Its x) G H (vF x):=by
 have h:(vF x).length=x.cps.size:=by simp[vF]
 refine⟨λi a m d b e=>?_,λa m b=>by rw[h];exact aj _,by rw[h];exact Nat.le_trans few (by decide)⟩
 have l: ∃c,x.cps.toList[i]? =some c/\D.str ⟨#[c]⟩=d:=by simpa[vF]using e
 obtain⟨c,j,rfl⟩:=l
 have g:x.cps[i]? =some c:=by simpa using j
 refine⟨(Array.getElem?_eq_some_iff.mp g).1,λv p n=>?_⟩
 obtain⟨rfl,o,f,rfl⟩:=n;rw[g]at f;cases f;exact⟨a,Step.refl b.gh,by unfold Rep;rfl⟩
theorem xW{ks:List Str}{es:List (Key×V)}{i:Nat}(h:es.map (·.1)=ks.map Sum.inr)(e:(ks.map D.str)[i]? =some d): ∃q,es[i]? =some q/\∃x,q.1=Sum.inr x/\d= .str x:=by
 rw[List.getElem?_map]at e;obtain⟨k,b,c⟩:=zMd e;have a:=congrArg (λl:List Key=>l[i]?) h
 simp only[List.getElem?_map,b,Option.map_some]at a;obtain⟨q,q1,f⟩:=zMd a;exact⟨q,q1,k,f,c.symm⟩
theorem aG4{a:Addr}{ks:List Str}(ha:G a=some (.frz o (.dK es)))(h:es.map (·.1)=ks.map Sum.inr)(hG:Same G H)(few:ks.length<=1000):ItH X ad (Itk a o es) G H (ks.map D.str):=by
 have m:es.length=ks.length:=by have:=congrArg List.length h;simpa using this
 refine⟨λi c j d b e=>?_,λc j b=>⟨by rw[aq,m];exact aj _,b.sh _ _ (hG _ _ ha)⟩,by rw[aq];exact Nat.le_trans few (by decide)⟩
 obtain⟨q,q1,x,g,rfl⟩:=xW h e;refine⟨⟨(ay.mp q1).1,b.sh _ _ (hG _ _ ha)⟩,λv p l=>?_⟩
 obtain⟨rfl,n,f,rfl⟩:=l;rw[q1]at f;cases f;rw[g];exact⟨c,Step.refl b.gh,by unfold Rep;rfl⟩
end
section
variable {X:Cx} {ad:Ad} {ce:cg} {s s2 s3:Shared} {σ:St} {H H2 H3 G G2:Hp} {ρ:Rho} {Q:VK} {E:Nat->Hp->Prop} {pos:Pos} {sc:Scope} {N':List Str} {fp:List Addr}
 {tg it elt:Expr} {ifs:List Expr} {k nt:Nat} {xs:List Str} {cs:List Nat} {fc:Option F} {fi fe:F}
theorem aCf(h: ∀a b c,it≠ .Set a b c): ∀x,foldedSetIterable it X.env x=pure x:=by
 intro x
 cases it<;>first|rfl|exact absurd rfl (h _ _ _)
structure CompSc(X:Cx)(C:Ctx)(sc:Scope)(xs:List Str)(cs:List Nat):Prop where
 kind:sc.kind= .function
 cell:Cel sc
 names: ∀y∈sc.names,y.2= .local->sc.names.lookup y.1=some .local
 fre: ∀x,(x,NameKind.free)∈sc.names->X.env.kindOf x=some .cell\/X.env.kindOf x=some .free
 frl: ∀x,(x,NameKind.free)∈sc.names->sc.names.lookup x=some .free
 N:X.N=C.N
 cs:dR (λx=>eO C x) (aP sc)=some cs
theorem pN(h:x∈aP sc):(x,NameKind.free)∈sc.names:=by
 unfold aP at h;obtain⟨p,c,rfl⟩:=au.mp h;obtain⟨b,a⟩:=List.mem_filter.mp c;obtain⟨y,d⟩:=p
 have:d= .free:=by simpa using a
 subst this;exact b
def RKW(K:PySem.W.Frag)(ad:Ad)(W:Prop)(G H:Hp)(r:R)(Q:VK)(E:Nat->Hp->Prop):Prop:=match r with
 |.ow xs=>∀p vs G' H',Step G H G' H'->H p=none->G' p=none->H' p=some (.lst vs)->aJ K ad G' xs vs->(W->RN K ad H G' xs vs)->Q (.ref p) H'
 |r=>RK K ad G H r Q E
theorem RK.w{K:PySem.W.Frag}(h:RK K ad G H r Q E):RKW K ad W G H r Q E:=by
 cases r with
 |ow f=>exact λp c b d a n m e q _=>h p c b d a n m e q
 |_=>exact h
theorem RKW.step{K:PySem.W.Frag}(h:RKW K ad W G H r Q E)(st:Step G H G' H'):RKW K ad W G' H' r Q E:=by
 cases r with
 |ow i=>exact λp b f a g n m e q w=>h p b f a (st.trans g) (st.sh.free n) m e q λz=>Paired.mapP (w z) λ_ _ y=>y.up st.sh (Same.refl _)
 |ok d=>exact RK.step (K:=K) (ad:=ad) (r:=.ok d) (E:=E) h st
 |ex c=>exact RK.step (K:=K) (ad:=ad) (r:=.ex c) (Q:=Q) h st
 |bad=>exact h
theorem aL9(hr:RKW X.K ad U G H (bB k cs fi fc fe ρ) Q E)(q: ∀J G2 H2 ds all,Step G H G2 H2->ItH X ad J G2 H2 ds->bG (cR k (iT cs ρ) fc fe) ds=some all->RKW X.K ad U G2 H2 (.ow all) Q E->W J H2):IK X ad G H (fi ρ) W E:=by
 unfold bB at hr
 cases e:fi ρ with
 |ok d=>
  rw[e]at hr
  have b:RKW X.K ad U G H (match hW d with|some ds=>(match bG (cR k (iT cs ρ) fc fe) ds with|some xs=>.ow xs|none=>.bad)|none=>.bad) Q E:=hr
  cases j:hW d with
  |none=>rw[j]at b;exact b.elim
  |some ds=>
   rw[j]at b
   have a:RKW X.K ad U G H (match bG (cR k (iT cs ρ) fc fe) ds with|some xs=>.ow xs|none=>.bad) Q E:=b
   cases f:bG (cR k (iT cs ρ) fc fe) ds with
   |none=>rw[f]at a;exact a.elim
   |some all=>
    rw[f]at a;exact⟨ds,j,λJ i m g h=>q J i m ds all g h f (RKW.step a g)⟩
 |ow l=>
  rw[e]at hr
  have a:RKW X.K ad U G H (match bG (cR k (iT cs ρ) fc fe) l with|some xs=>.ow xs|none=>.bad) Q E:=hr
  cases f:bG (cR k (iT cs ρ) fc fe) l with
  |none=>rw[f]at a;exact a.elim
  |some all=>
   rw[f]at a;exact λJ i m g h=>q J i m l all g h f (RKW.step a g)
 |ex c=>rw[e]at hr;exact hr
 |bad=>rw[e]at hr;exact hr
def tEW(X:Cx)(ad:Ad)(W:Prop)(f:F):TE:=λσ H Q=>∃G ρ E,Same G H/\SL X.K ad G H ρ σ/\XP X ad σ E/\RKW X.K ad W G H (f ρ) Q E
theorem aCg(hw:U->∀ρ y,fe ρ≠ .ok y)(hc:X.calm=true)(S:CompSc X C sc xs cs)(hi:MI X ad tg it fi)(hset: ∀a b c,it≠ .Set a b c)(hxs:xs.length=if k=0 then 1 else k)(hg: ∀fp s3 H3 pins',PG (cX X (xs++aP sc) sc s3 H3 fp pins') tg (gTg X.K k))(hts: ∀fp s3 H3 pins',MTs (cX X (xs++aP sc) sc s3 H3 fp pins') ad ifs fc)(he: ∀fp s3 H3 pins',ME (cX X (xs++aP sc) sc s3 H3 fp pins') ad elt fe):
  PE X (.ListComp elt [⟨tg,it,ifs,0⟩] sc pos) (tEW X ad U (bB k cs fi fc fe)):=by
 rintro ce s σ H Q I ⟨G,ρ,E,hG,M,o,hr⟩;rw[eval_ListComp]
 have j:closureFor sc X.env=pure (kS X.env.cells sc.names []):=iX λx o=>by
  obtain⟨c,h⟩:=I.ok.has x (S.fre x o);rw[h];rfl
 refine wpAny_comprehension_free (use:=none) rfl (aCf hset) j S.kind S.names ?_;show wpAny (model X.prog X.w) X.A (eval it X.env) _ X.xe s
 refine L2.thn (hi ce s σ H _ I ⟨G,ρ,E,hG,M,o,aL9 (W:=λJ i=>∃f g all,Step G H f i/\ItH X ad J f i g/\bG (cR k (iT cs ρ) fc fe) g=some all/\RKW X.K ad U f i (.ow all) Q E) hr λJ f i g all a b c d=>⟨f,g,all,a,b,c,d⟩⟩) λv s1 h1=>
  L2.thn h1 λab s2 u=>?_
 obtain⟨ac,fp,tn,J,i,e,z,T,st2,f2,f,g,all,B,hit,l,p⟩:=u;subst e;obtain⟨σc,l1,l2,l3⟩:=mJ (xs:=xs) (sc:=sc) (nt:=if k=0 then 1 else k) hxs S.N S.cs (λx h=>pN h) (M.step B) z.len
 refine pM (σc:=σc) hw hc z T st2 f2 hit l B.gh S.kind S.cell S.fre S.frl l1 l2 rfl l3 (hg fp) (hts fp) (he fp) λs3 s' H3 L G' Y D Z I3 f3 O n hD gD t r' q=>?_
 obtain⟨m,r,_⟩:=O.loc;refine⟨m,r,λh' sb=>⟨.ref D,L,aE2 (fpO:=f3) I3 O sb,rfl,p D Z G' L n hD gD t r' q⟩⟩
theorem aG5(hc:X.calm=true)(S:CompSc X C sc xs cs)(hi:MI X ad tg it fi)(hset: ∀a b c,it≠ .Set a b c)(hxs:xs.length=if k=0 then 1 else k)(hg: ∀fp s3 H3 pins',PG (cX X (xs++aP sc) sc s3 H3 fp pins') tg (gTg X.K k))(hts: ∀fp s3 H3 pins',MTs (cX X (xs++aP sc) sc s3 H3 fp pins') ad ifs fc)(he: ∀fp s3 H3 pins',ME (cX X (xs++aP sc) sc s3 H3 fp pins') ad elt fe):
  ME X ad (.ListComp elt [⟨tg,it,ifs,0⟩] sc pos) (bB k cs fi fc fe):=
 PE.imp (aCg (U:=False) ba hc S hi hset hxs hg hts he) λi H Q ⟨G,e,E,g,h,f,d⟩=>⟨G,e,E,g,h,f,d.w⟩
theorem aG6(hq:SqT X.K H a vs)(r:aJ X.K ad G ds vs)(hG:Same G H)(few:vs.length<=sizeLine):ItH X ad (Itt X.K a) G H ds:=by
 refine⟨λi c g d b e=>?_,λc g b=>⟨vs,b.sh.seqT hq,by rw[r.length];exact aj _⟩,by rw[<-r.length];exact few⟩
 obtain⟨v,f,h⟩:=r.get e;refine⟨⟨vs,v,b.sh.seqT hq,f⟩,?_⟩;rintro x j ⟨rfl,y⟩
 have:=y vs (b.sh.seqT hq)
 rw[f]at this;cases this;exact⟨c,Step.refl b.gh,h.mono b.sg⟩
theorem aG7(hq:SqL X.K H a vs)(r:aJ X.K ad G ds vs)(hG:Same G H)(few:vs.length<=sizeLine):ItH X ad (Itl X.K a) G H ds:=by
 refine⟨λi c g d b e=>?_,λc g b=>⟨vs,b.sh.seq hq,by rw[r.length];exact aj _⟩,by rw[<-r.length];exact few⟩
 obtain⟨v,f,h⟩:=r.get e;refine⟨⟨vs,v,b.sh.seq hq,f⟩,?_⟩;rintro x j ⟨rfl,y⟩
 have:=y vs (b.sh.seq hq)
 rw[f]at this;cases this;exact⟨c,Step.refl b.gh,h.mono b.sg⟩
theorem xX(ha:ML X ad a f):MI X ad tg a f:=by
 rintro O s N H W I ⟨G,ρ,E,hG,hS,hx,Q⟩
 -- the value, then U iterator
 have M: ∀(d:D) (y:List D),items d=some y->(∀J G' H',Step G H G' H'->ItH X ad J G' H' y->W J H')->∀u g v h i,Inv X O N h g->bA v u->Step G H i h->Seq X ad i h d v->wpAny (model X.prog X.w) X.A (pyIter u) (PIE X O N tg W) X.xe g:=by
  intro d y e L u g v h i j B r q;obtain⟨p,vs,rfl,Y,rq⟩:=q.items r.gh e
  cases (show u=Value.ref p from B)
  rcases Y with ⟨_,Y⟩|⟨_,Y⟩
  ·obtain⟨U,rv,pt,hz⟩:=j.tuple Y;refine wpAny_pyIter_tuple (show g.heap.IsTuple p U.toArray from pt) ?_
   refine⟨g.heap.objs.size,[g.heap.objs.size],_,_,h,rfl,j.kept (t':=g.toks) λb o e=>af _ e,lZ p _,⟨_,ag _ rfl,rfl,rfl⟩,λb T=>?_,L _ i h r (aG6 Y rq r.gh hz)⟩
   have e:b=g.heap.objs.size:=by simpa using T
   subst e;exact j.fpOk (aj _) (j.hok.fresh (aj _))
  ·obtain⟨U,rv,pt,hz⟩:=j.list Y;refine wpAny_pyIter_list pt.isList ?_;refine⟨g.heap.objs.size,[g.heap.objs.size],_,_,h,rfl,j.kept (t':=g.toks) λb o e=>af _ e,oN p _,⟨_,ag _ rfl,rfl,rfl⟩,λb T=>?_,L _ i h r (aG7 Y rq r.gh hz)⟩
   have e:b=g.heap.objs.size:=by simpa using T
   subst e;exact j.fpOk (aj _) (j.hok.fresh (aj _))
 have Z: ∀(d:D) (y:List D),hW d=some y->(∀J G' H',Step G H G' H'->ItH X ad J G' H' y->W J H')->∀u g v h i,Inv X O N h g->bA v u->Step G H i h->Seq X ad i h d v->wpAny (model X.prog X.w) X.A (pyIter u) (PIE X O N tg W) X.xe g:=by
  intro d y e L u g v h i j B r q
  cases d with
  |tup xs=>exact M (.tup xs) y (show items (.tup xs)=some y from e) L u g v h i j B r q
  |lst xs=>exact M (.lst xs) y (show items (.lst xs)=some y from e) L u g v h i j B r q
  |str x=>
   have C:(if x.cps.size<=1000 then some (vF x)else none)=some y:=e
   by_cases S:x.cps.size<=1000
   ·rw[if_pos S]at C;cases C
    have q':Rep X.K ad i (.str x) v:=by
     rcases q with q|⟨_,_,_,z,_⟩
     ·exact q
     ·cases z
    unfold Rep at q';subst q';obtain⟨t,rfl⟩:=(show ∃t,u=Value.str x t from B)
    have go: ∀(ty:String) (o:Obj),(ty="str_ascii_iterator"\/ty="str_iterator")->(g.heap.push o).IsStrIter g.heap.objs.size ty x t 0->PIE X O N tg W (.ref g.heap.objs.size) {g with heap:=g.heap.push o}:=λty o al ak=>by
     refine⟨g.heap.objs.size,[g.heap.objs.size],_,_,h,rfl,j.kept (t':=g.toks) λb o e=>af _ e,aCe _ al,ak,λb T=>?_,L _ i h r (aG3 r.gh S)⟩
     have e:b=g.heap.objs.size:=by simpa using T
     subst e;exact j.fpOk (aj _) (j.hok.fresh (aj _))
    cases hA:x.cps.all (· <128)
    ·exact wpAny_pyIter_wide hA (go _ _ (.inr rfl) ⟨_,ag _ rfl,rfl,rfl⟩)
    ·exact wpAny_pyIter_ascii hA (go _ _ (.inl rfl) ⟨_,ag _ rfl,rfl,rfl⟩)
   ·rw[if_neg S]at C;cases C
  |dct ks vs=>
   have C:(if ks.length<=1000 then some (ks.map D.str)else none)=some y:=e
   by_cases S:ks.length<=1000
   ·rw[if_pos S]at C;cases C
    have q':Rep X.K ad i (.dct ks vs) v:=by
     rcases q with q|⟨_,_,_,z,_⟩
     ·exact q
     ·cases z
    unfold Rep at q';obtain⟨a,o,es,rfl,ga,a1,a2⟩:=q'
    cases (show u=Value.ref a from B)
    obtain⟨hd,am,ep,ac,da,ar,ab⟩:=tN j (r.gh _ _ ga);refine wpAny_pyIter_dict (knd:=aZ X.prog X.w) hd da ?_;refine⟨g.heap.objs.size,[g.heap.objs.size],_,_,h,rfl,j.kept (t':=g.toks) λb o e=>af _ e,tP _,⟨ep,ar,ab,_,ag _ rfl,rfl,by rw[KV.length ac];rfl⟩,λb T=>?_,L _ i h r (aG4 ga a1 r.gh S)⟩
    have e:b=g.heap.objs.size:=by simpa using T
    subst e;exact j.fpOk (aj _) (j.hok.fresh (aj _))
   ·rw[if_neg S]at C;cases C
  |_=>cases e
 cases e:f ρ with
 |ok d=>
  rw[e]at Q;obtain⟨y,e2,L⟩:=Q;exact L2.thn (ha O s N H (λv h=>∃i,Step G H i h/\Seq X ad i h d v) I ⟨G,ρ,E,hG,hS,hx,by rw[e];exact λv i h r q=>⟨i,r,q⟩⟩) λu g ⟨v,h,j,B,i,r,q⟩=>Z d y e2 L u g v h i j B r q
 |ow l=>
  rw[e]at Q;exact L2.thn (ha O s N H (λv h=>∃i,Step G H i h/\Rep X.K ad i (.lst l) v) I ⟨G,ρ,E,hG,hS,hx,by rw[e];exact λp vs i h r n m C q=>cY r n m C q⟩) λu g ⟨v,h,j,B,i,r,q⟩=>Z (.lst l) l rfl Q u g v h i j B r (.inl q)
 |ex c=>
  rw[e]at Q;exact L2.thn (ha O s N H (λv h=>False) I ⟨G,ρ,E,hG,hS,hx,by rw[e];exact Q⟩) λu g ⟨v,h,j,B,q⟩=>q.elim
 |bad=>
  rw[e]at Q;exact ba Q
theorem aG8{lo:Int}(hG:Same G H)(few:n<=sizeLine):ItH X ad (Itr lo n) G H ((List.range n).map λ(i:Nat)=>D.int (lo+(i:Int))):=by
 refine⟨λi a g d b e=>?_,λa g b=>by simp[Itr],by simpa using few⟩
 rw[List.getElem?_map]at e
 cases q:(List.range n)[i]? with
 |none=>rw[q]at e;cases e
 |some j=>
  rw[q]at e;obtain⟨c,f⟩:=ay.mp q;rw[List.length_range]at c;rw[List.getElem_range]at f;subst f;cases e;refine⟨c,?_⟩;rintro x h ⟨rfl,rfl⟩;exact⟨a,Step.refl b.gh,bR⟩
theorem xY(n:Nat):qO n=(List.range n).map λ(i:Nat)=>D.int (0+(i:Int)):=by
 unfold qO
 congr 1
 funext i
 rw[Int.zero_add]
theorem rQ{k:D->R}(hG:Same G H)(hS:SL X.K ad G H ρ σ)(hx:XP X ad σ E)(hr:IK X ad G H ((f ρ).bind k) W E)(q: ∀v d G1 H1,Step G H G1 H1->Rep X.K ad G1 d v->IK X ad G1 H1 (k d) W E->Q' v H1):tE X ad f σ H Q':=by
 have g: ∀{r:R} {G1 H1:Hp},IK X ad G H r W E->Step G H G1 H1->IK X ad G1 H1 r W E:=λ{r G1 H1} h b=>by
  cases r with
  |ok d=>obtain⟨u,e,h⟩:=h;exact⟨u,e,λJ i j a o=>h J i j (b.trans a) o⟩
  |ow l=>exact λJ i j a o=>h J i j (b.trans a) o
  |ex c=>exact λi j a=>h i j (b.trans a)
  |bad=>exact h
 refine⟨G,ρ,E,hG,hS,hx,?_⟩
 cases e:f ρ with
 |ok d=>
  rw[e]at hr;exact λv G1 H1 b r=>q v d G1 H1 b r (g hr b)
 |ow z=>
  rw[e]at hr;intro p y G1 H1 b n m t r;obtain⟨x,st2,s⟩:=cY (X:=X) (ad:=ad) b n m t r;exact q _ _ x H1 st2 s (g hr st2)
 |ex c=>
  rw[e]at hr;exact hr
 |bad=>
  rw[e]at hr;exact hr
theorem aCh(hg:L2.Gl X "range")(hm:X.mg "range"=none)(ha:ME X ad a f)(hs:starEach [a] X.env=(false,eval a X.env)::starEach [] X.env):MI X ad tg (.Call (.Name "range" p) [a] [] pos) (cS f):=by
 rintro q s l H W I ⟨G,y,E,t,n,u,o⟩;refine oO (ta:=q9 (tE X ad f) aJ4) hg hm (bY ha dZ hs) hs q s l H W I ?_;show tE X ad f l H λv c=>∃j:Int,[v]=[.int j]/\ -(2^62)<=j/\j<2^62/\W (Itr 0 j.toNat) c
 refine rQ t n u o λv d g c h r k=>?_
 cases d<;>try exact ba k
 rename_i i;unfold Rep at r;subst r
 have b:IK X ad g c (if -100000<=i/\i<=100000 then .ok (.lst (qO i.toNat))else .bad) W E:=k
 by_cases m: -100000<=i/\i<=100000
 ·rw[if_pos m]at b;obtain⟨z,e,x⟩:=b;cases e;refine⟨i,rfl,by lia,by lia,x _ g c (Step.refl h.gh) ?_⟩
  rw[xY];exact aG8 h.gh (by rw[sizeLine_eq];lia)
 ·rw[if_neg m]at b;exact b.elim
end
def gF(H:Hp)(ρ:Rho)(σ:St)(i:Nat)(as:List Addr):Prop:= ∃C r p dx d l1 l2,ρ[i]? =some (Slot.rk C r)/\σ[i]? =some (some (V.ref p))/\H p=some (HO.ins C dx [("held",V.ref d),("done",V.ref l1),("undone",V.ref l2)])/\as=[p,dx,d,l1,l2]
structure RS(H₀ H:Hp)(ρ:Rho)(σ:St):Prop where
 h0: ∀i as,gF H ρ σ i as->∀a∈as,H₀ a=none
 ow: ∀i as,gF H ρ σ i as->∀a∈as, ∀(j:Nat) (sl:Slot),ρ[j]? =some sl->sl.owns=true->σ[j]? ≠some (some (.ref a))
 rr: ∀i j as as' a,gF H ρ σ i as->gF H ρ σ j as'->a∈as->a∈as'->i=j
section
variable {K:PySem.W.Frag} {ad:Ad} {G H H1 H₀:Hp} {ρ:Rho} {σ:St} {i:Nat} {as:List Addr}
theorem gF.in(h:SL K ad G H ρ σ)(f:gF H ρ σ i as): ∃C r p dx d l1 l2,ρ[i]? =some (.rk C r)/\σ[i]? =some (some (V.ref p))/\RackIn K ad C G H p r dx d l1 l2/\as=[p,dx,d,l1,l2]:=by
 obtain⟨C,r,p,dx,d,l1,l2,a,b,m,j⟩:=f;obtain⟨o,l,n,e,g,q1,c⟩:=h.rk a;rw[b]at q1;cases q1
 have:=c.ins
 rw[m]at this;cases this;exact⟨C,r,p,dx,d,l1,l2,a,b,c,j⟩
theorem gF.at(h:SL K ad G H ρ σ)(f:gF H ρ σ i as): ∀a∈as,G a=none/\H a≠none:=by
 obtain⟨C,r,p,o,d,t,v,j,s,q,rfl⟩:=f.in h;obtain⟨b,e,n⟩:=q.held;obtain⟨l,c,y⟩:=q.done;obtain⟨x,g,u⟩:=q.undone;intro a m;simp only[av,List.not_mem_nil,or_false]at m;rcases m with rfl|rfl|rfl|rfl|rfl
 ·exact⟨q.gp,by rw[q.ins];exact λz=>nomatch z⟩
 ·exact⟨q.gx,by rw[q.own];exact λz=>nomatch z⟩
 ·exact⟨q.gd,by rw[e];exact λz=>nomatch z⟩
 ·exact⟨q.g1,by rw[c];exact λz=>nomatch z⟩
 ·exact⟨q.g2,by rw[g];exact λz=>nomatch z⟩
theorem gF.back(h:SL K ad G H ρ σ)(s:Same H H1)(f:gF H1 ρ σ i as):gF H ρ σ i as:=by
 obtain⟨C,r,p,o,d,q,g,a,b,n,l⟩:=f;obtain⟨u,m,t,e,j,q1,c⟩:=h.rk a;rw[b]at q1;cases q1
 have:=s _ _ c.ins
 rw[n]at this;cases this;exact⟨C,r,p,o,d,q,g,a,b,c.ins,l⟩
theorem RS.same(R:RS H₀ H ρ σ)(h:SL K ad G H ρ σ)(s:Same H H1):RS H₀ H1 ρ σ:=
 ⟨λi b f=>R.h0 i b (f.back h s),λi b f=>R.ow i b (f.back h s),λi j b c a f d=>R.rr i j b c a (f.back h s) (d.back h s)⟩
theorem gF.unset(w:sn.isRk=false)(f:gF H (ρ.set i sn) (σ.set i ov) k as):k≠i/\gF H ρ σ k as:=by
 obtain⟨C,r,p,j,d,l,e,a,b,h,g⟩:=f
 have c:k≠i:=λz=>by
  subst z;have m:k<ρ.length:=by have:=(ay.mp a).1;rwa [List.length_set]at this
  rw[bn m]at a;cases a;cases w
 rw[bd (Ne.symm c)]at a b;exact⟨c,C,r,p,j,d,l,e,a,b,h,g⟩
theorem RS.set(R:RS H₀ H ρ σ)(w:sn.isRk=false)(n: ∀a,sn.owns=true->ov=some (.ref a)->∀k as,gF H ρ σ k as->a∉as):RS H₀ H (ρ.set i sn) (σ.set i ov):=by
 refine⟨λk as f=>R.h0 k as (f.unset w).2,λk as f a h j p b g c=>?_,λk l as d a f m=>R.rr k l as d a (f.unset w).2 (m.unset w).2⟩
 by_cases z:j=i
 ·subst z;have o:j<ρ.length:=by have:=(ay.mp b).1;rwa [List.length_set]at this
  have e:j<σ.length:=by have:=(ay.mp c).1;rwa [List.length_set]at this
  rw[bn o]at b;rw[bn e]at c;cases b;cases c;exact n a g rfl k as (f.unset w).2 h
 ·rw[bd (Ne.symm z)]at b c;exact R.ow k as (f.unset w).2 a h j p b g c
theorem gF.reset(w:sn.isRk=false)(f:gF H (ρ.set i sn) σ k as):gF H ρ σ k as:=by
 obtain⟨C,r,p,h,d,l,b,a,c,g,e⟩:=f
 have j:k≠i:=λz=>by
  subst z;have m:k<ρ.length:=by have:=(ay.mp a).1;rwa [List.length_set]at this
  rw[bn m]at a;cases a;cases w
 rw[bd (Ne.symm j)]at a;exact⟨C,r,p,h,d,l,b,a,c,g,e⟩
theorem RS.re(R:RS H₀ H ρ σ)(w:sn.isRk=false)(e:ρ[i]? =some sl₀)(w₀:sl₀.owns=true):RS H₀ H (ρ.set i sn) σ:=by
 refine⟨λk b f=>R.h0 k b (f.reset w),λk b f a h j n d o g=>?_,λk l b c a f m=>R.rr k l b c a (f.reset w) (m.reset w)⟩
 by_cases z:j=i
 ·subst z;exact R.ow k b (f.reset w) a h j sl₀ e w₀ g
 ·rw[bd (Ne.symm z)]at d;exact R.ow k b (f.reset w) a h j n d o g
theorem RackIn.ups(h:RackIn K ad C G H p r dx d l1 l2)(ha:a∉[p,dx,d,l1,l2]):RackIn K ad C G (upd H a o) p r dx d l1 l2:=by
 simp only[av,List.not_mem_nil,or_false,not_or]at ha;obtain⟨n,m,q,c,i⟩:=ha;obtain⟨b,l,j⟩:=h.held;obtain⟨f,g,t⟩:=h.done;obtain⟨s,u,e⟩:=h.undone;exact⟨by rw[aB (Ne.symm n)];exact h.ins,by rw[aB (Ne.symm m)];exact h.own,⟨b,by rw[aB (Ne.symm q)];exact l,j⟩,⟨f,by rw[aB (Ne.symm c)];exact g,t⟩,⟨s,by rw[aB (Ne.symm i)];exact u,e⟩,h.ne,h.gp,h.gx,h.gd,h.g1,h.g2⟩
theorem RackIn.shr(h:RackIn K ad C G H p r dx d l1 l2)(ha:a∉[p,dx,d,l1,l2])(le:Same G (upd G a o)):RackIn K ad C (upd G a o) H p r dx d l1 l2:=by
 simp only[av,List.not_mem_nil,or_false,not_or]at ha;obtain⟨n,m,q,c,i⟩:=ha;obtain⟨b,l,j⟩:=h.held;obtain⟨f,g,t⟩:=h.done;obtain⟨s,u,e⟩:=h.undone;exact⟨h.ins,h.own,⟨b,l,j.mono le⟩,⟨f,g,t.mono le⟩,⟨s,u,e.mono le⟩,h.ne,by rw[aB (Ne.symm n)];exact h.gp,by rw[aB (Ne.symm m)];exact h.gx,by rw[aB (Ne.symm q)];exact h.gd,by rw[aB (Ne.symm c)];exact h.g1,by rw[aB (Ne.symm i)];exact h.g2⟩
end
structure SS(X:Cx)(ad:Ad)(G₀ G H:Hp)(ρ:Rho)(σ:St):Prop where
 st:Step G₀ X.H₀ G H
 sl:SL X.K ad G H ρ σ
 ow: ∀(i:Nat) (sl:Slot) (a:Addr),ρ[i]? =some sl->sl.owns=true->σ[i]? =some (some (.ref a))->X.H₀ a=none
 dj: ∀(i j:Nat) (sl sl':Slot) (a:Addr),ρ[i]? =some sl->ρ[j]? =some sl'->sl.owns=true->sl'.owns=true->σ[i]? =some (some (.ref a))->σ[j]? =some (some (.ref a))->i=j
 rs:RS X.H₀ H ρ σ
def OKo(X:Cx)(ad:Ad)(G₀:Hp)(o:Out)(D':Ends)(E:St->Nat->Hp->Prop):Prop:=match o with
 |.nx ρ=>∀σ G H,SS X ad G₀ G H ρ σ->D'.nx σ H
 |.bk ρ=>∀σ G H,SS X ad G₀ G H ρ σ->D'.bk σ H
 |.ct ρ=>∀σ G H,SS X ad G₀ G H ρ σ->D'.ct σ H
 |.ex c ρ=>∀σ G H,SS X ad G₀ G H ρ σ->E σ c H
 |.rt (.ok d)=>∀v G H,Step G₀ X.H₀ G H->Rep X.K ad G d v->D'.rt v H
 |.rt (.ow xs)=>∀p vs G H,Step G₀ X.H₀ G H->X.H₀ p=none->G p=none->H p=some (.lst vs)->aJ X.K ad G xs vs->D'.rt (.ref p) H
 |.rt _=>False
def XA(X:Cx)(ad:Ad)(Z:(St->Nat->Hp->Prop)->Prop)(E:St->Nat->Hp->Prop):Prop:=(∀σ,XP X ad σ (E σ))/\Z E
def tS(X:Cx)(ad:Ad)(Z:(St->Nat->Hp->Prop)->Prop)(g:FS):TS:=λD' σ H=>∃G₀ G ρ E,SS X ad G₀ G H ρ σ/\XA X ad Z E/\OKo X ad G₀ (g ρ) D' E
abbrev MS(X:Cx)(ad:Ad)(Z:(St->Nat->Hp->Prop)->Prop)(st:Stmt)(g:FS):Prop:=PS X st (tS X ad Z g)
abbrev MSs(X:Cx)(ad:Ad)(Z:(St->Nat->Hp->Prop)->Prop)(st:List Stmt)(g:FS):Prop:=PSs X st (tS X ad Z g)
section
variable {X:Cx} {ad:Ad} {Z:(St->Nat->Hp->Prop)->Prop} {ce:cg} {s:Shared} {σ:St} {H G G₀:Hp} {ρ:Rho} {D':Ends} {E:St->Nat->Hp->Prop} {pos pos':Pos} {e:Expr} {f:F} {g h:FS} {st:Stmt} {sts:List Stmt}
theorem SS.step(S:SS X ad G₀ G H ρ σ)(t:Step G H G1 H1):SS X ad G₀ G1 H1 ρ σ:=⟨S.st.trans t,S.sl.step t,S.ow,S.dj,S.rs.same S.sl t.sh⟩
theorem iZ(a:Step G₀ H₀ Gs Hs)(b:Step Gs H₀ G H):Step G₀ H₀ G H:=
 ⟨a.sg.trans b.sg,b.gh,b.sh,λx d c=>by
  cases q:Gs x with
  |none=>exact b.nw x q c
  |some o=>exact a.nw x d (by rw[q];exact λz=>nomatch z)⟩
theorem SS.up(a:Step G₀ X.H₀ Gs Hs)(S:SS X ad Gs G H ρ σ):SS X ad G₀ G H ρ σ:=⟨iZ a S.st,S.sl,S.ow,S.dj,S.rs⟩
theorem SS.here(S:SS X ad G₀ G H ρ σ):SS X ad G G H ρ σ:=⟨⟨Same.refl _,S.st.gh,S.st.sh,λb c a=>absurd c a⟩,S.sl,S.ow,S.dj,S.rs⟩
theorem OKo.rebase(h:OKo X ad G₀ o D' E)(a:Step G₀ X.H₀ Gs Hs):OKo X ad Gs o D' E:=by
 cases o with
 |nx g=>exact λb G H S=>h b G H (S.up a)
 |bk g=>exact λb G H S=>h b G H (S.up a)
 |ct g=>exact λb G H S=>h b G H (S.up a)
 |ex c g=>exact λb G H S=>h b G H (S.up a)
 |rt r=>
  cases r with
  |ok d=>exact λv G H f q=>h v G H (iZ a f) q
  |ow j=>exact λp i G H f n m e q=>h p i G H (iZ a f) n m e q
  |ex c=>exact h
  |bad=>exact h
theorem fU(S:SS X ad G₀ G H ρ σ)(hx:XA X ad Z E)(hr:OKo X ad G₀ (eY ρ (f ρ) k) D' E)(q: ∀v d G1 H1,Step G H G1 H1->Rep X.K ad G1 d v->OKo X ad G₀ (k d) D' E->Q' v H1):tE X ad f σ H Q':=by
 refine⟨G,ρ,E σ,S.st.gh,S.sl,hx.1 σ,?_⟩;unfold eY at hr
 cases e:f ρ with
 |ok d=>rw[e]at hr;exact λv G1 H1 st r=>q v d G1 H1 st r hr
 |ow h=>
  rw[e]at hr;intro p i G1 H1 st n m a r;obtain⟨g,st2,b⟩:=cY (X:=X) (ad:=ad) st n m a r;exact q _ _ g H1 st2 b hr
 |ex c=>rw[e]at hr;exact λG1 H1 st=>hr σ G1 H1 (S.step st)
 |bad=>rw[e]at hr;exact hr
theorem aG9:MS X ad Z (.Pass pos) a9:=PS.imp wH λd c H ⟨a,G,e,E,S,f,b⟩=>b c G H S
theorem rR:MSs X ad Z [] a9:=PSs.imp j4 λd c H ⟨a,G,e,E,S,f,b⟩=>b c G H S
theorem aHa(h1:MS X ad Z st g):MSs X ad Z [st] g:=qZ h1
theorem tQ(h1:MS X ad Z st g)(h2:MSs X ad Z sts h):MSs X ad Z (st::sts) (bL g h):=by
 refine PSs.imp (jO h1 h2) ?_;rintro o n H ⟨d,G,f,E,S,i,a⟩;refine⟨d,G,f,E,S,i,?_⟩;unfold bL at a
 cases e:g f with
 |nx b=>rw[e]at a;exact λl j p m=>⟨d,j,b,E,m,i,a⟩
 |bk b=>rw[e]at a;exact a
 |ct b=>rw[e]at a;exact a
 |ex c b=>rw[e]at a;exact a
 |rt r=>
  rw[e]at a
  cases r<;>exact a
theorem tR(he:ME X ad e f):MS X ad Z (.Return (some e) pos) (dG f):=by
 refine PS.imp (wI he) ?_;rintro s h H ⟨j,G,i,E,S,q,a⟩;refine⟨G,i,E h,S.st.gh,S.sl,q.1 h,?_⟩;unfold dG at a
 cases e:f i with
 |ok d=>rw[e]at a;exact λv b g st r=>a v b g (S.st.trans st) r
 |ow t=>rw[e]at a;exact λp l b g st n m o r=>a p l b g (S.st.trans st) (S.st.sh.free n) m o r
 |ex c=>rw[e]at a;exact λb g st=>a h b g (S.step st)
 |bad=>rw[e]at a;exact a
theorem aHb(he:ME X ad e f)(hs:swapsWith e none pos.line X.env=pure false):MS X ad Z (.Expr e pos) (jN f):=by
 refine PS.imp (mY he hs) ?_;rintro l h H ⟨a,G,m,E,S,i,g⟩;exact fU S i g λv d b j c r k=>k h b j (S.step c)
theorem SS.set(S:SS X ad G₀ G H ρ σ)(r:Rep X.K ad G d v):SS X ad G₀ G H (ρ.set i (.sh d)) (σ.set i (some v)):=by
 have b: ∀(j:Nat) (sl:Slot),(ρ.set i (.sh d))[j]? =some sl->(j=i/\sl= .sh d/\i<ρ.length)\/(j≠i/\ρ[j]? =some sl):=λj sl e=>by
  by_cases z:j=i
  ·subst z;have c:j<ρ.length:=by have:=(ay.mp e).1;rwa [List.length_set]at this
   rw[bn c]at e;cases e;exact .inl ⟨rfl,rfl,c⟩
  ·rw[bd (Ne.symm z)]at e;exact .inr ⟨z,e⟩
 refine⟨S.st,⟨by rw[List.length_set,List.length_set];exact S.sl.len,λj sl e=>?_⟩,λj l a e w h=>?_,λj n l q a e g w o h m=>?_,S.rs.set rfl λ_ z=>nomatch z⟩
 ·rcases b j sl e with ⟨rfl,rfl,c⟩|⟨z,e⟩
  ·exact⟨some v,bn (by rw[<-S.sl.len];exact c),v,rfl,r⟩
  ·obtain⟨t,s,p⟩:=S.sl.at_ j sl e;exact⟨t,by rw[bd (Ne.symm z)];exact s,p⟩
 ·rcases b j _ e with ⟨_,z,_⟩|⟨z,e⟩
  ·subst z;exact(bg w).elim
  ·rw[bd (Ne.symm z)]at h;exact S.ow j l a e w h
 ·rcases b j _ e with ⟨_,z,_⟩|⟨z,e⟩
  ·subst z;exact(bg w).elim
  ·rcases b n _ g with ⟨_,f,_⟩|⟨f,g⟩
   ·subst f;exact(bg o).elim
   ·rw[bd (Ne.symm z)]at h;rw[bd (Ne.symm f)]at m;exact S.dj j n l q a e g w o h m
theorem SL.own_at{K:PySem.W.Frag}{j:Nat}(h:SL K ad G H ρ σ)(e:ρ[j]? =some sl)(w:sl.owns=true)(hj:σ[j]? =some (some (.ref p))):G p=none/\H p≠none:=by
 obtain⟨n,i,g⟩:=h.at_ j sl e;rw[hj]at i;cases i
 cases sl with
 |no=>exact(bg w).elim
 |sh d=>exact(bg w).elim
 |sd l=>obtain⟨a,m,b,c,f,_⟩:=g;cases b;exact⟨c,by rw[f];exact λz=>nomatch z⟩
 |rk _ _=>exact(bg w).elim
 |ow l=>obtain⟨a,m,b,c,f,_⟩:=g;cases b;exact⟨c,by rw[f];exact λz=>nomatch z⟩
 |dc l=>obtain⟨a,m,b,c,f,_⟩:=g;cases b;exact⟨c,by rw[f];exact λz=>nomatch z⟩
theorem SS.setNew{i:Nat}{sn:Slot}{p:Addr}{G1 H1:Hp}(S:SS X ad G₀ G H ρ σ)(st:Step G H G1 H1)(n:H p=none)(r:SLi X.K ad G1 H1 sn (some (.ref p)))(wr:sn.isRk=false:=by rfl):
  SS X ad G₀ G1 H1 (ρ.set i sn) (σ.set i (some (.ref p))):=by
 have x:=S.step st
 have c: ∀(j:Nat) (sl:Slot),(ρ.set i sn)[j]? =some sl->(j=i/\sl=sn/\i<ρ.length)\/(j≠i/\ρ[j]? =some sl):=λj sl e=>by
  by_cases z:j=i
  ·subst z;have d:j<ρ.length:=by have:=(ay.mp e).1;rwa [List.length_set]at this
   rw[bn d]at e;cases e;exact .inl ⟨rfl,rfl,d⟩
  ·rw[bd (Ne.symm z)]at e;exact .inr ⟨z,e⟩
 -- no b slot holds the new list
 have b: ∀(j:Nat) (sl:Slot),ρ[j]? =some sl->sl.owns=true->σ[j]? ≠some (some (.ref p)):=λj sl J w L=>(S.sl.own_at J w L).2 n
 refine⟨x.st,⟨by rw[List.length_set,List.length_set];exact S.sl.len,λj sl o=>?_⟩,λj s a o w h=>?_,λj t s C a I B E y l g=>?_,x.rs.set wr λa _ z k N f m=>by
  cases z;exact((f.back S.sl st.sh).at S.sl p m).2 n⟩
 ·rcases c j sl o with ⟨q1,q,d⟩|⟨z,o⟩
  ·rw[q1,q];exact⟨some (.ref p),bn (by rw[<-S.sl.len];exact d),r⟩
  ·obtain⟨M,l,g⟩:=x.sl.at_ j sl o;exact⟨M,by rw[bd (Ne.symm z)];exact l,g⟩
 ·rcases c j _ o with ⟨q1,_,d⟩|⟨z,o⟩
  ·rw[q1,bn (by rw[<-S.sl.len];exact d)]at h
   cases h;exact S.st.sh.free n
  ·rw[bd (Ne.symm z)]at h;exact S.ow j s a o w h
 ·rcases c j _ I with ⟨q1,_,d⟩|⟨z,A⟩
  ·rcases c t _ B with ⟨q,_,_⟩|⟨u,v⟩
   ·rw[q1,q]
   ·rw[q1,bn (by rw[<-S.sl.len];exact d)]at l
    cases l;rw[bd (Ne.symm u)]at g;exact absurd g (b t C v y)
  ·rcases c t _ B with ⟨q,_,d⟩|⟨u,v⟩
   ·rw[q,bn (by rw[<-S.sl.len];exact d)]at g
    cases g;rw[bd (Ne.symm z)]at l;exact absurd l (b j s A E)
   ·rw[bd (Ne.symm z)]at l;rw[bd (Ne.symm u)]at g;exact S.dj j t s C a A v E y l g
theorem SS.setOw(S:SS X ad G₀ G H ρ σ)(st:Step G H G1 H1)(n:H p=none)(m:G1 p=none)(e:H1 p=some (.lst vs))(r:aJ X.K ad G1 xs vs):
  SS X ad G₀ G1 H1 (ρ.set i (.ow xs)) (σ.set i (some (.ref p))):=S.setNew st n ⟨p,vs,rfl,m,e,r⟩
theorem aMa(S:SS X ad G₀ G H ρ σ)(hx:XA X ad Z E)(hr:OKo X ad G₀ (sV i f ρ) D' E):tE X ad f σ H λv H1=>D'.nx (σ.set i (some v)) H1:=by
 refine⟨G,ρ,E σ,S.st.gh,S.sl,hx.1 σ,?_⟩;unfold sV at hr
 cases e:f ρ with
 |ok d=>rw[e]at hr;exact λv a H1 st r=>hr _ a H1 ((S.step st).set r)
 |ow g=>rw[e]at hr;exact λp h a H1 st n m b r=>hr _ a H1 (S.setOw st n m b r)
 |ex c=>rw[e]at hr;exact λa H1 st=>hr σ a H1 (S.step st)
 |bad=>rw[e]at hr;exact hr
theorem aMb(hc:MT X ad c f)(ha:MSs X ad Z a g)(hb:MSs X ad Z b h):MS X ad Z (.If c a b pos) (sIf f g h):=by
 refine PS.imp (aKw hc ha hb) ?_;rintro q m H ⟨j,G,l,E,S,o,i⟩;unfold sIf at i
 cases e:f l with
 |ok d=>
  rw[e]at i
  cases d<;>try exact i.elim
  rename_i k;refine⟨G,l,E m,S.st.gh,S.sl,o.1 m,.inl ⟨k,e⟩,?_⟩;rw[e];intro v n p st r;unfold Rep at r;subst r;refine⟨k,rfl,?_⟩
  cases k with
  |true=>exact wT ⟨j,n,l,E,S.step st,o,i⟩
  |false=>exact aBf ⟨j,n,l,E,S.step st,o,i⟩
 |ow s=>rw[e]at i;exact i.elim
 |ex k=>
  rw[e]at i;refine⟨G,l,E m,S.st.gh,S.sl,o.1 m,.inr ⟨k,e⟩,?_⟩;rw[e];exact λn p st=>i m n p (S.step st)
 |bad=>rw[e]at i;exact i.elim
theorem SS.shareG{i:Nat}{sl₀ sn:Slot}{a:Addr}{o:HO}(S:SS X ad G₀ G H ρ σ)(e:ρ[i]? =some sl₀)(w₀:sl₀.owns=true)(h1:σ[i]? =some (some (.ref a)))(h3:H a=some o)(hst:Step G₀ X.H₀ (upd G a o) H)(wn:sn.owns=false)
  (r:SLi X.K ad (upd G a o) H sn (some (.ref a))) (wr:sn.isRk=false:=by rfl):SS X ad G₀ (upd G a o) H (ρ.set i sn) σ:=by
 have h2:G a=none:=(S.sl.own_at e w₀ h1).1
 have u:Same G (upd G a o):=Same.upd_new h2;have W:i<ρ.length:=(ay.mp e).1
 have l: ∀(j:Nat) (sl:Slot),(ρ.set i sn)[j]? =some sl->(j=i/\sl=sn)\/(j≠i/\ρ[j]? =some sl):=λj sl e=>by
  by_cases z:j=i
  ·subst z;rw[bn W]at e;cases e;exact .inl ⟨rfl,rfl⟩
  ·rw[bd (Ne.symm z)]at e;exact .inr ⟨z,e⟩
 refine⟨hst,⟨by show(ρ.set i _).length=_;rw[List.length_set];exact S.sl.len,λj sl f=>?_⟩,λj t b f w h=>?_,λj T t Y b E J Q I n s=>?_,S.rs.re wr e w₀⟩
 ·rcases l j sl f with ⟨q1,Z⟩|⟨z,f⟩
  ·rw[q1,Z];exact⟨some (.ref a),h1,r⟩
  ·obtain⟨ov,n,s⟩:=S.sl.at_ j sl f;refine⟨ov,n,?_⟩
   cases sl with
   |no=>trivial
   |sh d=>obtain⟨v,c,g⟩:=s;exact⟨v,c,g.mono u⟩
   |ow t=>
    obtain⟨b,B,c,g,x,A⟩:=s
    have y:b≠a:=λq=>by
     subst q;subst c;exact z (S.dj j i _ _ b f e rfl w₀ n h1)
    exact⟨b,B,c,by rw[aB y];exact g,x,A.mono u⟩
   |dc t=>
    obtain⟨b,B,c,g,x,A,L⟩:=s
    have y:b≠a:=λq=>by
     subst q;subst c;exact z (S.dj j i _ _ b f e rfl w₀ n h1)
    exact⟨b,B,c,by rw[aB y];exact g,x,A.mono u,L⟩
   |sd t=>
    obtain⟨b,B,c,g,x,A,L⟩:=s
    have y:b≠a:=λq=>by
     subst q;subst c;exact z (S.dj j i _ _ b f e rfl w₀ n h1)
    exact⟨b,B,c,by rw[aB y];exact g,x,A.mono u,L⟩
   |rk C r=>
    obtain⟨p,M,d,N,O,c,g⟩:=s;have ft:gF H ρ σ j [p,M,d,N,O]:=⟨C,r,p,M,d,N,O,f,by rw[n,c],g.ins,rfl⟩
    exact⟨p,M,d,N,O,c,g.shr (λm=>S.rs.ow j _ ft a m i sl₀ e w₀ h1) u⟩
 ·rcases l j _ f with ⟨_,z⟩|⟨z,f⟩
  ·rw[z,wn]at w;exact(bg w).elim
  ·exact S.ow j t b f w h
 ·rcases l j _ E with ⟨_,z⟩|⟨z,E⟩
  ·rw[z,wn]at Q;exact(bg Q).elim
  ·rcases l T _ J with ⟨_,U⟩|⟨U,J⟩
   ·rw[U,wn]at I;exact(bg I).elim
   ·exact S.dj j T t Y b E J Q I n s
end
section
variable {X:Cx} {ad:Ad} {Z:(St->Nat->Hp->Prop)->Prop} {ce:cg} {s:Shared} {σ:St} {H G G₀:Hp} {ρ:Rho} {D':Ends} {E:St->Nat->Hp->Prop} {pos pos':Pos} {e:Expr} {f:F} {g h:FS} {st:Stmt} {sts:List Stmt}
theorem SS.updG{i:Nat}{sl₀ sn:Slot}{a:Addr}{o:HO}(S:SS X ad G₀ G H ρ σ)(e:ρ[i]? =some sl₀)(w₀:sl₀.owns=true)(h1:σ[i]? =some (some (.ref a)))(r:SLi X.K ad G (upd H a o) sn (some (.ref a)))(wr:sn.isRk=false:=by rfl):SS X ad G₀ G (upd H a o) (ρ.set i sn) σ:=by
 have n0:X.H₀ a=none:=S.ow i sl₀ a e w₀ h1
 have h2:G a=none:=(S.sl.own_at e w₀ h1).1
 have hl:i<ρ.length:=(ay.mp e).1
 have l: ∀(j:Nat) (sl:Slot),(ρ.set i sn)[j]? =some sl->(j=i/\sl=sn)\/(j≠i/\ρ[j]? =some sl):=λj sl e=>by
  by_cases z:j=i
  ·subst z;rw[bn hl]at e;cases e;exact .inl ⟨rfl,rfl⟩
  ·rw[bd (Ne.symm z)]at e;exact .inr ⟨z,e⟩
 refine⟨pL S.st n0 h2,⟨by rw[List.length_set];exact S.sl.len,λj sl Y=>?_⟩,λj A b Y w h=>?_,λj W A I b e1 e2 w1 w2 t u=>?_,?_⟩
 ·rcases l j sl Y with ⟨q1,x⟩|⟨z,g⟩
  ·rw[q1,x];exact⟨some (.ref a),h1,r⟩
  ·obtain⟨ov,t,u⟩:=S.sl.at_ j sl g;refine⟨ov,t,?_⟩
   cases sl with
   |no=>trivial
   |sh d=>exact u
   |ow A=>
    obtain⟨b,n,s,y,L,M⟩:=u
    have B:b≠a:=λq=>by
     subst q;subst s;exact z (S.dj j i _ _ b g e rfl w₀ t h1)
    exact⟨b,n,s,y,by rw[aB B];exact L,M⟩
   |dc A=>
    obtain⟨b,n,s,y,L,M⟩:=u
    have B:b≠a:=λq=>by
     subst q;subst s;exact z (S.dj j i _ _ b g e rfl w₀ t h1)
    exact⟨b,n,s,y,by rw[aB B];exact L,M⟩
   |sd A=>
    obtain⟨b,n,s,y,L,M⟩:=u
    have B:b≠a:=λq=>by
     subst q;subst s;exact z (S.dj j i _ _ b g e rfl w₀ t h1)
    exact⟨b,n,s,y,by rw[aB B];exact L,M⟩
   |rk C r=>
    obtain⟨p,N,d,O,Q,s,y⟩:=u;have ft:gF H ρ σ j [p,N,d,O,Q]:=⟨C,r,p,N,d,O,Q,g,by rw[t,s],y.ins,rfl⟩
    exact⟨p,N,d,O,Q,s,y.ups (λm=>S.rs.ow j _ ft a m i sl₀ e w₀ h1)⟩
 ·rcases l j _ Y with ⟨q1,x⟩|⟨z,g⟩
  ·rw[q1,h1]at h;cases h;exact n0
  ·exact S.ow j A b g w h
 ·rcases l j _ e1 with ⟨q1,_⟩|⟨z,g⟩
  ·rcases l W _ e2 with ⟨x,_⟩|⟨z',E⟩
   ·rw[q1,x]
   ·rw[q1]at t ⊢;exact S.dj i W _ I b e E w₀ w2 t u
  ·rcases l W _ e2 with ⟨x,_⟩|⟨z',E⟩
   ·rw[x]at u ⊢;exact S.dj j i A _ b g e w1 w₀ t u
   ·exact S.dj j W A I b g E w1 w2 t u
 ·refine RS.re (H:=upd H a o) ?_ wr e w₀
  have bk: ∀{k:Nat} {v:List Addr},gF (upd H a o) ρ σ k v->gF H ρ σ k v:=λ{k v} f=>by
   obtain⟨C,r,p,N,d,O,Q,g,E,f3,f4⟩:=f;obtain⟨p',U,d',J,T,q1,x⟩:=S.sl.rk g;rw[E]at q1;cases q1;have ft:gF H ρ σ k [p,U,d',J,T]:=⟨C,r,p,U,d',J,T,g,E,x.ins,rfl⟩;have B:p≠a:=λz=>S.rs.ow k _ ft p (by simp) i sl₀ e w₀ (by rw[z];exact h1)
   rw[aB B]at f3;exact⟨C,r,p,N,d,O,Q,g,E,f3,f4⟩
  exact⟨λk v f=>S.rs.h0 k v (bk f),λk v f=>S.rs.ow k v (bk f),λk k' v Z c f f'=>S.rs.rr k k' v Z c (bk f) (bk f')⟩
theorem HR.rep{K:PySem.W.Frag}(h:HR K ad G kvs es):es.map (·.1)=(kvs.map (·.1)).map Sum.inr/\aJ K ad G (kvs.map (·.2)) (es.map (·.2)):=by
 unfold HR at h
 induction h with
 |nil=>exact⟨rfl,aJ.nil⟩
 |@cons p q d e h t c=>
  obtain⟨a,b⟩:=c;refine⟨?_,aJ.cons h.2 b⟩;rw[List.map_cons,List.map_cons,List.map_cons,h.1,a]
theorem aHc{K:PySem.W.Frag}(g:G a=some (.frz o (.dK es)))(h:HR K ad G kvs es):Rep K ad G (.dct (kvs.map (·.1)) (kvs.map (·.2))) (.ref a):=by
 obtain⟨c,b⟩:=h.rep;unfold Rep;exact⟨a,o,es,rfl,g,c,b⟩
theorem Inv.frzD(I:Inv X ce σ H s)(e:H a=some (.dK es)): ∃o,Inv X ce σ (upd H a (.frz o (.dK es))) s:=by
 obtain⟨z,d,f,b,dd⟩:=w6 I.hok e;obtain⟨o,c⟩: ∃o,s.heap.get? a=some o:=let ⟨o,_,_,h,_⟩:=dd;⟨o,h⟩;exact⟨o,iW (h':=s.heap) (t':=s.toks) I (by rw[e];exact True.intro) ⟨rfl,λ_ _=>rfl⟩ ⟨o,c⟩ ⟨c,mE z d b dd⟩⟩
theorem SS.frz1(S:SS X ad G₀ G H ρ σ)(I:Inv X ce σ H s): ∃G' H',SS X ad G₀ G' H' (SK.frz1 i ρ) σ/\Same G G'/\Inv X ce σ H' s:=by
 unfold SK.frz1
 cases e:ρ[i]? with
 |none=>exact⟨G,H,S,Same.refl _,I⟩
 |some sl=>
  cases sl with
  |no=>exact⟨G,H,S,Same.refl _,I⟩
  |sd d=>exact⟨G,H,S,Same.refl _,I⟩
  |rk _ _=>exact⟨G,H,S,Same.refl _,I⟩
  |sh d=>exact⟨G,H,S,Same.refl _,I⟩
  |dc b=>
   obtain⟨a,l,f,c,j,h,r⟩:=S.sl.dc e;obtain⟨o,v⟩:=Inv.frzD I j;have u:i<ρ.length:=(ay.mp e).1;have n:SS X ad G₀ G (upd H a (sdO a (o,l))) (ρ.set i (.sd b)) σ:=S.updG e rfl f ⟨a,(o,l),rfl,c,aF,h,r⟩
   have t:(ρ.set i (.sd b))[i]? =some (.sd b):=bn u
   have g:Same G (upd G a (sdO a (o,l))):=Same.upd_new c;have q:=n.shareG (sn:=Slot.sh (D.dct (b.map λp:Str×D=>p.1) (b.map λp:Str×D=>p.2))) t rfl f aF (n.st.shareO (S.ow i _ a e rfl f) c aF) rfl ⟨.ref a,rfl,aHc aF (h.mono g)⟩
   rw[List.set_set]at q;exact⟨_,_,q,g,v⟩
  |ow x=>
   obtain⟨a,m,f,c,j,h⟩:=S.sl.ow e;have g:Same G (upd G a (.lst m)):=Same.upd_new c;exact⟨_,H,S.shareG e rfl f j (S.st.share (S.ow i _ a e rfl f) c j) rfl ⟨.ref a,rfl,by unfold Rep;exact⟨a,m,rfl,SqL.of aF,h.mono g⟩⟩,g,I⟩
theorem SS.frz: ∀{ρ:Rho} {G H:Hp},SS X ad G₀ G H ρ σ->Inv X ce σ H s->∃G' H',SS X ad G₀ G' H' (SK.frz is ρ) σ/\Same G G'/\Inv X ce σ H' s:=by
 induction is with
 |nil=>intro ρ G H S I;exact⟨G,H,S,Same.refl _,I⟩
 |cons i is e=>
  intro ρ G H S I;obtain⟨l,m,a,c,g⟩:=S.frz1 (i:=i) I;obtain⟨j,f,h,d,b⟩:=e a g;exact⟨j,f,h,c.trans d,b⟩
theorem iD(h1:MS X ad Z st g):MS X ad Z st (eS is g):=by
 cases is with
 |nil=>exact h1
 |cons i is=>
  rintro f s e H b I ⟨a,G,n,E,S,l,d⟩;obtain⟨h,m,c,_,j⟩:=S.frz (is:=i::is) I;exact h1 f s e m b j ⟨a,h,_,E,c,l,d⟩
theorem SS.upd(S:SS X ad G₀ G H ρ σ)(e:ρ[i]? =some (.ow xs))(h1:σ[i]? =some (some (.ref a)))(h2:G a=none)(r:aJ X.K ad G ys ws):SS X ad G₀ G (L2.upd H a (.lst ws)) (ρ.set i (.ow ys)) σ:=
 S.updG e rfl h1 ⟨a,ws,rfl,h2,aF,r⟩
theorem tU(hs:starEach [e] X.env=(false,eval e X.env)::starEach [] X.env):((backTo cpos (starEach [e] X.env)).all (fun x=> !x.1)&&(backToKw cpos (keywordEach [] X.env)).all (fun x=>x.1.isSome)
   &&decide ([e].length+([]:List Keyword).length+(if([]:List Keyword).isEmpty then 0 else 1)<30))=true:=by
 rw[hs];rfl
structure ItG(X:Cx)(ad:Ad)(J:It)(G:Hp)(ds:List D):Prop where
 go: ∀(i:Nat) (G1 H1:Hp) (d:D),Same G G1->Same G1 H1->ds[i]? =some d->J.go i H1/\∀x H2,J.yld i H1 x H2->∃G2,Step G1 H1 G2 H2/\Rep X.K ad G2 d x
 stop: ∀(G1 H1:Hp),Same G G1->Same G1 H1->J.stop ds.length H1
def IGK(X:Cx)(ad:Ad)(G H:Hp)(r:R)(W:It->Hp->Prop)(E:Nat->Hp->Prop):Prop:=match r with
 |.ok d=>∃ds,mB d=some ds/\∀J G' H',Step G H G' H'->ItG X ad J G' ds->W J H'
 |.ow xs=>∀J G' H',Step G H G' H'->ItG X ad J G' xs->W J H'
 |.ex c=>∀G' H',Step G H G' H'->E c H'
 |.bad=>False
def tIG(X:Cx)(ad:Ad)(f:F):TI:=λσ H W=>∃G ρ E,Same G H/\SL X.K ad G H ρ σ/\XP X ad σ E/\IGK X ad G H (f ρ) W E
abbrev MIG(X:Cx)(ad:Ad)(tg e:Expr)(f:F):Prop:=PI X tg e (tIG X ad f)
theorem aHd(hq:SqT X.K G a vs)(r:aJ X.K ad G ds vs):ItG X ad (Itt X.K a) G ds:=by
 refine⟨λi f h d b c e=>?_,λf h b c=>⟨vs,c.seqT (b.seqT hq),by rw[r.length];exact aj _⟩⟩
 obtain⟨v,g,j⟩:=r.get e;refine⟨⟨vs,v,c.seqT (b.seqT hq),g⟩,?_⟩;rintro x l ⟨rfl,y⟩
 have:=y vs (c.seqT (b.seqT hq))
 rw[g]at this;cases this;exact⟨f,Step.refl c,j.mono b⟩
theorem aHe(hq:SqL X.K G a vs)(r:aJ X.K ad G ds vs):ItG X ad (Itl X.K a) G ds:=by
 refine⟨λi f h d b c e=>?_,λf h b c=>⟨vs,c.seq (b.seq hq),by rw[r.length];exact aj _⟩⟩
 obtain⟨v,g,j⟩:=r.get e;refine⟨⟨vs,v,c.seq (b.seq hq),g⟩,?_⟩;rintro x l ⟨rfl,y⟩
 have:=y vs (c.seq (b.seq hq))
 rw[g]at this;cases this;exact⟨f,Step.refl c,j.mono b⟩
theorem aHf{lo:Int}:ItG X ad (Itr lo n) G ((List.range n).map λ(i:Nat)=>D.int (lo+(i:Int))):=by
 refine⟨λi a g d h f e=>?_,λa g h f=>by simp[Itr]⟩
 rw[List.getElem?_map]at e
 cases q:(List.range n)[i]? with
 |none=>rw[q]at e;cases e
 |some j=>
  rw[q]at e;obtain⟨b,c⟩:=ay.mp q;rw[List.length_range]at b;rw[List.getElem_range]at c;subst c;cases e;refine⟨b,?_⟩;rintro x l ⟨rfl,rfl⟩;exact⟨a,Step.refl f,bR⟩
theorem aHg{ks:List Str}(ha:G a=some (.frz o (.dK es)))(h:es.map (·.1)=ks.map Sum.inr):ItG X ad (Itk a o es) G (ks.map D.str):=by
 have j:es.length=ks.length:=by have:=congrArg List.length h;simpa using this
 refine⟨λi f m d c b e=>?_,λf m c b=>⟨by rw[aq,j];exact aj _,b _ _ (c _ _ ha)⟩⟩
 obtain⟨q,q1,x,l,rfl⟩:=xW h e;refine⟨⟨(ay.mp q1).1,b _ _ (c _ _ ha)⟩,λv r n=>?_⟩
 obtain⟨rfl,p,g,rfl⟩:=n;rw[q1]at g;cases g;rw[l];exact⟨f,Step.refl b,by unfold Rep;rfl⟩
theorem nD{tg a:Expr}(ha:ME X ad a f):MIG X ad tg a f:=by
 rintro C s B H W I ⟨G,Z,E,hG,hS,hx,z⟩
 have N: ∀(d:D) (t:List D),items d=some t->(∀J G' H',Step G H G' H'->ItG X ad J G' t->W J H')->∀u g v h i,Inv X C B h g->bA v u->Step G H i h->Rep X.K ad i d v->wpAny (model X.prog X.w) X.A (pyIter u) (PIE X C B tg W) X.xe g:=by
  intro d t e M u g v h i j x r q;obtain⟨p,Y,rfl,L,rq⟩:=xE e q
  cases (show u=Value.ref p from x)
  rcases L with L|L
  ·obtain⟨T,rv,pt,hz⟩:=j.tuple (r.gh.seqT L);refine wpAny_pyIter_tuple (show g.heap.IsTuple p T.toArray from pt) ?_
   refine⟨g.heap.objs.size,[g.heap.objs.size],_,_,h,rfl,j.kept (t':=g.toks) λb o e=>af _ e,lZ p _,⟨_,ag _ rfl,rfl,rfl⟩,λb S=>?_,M _ i h r (aHd L rq)⟩
   have e:b=g.heap.objs.size:=by simpa using S
   subst e;exact j.fpOk (aj _) (j.hok.fresh (aj _))
  ·obtain⟨T,rv,pt,hz⟩:=j.list (r.gh.seq L);refine wpAny_pyIter_list pt.isList ?_;refine⟨g.heap.objs.size,[g.heap.objs.size],_,_,h,rfl,j.kept (t':=g.toks) λb o e=>af _ e,oN p _,⟨_,ag _ rfl,rfl,rfl⟩,λb S=>?_,M _ i h r (aHe L rq)⟩
   have e:b=g.heap.objs.size:=by simpa using S
   subst e;exact j.fpOk (aj _) (j.hok.fresh (aj _))
 have O: ∀(d:D) (t:List D),mB d=some t->(∀J G' H',Step G H G' H'->ItG X ad J G' t->W J H')->∀u g v h i,Inv X C B h g->bA v u->Step G H i h->Rep X.K ad i d v->wpAny (model X.prog X.w) X.A (pyIter u) (PIE X C B tg W) X.xe g:=by
  intro d t e M u g v h i j x r q
  by_cases hd: ∃Q Y,d= .dct Q Y
  ·obtain⟨Q,Y,rfl⟩:=hd
   have y:(if Q.length<=1000 then some (Q.map D.str)else none)=some t:=e
   by_cases hl:Q.length<=1000
   ·rw[if_pos hl]at y;cases y;unfold Rep at q;obtain⟨a,o,es,rfl,ga,a1,a2⟩:=q
    cases (show u=Value.ref a from x)
    obtain⟨hd,ac,ep,ab,da,ar,U⟩:=tN j (r.gh _ _ ga);refine wpAny_pyIter_dict (knd:=aZ X.prog X.w) hd da ?_;refine⟨g.heap.objs.size,[g.heap.objs.size],_,_,h,rfl,j.kept (t':=g.toks) λb o e=>af _ e,tP _,⟨ep,ar,U,_,ag _ rfl,rfl,by rw[KV.length ab];rfl⟩,λb S=>?_,M _ i h r (aHg ga a1)⟩
    have e:b=g.heap.objs.size:=by simpa using S
    subst e;exact j.fpOk (aj _) (j.hok.fresh (aj _))
   ·rw[if_neg hl]at y;cases y
  ·have y:items d=some t:=by
    cases d<;>first|exact e|exact absurd ⟨_,_,rfl⟩ hd
   exact N d t y M u g v h i j x r q
 cases e:f Z with
 |ok d=>
  rw[e]at z;obtain⟨t,e2,M⟩:=z;exact L2.thn (ha C s B H (λv h=>∃i,Step G H i h/\Rep X.K ad i d v) I ⟨G,Z,E,hG,hS,hx,by rw[e];exact λv i h r q=>⟨i,r,q⟩⟩) λu g ⟨v,h,j,x,i,r,q⟩=>O d t e2 M u g v h i j x r q
 |ow l=>
  rw[e]at z;exact L2.thn (ha C s B H (λv h=>∃i,Step G H i h/\Rep X.K ad i (.lst l) v) I ⟨G,Z,E,hG,hS,hx,by rw[e];exact λp Y i h r n m y q=>cY r n m y q⟩) λu g ⟨v,h,j,x,i,r,q⟩=>O (.lst l) l rfl z u g v h i j x r q
 |ex c=>
  rw[e]at z;exact L2.thn (ha C s B H (λv h=>False) I ⟨G,Z,E,hG,hS,hx,by rw[e];exact z⟩) λu g ⟨v,h,j,x,q⟩=>q.elim
 |bad=>
  rw[e]at z;exact ba z
theorem xZ{tg a:Expr}(hg:L2.Gl X "range")(hm:X.mg "range"=none)(ha:ME X ad a f)(hs:starEach [a] X.env=(false,eval a X.env)::starEach [] X.env):MIG X ad tg (.Call (.Name "range" p) [a] [] pos) (cS f):=by
 rintro x s n H W I ⟨G,m,E,y,t,z,b⟩;refine oO (ta:=q9 (tE X ad f) aJ4) hg hm (bY ha dZ hs) hs x s n H W I ?_;show tE X ad f n H λv h=>∃j:Int,[v]=[.int j]/\ -(2^62)<=j/\j<2^62/\W (Itr 0 j.toNat) h
 refine⟨G,m,E,y,t,z,?_⟩;unfold cS at b
 cases e:f m with
 |ok d=>
  rw[e]at b
  cases d<;>try exact ba b
  rename_i i
  have g:IGK X ad G H (if -100000<=i/\i<=100000 then .ok (.lst (qO i.toNat))else .bad) W E:=b
  by_cases o: -100000<=i/\i<=100000
  ·rw[if_pos o]at g;obtain⟨B,e,A⟩:=g;cases e;intro v q h u r;unfold Rep at r;subst r;refine⟨i,rfl,by lia,by lia,A _ q h u ?_⟩
   rw[xY];exact aHf
  ·rw[if_neg o]at g;exact g.elim
 |ow l=>rw[e]at b;exact ba b
 |ex c=>rw[e]at b;exact b
 |bad=>rw[e]at b;exact b
end
def gIs:List Nat->TGs
 |[]=>aPi
 |i::is=>aF2 (jM i) (gIs is)
def aCi:List Nat->List V->St->St
 |i::is,v::vs,σ=>aCi is vs (σ.set i (some v))
 |_,_,σ=>σ
theorem tV: ∀{is:List Nat} {vs:List V} {σ:St} {H:Hp} {Q:St->Hp->Prop},vs.length=is.length->Q (aCi is vs σ) H->gIs is vs σ H Q
 |[],[],_,_,_,_,h=>⟨rfl,h⟩
 |i::is,v::vs,σ,H,Q,e,h=>⟨v,vs,rfl,tV (is:=is) (vs:=vs) (by simpa using e) h⟩
 |[],_::_,_,_,_,e,_=>by simp at e
 |_::_,[],_,_,_,e,_=>by simp at e
def gTs(K:PySem.W.Frag)(k:Nat)(is:List Nat):TG:=match k,is with
 |0,[i]=>jM i
 |k,is=>aKx K is.length (gIs is)
def aMc(X:Cx)(x:Str)(i:Nat):Prop:=X.N[i]? =some x/\Loc X.env.scope x/\(X.fn x=true\/X.env.scope.names.lookup x=some .local)
inductive NmsOk(X:Cx):List Str->List Nat->Prop
 |nil:NmsOk X [] []
 |cons {x:Str} {i:Nat} {xs:List Str} {is:List Nat}:aMc X x i->NmsOk X xs is->NmsOk X (x::xs) (i::is)
section
variable {X:Cx} {ad:Ad} {Z:(St->Nat->Hp->Prop)->Prop} {ce:cg} {s:Shared} {σ:St} {H G G₀:Hp} {ρ:Rho} {D':Ends} {E:St->Nat->Hp->Prop} {pos pos':Pos} {e it tg:Expr} {f:F} {g h:FS} {st:Stmt} {body:List Stmt}
theorem NmsOk.len: ∀{xs:List Str} {is:List Nat},NmsOk X xs is->is.length=xs.length
 |_,_,.nil=>rfl
 |_,_,.cons _ h=>by simp[NmsOk.len h]
theorem x8(hN:X.N.Nodup): ∀{es:List Expr} {xs:List Str} {is:List Nat},dR (λ(e:Expr)=>match e with|.Name x _=>some x|_=>none) es=some xs->NmsOk X xs is->PGs X es (gIs is)
 |[],xs,is,e,h=>by
  cases e;cases h;exact wJ
 |a::es,xs,is,e,h=>by
  unfold dR at e
  cases a<;>try (cases e)
  rename_i x g
  simp only at e
  obtain⟨r,d,f⟩:=zMd e;subst f
  cases h with
  |cons b c=>exact sO (j5 hN b.1 b.2.1 b.2.2) (x8 hN d c) rfl
theorem i0: ∀{es:List Expr} {xs:List Str},dR (λ(e:Expr)=>match e with|.Name x _=>some x|_=>none) es=some xs->(assignEach es X.env).length=xs.length/\(assignEach es X.env).findIdx? (·.1)=none
 |[],xs,e=>by cases e;exact⟨rfl,rfl⟩
 |a::es,xs,e=>by
  unfold dR at e
  cases a<;>try (cases e)
  rename_i x b
  simp only at e
  obtain⟨r,d,f⟩:=zMd e;subst f;obtain⟨g,c⟩:=i0 d
  have q:assignEach (.Name x b::es) X.env=(false,assign (.Name x b) X.env)::assignEach es X.env:=rfl
  rw[q];refine⟨by simp[g],?_⟩
  rw[List.findIdx?_cons];simp[c]
theorem aHh(hc:X.calm=true)(hN:X.N.Nodup)(e:bZ tg=some (xs,k))(h:NmsOk X xs is):PG X tg (gTs X.K k is)/\(k=0/\is.length=1\/k≠0/\k=is.length):=by
 cases tg<;>try (cases e)
 ·rename_i x d
  cases h with
  |cons b g=>
   cases g;exact⟨j5 hN b.1 b.2.1 b.2.2,.inl ⟨rfl,rfl⟩⟩
 ·rename_i p j d;unfold bZ at e;obtain⟨m,c,a⟩:=zBd e
  by_cases f:2<=m.length
  ·rw[if_pos f]at a;cases a;obtain⟨q1,l⟩:=i0 (X:=X) c;have hk:=h.len;refine⟨?_,.inr ⟨by lia,hk.symm⟩⟩
   have P:=aEf (pos:=d) (k:=j) (n:=is.length) hc (x8 hN c h) (by rw[q1,hk]) l
   have:gTs X.K xs.length is=aKx X.K is.length (gIs is):=by
    unfold gTs
    cases is with
    |nil=>simp at hk;lia
    |cons i is=>
     cases o:xs.length with
     |zero=>lia
     |succ n=>rfl
   rw[this];exact P
  ·rw[if_neg f]at a;cases a
theorem SS.setN: ∀{is:List Nat} {ds:List D} {vs:List V} {ρ:Rho} {σ:St},SS X ad G₀ G H ρ σ->aJ X.K ad G ds vs->SS X ad G₀ G H (SK.setN is ds ρ) (aCi is vs σ)
 |[],ds,vs,ρ,σ,S,r=>by
  have b:SK.setN [] ds ρ=ρ:=by cases ds<;>rfl
  have e:aCi [] vs σ=σ:=by cases vs<;>rfl
  rw[b,e];exact S
 |i::is,[],vs,ρ,σ,S,r=>by
  unfold aJ at r;subst r;exact S
 |i::is,d::ds,vs,ρ,σ,S,r=>by
  unfold aJ at r;obtain⟨v,a,rfl,c,f⟩:=r;exact SS.setN (is:=is) (ds:=ds) (vs:=a) (ρ:=ρ.set i (.sh d)) (σ:=σ.set i (some v)) (S.set c) f
theorem aE4{Q:St->Hp->Prop}(hk:k=0/\is.length=1\/k≠0/\k=is.length)(e:o8 is (k==0) d ρ=some ρ1)(S:SS X ad G₀ G H ρ σ)(r:Rep X.K ad G d v)(q: ∀σ1,SS X ad G₀ G H ρ1 σ1->Q σ1 H):gTs X.K k is v σ H Q:=by
 rcases hk with ⟨rfl,c⟩|⟨c,p⟩
 ·obtain⟨i,rfl⟩:=List.length_eq_one_iff.mp c;cases e;exact q _ (S.set r)
 ·have l:(k==0)=false:=by simpa using c
  rw[l]at e
  have o:o8 is false d ρ=match(generalizing:=false) d with|.tup f=>if f.length=is.length then some (SK.setN is f ρ)else none|_=>none:=by
   cases is with
   |nil=>rfl
   |cons _ _=>rfl
  have b:=o.symm.trans e
  have m:gTs X.K k is=aKx X.K is.length (gIs is):=by
   unfold gTs
   cases k with
   |zero=>exact absurd rfl c
   |succ k=>rfl
  rw[m]
  cases d<;>try (cases b)
  rename_i f
  simp only at b
  by_cases g:f.length=is.length
  ·rw[if_pos g]at b;cases b;unfold Rep at r;obtain⟨a,n,rfl,j,h⟩:=r;exact⟨a,n,rfl,S.st.gh.seqT j,by rw[h.length,g],tV (by rw[h.length,g]) (q _ (S.setN h))⟩
  ·rw[if_neg g]at b;cases b
theorem aHi{α:Type}{ds:List α}{d:α}(e:ds[i]? =some d):ds.drop i=d::ds.drop (i+1):=by
 obtain⟨h,rfl⟩:=ay.mp e;exact List.drop_eq_getElem_cons h
theorem tW(hk:k=0/\is.length=1\/k≠0/\k=is.length)(S:SS X ad G₀ G' H' ρ σ)(hx:XA X ad Z E)(it:ItG X ad J G' ds)(hr:OKo X ad G₀ (fS (o8 is (k==0)) g ds ρ) D' E):
  ∃W:Nat->Nat->St->Hp->Prop,(∃m,W 0 m σ H')/\∀i m σ H,W i m σ H->
   (J.stop i H/\D'.nx σ H)\/(J.go i H/\∃N:St->Hp->Prop,(∀σ' H',N σ' H'->∃m',m'<m/\W (i+1) m' σ' H')/\∀x H',J.yld i H x H'->gTs X.K k is x σ H' λσ2 H2=>tS X ad Z g {D' with nx:=N,ct:=N,bk:=D'.nx} σ2 H2):=by
 refine⟨λi m σ H=>m=ds.length-i/\i<=ds.length/\∃G ρ,SS X ad G₀ G H ρ σ/\Same G' G/\OKo X ad G₀ (fS (o8 is (k==0)) g (ds.drop i) ρ) D' E,⟨_,rfl,bx _,G',ρ,S,Same.refl _,hr⟩,?_⟩
 rintro i m A z ⟨rfl,Y,t,p,o,n,e⟩
 cases q:ds[i]? with
 |none=>
  have U:ds.length<=i:=List.getElem?_eq_none_iff.mp q
  have:i=ds.length:=by lia
  subst this;refine .inl ⟨it.stop t z n o.st.gh,?_⟩;rw[List.drop_length]at e;exact e A t z o
 |some d=>
  have s:i<ds.length:=(ay.mp q).1;obtain⟨go,L⟩:=it.go i t z d n o.st.gh q;refine .inr ⟨go,λσ' H'=>∃G ρ,SS X ad G₀ G H' ρ σ'/\Same G' G/\OKo X ad G₀ (fS (o8 is (k==0)) g (ds.drop (i+1)) ρ) D' E,λσ' H' ⟨Q,v,I,C,M⟩=>⟨_,by lia,rfl,s,Q,v,I,C,M⟩,λx H2 y=>?_⟩
  obtain⟨B,st,O⟩:=L x H2 y;rw[aHi q]at e;unfold fS at e
  cases u:o8 is (k==0) d p with
  |none=>rw[u]at e;exact e.elim
  |some a=>
   rw[u]at e;have T:=o.step st;refine aE4 hk u T O λσ2 j=>?_
   refine⟨B,B,a,E,j.here,hx,?_⟩
   have b:OKo X ad G₀ (match g a with
    |.nx a=>fS (o8 is (k==0)) g (ds.drop (i+1)) a
    |.ct a=>fS (o8 is (k==0)) g (ds.drop (i+1)) a
    |.bk a=>.nx a
    |.rt r=>.rt r
    |.ex c a=>.ex c a) D' E:=e
   cases l:g a with
   |nx f=>
    rw[l]at b;exact λσ G H h=>⟨G,f,h.up j.st,(n.trans st.sg).trans h.st.sg,b⟩
   |ct f=>
    rw[l]at b;exact λσ G H h=>⟨G,f,h.up j.st,(n.trans st.sg).trans h.st.sg,b⟩
   |bk f=>
    rw[l]at b;exact λσ G H h=>b σ G H (h.up j.st)
   |ex c f=>
    rw[l]at b;exact λσ G H h=>b σ G H (h.up j.st)
   |rt r=>
    rw[l]at b
    have:=b.rebase j.st
    cases r<;>exact this
theorem aMd:MS X ad Z st aOz:=λ_ _ _ _ _ _ ⟨_,_,_,_,_,_,a⟩=>ba a
end
section
variable {X:Cx} {ad:Ad} {ce:cg} {s s3:Shared} {σ σ2:St} {H G G₀ H3 H':Hp} {ρ:Rho} {Q:VK} {D':Ends} {E:St->Nat->Hp->Prop} {pos pos' cpos:Pos} {elt it tg:Expr} {ifs:List Expr} {f fi fe:F} {fc:Option F} {sc:Scope} {k:Nat} {cs:List Nat} {xs:List Str}
theorem rS(I3:Inv X ce σ H3 s3)(I2:Inv X ce σ2 H' s2)(hf:H' s3.heap.objs.size=none)(sb:Heap.SameBut s3.heap.objs.size s2.heap h'):Inv X ce σ2 H' {s2 with heap:=h'}:=by
 refine I2.turned (t':=s2.toks) (it:=s3.heap.objs.size) (λb o f e=>(sb.2 b f).trans e) hf ?_ (.inr I3.sz) (λx c h z=>?_) λp g z=>?_
 ·intro z;obtain⟨m,d,_⟩:=I3.loc;obtain⟨o,_,_,a,_⟩:=d;exact absurd (ah a) (by rw[<-z];exact Nat.lt_irrefl _)
 ·obtain⟨v,o,a,_⟩:=I3.cell x c h;exact absurd (ah a) (by rw[z];exact Nat.lt_irrefl _)
 ·obtain⟨a,_⟩:=I3.pin p g;exact absurd (ah a) (by rw[z];exact Nat.lt_irrefl _)
theorem aCj(n:h.Ns C m)(sb:Heap.SameBut a h h')(ne:C≠a):h'.Ns C m:=by
 obtain⟨o,d,c,b,r⟩:=n;exact⟨o,d,c,(sb.2 C ne).trans b,r⟩
theorem aCk(hw:U->∀ρ y,fe ρ≠ .ok y)(hN:X.N.Nodup)(hi:aMc X x i)(hc:X.calm=true)(S:CompSc X C sc xs cs)(hit:MI X ad tg it fi)(hset: ∀a b c,it≠ .Set a b c)(hxs:xs.length=if k=0 then 1 else k)(hg: ∀fp s3 H3 pins',PG (cX X (xs++aP sc) sc s3 H3 fp pins') tg (gTg X.K k))(hts: ∀fp s3 H3 pins',MTs (cX X (xs++aP sc) sc s3 H3 fp pins') ad ifs fc)(he: ∀fp s3 H3 pins',ME (cX X (xs++aP sc) sc s3 H3 fp pins') ad elt fe)(hs:swapsWith (.ListComp elt [⟨tg,it,ifs,0⟩] sc cpos) (some (.Name x pos')) pos.line X.env=pure true):
  PS X (.Assign [.Name x pos'] (.ListComp elt [⟨tg,it,ifs,0⟩] sc cpos) pos) (aF3 (tEW X ad U (bB k cs fi fc fe)) (jM i)):=by
 rintro u s l H D' I ⟨G,ρ,E,hG,hS,M,hr⟩;rw[exec_Assign_Name_used _ _ _ _ hs]
 have q:closureFor sc X.env=pure (kS X.env.cells sc.names []):=iX λx M=>by
  obtain⟨c,h⟩:=I.ok.has x (S.fre x M);rw[h];rfl
 refine aa (wpAny_standAt (aa ?_));show wpAny _ X.A (do let _<-comprehension (.ListComp elt [⟨tg,it,ifs,0⟩] sc cpos) sc X.env _ (newList []) false (eval it X.env) (some (assign (.Name x pos') X.env))) _ _ s
 refine aa (wpAny_mono (wpAny_comprehension_free (use:=some (assign (.Name x pos') X.env)) (Q:=λ_ p=>SP X u D' .next p) rfl (aCf hset) q S.kind S.names ?_) (λ_ p hq=>ae (ae hq)) λ_ _ e=>e)
 refine L2.thn (hit u s l H _ I ⟨G,ρ,E,hG,hS,M,aL9 (W:=λJ j=>∃f g all,Step G H f j/\ItH X ad J f j g/\bG (cR k (iT cs ρ) fc fe) g=some all/\RKW X.K ad U f j (.ow all) (λv H1=>jM i v l H1 D'.nx) E) hr λJ f j g all a b c d=>⟨f,g,all,a,b,c,d⟩⟩) λv s1 h1=>
  L2.thn h1 λap s2 al=>?_
 obtain⟨ar,fp,tn,J,j,e,I2,T,st2,f2,f,g,all,sp,hit,t,B⟩:=al;subst e;obtain⟨σc,l1,l2,l3⟩:=mJ (xs:=xs) (sc:=sc) (nt:=if k=0 then 1 else k) hxs S.N S.cs (λx h=>pN h) (hS.step sp) I2.len
 refine pM (σc:=σc) hw hc I2 T st2 f2 hit t sp.gh S.kind S.cell S.fre S.frl l1 l2 rfl l3 (hg fp) (hts fp) (he fp) λs3 p H3 Y G' am D vs n f3 J' L hD gD ak r' ab=>?_
 obtain⟨m,ac,_⟩:=J'.loc;have I4:Inv X u l Y p:=aE2 (fpO:=f3) n J' ⟨rfl,λ_ _=>rfl⟩
 show wpAny _ X.A (assign (.Name x pos') X.env (.ref D)) _ _ _;refine wpAny_assign_Name (oM I4 hN hi.1 hi.2.1 (v:=.ref D) rfl (λan I5 ⟨a,sb,Z⟩=>?_) hi.2.2)
 have ne:s3.heap.objs.size≠a:=by
  rcases Z with rfl|Z
  ·intro z;obtain⟨m',hn,_⟩:=n.loc;obtain⟨o,_,_,O,_⟩:=hn;exact absurd (ah O) (by rw[<-z];exact Nat.lt_irrefl _)
  ·intro z;obtain⟨v,o,O,_⟩:=n.cell x a Z;exact absurd (ah O) (by rw[<-z];exact Nat.lt_irrefl _)
 refine⟨m,aCj ac sb ne,λh' r=>?_⟩
 exact⟨l.set i (some (.ref D)),Y,rS n I5 J'.free r,B D vs G' Y L hD gD ak r' ab⟩
theorem aHj(hN:X.N.Nodup)(hi:aMc X x i)(hc:X.calm=true)(S:CompSc X C sc xs cs)(hit:MI X ad tg it fi)(hset: ∀a b c,it≠ .Set a b c)(hxs:xs.length=if k=0 then 1 else k)(hg: ∀fp s3 H3 pins',PG (cX X (xs++aP sc) sc s3 H3 fp pins') tg (gTg X.K k))(hts: ∀fp s3 H3 pins',MTs (cX X (xs++aP sc) sc s3 H3 fp pins') ad ifs fc)(he: ∀fp s3 H3 pins',ME (cX X (xs++aP sc) sc s3 H3 fp pins') ad elt fe)(hs:swapsWith (.ListComp elt [⟨tg,it,ifs,0⟩] sc cpos) (some (.Name x pos')) pos.line X.env=pure true):
  PS X (.Assign [.Name x pos'] (.ListComp elt [⟨tg,it,ifs,0⟩] sc cpos) pos) (aF3 (tE X ad (bB k cs fi fc fe)) (jM i)):=
 PS.imp (aCk (U:=False) ba hN hi hc S hit hset hxs hg hts he hs) λl j H ⟨G,e,E,g,h,f,d⟩=>⟨G,e,E,g,h,f,RK.w d⟩
end
open PySem.Calls Builtin Builtin.ObjectAttr Builtin.Getset_descriptor
section
variable {prog:Program} {w:World} {A:Around} {E:cf} {s:Shared} {K:Frag} {x C:Addr} {R:Result->Shared->Prop}
theorem m9.ty(I:m9 h x C):Looks M h (typeOf (.ref x)) (.ref C):=by
 obtain⟨o,c,b,a,d⟩:=I;exact a▸(Looks.ld b).andThen .now
theorem aHk(X:K.In s.heap)(I:m9 s.heap x C)(hm:mroIn K C (.type "object")=some true)(h:R (.ok (.ret (.ref C))) s):
  codeAny (model prog w) A (.call (.builtin "getset_descriptor.__get__") ⟨[.builtin "object.__class__",.ref x,tp],[]⟩) R s:=by
 obtain⟨b,g,dr,t,c⟩:=s;have a:=I.ty (M:=model prog w);have d:=looks_mroIn (M:=model prog w) X hm;refine codeAny_call_builtin KF.slot_gs.plain KF.entry_gs (KF.slot_gs.check _ _ _ _ _ _ _ _ KF.type_class (KF.args_gs _ _ _) ?_);unfold Builtin.«getset_descriptor.__get__» descrGet;rw[dga_obj];refine aa (ae ?_);unfold descrGetter descrCheckInstance descrNameAndClass isInstance;simp only[KF.owner_class]
 repeat lk
 refine⟨Code.quiet_builtin _ (by decide+kernel),codeAny_builtin KF.entry_class ?_⟩
 unfold Builtin.«object.__class__» shownTypeOf
 repeat lk
 exact h
theorem x9(X:K.In s.heap)(I:m9 s.heap x C)(hm:mroIn K C (.type "BaseException")=some true)(hq:Q () s):wpAny M A (checkBuiltinCall "BaseException.__getattribute__" ⟨[.ref x,nameV],[]⟩) Q E s:=by
 obtain⟨f,g,dr,t,e⟩:=s
 have hk:builtinKind "BaseException.__getattribute__"=some .slot:=by decide+kernel
 have a:splitId "BaseException.__getattribute__"=some ("BaseException","__getattribute__"):=by decide+kernel
 have b:=I.ty (M:=M);have c:=looks_mroIn (M:=M) X hm;have d:=F.args_bexc_ga (.ref x) nameV;simp only[checkBuiltinCall,hk,a];refine aa ?_;unfold isInstance;refine aa (b.at (c.at ?_))
 repeat (any_goals (first|assumption|wp_step))
theorem yA(X:K.In s.heap)(I:m9 s.heap x C)(hm:mroIn K C (.type "object")=some true)(ha:findIn K (.ref C) "__class__"=some (some (.builtin "object.__class__")))(hq:Q (.done (.ret (.ref C))) s):
  wpAny (model prog w) A (Builtin.«object.__getattribute__» ⟨[.ref x,.str "__class__" tk],[]⟩) Q E s:=by
 obtain⟨a,g,d,t,b⟩:=s;have c:(⟨a,g,d,t,b⟩:Shared).TypeIs (.builtin "object.__class__") "getset_descriptor":=F.typeOf_object_class;have i:=F.typeOf_object_class;have m:=F.slot_gs_get.lookup;have j:=F.slot_gs_set.lookup;have n:=I.ty (M:=model prog w);have f:=looks_findIn (M:=model prog w) X ha;obtain⟨o,l,h,e,p⟩:=id I
 repeat (any_goals (first|assumption|(with_reducible refine wpAny_loadPart_at h ?_;rw[e])|with_reducible refine f.at ?_|wp_step))
 refine aHk X I hm ?_
 repeat (any_goals (first|assumption|wp_step))
theorem yB(X:K.In s.heap)(I:m9 s.heap x C)(hm:mroIn K C (.type "object")=some true)(hb:mroIn K C (.type "BaseException")=some true)(ha:findIn K (.ref C) "__class__"=some (some (.builtin "object.__class__")))(hg:findIn K (.ref C) "__getattribute__"=some (some (.builtin "BaseException.__getattribute__")))(hn:findIn K (.ref C) "__getattr__"=some none)(h:Q (some (.ref C)) {s with toks:=s.toks+1}):
  wpAny (model prog w) A (getAttr? (.ref x) "__class__") Q E s:=by
 obtain⟨j,g,d,t,l⟩:=s;have p:=I.ty (M:=model prog w);have c:=looks_findIn (M:=model prog w) X hg;have f:=looks_findIn (M:=model prog w) X hn;have m:=PySem.F.excAttr_ValueError.ga.bind (.ref x)
 have a:(Value.builtin "BaseException.__getattribute__"==Value.builtin "object.__getattribute__")=false:=by decide+kernel
 have i:(onTheHeap (Value.ref C)&&Value.builtin "BaseException.__getattribute__"==Value.builtin "object.__getattribute__")=false:=by rw[a];rfl
 obtain⟨o,n,e,b,q⟩:=id I;unfold getAttr? getAttrBy? getAttrBy
 repeat (any_goals (first|assumption|(with_reducible refine wpAny_loadPart_at e ?_;rw[b])|with_reducible refine c.at ?_|with_reducible refine f.at ?_|wp_step))
 refine codeAny_call_builtin PySem.F.excAttr_ValueError.ga.plain F.entry_bexc_ga (x9 X I hb (yA X I hm ha ?_))
 repeat (any_goals (first|assumption|wp_step))
end
theorem _root_.L2.ObjOk.there(x:ObjOk P w H h a o): ∃ob,h.get? a=some ob:=by
 cases o with
 |lst c=>obtain⟨_,_,_,_,e⟩:=x;exact⟨_,e⟩
 |tup c=>obtain⟨_,_,_,⟨ob,e,_⟩,_⟩:=x;exact⟨_,e⟩
 |dK b=>obtain⟨_,_,_,_,o,_,_,e,_⟩:=x;exact⟨_,e⟩
 |dT b=>obtain⟨_,_,_,_,o,_,_,e,_⟩:=x;exact⟨_,e⟩
 |set S n=>obtain⟨o,_,_,_,e,_⟩:=x;exact⟨_,e⟩
 |ins C i fs=>obtain⟨_,_,_,e,_⟩:=x;exact⟨_,e⟩
 |own y=>exact x
 |xd fs=>obtain⟨_,⟨_,_,_,e,_⟩,_⟩:=x;exact⟨_,e⟩
 |rng g d=>obtain⟨_,_,_,e⟩:=x;exact⟨_,e⟩
 |frz ob u=>obtain⟨e,_⟩:=x;exact⟨_,e⟩
 |tbl j=>exact⟨_,(show h.get? a=some _ from x)⟩
 |met f y=>exact⟨_,(show h.get? a=some _ from x)⟩
 |ext l=>obtain⟨_,e,_⟩:=x;exact e
section
variable {X:Cx} {ad:Ad} {ce:cg} {s:Shared} {σ:St} {H H':Hp} {B h':Heap} {ea:Addr} {cls a0:Value} {E₀:XK} {E:Nat->Hp->Prop}
structure DefX(X:Cx)(E₀:XK):Prop where
 ex:X.ex=[]
 stk:X.stack=X.env::X.outer
 fr:X.env.frame=some X.env.locals
 xe: ∀e s',wpAny (model X.prog X.w) X.A (leaving X.env e) (λ_ s''=>CXe X.prog X.w X.outer X.H₀ X.s₀ E₀ e s'') (λe' s''=>CXe X.prog X.w X.outer X.H₀ X.s₀ E₀ e' s'') s'->X.xe e s'
theorem tY(J:Inv X ce σ H s)(e:X.s₀.heap.get? b=some o):b≠X.env.locals:=λz=>by
 have:=ah e
 rw[z]at this;exact absurd (bh this J.ok.above) (Nat.lt_irrefl _)
theorem yC(J:Inv X ce σ H s)(e:X.s₀.heap.get? b=some o)(nf:b∉X.fs):b∉frs X.stack:=λz=>by
 rcases av.mp (J.stkSub b z)with q|q
 ·exact tY J e q
 ·exact nf q
theorem aE5(T:DefX X E₀)(J:Inv X ce σ H' s)(fly:Heap.FlyingW B X.outer ea cls a0 h')(ff:s.heap.FunFrames B X.stack)(stays:B.StaysIn s.heap)(up:s.heap.UpToSlots h')
  (c8: ∀b o,X.s₀.heap.get? b=some o->b∉X.fs->∃o',B.get? b=some o') (c9: ∀b o,H' b=some o->∃o',B.get? b=some o') (ne:H' ea=none) (q:E₀ cls none H'):
  CXe X.prog X.w X.outer X.H₀ X.s₀ E₀ (.ref ea) {s with heap:=h'}:=by
 have i: ∀b,b∉X.ex:=λb=>by rw[T.ex];simp
 have st2:B.StaysIn h':=fly.1
 have d: ∀b o,s.heap.get? b=some o->(∃o',B.get? b=some o')->h'.get? b=some o:=λb o e ⟨o',p⟩=>by
  have:=stays b o' p
  rw[e]at this;cases this;exact st2 b o p
 have a: ∀b∈X.fs, ∀o,s.heap.get? b=some o->∃l,h'.get? b=some {o with slots:=l}:=λb t o e=>by
  obtain⟨_,u,h,r⟩:=ff.mem (b:=b) (by rw[T.stk];show b∈frs (X.env::X.outer);unfold frs;rw[List.filterMap_cons,T.fr];exact List.mem_cons_of_mem _ t)
  rw[e]at h;cases h;exact up b o e r
 refine⟨ea,cls,a0,H',B,rfl,J.os,J.bare,fly,⟨λb o e n f _=>?_,λb o e n f _=>?_,λb o e n _=>?_,λb o e _=>?_,J.base.tups,J.base.frzs,J.base.tbls⟩,λb o e=>?_,ne,c8,c9,q⟩
 ·exact d b o (J.base.keep b o e n f (i b)) (c8 b o e f)
 ·obtain⟨l,g⟩:=J.base.slot b o e n f (i b);obtain⟨m,h⟩:=a b f _ g;exact⟨m,h⟩
 ·exact J.base.free b o e n (i b)
 ·obtain⟨o',g⟩:=J.base.there b o e (i b)
  by_cases f:b∈X.fs
  ·obtain⟨l,h⟩:=a b f _ g;exact⟨_,h⟩
  ·exact⟨o',d b o' g (c8 b o e f)⟩
 ·refine(J.hok b o e).stay (λc v j g=>?_) (λ_ z=>z) λ_ _ z=>z
  rcases j with rfl|j
  ·exact d c v g (c9 c o e)
  ·exact d c v g (c9 c _ j)
theorem yD(T:DefX X E₀):XP X ad σ (λc H'=>E₀ (.ref (ad.cls c)) none H'):=by
 intro i H s e v I l;obtain⟨y,cls,C,H',B,rfl,n,r,a,un,f,u,p,j,c,rfl,q⟩:=l;have J:Inv X i σ H' v:=I.call' (ch:=[]) n un f r λb m=>by simp at m
 refine T.xe _ _ ?_
 have g:X.A.frames=some (X.env::X.outer):=by rw[<-T.stk];exact I.ok.frames
 rw[T.stk]at a;refine wpAny_leaves_onW g T.fr a λz d up=>?_
 refine aE5 T J d (by rw[T.stk];exact a.2.2.1) a.1 up (λb o e x=>?_) j u q
 obtain⟨t,h⟩:=I.base.there b o e (by rw[T.ex];simp)
 exact p b t h (yC I e x)
theorem tZ(T:DefX X E₀)(hc:X.calm=true)(hg:L2.Gl X x)(hm:X.mg x=some (.ref C))(hd:(x==("__debug__":Str))=false)(hi:excIn X.K C [.type "ValueError",.type "Exception",.type "BaseException",.type "object"] "ValueError.__new__"=true)(I:Inv X ce σ H s)(q:E₀ (.ref C) none H):wpAny (model X.prog X.w) X.A (exec (.Raise (some (.Call (.Name x np) [.Constant (.str msg) j kp] [] cpos)) none pos) X.env) (SP X ce D') X.xe s:=by
 have E: ∀c:Heap,X.K.In c->∃bm N nm q bs hdct sn sub ab col dd k0 k1 k2 k3 k5 mN,c.get? C=some (excClassObj nm q C N bs bm hdct sn sub ab col dd k0 k1 k2 k3 k5 "ValueError.__new__")/\c.Ns N mN/\mN "__init__"=none/\OwnTail c [.type "ValueError",.type "Exception",.type "BaseException",.type "object"] bm:=by
  intro c Z;have q:=hi;unfold excIn at q;split at q
  ·rename_i dd cd U ho;split at q
   ·rename_i C' bm k0 k1 k2 k3 n k5 hm O;simp only[aw,beq_iff_eq,Bool.not_eq_true']at q;obtain⟨⟨⟨⟨⟨rfl,rfl⟩,g⟩,ht⟩,hok⟩,f⟩:=q;obtain⟨nm,bs,ad,ns,u,hd,sn,sub,ab,col,ac⟩:=cd
    dsimp only at hm g hok f
    subst hm g
    have B:U= #[k0,k1,k2,k3,some (.builtin "ValueError.__new__"),k5]:=by
     obtain⟨l⟩:=U
     simp only at O
     rw[O]
    subst B;exact⟨bm,ns,nm,u,bs,hd,sn,sub,ab,col,dd,k0,k1,k2,k3,k5,_,Z _ _ ho,.of_isNs (isNs_of_in Z hok),nsMap_none_of_in Z hok f,tail_of_in Z ht⟩
   ·cases q
  ·cases q
 obtain⟨bm,N,nm,u,bs,hdct,sn,sub,ab,col,dd,k0,k1,k2,k3,k5,mN,W,Y,f,L⟩:=E X.base I.ok.mod.kin
 refine wpAny_Raise_call_subT (C:=C) (nm:=nm) (q:=u) (N:=N) (bs:=bs) (bm:=bm) (hdct:=hdct) (sn:=sn) (sub:=sub) (ab:=ab) (col:=col) (dd:=dd) (k0:=k0) (k1:=k1) (k2:=k2) (k3:=k3) (k5:=k5)
  PySem.F.excBase_ValueError (mN:=mN) (L.hasType PySem.F.excBase_ValueError.hasBase) (I.ok.hd hc) rfl f (fD I hg hm ⟨rfl,?_⟩ hd)
 refine Calls.evalArgs_plain (Calls.spliced_cons (Calls.Constant_str (k:=j) (pos:=kp) (Calls.spliced_nil ⟨rfl,(show 1<=sizeLine from by decide),?_,?_,?_,λG e M=>?_⟩)))
 ·exact I.bk _ _ W
 ·exact Y.keeps I.bk
 ·exact L.keeps I.bk
 ·-- the frame is left
  have I1:Inv X ce σ H {s with toks:=s.toks+1}:=I.tok _
  have J:Inv X ce σ H {s with heap:=G,toks:=s.toks+1}:=I.kept (t':=s.toks+1) M.keeps
  refine T.xe _ _ ?_
  have y:X.A.frames=some (X.env::X.outer):=by rw[<-T.stk];exact I.ok.frames
  have S:s.heap.FunFrames (hideAll s.heap (frs X.stack)) X.stack:=funFrames_hide I.stack λenv he a ea=>List.mem_filterMap.mpr ⟨env,he,ea⟩
  have Q:G.FunFrames (hideAll s.heap (frs X.stack)) X.stack:=S.of_keeps λb o hb _=>⟨o,M.keeps b o hb,rfl⟩
  have r:(hideAll s.heap (frs X.stack)).StaysIn s.heap:=λb o e=>of_hideAll _ e
  have m:=S;rw[T.stk]at m;have d:(hideAll s.heap (frs (X.env::X.outer))).StaysIn s.heap:=λb o e=>of_hideAll _ e
  refine wpAny_leaves_madeW (h:=s.heap) (base:=hideAll s.heap (frs (X.env::X.outer))) y T.fr d m M λh2 t v _ _ up=>?_
  refine aE5 T J v (by rw[T.stk]at Q ⊢;exact Q) (λb o e=>M.keeps b o (of_hideAll _ e)) up (λb o e hf=>?_) (λb o e=>?_) ?_ q
  ·obtain⟨p,i⟩:=I.base.there b o e (by rw[T.ex];simp)
   exact⟨p,hideAll_get _ i (by have:=yC I e hf;rwa [T.stk]at this)⟩
  ·obtain⟨p,i⟩:=(I.hok b o e).there
   exact⟨p,hideAll_get _ i λz=>by
    have:=I.stkFree b (by rw[T.stk];exact z)
    rw[this]at e
    cases e⟩
  ·cases z:H e with
   |none=>rfl
   |some o=>
    obtain⟨p,i⟩:=(I.hok e o z).there;rw[M.new]at i;cases i
end
section
variable {X:Cx} {ad:Ad} {ce:cg} {s:Shared} {σ:St} {H H':Hp} {B h':Heap} {ea:Addr} {cls a0:Value} {E₀:XK}
theorem aCl{E:cf}(I:Inv X ce σ H s)(hN:X.N.Nodup)(hi:X.N[i]? =some x)(hk:X.env.scope.names.lookup x=some .local)(hv:σ[i]? =some (some v))(h: ∀s',Inv X ce (σ.set i none) H s'->Q () s'):wpAny M A (unbindName X.env x) Q E s:=by
 obtain⟨m,L,K⟩:=id I.loc
 have l:(X.env.scope.kind== .class||(X.env.scope.kind== .module&&X.env.locals != X.env.globals))=false:=by rw[I.ok.kind];rfl
 have cne:=I.cne;obtain⟨u0,_,Z⟩:=K i x v hi hv (.inl hk)
 have hm:m x=some u0:=by
  rcases Z with ⟨_,e⟩|⟨k,_⟩
  ·exact e
  ·rcases k with k|k
   ·have:X.env.kindOf x=some .local:=hk
    rw[this]at k;cases k
   ·have:X.env.kindOf x=some .local:=hk
    rw[this]at k;cases k
 refine wpAny_unbindName_local hk L hm l λW u C a=>?_
 obtain⟨oL,_,_,T,_⟩:=id L;refine h {s with heap:=W} ⟨I.ok,I.os,I.bare,⟨λb o e n J g=>?_,λb o e n J g=>?_,I.base.free,λb o e g=>?_,I.base.tups,I.base.frzs,I.base.tbls⟩,⟨_,C,λj y v' f r U=>?_⟩,λy c e=>?_,I.free,I.freeC,λp hp=>?_,λb ob e=>?_,by simpa using I.len⟩
 ·exact(a.2 b (tY I e)).trans (I.base.keep b o e n J g)
 ·obtain⟨sl,f⟩:=I.base.slot b o e n J g;exact⟨sl,(a.2 b (tY I e)).trans f⟩
 ·obtain⟨o',f⟩:=I.base.there b o e g;exact⟨o',(a.2 b (tY I e)).trans f⟩
 ·by_cases B:j=i
  ·subst B;have G:j<σ.length:=(ay.mp hv).1;rw[bn G]at r;cases r
  ·rw[bd (Ne.symm B)]at r;obtain⟨u',r',q⟩:=K j y v' f r U;refine⟨u',r',?_⟩;rcases q with ⟨k,e⟩|⟨k,c,e,z⟩
   ·refine .inl ⟨k,?_⟩
    have:y≠x:=λe=>B (mX hN f (e▸hi))
    simp[this,e]
   ·exact .inr ⟨k,c,e,z.sameBut a (cne y c e)⟩
 ·obtain⟨S,z⟩:=I.cell y c e;exact⟨S,z.sameBut a (cne y c e)⟩
 ·obtain⟨e,n,O,Y,d⟩:=I.pin p hp;exact⟨(a.2 p.1 O).trans e,n,O,Y,d⟩
 ·refine(I.hok b ob e).stay (λc S t q=>(a.2 c ?_).trans q) (λ_ q=>q) λ_ _ q=>q
  rintro rfl;rcases t with rfl|t
  ·rw[I.free]at e;cases e
  ·rw[I.free]at t;cases t
theorem aQb(un:Un fs [] H H' h h1)(stays:B.StaysIn h1)(st2:B.StaysIn h2)(up:h1.UpToSlots h2)(nf: ∀b∈fs, ∀o,h1.get? b=some o->∀vs,o.data≠ .fields vs)(c8: ∀b o,h.get? b=some o->b∉fs->∃o',B.get? b=some o'):Un fs [] H H' h h2:=by
 have d: ∀b o,h1.get? b=some o->(∃o',B.get? b=some o')->h2.get? b=some o:=λb o e ⟨o',j⟩=>by
  have:=stays b o' j
  rw[e]at this;cases this;exact st2 b o j
 refine⟨λb o e n a f=>d b o (un.keep b o e n a f) (c8 b o e a),λb o e n a f=>?_,un.free,λb o e f=>?_,un.tups,un.frzs,un.tbls⟩
 ·obtain⟨l,c⟩:=un.slot b o e n a f;obtain⟨i,g⟩:=up b _ c (nf b a _ c);exact⟨i,g⟩
 ·obtain⟨o',c⟩:=un.there b o e f
  by_cases a:b∈fs
  ·obtain⟨l,g⟩:=up b _ c (nf b a _ c);exact⟨_,g⟩
  ·exact⟨o',d b o' c (c8 b o e a)⟩
theorem aMe(hok:HOk P w H' h1)(stays:B.StaysIn h1)(st2:B.StaysIn h2)(c9: ∀b o,H' b=some o->∃o',B.get? b=some o'):HOk P w H' h2:=by
 have a: ∀b o,h1.get? b=some o->(∃o',B.get? b=some o')->h2.get? b=some o:=λb o e ⟨o',f⟩=>by
  have:=stays b o' f
  rw[e]at this;cases this;exact st2 b o f
 intro b o e;refine(hok b o e).stay (λc v d g=>?_) (λ_ z=>z) λ_ _ z=>z
 rcases d with rfl|d
 ·exact a c v g (c9 c o e)
 ·exact a c v g (c9 c _ d)
theorem _root_.L2.Inv.track(J:Inv X ce σ H s)(hn:H a=none)(n0:X.s₀.heap.get? a=none)(hL:a≠X.env.locals)(hC: ∀x c,X.env.cells.lookup x=some c->c≠a)(hp: ∀p∈X.pn++ce,p.1≠a)(new:ObjOk X.prog X.w (upd H a o) s.heap a o):Inv X ce σ (upd H a o) s:=by
 refine⟨J.ok,J.os,J.bare,⟨J.base.keep,J.base.slot,λb g e n t=>?_,J.base.there,λb i e=>?_,λb g u e=>?_,λb l e=>?_⟩,J.loc,J.cell,?_,λx c e=>?_,λp j=>?_,λb u e=>?_,J.len⟩
 ·have:b≠a:=λz=>by rw[z,n0]at e;cases e
  rw[aB this];exact J.base.free b g e n t
 ·have f:=J.base.tups b i e;rw[aB (aM f hn)];exact f
 ·have f:=J.base.frzs b g u e;rw[aB (aM f hn)];exact f
 ·obtain⟨m,f⟩:=J.base.tbls b l e;exact⟨m,by rw[aB (aM f hn)];exact f⟩
 ·rw[aB (Ne.symm hL)];exact J.free
 ·rw[aB (hC x c e)];exact J.freeC x c e
 ·obtain⟨e,n,v,r,d⟩:=J.pin p j;exact⟨e,by rw[aB (hp p j)];exact n,v,r,d⟩
 ·by_cases h:b=a
  ·subst h;rw[aF]at e;cases e;exact new
  ·rw[aB h]at e;exact(J.hok b u e).stay (λ_ _ _ q=>q) (λc q=>by rw[aB (aM q hn)];exact q) λc i q=>by rw[aB (aM q hn)];exact q
end
def tX(X:Cx)(ce:cg)(D':Ends)(hd:ExceptHandler):Cx:=
 {X with pn:=X.pn++ce,xe:=λe s₁=>wpAny (model X.prog X.w) X.A (noteFrame e X.env) (λ_ s₂=>wpAny (model X.prog X.w) X.A (setFlight e none) (λ_ s₃=>wpAny (model X.prog X.w) X.A (handleBy e X.env [hd]) (SP X ce D') X.xe s₃) X.xe s₂) X.xe s₁}
section
variable {X:Cx} {ad:Ad} {ce pins':cg} {s:Shared} {σ:St} {H H':Hp} {B h':Heap} {ea:Addr} {cls a0:Value} {D':Ends} {hd:ExceptHandler}
theorem aQc(I:Inv X ce σ H s):Inv (tX X ce D' hd) [] σ H s:=
 ⟨⟨I.ok.mod,I.ok.kind,I.ok.glob,I.ok.blt,I.ok.above,I.ok.inj,I.ok.has,I.ok.cab,I.ok.hd,I.ok.frames,I.ok.stk,I.ok.exf,I.ok.bs,I.ok.bsz,I.ok.noex,I.ok.exfs,I.ok.funs,I.ok.frf⟩,I.os,I.bare,I.base,I.loc,I.cell,I.free,I.freeC,
  λp a=>I.pin p (by have:p∈(X.pn++ce)++[]:=a;rwa [List.append_nil]at this),I.hok,I.len⟩
theorem aMf(I:Inv (tX X ce D' hd) pins' σ H s):Inv X ce σ H s:=
 ⟨⟨I.ok.mod,I.ok.kind,I.ok.glob,I.ok.blt,I.ok.above,I.ok.inj,I.ok.has,I.ok.cab,I.ok.hd,I.ok.frames,I.ok.stk,I.ok.exf,I.ok.bs,I.ok.bsz,I.ok.noex,I.ok.exfs,I.ok.funs,I.ok.frf⟩,I.os,I.bare,I.base,I.loc,I.cell,I.free,I.freeC,
  λp a=>I.pin p (List.mem_append_left _ a),I.hok,I.len⟩
structure Fram(X:Cx):Prop where
 ex:X.ex=[]
 stk:X.stack=X.env::X.outer
 fr:X.env.frame=some X.env.locals
theorem aCm(T:DefX X E₀)(hc:X.calm=true)(hg:L2.Gl X x)(hm:X.mg x=some (.ref (ad.cls c)))(hd:(x==("__debug__":Str))=false)(hi:excIn X.K (ad.cls c) [.type "ValueError",.type "Exception",.type "BaseException",.type "object"] "ValueError.__new__"=true):
  MS X ad (λE=>∀σ c H,E σ c H->E₀ (.ref (ad.cls c)) none H) (.Raise (some (.Call (.Name x np) [.Constant (.str msg) j kp] [] cpos)) none pos) (l8 c):=by
 rintro e s σ H f I ⟨b,G,g,E,S,a,d⟩;exact tZ T hc hg hm hd hi I (a.2 σ c H (d σ G H S))
end
structure ExcCls(K:Frag)(C:Addr):Prop where
 is:(clsIn K C).isSome=true
 ob:mroIn K C (.type "object")=some true
 be:mroIn K C (.type "BaseException")=some true
 ca:findIn K (.ref C) "__class__"=some (some (.builtin "object.__class__"))
 ga:findIn K (.ref C) "__getattribute__"=some (some (.builtin "BaseException.__getattribute__"))
 gn:findIn K (.ref C) "__getattr__"=some none
theorem aCn{K:Frag}(T:ExcCls K C):KitX K (.ref x) (.ref C) (λh=>m9 h x C) where
 ty:=λ_ _ _ I=>I.ty
 it:=λ_ _ Z _=>by
  obtain⟨b,a⟩:=Option.isSome_iff_exists.mp T.is;unfold clsIn at a;split at a
  ·rename_i i j c f d;intro p r o s k q;unfold isType loadHead;exact aa (wpAny_loadPart (k _ _ (Z _ _ d)) (ae q))
  ·cases a
 ne:=λh l dd m n t Z g=>by
  obtain⟨b,a⟩:=Option.isSome_iff_exists.mp T.is;refine Bool.eq_false_iff.mpr λq=>?_
  have e:C=l:=Value.ref.inj (beq_iff_eq.mp q)
  subst e;unfold clsIn at a;split at a
  ·rename_i i j c f d;have z:=(Z _ _ d).symm.trans g;cases z
  ·cases a
 ca:=λZ I k=>yB Z I T.ob T.be T.ca T.ga T.gn k
def tyD(ad:Ad):D->Option Value
 |.non=>some (.type "NoneType")
 |.bl _=>some (.type "bool")
 |.int _=>some (.type "int")
 |.str _=>some (.type "str")
 |.tup _=>some (.type "tuple")
 |.lst _=>some (.type "list")
 |.exc c=>some (.ref (ad.cls c))
 |.fn _=>none
 |.dct _ _=>none
def aQd(X:Cx)(ad:Ad)(cv:Value)(p:D->Option Bool):Prop:= ∀d b,p d=some b->∃t,tyD ad d=some t/\kitOne X.K t cv=some b
section
variable {X:Cx} {ad:Ad} {ce:cg} {s:Shared} {σ:St} {H G:Hp} {ρ:Rho} {E:Nat->Hp->Prop} {pos p tp:Pos} {a:Expr} {f:F}
theorem yE{Q:cf}{Ex:cf}(hx: ∀c,ExcCls X.K (ad.cls c))(I:Inv X ce σ H s)(hG:Same G H)(q:Rep X.K ad G d v)(r:bA v u)(ht:tyD ad d=some t)(e:kitOne X.K t cv=some b)(h: ∀tk,Q (.bool b) {s with toks:=tk}):wpAny (model X.prog X.w) A (call (.builtin "isinstance") [u,cv]) Q Ex s:=by
 cases d with
 |non=>unfold Rep at q;subst q;cases (show u=Value.none from r);cases ht;exact kia_one kitx_none I.kIn True.intro e (by intro z;cases z) h
 |bl k=>unfold Rep at q;subst q;cases (show u=Value.bool k from r);cases ht;exact kia_one kitx_bool I.kIn True.intro e (by intro z;cases z) h
 |int k=>unfold Rep at q;subst q;obtain⟨x,rfl⟩:=r;cases ht;exact kia_one kitx_int I.kIn True.intro e (by intro z;cases z) h
 |str k=>unfold Rep at q;subst q;obtain⟨x,rfl⟩:=r;cases ht;exact kia_one kitx_str I.kIn True.intro e (by intro z;cases z) h
 |tup j=>
  unfold Rep at q;obtain⟨p,m,rfl,a,_⟩:=q
  cases (show u=Value.ref p from r)
  cases ht;obtain⟨i,_,⟨o,g,f,_⟩,_⟩:=I.tuple (hG.seqT a);exact kia_one kitx_tuple I.kIn ⟨o,g,f⟩ e (by intro z;cases z) h
 |lst j=>
  unfold Rep at q;obtain⟨p,m,rfl,a,_⟩:=q
  cases (show u=Value.ref p from r)
  cases ht;obtain⟨i,_,⟨o,n,g,f,_⟩,_⟩:=I.list (hG.seq a);exact kia_one kitx_list I.kIn ⟨o,g,f⟩ e (by intro z;cases z) h
 |exc c=>
  unfold Rep at q;obtain⟨p,rfl,a⟩:=q
  cases (show u=Value.ref p from r)
  cases ht;obtain⟨l,_,_⟩:=(show ObjOk X.prog X.w H s.heap p (aEn (ad.cls c) p) from I.hok p _ (hG _ _ a))
  exact kia_one (aCn (hx c)) I.kIn l e (by intro z;cases z) h
 |fn k=>cases ht
 |dct _ _=>cases ht
inductive ClNm(X:Cx)(t:Str)(cv:Value):Prop
 |blt (T:String):cv= .type T->L2.Gl X t->X.mg t=none->bootBuiltins t=some (.type T)->t≠"__name__"->(t==("__debug__":Str))=false->ClNm X t cv
 |own (C:Addr):cv= .ref C->L2.Gl X t->X.mg t=some (.ref C)->(t==("__debug__":Str))=false->ClNm X t cv
theorem ClNm.ev{Ex:cf}{Q:cf}(c:ClNm X t cv)(I:Inv X ce σ H s)(h:Q cv s):wpAny (model X.prog X.w) X.A (eval (.Name t tp) X.env) Q Ex s:=by
 cases c with
 |blt T e g m b n d=>subst e;exact fN I g m b h n d
 |own C e g m d=>subst e;exact fD I g m h d
theorem rT(hx: ∀c,ExcCls X.K (ad.cls c))(hg:L2.Gl X "isinstance")(hm:X.mg "isinstance"=none)(c:ClNm X t cv)(k:aQd X ad cv P)(ha:ML X ad a f)(he:starEach [a,.Name t tp] X.env=(false,eval a X.env)::starEach [.Name t tp] X.env):ME X ad (.Call (.Name "isinstance" p) [a,.Name t tp] [] pos) (rIs P f):=by
 refine λC s B H Q I T=>T.el λG L E U N l S=>?_
 refine wpAny_Call_Name_kw (fN (u:=.builtin "isinstance") I hg hm (by decide+kernel) ?_ (by decide) (by decide))
 refine PyProof.Rows.callWith_builtin1 ?_ he rfl;rw[he];refine Calls.spliced_cons (L2.thn (ha.lk C s B H G L _ Q E I U N l S) λu O n=>?_)
 obtain⟨v,d,r,J,i,y,m,q,M⟩:=n;refine Calls.spliced_cons (c.ev i (Calls.spliced_nil ?_))
 have g:RK X.K ad r J (match P d with|some b=>.ok (.bl b)|none=>.bad) Q E:=M
 cases e:P d with
 |none=>rw[e]at g;exact g.elim
 |some b=>
  rw[e]at g;obtain⟨ty,x,A⟩:=k d b e;have h: ∀j,EP X C B Q (.bool b) {O with toks:=j}:=λj=>⟨.bl b,J,i.tok j,rfl,g.ok_now m.gh cT⟩
  rcases q with q|⟨a',vs,ds,rfl,rfl,g1,h1,rp⟩
  ·exact yE hx i m.gh q y x A h
  ·refine yE (G:=upd r a' (.lst vs)) hx i (λb o e=>?_) ?_ y x A h
   ·by_cases z:b=a'
    ·subst z;rw[aF]at e;rw[h1];exact e
    ·rw[aB z]at e;exact m.gh b o e
   ·unfold Rep;exact⟨a',vs,rfl,SqL.of aF,rp.mono (Same.upd_new g1)⟩
end
structure RkC(K:Frag)(A:Addr):Prop where
 cl:Cls K A
 n1:gM K A "held"
 n2:gM K A "done"
 n3:gM K A "undone"
structure StepR(foot:List Addr)(G H G' H':Hp):Prop where
 sg:Same G G'
 gh:Same G' H'
 sh: ∀b o,b∉foot->H b=some o->H' b=some o
 nw: ∀b,G b=none->G' b≠none->H b=none
 th: ∀b,H b≠none->H' b≠none
def RMK(K:Frag)(ad:Ad)(A:Nat)(G H:Hp)(p dx d l1 l2:Addr)(m:RM)(Q:VK)(E:Nat->Hp->Prop):Prop:=match m with
 |.pure x=>RK K ad G H x Q E
 |.chg x r'=>∀v G' H' l2',StepR [p,dx,d,l1,l2] G H G' H'->RackIn K ad A G' H' p r' dx d l1 l2'->(l2'=l2\/H l2'=none)->Rep K ad G' x v->Q v H'
def spM(K:Frag)(ad:Ad)(A n:Nat)(m:FM):Sp:=λvs H Q E=>∃G p r dx d l1 l2 ds ws,vs=V.ref p::ws/\Same G H/\RackIn K ad A G H p r dx d l1 l2/\aJ K ad G ds ws/\ds.length=n/\RMK K ad A G H p dx d l1 l2 (m r ds) Q (λc H'=>E (.ref (ad.cls c)) none H')
structure MetOk(X:Cx)(ad:Ad)(A:Addr)(m:Str)(n:Nat)(M:FM):Prop where
 no:m≠"held"/\m≠"done"/\m≠"undone"
 ok: ∃f k fd ps,Meth X.K A m f/\FnOk X.prog X.w X.K X.mg X.base (CXe X.prog X.w) k f fd ps (spM X.K ad A n M)/\Room k X.A/\dW X.K fd ps []
section
variable {X:Cx} {ad:Ad} {ce:cg} {s:Shared} {σ:St} {H G:Hp} {ρ:Rho} {Q:VK} {E:Nat->Hp->Prop} {pos p ap cp:Pos} {a b o:Expr} {f g:F}
def aMg(P:Program)(w:World)(K:PySem.W.Frag)(ad:Ad)(A:Addr)(kvs:List (Str×D)):Prop:=
 (A==sysModules)=false/\∃vs:List (Str×Value),(∃o es ep,K.lookup A=some o/\o.ExactDict/\o.data= .dict es ep/\KeysOf (PySem.strKind P w) es/\Pairs (PySem.strKind P w) es.toList vs/\(vs.map (·.1)).Nodup)/\
  Paired (λ(p:Str×D) (q:Str×Value)=>p.1=q.1/\∃v,bA v q.2/\∀G,Rep K ad G p.2 v) kvs vs
end
noncomputable def dF:Py->Str
 |.len=>"len"|.range=>"range"|.enum=>"enumerate"|.zip=>"zip"|.isin=>"isinstance"|.int=>"int"|.bool=>"bool"|.str=>"str"|.tuple=>"tuple"|.list=>"list"
 |.sum=>"sum"|.all=>"all"|.any=>"any"|.sorted=>"sorted"|.min=>"min"|.max=>"max"|.abs=>"abs"|.set=>"set"|.dict=>"dict"
def aQe(X:Cx)(ad:Ad)(x:Str):SK.Gl->Prop
 |.fn k n F=>∃r f,FnGood X ad r x n F f/\Room r X.A/\f=ad.fnA k
 |.exc c=>X.mg x=some (.ref (ad.cls c))/\c<ad.nb
 |.verr=>x="ValueError"/\X.mg x=none
 |.val d=>∃u v,X.mg x=some u/\bA v u/\∀G,Rep X.K ad G d v
 |.py p=>x=dF p/\X.mg x=none
 |.tbl kvs=>∃A,X.mg x=some (.ref A)/\aMg X.prog X.w X.K ad A kvs
 |.cls A ms=>X.mg x=some (.ref A)/\RkC X.K A/\∀m n M,ms.lookup m=some (n,M)->MetOk X ad A m n M
structure CtxOk(X:Cx)(ad:Ad)(C:SK.Ctx):Prop where
 N:X.N=C.N
 nd:X.N.Nodup
 vis: ∀x i,loc C x=some i->X.N[i]? =some x/\Vis X.env.scope x/\(x==("__debug__":Str))=false/\(x==("__classdict__":Str))=false
 gk: ∀x,C.sc.names.lookup x=some .globalImplicit->L2.Gl X x
 gt: ∀x g,C.tab.lookup x=some g->(x==("__debug__":Str))=false/\aQe X ad x g
 cap: ∀x i,eO C x=some i->X.env.kindOf x=some .cell\/X.env.kindOf x=some .free
 calm:X.calm=true
 un:X.A.units+62<cLine
 hd:X.A.handled=none
 exc: ∀c,ExcCls X.K (ad.cls c)
 kin: ∀c e,c<ad.nb->kitOne X.K (.ref (ad.cls e)) (.ref (ad.cls c))=some (hit c e)
 kve: ∀e,kitOne X.K (.ref (ad.cls e)) (.type "ValueError")=some true
 fnv: ∀j n F,C.fns[j]? =some (n,F)->∃r,FnAt X ad r n F (ad.fnA j)/\Room r X.A
section
variable {X:Cx} {ad:Ad} {C:SK.Ctx}
theorem aHl(h:glo C x=some g):C.sc.names.lookup x=some .globalImplicit/\C.tab.lookup x=some g:=by
 unfold glo at h;split at h
 ·rename_i e;exact⟨e,h⟩
 ·cases h
theorem CtxOk.gl(O:CtxOk X ad C)(h:glo C x=some g):L2.Gl X x/\(x==("__debug__":Str))=false/\aQe X ad x g:=
 let ⟨a,b⟩:=aHl h
 ⟨O.gk x a,(O.gt x g b).1,(O.gt x g b).2⟩
theorem aE6(O:CtxOk X ad C)(h:glo C t=some g)(e:isP g=some P): ∃cv,ClNm X t cv/\aQd X ad cv P:=by
 obtain⟨i,j,hk⟩:=O.gl h
 cases g with
 |fn _ _ _=>cases e
 |cls _ _=>cases e
 |val _=>cases e
 |tbl _=>cases e
 |exc c=>
  cases e;obtain⟨f,m⟩:=hk;refine⟨.ref (ad.cls c),.own _ rfl i f j,λd b a=>?_⟩
  cases d<;>try (cases a;done)
  rename_i k;cases a;exact⟨_,rfl,O.kin c k m⟩
 |verr=>
  cases e;obtain⟨l,f⟩:=hk;subst l;refine⟨.type "ValueError",.blt "ValueError" rfl i f (by decide+kernel) (by decide) j,λd b a=>?_⟩
  cases d<;>try (cases a;done)
  rename_i k;cases a;refine⟨_,rfl,?_⟩;rw[O.kve k]
  congr 1
  unfold hit;simp
 |py p=>
  obtain⟨l,f⟩:=hk
  cases p<;>try (cases e;done)
  all_goals
   cases e;subst l
  ·refine⟨.type "int",.blt "int" rfl i f (by decide+kernel) (by decide) j,λd b a=>?_⟩
   cases d<;>first|(cases a;done)|(cases a;exact⟨_,rfl,by rfl⟩)
  ·refine⟨.type "bool",.blt "bool" rfl i f (by decide+kernel) (by decide) j,λd b a=>?_⟩
   cases d<;>first|(cases a;done)|(cases a;exact⟨_,rfl,by rfl⟩)
  ·refine⟨.type "str",.blt "str" rfl i f (by decide+kernel) (by decide) j,λd b a=>?_⟩
   cases d<;>first|(cases a;done)|(cases a;exact⟨_,rfl,by rfl⟩)
  ·refine⟨.type "tuple",.blt "tuple" rfl i f (by decide+kernel) (by decide) j,λd b a=>?_⟩
   cases d<;>first|(cases a;done)|(cases a;exact⟨_,rfl,by rfl⟩)
  ·refine⟨.type "list",.blt "list" rfl i f (by decide+kernel) (by decide) j,λd b a=>?_⟩
   cases d<;>first|(cases a;done)|(cases a;exact⟨_,rfl,by rfl⟩)
theorem bX{l:List (Str×NameKind)}(h:(l.lookup x==some k)=true):l.lookup x=some k:=by simpa using h
theorem i3(h:kF sc xs=true):sc.kind= .function/\(o9 sc=[]\/(o9 sc=xs/\xs.length=1))/\(∀x∈xs,sc.names.lookup x=some (if(o9 sc).isEmpty then .local else .cell))/\(∀y∈sc.names,y.2= .local->sc.names.lookup y.1=some .local)/\
  (xs++aP sc).Nodup/\(∀x∈xs++aP sc,(x==("__debug__":Str))=false/\(x==("__classdict__":Str))=false)/\∀x∈aP sc,sc.names.lookup x=some .free:=by
 unfold kF at h;simp only[aw]at h;obtain⟨⟨⟨⟨⟨⟨e,b⟩,i⟩,g⟩,c⟩,d⟩,j⟩:=h;refine⟨by simpa using e,by simpa using b,λx a=>?_,λy f z=>?_,of_decide_eq_true c,λx a=>?_,λx a=>?_⟩
 ·exact bX (zAd i x a)
 ·have:=zAd g y f
  rw[z]at this;simpa using this
 ·have:=zAd d x a
  simpa using this
 ·exact bX (zAd j x a)
theorem kX(h:idx x N=some i):x∈N:=List.mem_of_getElem? (fI h)
theorem kY(h:loc C x=some i):idx x C.N=some i/\(C.sc.names.lookup x=some .local\/C.sc.names.lookup x=some .cell\/C.sc.names.lookup x=some .free):=by
 unfold loc at h;split at h
 ·rename_i e;exact⟨h,.inl e⟩
 ·rename_i e;exact⟨h,.inr (.inl e)⟩
 ·rename_i e;exact⟨h,.inr (.inr e)⟩
 ·cases h
theorem d7(h:eO C x=some i):idx x C.N=some i/\(C.sc.names.lookup x=some .cell\/C.sc.names.lookup x=some .free):=by
 unfold eO at h;split at h
 ·rename_i e;exact⟨h,.inl e⟩
 ·rename_i e;exact⟨h,.inr e⟩
 ·cases h
theorem nE{α β:Type}{f:α->Option β}: ∀{l:List α} {r:List β},dR f l=some r->∀a∈l, ∃b,f a=some b
 |[],_,_,a,ha=>by cases ha
 |x::l,r,h,a,ha=>by
  unfold dR at h
  cases e:f x with
  |none=>rw[e]at h;cases h
  |some y=>
   rw[e]at h;obtain⟨d,c,_⟩:=zMd h;rcases av.mp ha with rfl|ha
   ·exact⟨y,e⟩
   ·exact nE c a ha
theorem d8{l:List (Str×NameKind)}(h:l.lookup x=some k):(x,k)∈l:=PySem.mem_of_lookup h
theorem nF(h:(x,NameKind.free)∈sc.names):x∈aP sc:=by
 unfold aP;exact au.mpr ⟨(x,.free),List.mem_filter.mpr ⟨h,by simp⟩,rfl⟩
theorem yF(O:CtxOk X ad C)(h:kF sc xs=true)(hc:dR (λx=>eO C x) (aP sc)=some cs):CompSc X C sc xs cs:=by
 obtain⟨d,b,g,f,m,n,j⟩:=i3 h
 have c:Cel sc:=by
  rcases b with z|⟨z,l⟩
  ·exact .inl z
  ·obtain⟨x,rfl⟩:=List.length_eq_one_iff.mp l
   have:=g x (.head _)
   rw[z]at this;exact .inr ⟨x,z,this⟩
 refine⟨d,c,f,λx a=>?_,λx a=>j x (nF a),O.N,hc⟩
 obtain⟨i,e⟩:=nE hc x (nF a);exact O.cap x i e
theorem aHm{tg:Expr}(hN:X.N.Nodup)(e:bZ tg=some (xs,k))(hx:xs=[x])(h1:X.N[0]? =some x)(h2:X.env.scope.names.lookup x=some .cell)(h3:X.fn x=true):PG X tg (gTg X.K k):=by
 subst hx
 cases tg<;>try (cases e)
 ·exact j5 hN h1 (.inr h2) (.inl h3)
 ·rename_i g j f;unfold bZ at e;obtain⟨c,d,a⟩:=zBd e
  by_cases b:2<=c.length
  ·rw[if_pos b]at a;cases a;exact absurd b (by simp)
  ·rw[if_neg b]at a;cases a
theorem aMh(O:CtxOk X ad C)(h:kF sc xs=true)(hc:dR (λx=>eO C x) (aP sc)=some cs):
  CtxOk (cX X (xs++aP sc) sc s3 H3 fp ce) ad {C with sc:=sc,N:=xs++aP sc}:=by
 obtain⟨J,K,H,G,v,u,I⟩:=i3 h
 have o: ∀x,(relabel sc X.env).names.lookup x=(sc.names.lookup x).map (λk=>if(k==NameKind.free&&X.env.scope.kind== .function&&X.env.kindOf x==some .cell)then NameKind.cell else k):=λx=>bW
 have t: ∀x,sc.names.lookup x=some .free->(relabel sc X.env).names.lookup x=some .cell\/(relabel sc X.env).names.lookup x=some .free:=λx e=>by
  rw[o x,e];simp only[Option.map];split
  ·exact .inl rfl
  ·exact .inr rfl
 have s: ∀x,sc.names.lookup x=some .cell->(relabel sc X.env).names.lookup x=some .cell:=λx e=>by rw[o x,e];rfl
 refine⟨rfl,v,λx i e=>?_,λx e=>?_,λx g e=>?_,λx i e=>?_,O.calm,O.un,O.hd,O.exc,O.kin,O.kve,λj n F e=>let ⟨r,T,q⟩:=O.fnv j n F e;⟨r,⟨T.kp,T.ok⟩,q⟩⟩
 ·obtain⟨b,a⟩:=kY e;have l:=kX b;refine⟨fI b,?_,(u x l).1,(u x l).2⟩;rcases a with a|a|a
  ·refine .inl ?_
   show(relabel sc X.env).names.lookup x=some .local
   rw[o x]
   have:sc.names.lookup x=some .local:=a
   rw[this];rfl
  ·exact .inr (.inl (s x a))
  ·rcases t x a with z|z
   ·exact .inr (.inl z)
   ·exact .inr (.inr z)
 ·show(relabel sc X.env).names.lookup x=some .globalImplicit
  rw[o x]
  have:sc.names.lookup x=some .globalImplicit:=e
  rw[this];rfl
 ·obtain⟨b,a⟩:=O.gt x g e;refine⟨b,?_⟩
  cases g with
  |fn k n F=>
   obtain⟨r,f,T,q,B⟩:=a;exact⟨r,f,⟨T.mg,T.kp,T.ok⟩,q,B⟩
  |exc c=>exact a
  |verr=>exact a
  |val d=>exact a
  |tbl y=>exact a
  |py p=>exact a
  |cls A E=>exact⟨a.1,a.2.1,λm n M l=>let z:=a.2.2 m n M l;⟨z.no,z.ok⟩⟩
 ·obtain⟨b,a⟩:=d7 e;rcases a with a|a
  ·exact .inl (s x a)
  ·exact t x a
end
section
variable {prog:Program} {w:World} {A:Around} {Ex:cf} {s:Shared}
theorem vK{items:Array Value}{Q:cf}(hit:s.heap.IsTupleIter it t i)(ht:s.heap.IsTuple t items)(hx:items[i]? =some x)(hQ: ∀h',h'.IsTupleIter it t (i+1)->Heap.SameBut it s.heap h'->Q x {s with heap:=h'}):wpAny (model prog w) A (Builtin.SmallTypes.nextOf (.ref it)) Q Ex s:=by
 obtain⟨o,b,e,a⟩:=id hit;obtain⟨u,d,_,f,c⟩:=ht;unfold Builtin.SmallTypes.nextOf;refine aa (wpAny_callSpecial?_slot (name:=Str.ofString "__next__") hit.typeIs F.slot_tuple_iterator_next (wpAny_call_entry F.slot_tuple_iterator_next hit.typeIs F.entry_tuple_iterator_next ?_ (F.args_tuple_iterator_next_1 _)));show wpAny _ _ (field (.ref it) 0 >>= _) _ _ s;refine aa (wpAny_field b a (x:=.ref t) rfl ?_);show wpAny _ _ (if(Value.ref t==Value.none)=true then _ else _) _ _ s;rw[if_neg (show ¬((Value.ref t==Value.none)=true) from bg)]
 show wpAny _ _ (field (.ref it) 1 >>= _) _ _ s;refine aa (wpAny_field b a (x:=.int i 0) rfl ?_);show wpAny _ _ (seqItems? (.ref t) >>= _) _ _ s;refine aa (wpAny_seqItems d c ?_);simp only[Int.toNat_natCast,hx];refine aa (wpAny_setField b a (by simp) (ae ⟨x,rfl,ae (hQ _ ?_ (Heap.SameBut.update ..))⟩))
 exact⟨_,Heap.get?_update_self _ b (Obj.isFreed_of_fields (Obj.data_mapFields a _)),(Obj.cls_mapFields ..).trans e,by rw[Obj.data_mapFields a];simp[rawInt]⟩
theorem yG{items:Array Value}{Q:cf}(hh:A.handled=none)(hit:s.heap.IsTupleIter it t i)(ht:s.heap.IsTuple t items)(hx:items[i]? =none)(hE: ∀h' e,Heap.ExtBut it s.heap h'->(∃o,h'.get? e=some o/\o.cls= .type "StopIteration")->Ex (.ref e) {s with heap:=h'}):wpAny (model prog w) A (Builtin.SmallTypes.nextOf (.ref it)) Q Ex s:=by
 obtain⟨o,d,n,c⟩:=id hit;obtain⟨u,h,_,j,g⟩:=ht;unfold Builtin.SmallTypes.nextOf;refine aa (wpAny_callSpecial?_slot (name:=Str.ofString "__next__") hit.typeIs F.slot_tuple_iterator_next (wpAny_call_entry F.slot_tuple_iterator_next hit.typeIs F.entry_tuple_iterator_next ?_ (F.args_tuple_iterator_next_1 _)));show wpAny _ _ (field (.ref it) 0 >>= _) _ _ s;refine aa (wpAny_field d c (x:=.ref t) rfl ?_);show wpAny _ _ (if(Value.ref t==Value.none)=true then _ else _) _ _ s;rw[if_neg (show ¬((Value.ref t==Value.none)=true) from bg)]
 show wpAny _ _ (field (.ref it) 1 >>= _) _ _ s;refine aa (wpAny_field d c (x:=.int i 0) rfl ?_);show wpAny _ _ (seqItems? (.ref t) >>= _) _ _ s;refine aa (wpAny_seqItems h g ?_);simp only[Int.toNat_natCast,hx];refine aa (wpAny_rule (aa (wpAny_setField d c (by simp) ?_)))
 show wpAny _ _ (newExc (.type "StopIteration") [] >>= _) _ _ _;refine aa ?_;simp only[newExc,newTuple];refine aa (wpAny_newObj_type ?_ (by size_fits));refine aa (m:=firstArgMember _ _) (wpAny_of_eq (a:=Value.none) (by first|rfl|(simp only[firstArgMember];rfl)) ?_)
 refine wpAny_newObj_type ?_ (by size_fits);simp only[raiseNew]
 refine aa (wpAny_handled ?_)
 first|rw[show A.in1.handled=none from hh]|rw[hh]
 refine aa (ae (wpAny_throw ?_));refine hE _ _ (λb l f e=>?_) ⟨_,ag _ rfl,rfl⟩
 exact af _ (af _ ((Heap.get?_update_other _ _ (Ne.symm f)).trans e))
end
section
variable {prog:Program} {w:World} {A:Around} {Ex:cf} {s:Shared}
end
theorem pO{n l m:Nat}(a:l<n)(b:m<n):ZipApart (n+4) (n+2) (n+3) n (n+1) l m:=by
 constructor<;>(intro h;have c:(_:Nat)=_:=h;revert c;lia)
theorem fV{σ:L2.St}{fp:List Addr}(I:Inv X ce σ H s)(k: ∀b o,b∉fp->s.heap.get? b=some o->h'.get? b=some o)(hf: ∀b∈fp,oI X ce H b):Inv X ce σ H {s with heap:=h',toks:=t'}:=by
 have d: ∀b u,H b=some u->b∉fp:=λb u e z=>by rw[(hf b z).1]at e;cases e
 refine I.step (g':=s.gens) (d':=s.drawn) (ch:=fp) (λb j=>?_) (λb o _ _ a e _=>k b o a e) (λb o _ _ a e _=>⟨o.slots,k b o a e⟩) (λ_ _ _ _ n=>n)
  (λb o a e=>⟨o,k b o a e⟩) (λ_ _ e=>e) (λ_ _ _ e=>e) (λb y e=>⟨#[],by rw[e];simp⟩) (λm x=>?_) (λb u e=>?_) I.bare
 ·obtain⟨_,g,_,i,t,f⟩:=hf b j;exact⟨i,g,t,f⟩
 ·obtain⟨o,h,p,l,r⟩:=x;exact⟨o,h,p,k _ o (λz=>(hf _ z).2.1 rfl) l,r⟩
 ·refine(I.hok b u e).stay (λc v a q=>k c v ?_ q) (λ_ q=>q) λ_ _ q=>q
  rcases a with z|z
  ·rw[z];exact d b u e
  ·exact d c _ z
section
variable {prog:Program} {w:World} {A:Around} {Ex:cf} {s:Shared}
end
section
variable {prog:Program} {w:World} {A:Around} {Ex:cf} {s:Shared}
end
def SqA(t:Bool)(K:PySem.W.Frag)(H:Hp)(a:Addr)(xs:List V):Prop:=match t with
 |true=>SqT K H a xs
 |false=>SqL K H a xs
def ItA(t:Bool)(h:Heap)(it l:Addr)(i:Nat):Prop:=match t with
 |true=>h.IsTupleIter it l i
 |false=>h.IsListIter it l i
def SeA(t:Bool)(h:Heap)(l:Addr)(xs:Array Value):Prop:=match t with
 |true=>h.IsTuple l xs
 |false=>h.IsList l xs
section
variable {X:Cx} {ce:cg} {σ:L2.St} {H:Hp} {s:Shared} {t:Bool}
theorem dX(I:Inv X ce σ H s)(h:SqA t X.K H a xs): ∃its:List Value,cN xs its/\SeA t s.heap a its.toArray/\xs.length<=sizeLine:=by
 cases t with
 |true=>
  obtain⟨its,r,p,z⟩:=I.tuple h;exact⟨its,r,p,z⟩
 |false=>
  obtain⟨its,r,p,z⟩:=I.list h;exact⟨its,r,p.isList,z⟩
theorem kZ(I:Inv X ce σ H s)(h:SqA t X.K H a xs)(h':SqA t X.K H a ys):xs=ys:=by
 cases t with
 |true=>exact I.tuple_inj h h'
 |false=>exact I.list_inj h h'
theorem aW{K:PySem.W.Frag}(e:Same H H')(h:SqA t K H a xs):SqA t K H' a xs:=by
 cases t with
 |true=>exact e.seqT h
 |false=>exact e.seq h
theorem bS(q:ItA t h it l i)(k: ∀o,h.get? it=some o->h'.get? it=some o):ItA t h' it l i:=by
 cases t with
 |true=>obtain⟨o,e,r⟩:=q;exact⟨o,k o e,r⟩
 |false=>obtain⟨o,e,r⟩:=q;exact⟨o,k o e,r⟩
theorem d9{Ex:cf}{Q:cf}(q:ItA t s.heap it l i)(hl:SeA t s.heap l xs)(hx:xs[i]? =some x)(hQ: ∀h',ItA t h' it l (i+1)->Heap.SameBut it s.heap h'->Q x {s with heap:=h'}):wpAny (model prog w) A (Builtin.SmallTypes.nextOf (.ref it)) Q Ex s:=by
 cases t with
 |true=>exact vK q hl hx hQ
 |false=>exact wpAny_nextOf_list_item q hl hx hQ
theorem iE{Ex:cf}{Q:cf}(hh:A.handled=none)(q:ItA t s.heap it l i)(hl:SeA t s.heap l xs)(hx:xs[i]? =none)(hE: ∀h' e,Heap.ExtBut it s.heap h'->(∃o,h'.get? e=some o/\o.cls= .type "StopIteration")->Ex (.ref e) {s with heap:=h'}):wpAny (model prog w) A (Builtin.SmallTypes.nextOf (.ref it)) Q Ex s:=by
 cases t with
 |true=>exact yG hh q hl hx hE
 |false=>exact wpAny_nextOf_list_end hh q hl hx hE
end
theorem nG(q:SeA t h l it)(k: ∀o,h.get? l=some o->h'.get? l=some o):SeA t h' l it:=by
 cases t with
 |true=>obtain⟨o,a,b⟩:=q;exact⟨o,k o a,b⟩
 |false=>obtain⟨o,a,b⟩:=q;exact⟨o,k o a,b⟩
theorem nH(x:ItA t h it l k): ∃o,h.get? it=some o/\o.data= .fields #[.ref l,.int k 0]:=by
 cases t with
 |true=>obtain⟨o,a,_,c⟩:=x;exact⟨o,a,c⟩
 |false=>obtain⟨o,a,_,c⟩:=x;exact⟨o,a,c⟩
section
variable {prog:Program} {w:World} {A:Around} {Ex:cf} {s:Shared} {t t2:Bool}
theorem pQ{z TI TO i1 i2 l1 l2:Addr}(D:ZipApart z TI TO i1 i2 l1 l2)(hz:IsZip s.heap z TI TO .none)(hTI:IsPair s.heap TI (.ref i1) (.ref i2))(hTO:IsPair s.heap TO a b)(h1:ItA t s.heap i1 l1 k1)(h2:ItA t2 s.heap i2 l2 k2)(hl1:SeA t s.heap l1 xs)(hl2:SeA t2 s.heap l2 ys)(hx:xs[k1]? =some x)(hy:ys[k2]? =some y)(hQ: ∀h',IsZip h' z TI TO (rawInt s.heap.objs.size)->IsPair h' TO x y->ItA t h' i1 l1 (k1+1)->ItA t2 h' i2 l2 (k2+1)->IsPair h' s.heap.objs.size x y->h'.objs.size=s.heap.objs.size+1->
   (∀c o,c≠z->c≠TO->c≠i1->c≠i2->s.heap.get? c=some o->h'.get? c=some o)->Q (some (.ref s.heap.objs.size)) {s with heap:=h'}):wpAny (model prog w) A (pyNext (.ref z)) Q Ex s:=by
 have T:s.TypeIs (.ref z) "zip":=⟨_,hz,rfl⟩;have d: ∀{t:Bool} {h h':Heap} {it l:Addr} {k:Nat} {c:Addr},ItA t h it l k->Heap.SameBut c h h'->it≠c->ItA t h' it l k:=λq O I=>bS q λo e=>(O.2 _ I).trans e
 have g: ∀{t:Bool} {h h':Heap} {l:Addr} {it:Array Value} {c:Addr},SeA t h l it->Heap.SameBut c h h'->l≠c->SeA t h' l it:=λq O I=>nG q λo e=>(O.2 _ I).trans e
 unfold pyNext;refine aa (wpAny_attempt (wpAny_callSpecial?_slot (name:=Str.ofString "__next__") T F.slot_zip_next (wpAny_call_entry F.slot_zip_next T F.entry_zip_next ?_ (F.args_zip_next_1 _))));show wpAny _ _ (field (.ref z) 2 >>= _) _ _ _;refine aa (wpAny_field hz rfl (x:=.bool false) rfl ?_);show wpAny _ _ (field (.ref z) 3 >>= _) _ _ _;refine aa (wpAny_field hz rfl (x:=.ref TI) rfl (aa (wpAny_seqItems hTI rfl ?_)));show wpAny _ _ (Builtin.SmallTypes.ownedTupleIsFree (.ref z) >>= _) _ _ _;refine aa ?_;unfold Builtin.SmallTypes.ownedTupleIsFree;refine aa (wpAny_field hz rfl (x:=.none) rfl (ae ?_));simp only[if_true];refine aa (wpAny_rule (aa (wpAny_field hz rfl (x:=.ref TO) rfl (aa (wpAny_setField_rec hz (by simp) λg1 M i=>?_)))))
 replace M:IsZip g1 z TI TO .ellipsis:=M;refine aa ?_;simp only[List.zipIdx_cons,List.zipIdx_nil,List.forIn_cons,List.forIn_nil];refine aa (aa (wpAny_onRaise ?_));show wpAny _ _ (Builtin.SmallTypes.nextOf (.ref i1) >>= _) _ _ _;refine aa (d9 (d h1 i D.i1z) (g hl1 i D.l1z) hx λg2 p2 m=>ae ?_)
 have X:IsPair g2 TO a b:=(m.2 _ D.TOi1).trans ((i.2 _ D.TOz).trans hTO);refine aa (wpAny_seqItems X rfl (aa (wpAny_updateSeq_pair X λg3 K n=>?_)))
 replace K:IsPair g3 TO x b:=K;refine aa (wpAny_letGo (ae (aa (aa (wpAny_onRaise ?_)))));show wpAny _ _ (Builtin.SmallTypes.nextOf (.ref i2) >>= _) _ _ _;refine aa (d9 (d (d (d h2 i D.i2z) m D.i12.symm) n D.TOi2.symm) (g (g (g hl2 i D.l2z) m D.l2i1) n D.l2TO) hy λg4 p4 p=>ae ?_)
 have Z:IsPair g4 TO x b:=(p.2 _ D.TOi2).trans K;refine aa (wpAny_seqItems Z rfl (aa (wpAny_updateSeq_pair Z λf E r=>?_)))
 replace E:IsPair f TO x y:=E;refine aa (wpAny_letGo (ae (ae (aa (wpAny_seqItems E rfl (aa (wpAny_newTuple ?_)))))))
 have v:f.objs.size=s.heap.objs.size:=by rw[r.1,p.1,n.1,m.1,i.1]
 have U:IsZip f z TI TO .ellipsis:=(r.2 _ D.TOz.symm).trans ((p.2 _ D.i2z.symm).trans ((n.2 _ D.TOz.symm).trans ((m.2 _ D.i1z.symm).trans M)))
 have k5: ∀c o,c≠z->c≠TO->c≠i1->c≠i2->s.heap.get? c=some o->f.get? c=some o:=λc o j C G H e=>(r.2 _ C).trans ((p.2 _ H).trans ((n.2 _ C).trans ((m.2 _ G).trans ((i.2 _ j).trans e))))
 have q1:ItA t f i1 l1 (k1+1):=d (d (d p2 n D.TOi1.symm) p D.i12) r D.TOi1.symm;have q2:ItA t2 f i2 l2 (k2+1):=d p4 r D.TOi2.symm;have W:z<f.objs.size:=ah U;show wpAny _ _ (Builtin.SmallTypes.ownedTupleHandOut (.ref z) (.ref f.objs.size) >>= _) _ _ _;refine aa ?_;unfold Builtin.SmallTypes.ownedTupleHandOut;have z6:IsZip (f.push {cls:=.type "tuple",data:=.seq #[x,y]}) z TI TO .ellipsis:=af _ U;refine aa (wpAny_setField_rec z6 (by simp) λg7 N L=>?_)
 replace N:IsZip g7 z TI TO (rawInt f.objs.size):=N;refine wpAny_setField_rec N (by simp) λu B J=>?_
 replace B:IsZip u z TI TO (rawInt f.objs.size):=B
 have up: ∀c o,c≠z->f.get? c=some o->u.get? c=some o:=λc o j e=>(J.2 _ j).trans ((L.2 _ j).trans (af _ e))
 have Y:IsPair u f.objs.size x y:=(J.2 _ (Nat.ne_of_gt W)).trans ((L.2 _ (Nat.ne_of_gt W)).trans (ag _ rfl))
 have S:u.objs.size=f.objs.size+1:=by rw[J.1,L.1,ai]
 rw[v]at B Y S;refine ae ⟨_,rfl,ae ?_⟩;show Q (some (.ref f.objs.size)) _;rw[v];refine hQ u B (up _ _ D.TOz E) ?_ ?_ Y S λc o j C G H e=>up c o j (k5 c o j C G H e)
 ·exact bS q1 λo e=>up _ o D.i1z e
 ·exact bS q2 λo e=>up _ o D.i2z e
theorem t0{z TI TO i1 i2 l1 l2:Addr}(hh:A.handled=none)(D:ZipApart z TI TO i1 i2 l1 l2)(hz:IsZip s.heap z TI TO .none)(hTI:IsPair s.heap TI (.ref i1) (.ref i2))(hTO:IsPair s.heap TO a b)(h1:ItA t s.heap i1 l1 k1)(h2:ItA t2 s.heap i2 l2 k2)(hl1:SeA t s.heap l1 xs)(hl2:SeA t2 s.heap l2 ys)(he:xs[k1]? =none\/ys[k2]? =none)(hQ: ∀h',(∀c o,c≠z->c≠TO->c≠i1->c≠i2->s.heap.get? c=some o->h'.get? c=some o)->Q none {s with heap:=h'}):wpAny (model prog w) A (pyNext (.ref z)) Q Ex s:=by
 have I:s.TypeIs (.ref z) "zip":=⟨_,hz,rfl⟩;have d: ∀{t:Bool} {h h':Heap} {it l:Addr} {k:Nat} {c:Addr},ItA t h it l k->Heap.SameBut c h h'->it≠c->ItA t h' it l k:=λq G E=>bS q λo e=>(G.2 _ E).trans e
 have f: ∀{t:Bool} {h h':Heap} {l:Addr} {it:Array Value} {c:Addr},SeA t h l it->Heap.SameBut c h h'->l≠c->SeA t h' l it:=λq G E=>nG q λo e=>(G.2 _ E).trans e
 unfold pyNext
 have n: ∀(h':Heap) (e:Addr),(∀c o,c≠z->c≠TO->c≠i1->c≠i2->s.heap.get? c=some o->h'.get? c=some o)->(∃o,h'.get? e=some o/\o.cls= .type "StopIteration")->wpAny (model prog w) A (do if(<-isInstance (.ref e) (.type "StopIteration"))=true then pure none else throw (.ref e)) Q Ex {s with heap:=h'}:=λh' e kk he=>by
  obtain⟨o,W,U⟩:=he;exact aa (wpAny_isInstance (T:="StopIteration") (b:=true) ⟨o,W,U⟩ isSubtype_stop (ae (hQ _ kk)))
 refine aa (wpAny_attempt (wpAny_callSpecial?_slot (name:=Str.ofString "__next__") I F.slot_zip_next (wpAny_call_entry F.slot_zip_next I F.entry_zip_next ?_ (F.args_zip_next_1 _))));show wpAny _ _ (field (.ref z) 2 >>= _) _ _ _;refine aa (wpAny_field hz rfl (x:=.bool false) rfl ?_);show wpAny _ _ (field (.ref z) 3 >>= _) _ _ _;refine aa (wpAny_field hz rfl (x:=.ref TI) rfl (aa (wpAny_seqItems hTI rfl ?_)));show wpAny _ _ (Builtin.SmallTypes.ownedTupleIsFree (.ref z) >>= _) _ _ _;refine aa ?_;unfold Builtin.SmallTypes.ownedTupleIsFree;refine aa (wpAny_field hz rfl (x:=.none) rfl (ae ?_));simp only[if_true];refine aa (wpAny_rule (aa (wpAny_field hz rfl (x:=.ref TO) rfl (aa (wpAny_setField_rec hz (by simp) λZ r g=>?_)))))
 replace r:IsZip Z z TI TO .ellipsis:=r;refine aa ?_;simp only[List.zipIdx_cons,List.zipIdx_nil,List.forIn_cons,List.forIn_nil];refine aa (aa (wpAny_onRaise ?_));show wpAny _ _ (Builtin.SmallTypes.nextOf (.ref i1) >>= _) _ _ _
 cases C:xs[k1]? with
 |none=>
  refine aa (iE hh (d h1 g D.i1z) (f hl1 g D.l1z) C λB e i he=>?_)
  obtain⟨u,q1,m⟩:=he;have M:IsZip B z TI TO .ellipsis:=i _ _ D.i1z.symm r;have y:e≠z:=λx=>by subst x;rw[M]at q1;cases q1;simp at m
  exact wpAny_setField_rec M (by simp) λH _ j=>n H e (λc o p _ v _ x=>(j.2 _ p).trans (i _ _ v ((g.2 _ p).trans x))) ⟨u,(j.2 _ y).trans q1,m⟩
 |some x=>
  have X:ys[k2]? =none:=he.resolve_left λh=>by rw[C]at h;cases h
  refine aa (d9 (d h1 g D.i1z) (f hl1 g D.l1z) C λB p2 i=>ae ?_)
  have K:IsPair B TO a b:=(i.2 _ D.TOi1).trans ((g.2 _ D.TOz).trans hTO);refine aa (wpAny_seqItems K rfl (aa (wpAny_updateSeq_pair K λH o3 j=>?_)))
  refine aa (wpAny_letGo (ae (aa (aa (wpAny_onRaise ?_)))));show wpAny _ _ (Builtin.SmallTypes.nextOf (.ref i2) >>= _) _ _ _;refine aa (iE hh (d (d (d h2 g D.i2z) i D.i12.symm) j D.TOi2.symm) (f (f (f hl2 g D.l2z) i D.l2i1) j D.l2TO) X λY e J he=>?_)
  obtain⟨u,q1,m⟩:=he;have N:IsZip Y z TI TO .ellipsis:=J _ _ D.i2z.symm ((j.2 _ D.TOz.symm).trans ((i.2 _ D.i1z.symm).trans r));have y:e≠z:=λx=>by subst x;rw[N]at q1;cases q1;simp at m
  exact wpAny_setField_rec N (by simp) λO _ L=>n O e (λc o p c2 v S x=>(L.2 _ p).trans (J _ _ S ((j.2 _ c2).trans ((i.2 _ v).trans ((g.2 _ p).trans x))))) ⟨u,(L.2 _ y).trans q1,m⟩
end
noncomputable def itC(t:Bool):String:=if t then "tuple_iterator" else "list_iterator"
abbrev zg1(t:Bool)(h:Heap)(l:Addr):Heap:=h.push {cls:=.type (itC t),data:=.fields #[.ref l,.int 0 0]}
abbrev zg3(t t2:Bool)(h:Heap)(l m:Addr):Heap:=(zg1 t2 (zg1 t h l) m).push {cls:=.type "tuple",data:=.seq #[.ref h.objs.size,.ref (zg1 t h l).objs.size]}
abbrev zg4(t t2:Bool)(h:Heap)(l m:Addr):Heap:=(zg3 t t2 h l m).push {cls:=.type "tuple",data:=.seq #[.none,.none]}
abbrev zg5(t t2:Bool)(h:Heap)(l m:Addr):Heap:=(zg4 t t2 h l m).push {cls:=.type "zip",data:=.fields #[.none,.bool false,.bool false,.ref (zg1 t2 (zg1 t h l) m).objs.size,.ref (zg3 t t2 h l m).objs.size]}
theorem aCo(t t2:Bool)(l m:Addr)(xs ys:Array Value):Meets (Builtin.«zip.__new__» ⟨[.type "zip",.ref l,.ref m],[]⟩) (λ_ R s=>SeA t s.heap l xs/\SeA t2 s.heap m ys/\R (.ok (.ret (.ref (zg4 t t2 s.heap l m).objs.size))) {s with heap:=zg5 t t2 s.heap l m}):=
 .of_wp λj w A R s h=>by
  obtain⟨f,g,d,c,e⟩:=s;obtain⟨n,a,h⟩:=h;have i:=sub_zip
  cases t with
  |true=>
   have q1:Heap.IsTuple (Shared.heap ⟨f,g,d,c,e⟩) l xs:=n
   cases t2 with
   |true=>
    have b:Heap.IsTuple (Shared.heap ⟨f.push {cls:=.type "tuple_iterator",data:=.fields #[.ref l,.int 0 0]},g,d,c,e⟩) m ys:=Heap.IsTuple.push a _
    wp_walk using wpAny_pyIter_tuple q1,wpAny_pyIter_tuple b
    exact⟨_,rfl,h⟩
   |false=>
    have b:Heap.IsList (Shared.heap ⟨f.push {cls:=.type "tuple_iterator",data:=.fields #[.ref l,.int 0 0]},g,d,c,e⟩) m ys:=Heap.IsList.push a _
    wp_walk using wpAny_pyIter_tuple q1,wpAny_pyIter_list b
    exact⟨_,rfl,h⟩
  |false=>
   have q1:Heap.IsList (Shared.heap ⟨f,g,d,c,e⟩) l xs:=n
   cases t2 with
   |true=>
    have b:Heap.IsTuple (Shared.heap ⟨f.push {cls:=.type "list_iterator",data:=.fields #[.ref l,.int 0 0]},g,d,c,e⟩) m ys:=Heap.IsTuple.push a _
    wp_walk using wpAny_pyIter_list q1,wpAny_pyIter_tuple b
    exact⟨_,rfl,h⟩
   |false=>
    have b:Heap.IsList (Shared.heap ⟨f.push {cls:=.type "list_iterator",data:=.fields #[.ref l,.int 0 0]},g,d,c,e⟩) m ys:=Heap.IsList.push a _
    wp_walk using wpAny_pyIter_list q1,wpAny_pyIter_list b
    exact⟨_,rfl,h⟩
section
variable {prog:Program} {w:World} {A:Around} {Ex:cf} {s:Shared} {t t2:Bool}
theorem yH(e:h.get? it=some {cls:=.type (itC t),data:=.fields #[.ref l,.int 0 0]}):ItA t h it l 0:=by
 cases t with
 |true=>exact⟨_,e,rfl,rfl⟩
 |false=>exact⟨_,e,rfl,rfl⟩
theorem pR{Q:cf}(t1:SeA t s.heap l xs)(t2':SeA t2 s.heap m ys)(h: ∀h',IsZip h' (s.heap.objs.size+4) (s.heap.objs.size+2) (s.heap.objs.size+3) .none->IsPair h' (s.heap.objs.size+2) (.ref s.heap.objs.size) (.ref (s.heap.objs.size+1))->IsPair h' (s.heap.objs.size+3) .none .none->
   ItA t h' s.heap.objs.size l 0->ItA t2 h' (s.heap.objs.size+1) m 0->h'.objs.size=s.heap.objs.size+5->(∀c o,s.heap.get? c=some o->h'.get? c=some o)->Q (.ref (s.heap.objs.size+4)) {s with heap:=h'}):
  wpAny (model prog w) A (call (.type "zip") [.ref l,.ref m]) Q Ex s:=by
 refine callType_new F.called_zip (by decide) (F.typeCall_zip_2 _ _) (F.newCall_zip_2 _ _) (λi=>F.args_object_init_3 i _ _) F.entry_zip_new (aCo t t2 l m xs ys) ⟨t1,t2',?_⟩
 have d:(zg1 t s.heap l).objs.size=s.heap.objs.size+1:=ai ..
 have f:(zg1 t2 (zg1 t s.heap l) m).objs.size=s.heap.objs.size+2:=by rw[ai,d]
 have g:(zg3 t t2 s.heap l m).objs.size=s.heap.objs.size+3:=by rw[ai,f]
 have a:(zg4 t t2 s.heap l m).objs.size=s.heap.objs.size+4:=by rw[ai,g]
 have q:(zg5 t t2 s.heap l m).objs.size=s.heap.objs.size+5:=by rw[ai,a]
 have up: ∀{h:Heap} {o:Obj} {c:Addr} {x:Obj},h.get? c=some x->(h.push o).get? c=some x:=λe=>af _ e
 have b:(zg5 t t2 s.heap l m).get? (zg4 t t2 s.heap l m).objs.size=some _:=ag _ rfl
 have j:(zg5 t t2 s.heap l m).get? (zg3 t t2 s.heap l m).objs.size=some _:=up (ag _ rfl)
 have p:(zg5 t t2 s.heap l m).get? (zg1 t2 (zg1 t s.heap l) m).objs.size=some _:=up (up (ag _ rfl))
 have n:(zg5 t t2 s.heap l m).get? (zg1 t s.heap l).objs.size=some _:=up (up (up (ag _ rfl)))
 have r:(zg5 t t2 s.heap l m).get? s.heap.objs.size=some _:=up (up (up (up (ag _ rfl))))
 show _/\_;rw[f,g,a]at b;rw[d,f]at p;rw[g]at j;rw[d]at n;rw[a];exact⟨⟨_,b,rfl⟩,h _ b p j (yH r) (yH n) q λc o x=>up (up (up (up (up x))))⟩
end
def aHn(t t2:Bool)(K:PySem.W.Frag)(l m:Addr):It:=
 ⟨λi H=>∃xs ys x y,SqA t K H l xs/\SqA t2 K H m ys/\xs[i]? =some x/\ys[i]? =some y,
  λi H v H'=>∃p x y,H p=none/\v= .ref p/\(∀xs,SqA t K H l xs->xs[i]? =some x)/\(∀ys,SqA t2 K H m ys->ys[i]? =some y)/\H'=upd H p (.tup [x,y]),
  λi H=>∃xs ys,SqA t K H l xs/\SqA t2 K H m ys/\(xs.length<=i\/ys.length<=i)⟩
theorem yI{K:PySem.W.Frag}{z TI TO i1 i2 l m:Addr}(D:ZipApart z TI TO i1 i2 l m):
  Turn P w K (.Tuple es x1 tp) (aHn t t2 K l m) [z,TI,TO,i1,i2] z (λi h=>IsZip h z TI TO .none/\IsPair h TI (.ref i1) (.ref i2)/\(∃a b,IsPair h TO a b)/\ItA t h i1 l i/\ItA t2 h i2 m i) where
 mem:=by simp
 obj:=λi h g b d=>by
  obtain⟨n,f,⟨a,c,j⟩,Y,y5⟩:=g;obtain⟨o4,A,d4⟩:=nH Y;obtain⟨o5,r,d5⟩:=nH y5;simp only[av,List.not_mem_nil,or_false]at d;rcases d with rfl|rfl|rfl|rfl|rfl
  ·exact⟨_,n,λv e=>by cases e⟩
  ·exact⟨_,f,λv e=>by cases e⟩
  ·exact⟨_,j,λv e=>by cases e⟩
  ·exact⟨_,A,λv e=>by rw[d4]at e;cases e⟩
  ·exact⟨_,r,λv e=>by rw[d5]at e;cases e⟩
 keep:=λi h G g k=>by
  obtain⟨n,f,⟨a,c,j⟩,Y,y5⟩:=g;exact⟨k _ (by simp) _ n,k _ (by simp) _ f,⟨a,c,k _ (by simp) _ j⟩,bS Y λo e=>k _ (by simp) o e,bS y5 λo e=>k _ (by simp) o e⟩
 item:=by
  intro X hP hw T hc i B s L H E I N g hg;subst hP hw T;obtain⟨xs,ys,x,y,q1,J,M,hy⟩:=hg;obtain⟨us,O,Q,_⟩:=dX I q1;obtain⟨vs,U,Z,_⟩:=dX I J;obtain⟨u,hu,ru⟩:=O.get M;obtain⟨v,hv,rv⟩:=U.get hy;obtain⟨n,f,⟨a,c,j⟩,A,r⟩:=g;have tI:TI<s.heap.objs.size:=ah f;have tz:z<s.heap.objs.size:=ah n;have tO:TO<s.heap.objs.size:=ah j;have t4:i1<s.heap.objs.size:=by obtain⟨o,e,_⟩:=nH A;exact ah e
  have t5:i2<s.heap.objs.size:=by obtain⟨o,e,_⟩:=nH r;exact ah e
  refine pQ D n f j A r Q Z (x:=u) (y:=v) (by simpa using hu) (by simpa using hv) λG a1 a2 a3 a4 a5 a6 a7=>⟨_,rfl,?_⟩
  have S:H s.heap.objs.size=none:=I.hok.fresh (aj _)
  -- the pair, laid
  have Ia:Inv X B L (upd H s.heap.objs.size (.tup [x,y])) {s with heap:=s.heap.push {cls:=.type "tuple",data:=.seq #[u,v]} }:=
   I.laid (t':=s.toks) (λb o e=>af _ e) (aj _) (show ObjOk X.prog X.w _ _ _ (.tup [x,y]) from⟨by rw[sizeLine_eq];simp,[u,v],.cons ru (.cons rv .nil),⟨_,ag _ rfl,rfl,_,rfl⟩,⟨_,ag _ rfl,rfl⟩⟩)
  have ac: ∀b∈[z,TI,TO,i1,i2],b≠s.heap.objs.size:=λb d=>by
   simp only[av,List.not_mem_nil,or_false]at d;rcases d with rfl|rfl|rfl|rfl|rfl
   ·exact bj tz
   ·exact bj tI
   ·exact bj tO
   ·exact bj t4
   ·exact bj t5
  have p: ∀b∈[z,TI,TO,i1,i2],oI X B (upd H s.heap.objs.size (.tup [x,y])) b:=λb d=>⟨by rw[aB (ac b d)];exact(N b d).1,(N b d).2⟩
  have Ib:Inv X B L (upd H s.heap.objs.size (.tup [x,y])) {s with heap:=G}:=by
   refine fV (s:={s with heap:=s.heap.push {cls:=.type "tuple",data:=.seq #[u,v]} }) (t':=s.toks) Ia (λb o d e=>?_) p
   simp only[av,List.not_mem_nil,or_false,not_or]at d
   by_cases hq:b=s.heap.objs.size
   ·subst hq;rw[show(s.heap.push {cls:=.type "tuple",data:=.seq #[u,v]}).get? s.heap.objs.size=some _ from ag _ rfl]at e
    cases e;exact a5
   ·have e2:s.heap.get? b=some o:=by
     exact(Heap.get?_push_ne _ b _ hq).symm.trans e
    exact a7 b o d.1 d.2.2.1 d.2.2.2.1 d.2.2.2.2 e2
  refine wpAny_letOwnedTupleGo_zip a1 λh2 b1 C=>?_
  have Ic:Inv X B L (upd H s.heap.objs.size (.tup [x,y])) {s with heap:=h2}:=fV (s:={s with heap:=G}) (t':=s.toks) Ib (λb o d e=>(C.2 b (λq=>d (by simp[q]))).trans e) p
  refine⟨.ref s.heap.objs.size,_,Ic,rfl,⟨_,x,y,S,rfl,λak ab=>by rw[kZ I ab q1];exact M,λal ad=>by rw[kZ I ad J];exact hy,rfl⟩,⟨b1,?_,⟨u,v,?_⟩,?_,?_⟩,λb d=>(p b d).1⟩
  ·exact(C.2 _ D.TIz).trans (a7 _ _ D.TIz D.TITO D.TIi1 D.TIi2 f)
  ·exact(C.2 _ D.TOz).trans a2
  ·exact bS a3 λo e=>(C.2 _ D.i1z).trans e
  ·exact bS a4 λo e=>(C.2 _ D.i2z).trans e
 done:=by
  intro X hP hw T hc i B s L H E I N g hg;subst hP hw T;obtain⟨xs,ys,q1,J,M⟩:=hg;obtain⟨us,O,Q,_⟩:=dX I q1;obtain⟨vs,U,Z,_⟩:=dX I J;obtain⟨n,f,⟨a,c,j⟩,A,r⟩:=g;have n1:=O.length;have n2:=U.length;refine t0 (I.ok.hd hc) D n f j A r Q Z (M.elim (λh=>.inl (by simp;lia)) λh=>.inr (by simp;lia)) λG k=>⟨rfl,fV (t':=s.toks) I (λb o d e=>?_) N⟩
  simp only[av,List.not_mem_nil,or_false,not_or]at d;exact k b o d.1 d.2.2.1 d.2.2.2.1 d.2.2.2.2 e
 self:=λ_ _ _ _ _ g h=>wpAny_pyIter_zip g.1 h
section
variable {X:Cx} {ad:Ad} {ce:cg} {s:Shared} {σ:St} {H G:Hp} {ρ:Rho} {Q:VK} {E:Nat->Hp->Prop} {pos p ap cp:Pos} {o a b c tg:Expr} {f g h:F}
theorem aHo(e:Same G1 H1)(q:Seq X ad G1 H1 (.lst ds) x): ∃l xs,x= .ref l/\SqL X.K H1 l xs/\aJ X.K ad G1 ds xs:=by
 rcases q with q|⟨l,a,ds',e1,e2,e3,e4,e5⟩
 ·unfold Rep at q;obtain⟨l,a,rfl,c,b⟩:=q;exact⟨l,a,rfl,e.seq c,b⟩
 ·cases e1;exact⟨l,a,e2,SqL.of e4,e5⟩
theorem yJ{id:String}(slot:PySem.Slot "list" m id)(hty:typeOf (.builtin id)=pure (.type "method_descriptor"))(ho:ML X ad o f)(ha:ME X ad a g)(hs:starEach [a] X.env=(false,eval a X.env)::starEach [] X.env)(hbase:attributeBase o m X.env (eval o X.env)=eval o X.env)(hline:(ap.endLine==cp.line)=true)(hm: ∀(ce:cg) (s:Shared) (σ:St) (H G:Hp) (l:Addr) (xs:List V) (ds:List D) (y:D) (v:V) (u:Value) (Q:VK) (E:Nat->Hp->Prop),Inv X ce σ H s->Same G H->SqL X.K H l xs->aJ X.K ad G ds xs->Rep X.K ad G y v->bA v u->
   RK X.K ad G H (r [.lst ds,y]) Q E->wpAny (model X.prog X.w) X.A (call (.builtin id) [.ref l,u]) (EP X ce σ Q) X.xe s):ME X ad (.Call (.Attribute o m ap) [a] [] cp) (rC r f g):=by
 refine λce s σ H Q I Z=>Z.el λG O E hG p h W=>?_
 refine wpAny_Call_method_late hbase (tU hs) hline rfl (L2.thn (ho.lk ce s σ H G O _ Q E I hG p h W) λv s1 b=>?_)
 obtain⟨x,d,G1,H1,i,C,st1,q1,e⟩:=b
 cases d<;>try exact ba e
 rename_i ds;obtain⟨l,xs,rfl,q,U⟩:=aHo st1.gh q1
 cases (show v=Value.ref l from C)
 obtain⟨ab,rv,T,_⟩:=i.list q;obtain⟨j,n,c,J,z,e4⟩:=T;refine⟨"list",id,PySem.F.plainAttrs_list,slot,hty,⟨j,c,J⟩,λa' t=>by cases t;exact⟨j,c,z⟩,?_⟩
 rw[hs];refine Calls.callWith_builtin rfl (Calls.evalArgs_plain (Calls.spliced_cons (L2.thn (ha.thn i st1.gh (p.step st1) h e) λu L ⟨w,y,N,H2,B,S,st2,M,Y⟩=>Calls.spliced_nil ?_)))
 exact hm ce L σ H2 N l xs ds y w u Q E B st2.gh (st2.sh.seq q) (U.mono st2.sg) M S Y
theorem aCp(hu:X.A.units+62<cLine)(ho:ML X ad o f)(ha:ME X ad a g)(hs:starEach [a] X.env=(false,eval a X.env)::starEach [] X.env)(hbase:attributeBase o "count" X.env (eval o X.env)=eval o X.env)(hline:(ap.endLine==cp.line)=true):
  ME X ad (.Call (.Attribute o "count" ap) [a] [] cp) (rC wU f g):=by
 refine yJ PySem.F.slot_list_count PySem.F.type_list_count ho ha hs hbase hline ?_;intro T s S H G l U h y v u Q E I x O M q r k
 have c:RK X.K ad G H (if aGd y h then .ok (.int ((h.countP λz=>deq z y):Nat))else .bad) Q E:=k
 by_cases d:aGd y h=true
 ·rw[if_pos d]at c;obtain⟨i,J,⟨⟨L,dd,p,N⟩,n,j,m,B,t⟩,_⟩:=I.list O
  simp only at m B t
  subst m t;obtain⟨e,C,_,b,_⟩:=aEq hu I x d q r M J;refine call_meets PySem.F.slot_list_count ⟨_,j,rfl⟩ PySem.F.entry_list_count (PySem.F.args_list_count_2 _ _) (SeqAt.list_countAt l i.toArray n dd N u e) ⟨j,C,?_⟩;refine⟨.int _,H,I.tok _,⟨_,rfl⟩,?_⟩;rw[<-b]at c;exact c.ok_now x bR
 ·rw[if_neg d]at c;exact c.elim
theorem aCq(hu:X.A.units+62<cLine)(ho:ML X ad o f)(ha:ME X ad a g)(hs:starEach [a] X.env=(false,eval a X.env)::starEach [] X.env)(hbase:attributeBase o "index" X.env (eval o X.env)=eval o X.env)(hline:(ap.endLine==cp.line)=true):
  ME X ad (.Call (.Attribute o "index" ap) [a] [] cp) (rC wV f g):=by
 refine yJ PySem.F.slot_list_index PySem.F.type_list_index ho ha hs hbase hline ?_;intro ce s σ H G l xs d y v u Q E I M Z W q r k
 have c:RK X.K ad G H (if aGd y d then(match d.findIdx? λz=>deq z y with|some k=>.ok (.int (k:Nat))|none=>.bad)else .bad) Q E:=k
 by_cases i:aGd y d=true
 ·rw[if_pos i]at c;obtain⟨t,J,⟨⟨U,dd,C,Y⟩,n,x,B,O,L⟩,hz⟩:=I.list Z
  simp only at B O L
  subst B L;obtain⟨e,T,_,_,b⟩:=aEq hu I M i q r W J
  cases N:d.findIdx? λz=>deq z y with
  |none=>rw[N]at c;exact c.elim
  |some j=>
   rw[N]at c b;obtain⟨S,hit,h⟩:=List.findIdx?_eq_some_iff_getElem.mp b;have hl:=J.length;refine call_meets PySem.F.slot_list_index ⟨_,x,rfl⟩ PySem.F.entry_list_index (PySem.F.args_list_index_2 _ _) (SeqAt.list_indexAt l t.toArray n dd Y u e j (by simpa using S) ?_ (by simpa using hit) (λm hm p=>by simpa using h m p)) ⟨x,T,?_⟩
   ·have:(sizeLine:Nat)<2^63-1:=by decide
    lia
   ·exact⟨.int _,H,I.tok _,⟨_,rfl⟩,c.ok_now M bR⟩
 ·rw[if_neg i]at c;exact c.elim
def iZp(K:PySem.W.Frag)(ta:TA):TI:=λσ H R=>ta σ H λvs H1=>∃t t2 l m xs ys,vs=[.ref l,.ref m]/\SqA t K H1 l xs/\SqA t2 K H1 m ys/\(xs.length<=sizeLine->R (aHn t t2 K l m) H1)
theorem aMi{kt}(hg:L2.Gl X "zip")(hm:X.mg "zip"=none)(ha:PA X [a,b] ta)(he:starEach [a,b] X.env=(false,eval a X.env)::starEach [b] X.env)(he2:starEach [b] X.env=(false,eval b X.env)::starEach [] X.env):
  PI X (.Tuple es kt tp) (.Call (.Name "zip" p) [a,b] [] pos) (iZp X.K ta):=by
 intro J s G H R I h;refine Call_ (fN (u:=.type "zip") I hg hm (by decide+kernel) (PyProof.Rows.callWith_type1 (L2.thn (ha pos J s G H _ I h) λus c ⟨vs,Q,f,C,q1⟩=>?_) he (by rw[he2];rfl)) (by decide) (by decide))
 obtain⟨t,z,l,m,xs,Y,rfl,g,i,q⟩:=q1;obtain⟨u,v,rfl,L,M⟩:=C.two
 cases (show u=Value.ref l from L)
 cases (show v=Value.ref m from M)
 obtain⟨T,_,j,A⟩:=dX f g;obtain⟨r,_,y,_⟩:=dX f i;refine pR j y λZ n B E S U a6 W=>wpAny_pyIter_zip n ?_
 have N:l<c.heap.objs.size:=by cases t<;>(obtain⟨o,e,_⟩:=j;exact ah e)
 have O:m<c.heap.objs.size:=by cases z<;>(obtain⟨o,e,_⟩:=y;exact ah e)
 refine⟨c.heap.objs.size+4,[c.heap.objs.size+4,c.heap.objs.size+2,c.heap.objs.size+3,c.heap.objs.size,c.heap.objs.size+1],_,aHn t z X.K l m,Q,rfl,f.kept (t':=c.toks) W,yI (pO N O),⟨n,B,⟨_,_,E⟩,S,U⟩,λb x=>?_,q A⟩
 have d:c.heap.objs.size<=b:=by
  simp only[av,List.not_mem_nil,or_false]at x;rcases x with rfl|rfl|rfl|rfl|rfl
  ·exact Nat.le_add_right _ 4
  ·exact Nat.le_add_right _ 2
  ·exact Nat.le_add_right _ 3
  ·exact aj _
  ·exact Nat.le_add_right _ 1
 exact f.fpOk d (f.hok.fresh d)
theorem yK{ds es:List D}{i:Nat}(e:((ds.zip es).map λp=>D.tup [p.1,p.2])[i]? =some d): ∃x y,ds[i]? =some x/\es[i]? =some y/\d= .tup [x,y]:=by
 rw[List.getElem?_map]at e
 cases q:(ds.zip es)[i]? with
 |none=>rw[q]at e;cases e
 |some p=>
  rw[q]at e;rw[List.getElem?_zip_eq_some]at q;exact⟨p.1,p.2,q.1,q.2,(Option.some.inj e).symm⟩
def isA:Bool->List D->D->Prop
 |true,ds,d=>d= .tup ds
 |false,ds,d=>d= .lst ds
theorem nI(c:isA t ds d)(r:Rep X.K ad G1 d v): ∃l vs,v= .ref l/\SqA t X.K G1 l vs/\aJ X.K ad G1 ds vs:=by
 cases t with
 |true=>cases c;unfold Rep at r;exact r
 |false=>cases c;unfold Rep at r;exact r
theorem aCr{G1 H1 H2:Hp}{x:V}(h1:SqA t X.K G1 l vs)(r1:aJ X.K ad G1 ds vs)(h2:SqA t2 X.K G1 m ws)(r2:aJ X.K ad G1 es ws)(hg:Same G1 H1)(e:((ds.zip es).map λp=>D.tup [p.1,p.2])[i]? =some d):
  (aHn t t2 X.K l m).go i H1/\∀x H2,(aHn t t2 X.K l m).yld i H1 x H2->∃G2,Step G1 H1 G2 H2/\Rep X.K ad G2 d x:=by
 obtain⟨x,y,j,n,rfl⟩:=yK e;obtain⟨v,a,q1⟩:=r1.get j;obtain⟨w,c,r⟩:=r2.get n;refine⟨⟨vs,ws,v,w,aW hg h1,aW hg h2,a,c⟩,?_⟩;rintro z o ⟨p,u,A,g,rfl,q,s,rfl⟩;have h:=q vs (aW hg h1);rw[a]at h;cases h;have f:=s ws (aW hg h2);rw[c]at f;cases f;refine⟨upd G1 p (.tup [v,w]),Step.new hg g,?_⟩;have b:Same G1 (upd G1 p (.tup [v,w])):=Same.upd_new (hg.free g);unfold Rep;exact⟨p,[v,w],rfl,SqT.of aF,aJ.cons (q1.mono b) (aJ.cons (r.mono b) aJ.nil)⟩
theorem aCs{G1 H1:Hp}{ds es:List D}(h1:SqA t X.K H1 l vs)(n1:vs.length=ds.length)(h2:SqA t2 X.K H1 m ws)(n2:ws.length=es.length):(aHn t t2 X.K l m).stop ((ds.zip es).map λp=>D.tup [p.1,p.2]).length H1:=by
 refine⟨vs,ws,h1,h2,?_⟩;simp only[aq,List.length_zip]
 lia
theorem aMj{kt}(hg:L2.Gl X "zip")(hm:X.mg "zip"=none)(ha:ME X ad a f)(hb:ME X ad b g)(he:starEach [a,b] X.env=(false,eval a X.env)::starEach [b] X.env)(he2:starEach [b] X.env=(false,eval b X.env)::starEach [] X.env):
  MI X ad (.Tuple es kt tp) (.Call (.Name "zip" p) [a,b] [] pos) (o7 f g):=by
 rintro Y s u H W I ⟨G,ρ,E,hG,M,B,hr⟩;refine aMi (ta:=q9 (tE X ad f) (q9 (tE X ad g) aJ4)) hg hm (bY ha (bY hb dZ he2) he) he he2 Y s u H W I ?_;show tE X ad f u H λv O=>tE X ad g u O λC H2=>∃t q l m xs ys,[v,C]=[.ref l,.ref m]/\SqA t X.K H2 l xs/\SqA q X.K H2 m ys/\(xs.length<=sizeLine->W (aHn t q X.K l m) H2)
 refine rQ hG M B hr λv d G1 O N r k=>?_
 refine rQ N.gh (M.step N) B k λC A J H2 st2 Z c=>?_
 obtain⟨t,q,z,o,c1,c2,c⟩: ∃t q z o,isA t z d/\isA q o A/\IK X ad J H2 (.ok (.lst ((z.zip o).map λp=>D.tup [p.1,p.2]))) W E:=by
  cases d<;>try exact ba c
  ·cases A<;>try exact ba c
   ·exact⟨true,true,_,_,rfl,rfl,c⟩
   ·exact⟨true,false,_,_,rfl,rfl,c⟩
  ·cases A<;>try exact ba c
   ·exact⟨false,true,_,_,rfl,rfl,c⟩
   ·exact⟨false,false,_,_,rfl,rfl,c⟩
 obtain⟨al,e,hw⟩:=c;cases e;obtain⟨l,U,rfl,q1,T⟩:=nI c1 r;obtain⟨m,ws,rfl,y,S⟩:=nI c2 Z;have j:=aW st2.sg q1;have n:=T.mono st2.sg;refine⟨t,q,l,m,U,ws,rfl,aW st2.gh j,aW st2.gh y,λab=>hw _ J H2 (Step.refl st2.gh) ⟨λi L Q d' h e=>?_,λL Q h=>aCs (G1:=L) (aW h.sh (aW st2.gh j)) n.length (aW h.sh (aW st2.gh y)) S.length,?_⟩⟩
 ·exact aCr (H2:=Q) (x:=.ref l) (aW h.sg j) (n.mono h.sg) (aW h.sg y) (S.mono h.sg) h.gh e
 ·have:=n.length
  simp only[aq,List.length_zip]
  lia
end
section
variable {X:Cx} {ad:Ad} {ce:cg} {s:Shared} {σ:St} {H G:Hp} {ρ:Rho} {Q:VK} {E:Nat->Hp->Prop} {pos p p2 pos2:Pos} {a:Expr} {f:F}
end
section
variable {prog:Program} {w:World} {A:Around} {Ex:cf} {s:Shared}
end
section
variable {X:Cx} {ad:Ad}
end
section
variable {prog:Program} {w:World} {A:Around} {Ex:cf} {s:Shared}
end
section
variable {prog:Program} {w:World} {A:Around} {Ex:cf} {s:Shared}
end
section
variable {X:Cx} {ad:Ad} {pos p p2 pos2:Pos} {a:Expr} {f:F}
end
theorem yL: ∀(l:List Int) (m:Int),m<=aBv m l/\∀x∈l,x<=aBv m l
 |[],m=>⟨Int.le_refl _,nofun⟩
 |i::r,m=>by
  have h:=yL r (if m<i then i else m)
  unfold aBv
  by_cases c:m<i
  ·rw[if_pos c]at h ⊢;exact⟨by lia,λx a=>by rcases av.1 a with e|e;(subst e;exact h.1);exact h.2 x e⟩
  ·rw[if_neg c]at h ⊢;exact⟨h.1,λx a=>by rcases av.1 a with e|e;(subst e;lia);exact h.2 x e⟩
theorem t7: ∀(l:List Int) (m:Int),aBv m l∈m::l
 |[],m=>.head _
 |i::r,m=>by
  unfold aBv;have h:=t7 r (if m<i then i else m)
  by_cases c:m<i
  ·rw[if_pos c]at h ⊢;exact .tail _ h
  ·rw[if_neg c]at h ⊢;rcases av.1 h with e|e
   ·rw[e];exact .head _
   ·exact .tail _ (.tail _ e)
theorem aRy(hj:j<(n::r).length)(h: ∀i,i<(n::r).length->(n::r).getD i 0<=(n::r).getD j 0):(n::r).getD j 0=aBv n r:=by
 have a:=yL r n;have b:=getD_mem hj;obtain⟨k,hk,e⟩:=mem_getD (t7 r n);have c:=h k hk
 have d:(n::r).getD j 0<=aBv n r:=by
  rcases av.1 b with e|e
  ·rw[e];exact a.1
  ·exact a.2 _ e
 rw[e]at c;lia
section
variable {X:Cx} {ad:Ad}
end
section
variable {prog:Program} {w:World} {A:Around} {Ex:cf} {s:Shared}
end
section
variable {prog:Program} {w:World} {A:Around} {Ex:cf} {s:Shared}
end
section
open AutoSeq1 (wpAny_loadPart')
open MeetsSeq MeetsSeq2 MeetsSeq3 SeqRoads2 SeqAt
end
section
variable {X:Cx} {ad:Ad} {ce:cg} {s:Shared} {σ:St} {H G:Hp} {ρ:Rho} {Q:VK} {E:Nat->Hp->Prop} {pos p ap cp tp:Pos} {o a b c tg:Expr} {f g h:F}
end
abbrev k8(h:Heap)(z TI TO T:Addr)(f:Bool):Prop:=h.get? z=some {cls:=.type "zip",dict:=none,data:=.fields #[rawInt T,.bool f,.bool false,.ref TI,.ref TO],slots:= #[]}
section
variable {prog:Program} {w:World} {A:Around} {Ex:cf} {s:Shared} {t t2:Bool}
theorem aMk(ho:s.heap.get? a=some o)(h:Q (some o) s):wpAny (model prog w) A (loadIfAlive a) Q Ex s:=by
 have b:Q (s.heap.get? a) s:=by rw[ho];exact h
 exact λ_ _ _=>b
theorem aMl{z TI TO T:Addr}(hz:k8 s.heap z TI TO T f)(hT:s.heap.get? T=some o)(hQ: ∀h',k8 h' z TI TO T true->Heap.SameBut z s.heap h'->Q false {s with heap:=h'}):
  wpAny (model prog w) A (Builtin.SmallTypes.ownedTupleIsFree (.ref z)) Q Ex s:=by
 unfold Builtin.SmallTypes.ownedTupleIsFree;refine aa (wpAny_field hz rfl (x:=rawInt T) rfl ?_);show wpAny _ _ (loadIfAlive ((T:Int).toNat) >>= _) _ _ _;rw[Int.toNat_natCast];refine aa (aMk hT ?_);simp only[Option.isNone_some,az,if_false];refine aa (wpAny_field hz rfl (x:=.bool f) rfl ?_)
 cases f with
 |true=>
  rw[if_neg (show ¬((Value.bool true != Value.bool true)=true) from bg)]
  exact ae (hQ s.heap hz (Heap.SameBut.refl _ _))
 |false=>
  rw[if_pos (show(Value.bool false != Value.bool true)=true from rfl)]
  refine aa (wpAny_setField_rec hz (by simp) λc b a=>?_)
  exact ae (hQ c b a)
theorem yM{z TI TO i1 i2 l1 l2 T:Addr}(D:ZipApart z TI TO i1 i2 l1 l2)(hz:k8 s.heap z TI TO T f)(hT:s.heap.get? T=some o)(hTI:IsPair s.heap TI (.ref i1) (.ref i2))(h1:ItA t s.heap i1 l1 k1)(h2:ItA t2 s.heap i2 l2 k2)(hl1:SeA t s.heap l1 xs)(hl2:SeA t2 s.heap l2 ys)(hx:xs[k1]? =some x)(hy:ys[k2]? =some y)(hQ: ∀h',k8 h' z TI TO T true->ItA t h' i1 l1 (k1+1)->ItA t2 h' i2 l2 (k2+1)->IsPair h' s.heap.objs.size x y->h'.objs.size=s.heap.objs.size+1->
   (∀c o,c≠z->c≠i1->c≠i2->s.heap.get? c=some o->h'.get? c=some o)->Q (some (.ref s.heap.objs.size)) {s with heap:=h'}):wpAny (model prog w) A (pyNext (.ref z)) Q Ex s:=by
 have i:s.TypeIs (.ref z) "zip":=⟨_,hz,rfl⟩;have a: ∀{t:Bool} {h h':Heap} {it l:Addr} {k:Nat} {c:Addr},ItA t h it l k->Heap.SameBut c h h'->it≠c->ItA t h' it l k:=λq u r=>bS q λo e=>(u.2 _ r).trans e
 have b: ∀{t:Bool} {h h':Heap} {l:Addr} {it:Array Value} {c:Addr},SeA t h l it->Heap.SameBut c h h'->l≠c->SeA t h' l it:=λq u r=>nG q λo e=>(u.2 _ r).trans e
 unfold pyNext;refine aa (wpAny_attempt (wpAny_callSpecial?_slot (name:=Str.ofString "__next__") i F.slot_zip_next (wpAny_call_entry F.slot_zip_next i F.entry_zip_next ?_ (F.args_zip_next_1 _))));show wpAny _ _ (field (.ref z) 2 >>= _) _ _ _;refine aa (wpAny_field hz rfl (x:=.bool false) rfl ?_);show wpAny _ _ (field (.ref z) 3 >>= _) _ _ _;refine aa (wpAny_field hz rfl (x:=.ref TI) rfl (aa (wpAny_seqItems hTI rfl ?_)));show wpAny _ _ (Builtin.SmallTypes.ownedTupleIsFree (.ref z) >>= _) _ _ _;refine aa (aMl hz hT λI H g=>?_)
 simp only[az,if_false];refine aa ?_;simp only[Array.forIn_toList,List.forIn_toArray,List.forIn_cons,List.forIn_nil];refine aa (aa (wpAny_holding ?_));show wpAny _ _ (Builtin.SmallTypes.nextOf (.ref i1) >>= _) _ _ _;refine aa (d9 (a h1 g D.i1z) (b hl1 g D.l1z) hx λJ E j=>ae ?_)
 refine ae (aa (aa (wpAny_holding ?_)));show wpAny _ _ (Builtin.SmallTypes.nextOf (.ref i2) >>= _) _ _ _;refine aa (d9 (a (a h2 g D.i2z) j D.i12.symm) (b (b hl2 g D.l2z) j D.l2i1) hy λd B m=>ae ?_)
 refine ae (ae (aa (wpAny_newTuple (hsz:=by rw[sizeLine_eq];simp) ?_)))
 have hsz:d.objs.size=s.heap.objs.size:=by rw[m.1,j.1,g.1]
 have C:k8 d z TI TO T true:=(m.2 _ D.i2z.symm).trans ((j.2 _ D.i1z.symm).trans H)
 have G: ∀c o,c≠z->c≠i1->c≠i2->s.heap.get? c=some o->d.get? c=some o:=λc o v n p e=>(m.2 _ p).trans ((j.2 _ n).trans ((g.2 _ v).trans e))
 have up: ∀{c:Addr} {x':Obj},d.get? c=some x'->(d.push {cls:=.type "tuple",data:=.seq #[x,y]}).get? c=some x':=λe=>af _ e
 refine ae ⟨_,rfl,ae ?_⟩;show Q (some (.ref d.objs.size)) _;rw[hsz];refine hQ _ (up C) ?_ ?_ (by rw[<-hsz];exact ag _ rfl) (by rw[ai,hsz]) λc o v n p e=>up (G c o v n p e)
 ·exact bS (a E m D.i12) λo e=>up e
 ·exact bS B λo e=>up e
theorem aCt{z TI TO i1 i2 l1 l2 T:Addr}(hh:A.handled=none)(D:ZipApart z TI TO i1 i2 l1 l2)(hz:k8 s.heap z TI TO T f)(hT:s.heap.get? T=some o)(hTI:IsPair s.heap TI (.ref i1) (.ref i2))(h1:ItA t s.heap i1 l1 k1)(h2:ItA t2 s.heap i2 l2 k2)(hl1:SeA t s.heap l1 xs)(hl2:SeA t2 s.heap l2 ys)(he:xs[k1]? =none\/ys[k2]? =none)(hQ: ∀h',(∀c o,c≠z->c≠TO->c≠i1->c≠i2->s.heap.get? c=some o->h'.get? c=some o)->Q none {s with heap:=h'}):wpAny (model prog w) A (pyNext (.ref z)) Q Ex s:=by
 have i:s.TypeIs (.ref z) "zip":=⟨_,hz,rfl⟩;have d: ∀{t:Bool} {h h':Heap} {it l:Addr} {k:Nat} {c:Addr},ItA t h it l k->Heap.SameBut c h h'->it≠c->ItA t h' it l k:=λq u p=>bS q λo e=>(u.2 _ p).trans e
 have a: ∀{t:Bool} {h h':Heap} {l:Addr} {it:Array Value} {c:Addr},SeA t h l it->Heap.SameBut c h h'->l≠c->SeA t h' l it:=λq u p=>nG q λo e=>(u.2 _ p).trans e
 unfold pyNext
 have m: ∀(h':Heap) (e:Addr),(∀c o,c≠z->c≠TO->c≠i1->c≠i2->s.heap.get? c=some o->h'.get? c=some o)->(∃o,h'.get? e=some o/\o.cls= .type "StopIteration")->wpAny (model prog w) A (do if(<-isInstance (.ref e) (.type "StopIteration"))=true then pure none else throw (.ref e)) Q Ex {s with heap:=h'}:=λh' e G he=>by
  obtain⟨o,I,E⟩:=he;exact aa (wpAny_isInstance (T:="StopIteration") (b:=true) ⟨o,I,E⟩ isSubtype_stop (ae (hQ _ G)))
 refine aa (wpAny_attempt (wpAny_callSpecial?_slot (name:=Str.ofString "__next__") i F.slot_zip_next (wpAny_call_entry F.slot_zip_next i F.entry_zip_next ?_ (F.args_zip_next_1 _))));show wpAny _ _ (field (.ref z) 2 >>= _) _ _ _;refine aa (wpAny_field hz rfl (x:=.bool false) rfl ?_);show wpAny _ _ (field (.ref z) 3 >>= _) _ _ _;refine aa (wpAny_field hz rfl (x:=.ref TI) rfl (aa (wpAny_seqItems hTI rfl ?_)));show wpAny _ _ (Builtin.SmallTypes.ownedTupleIsFree (.ref z) >>= _) _ _ _;refine aa (aMl hz hT λK N g=>?_)
 simp only[az,if_false];refine aa ?_;simp only[Array.forIn_toList,List.forIn_toArray,List.forIn_cons,List.forIn_nil];refine aa (aa (wpAny_holding ?_));show wpAny _ _ (Builtin.SmallTypes.nextOf (.ref i1) >>= _) _ _ _
 cases r:xs[k1]? with
 |none=>
  refine aa (iE hh (d h1 g D.i1z) (a hl1 g D.l1z) r λy e j he=>?_)
  exact m y e (λc o v _ n _ x=>j _ _ n ((g.2 _ v).trans x)) he
 |some x=>
  have J:ys[k2]? =none:=he.resolve_left λh=>by rw[r]at h;cases h
  refine aa (d9 (d h1 g D.i1z) (a hl1 g D.l1z) r λy M j=>ae ?_)
  refine ae (aa (aa (wpAny_holding ?_)));show wpAny _ _ (Builtin.SmallTypes.nextOf (.ref i2) >>= _) _ _ _;refine aa (iE hh (d (d h2 g D.i2z) j D.i12.symm) (a (a hl2 g D.l2z) j D.l2i1) J λB e H he=>?_)
  exact m B e (λc o v L n C x=>H _ _ C ((j.2 _ n).trans ((g.2 _ v).trans x))) he
end
def ZS(t t2:Bool)(z TI TO i1 i2 l m N:Addr)(i:Nat)(h:Heap):Prop:=
 (IsZip h z TI TO .none\/∃T f o,k8 h z TI TO T f/\N<=T/\h.get? T=some o)/\IsPair h TI (.ref i1) (.ref i2)/\(∃a b,IsPair h TO a b)/\ItA t h i1 l i/\ItA t2 h i2 m i
structure ZB(z TI TO i1 i2 N:Addr):Prop where
 z:z<N
 TI:TI<N
 TO:TO<N
 i1:i1<N
 i2:i2<N
section
variable {prog:Program} {w:World} {A:Around} {Ex:cf} {s:Shared} {t t2:Bool} {z TI TO i1 i2 l m N:Addr}
theorem ZS.keep(B:ZB z TI TO i1 i2 N)(q:ZS t t2 z TI TO i1 i2 l m N i h)(k: ∀c o,(c=z\/c=TI\/c=TO\/c=i1\/c=i2\/N<=c)->h.get? c=some o->h'.get? c=some o):ZS t t2 z TI TO i1 i2 l m N i h':=by
 obtain⟨d,q1,⟨a,b,j⟩,g,n⟩:=q;refine⟨?_,k _ _ (by simp) q1,⟨a,b,k _ _ (by simp) j⟩,bS g λo e=>k _ o (by simp) e,bS n λo e=>k _ o (by simp) e⟩
 rcases d with d|⟨T,f,o,d,hN,hT⟩
 ·exact .inl (k _ _ (by simp) d)
 ·exact .inr ⟨T,f,o,k _ _ (by simp) d,hN,k _ _ (by simp[hN]) hT⟩
theorem aHp(D:ZipApart z TI TO i1 i2 l m)(B:ZB z TI TO i1 i2 N)(hN:N<=s.heap.objs.size)(q:ZS t t2 z TI TO i1 i2 l m N i s.heap)(hl1:SeA t s.heap l xs)(hl2:SeA t2 s.heap m ys)(hx:xs[i]? =some x)(hy:ys[i]? =some y)(hQ: ∀h',ZS t t2 z TI TO i1 i2 l m N (i+1) h'->IsPair h' s.heap.objs.size x y->h'.objs.size=s.heap.objs.size+1->
   (∀c o,c≠z->c≠TO->c≠i1->c≠i2->s.heap.get? c=some o->h'.get? c=some o)->Q (some (.ref s.heap.objs.size)) {s with heap:=h'}):wpAny (model prog w) A (pyNext (.ref z)) Q Ex s:=by
 obtain⟨g,q1,⟨a,b,v⟩,u,C⟩:=q;rcases g with g|⟨T,f,o,g,hT,hTo⟩
 ·refine pQ D g q1 v u C hl1 hl2 hx hy λh' n E j p h r d=>hQ h' ⟨.inr ⟨_,false,_,n,hN,h⟩,d _ _ D.TIz D.TITO D.TIi1 D.TIi2 q1,⟨_,_,E⟩,j,p⟩ h r d
 ·have I:=B.z;have J:=B.i1;have L:=B.i2;have M:=B.TO;refine yM D g hTo q1 u C hl1 hl2 hx hy λh' n j p h r d=>hQ h' ⟨.inr ⟨T,true,_,n,hT,d _ _ ?_ ?_ ?_ hTo⟩,d _ _ D.TIz D.TIi1 D.TIi2 q1,⟨_,_,d _ _ D.TOz D.TOi1 D.TOi2 v⟩,j,p⟩ h r λc o K O G H e=>d c o K G H e
  ·exact Nat.ne_of_gt (bh I hT)
  ·exact Nat.ne_of_gt (bh J hT)
  ·exact Nat.ne_of_gt (bh L hT)
theorem aMm(hh:A.handled=none)(D:ZipApart z TI TO i1 i2 l m)(q:ZS t t2 z TI TO i1 i2 l m N i s.heap)(hl1:SeA t s.heap l xs)(hl2:SeA t2 s.heap m ys)(he:xs[i]? =none\/ys[i]? =none)(hQ: ∀h',(∀c o,c≠z->c≠TO->c≠i1->c≠i2->s.heap.get? c=some o->h'.get? c=some o)->Q none {s with heap:=h'}):wpAny (model prog w) A (pyNext (.ref z)) Q Ex s:=by
 obtain⟨d,q1,⟨a,b,h⟩,e,g⟩:=q;rcases d with d|⟨T,f,o,d,hT,hTo⟩
 ·exact t0 hh D d q1 h e g hl1 hl2 he hQ
 ·exact aCt hh D d hTo q1 e g hl1 hl2 he hQ
end
theorem Step.put(st:Step G H G' H')(n:H S=none)(g:G' S=none):Step G H G' (upd H' S o):=
 ⟨st.sg,λb u e=>by rw[aB (aM e g)];exact st.gh b u e,λb u e=>by rw[aB (aM e n)];exact st.sh b u e,st.nw⟩
section
variable {X:Cx} {ad:Ad} {ce:cg} {σ:L2.St} {t t2:Bool} {z TI TO i1 i2 l m N S:Addr} {A:Around} {R:Result->Shared->Prop}
noncomputable abbrev pD(ds es:List D):List D:=(ds.zip es).map λp=>D.tup [p.1,p.2]
theorem aCu(hh:A.handled=none)(D:ZipApart z TI TO i1 i2 l m)(B:ZB z TI TO i1 i2 N)(hSN:S<N)(res:Value)(hq1:SqA t X.K G0 l xs)(hq2:SqA t2 X.K G0 m ys)(hr1:aJ X.K ad G0 ds xs)(hr2:aJ X.K ad G0 es ys)(hS0:H0 S=none):
  ∀(k i:Nat) (G H:Hp) (s:Shared) (acc:Array Value) (c:Nat) (vs:List V),(pD ds es).length-i=k->i<=(pD ds es).length->N<=s.heap.objs.size->Inv X ce σ H s->(∀b∈[z,TI,TO,i1,i2],oI X ce H b)->Step G0 H0 G H->G S=none->H S=some (.lst vs)->
   ZS t t2 z TI TO i1 i2 l m N i s.heap->s.heap.get? S=some {cls:=.type "list",dict:=none,data:=.seq acc c,slots:= #[]}->cN vs acc.toList->aJ X.K ad G ((pD ds es).take i) vs->
   (∀s' G' H' vs',Inv X ce σ H' s'->Step G0 H0 G' H'->G' S=none->H' S=some (.lst vs')->aJ X.K ad G' (pD ds es) vs'->R (.ok (.ret res)) s')->
   codeAny (model X.prog X.w) A (.builtin "list.extend.loop" ⟨[.ref S,.ref z,res],[]⟩) R s:=by
 intro k
 induction k with
 |zero=>
  intro i G H s acc c vs hk hi j I O g gS Q W M hv E hR
  have L:i=(pD ds es).length:=by lia
  obtain⟨us,T,Y,_⟩:=dX I (aW g.gh (aW g.sg hq1));obtain⟨ws,r2,p2,_⟩:=dX I (aW g.gh (aW g.sg hq2));have n1:=T.length;have n2:=r2.length;have n3:=hr1.length;have n4:=hr2.length;refine codeAny_builtin F.entry_extend_loop ?_;rw[Around.under_plainId F.plain_extend_loop _];show wpAny _ A.in1 (pyNext (.ref z) >>= _) _ _ s;refine aa (aMm hh D W Y p2 ?_ λr kp=>?_)
  ·simp only[pD,aq,List.length_zip]at L
   by_cases q:us.length<=i
   ·exact .inl (by simpa using q)
   ·exact .inr (by simp;lia)
  ·have I2:Inv X ce σ H {s with heap:=r}:=fV (t':=s.toks) I (λb o a e=>by
    simp only[av,List.not_mem_nil,or_false,not_or]at a;exact kp b o a.1 a.2.2.1 a.2.2.2.1 a.2.2.2.2 e) O
   refine ae (hR _ G H vs I2 g gS Q ?_);rw[L,List.take_length]at E;exact E
 |succ k ih=>
  intro i G H s acc c vs hk hi j I O g gS Q W M hv E hR;have n:i<(pD ds es).length:=by lia
  obtain⟨us,T,Y,z1⟩:=dX I (aW g.gh (aW g.sg hq1));obtain⟨ws,r2,p2,_⟩:=dX I (aW g.gh (aW g.sg hq2));obtain⟨d1,d2,e1,e2,hd⟩:=yK (bf n);obtain⟨x,g1,q1⟩:=hr1.get e1;obtain⟨y,g2,q2⟩:=hr2.get e2;obtain⟨u,hu,ru⟩:=T.get g1;obtain⟨v,hw,rv⟩:=r2.get g2;have n3:=hr1.length
  have nv:vs.length=i:=by rw[E.length,List.length_take];lia
  have na:acc.size=i:=by have:=hv.length;simp at this;lia
  have il:i+1<=sizeLine:=by simp only[pD,aq,List.length_zip]at n;lia
  refine codeAny_builtin F.entry_extend_loop ?_;rw[Around.under_plainId F.plain_extend_loop _];show wpAny _ A.in1 (pyNext (.ref z) >>= _) _ _ s;refine aa (aHp D B j W Y p2 (x:=u) (y:=v) (by simpa using hu) (by simpa using hw) λr U a5 a6 a7=>?_)
  have Z:H s.heap.objs.size=none:=I.hok.fresh (aj _)
  have Ia:Inv X ce σ (upd H s.heap.objs.size (.tup [x,y])) {s with heap:=s.heap.push {cls:=.type "tuple",data:=.seq #[u,v]} }:=
   I.laid (t':=s.toks) (λb o e=>af _ e) (aj _) (show ObjOk X.prog X.w _ _ _ (.tup [x,y]) from⟨by rw[sizeLine_eq];simp,[u,v],.cons ru (.cons rv .nil),⟨_,ag _ rfl,rfl,_,rfl⟩,⟨_,ag _ rfl,rfl⟩⟩)
  have bz:=B.z;have b1:=B.i1;have b2:=B.i2;have b3:=B.TO;have b4:=B.TI
  have ab: ∀b∈[z,TI,TO,i1,i2],b≠s.heap.objs.size:=λb a=>by
   simp only[av,List.not_mem_nil,or_false]at a;rcases a with rfl|rfl|rfl|rfl|rfl
   ·exact bj (bh bz j)
   ·exact bj (bh b4 j)
   ·exact bj (bh b3 j)
   ·exact bj (bh b1 j)
   ·exact bj (bh b2 j)
  have J:S≠s.heap.objs.size:=bj (bh hSN j)
  have d: ∀b∈[z,TI,TO,i1,i2],b≠S:=λb a e=>by
   have:=(O b a).1
   rw[e,Q]at this;cases this
  have p: ∀b∈[z,TI,TO,i1,i2],oI X ce (upd H s.heap.objs.size (.tup [x,y])) b:=λb a=>⟨by rw[aB (ab b a)];exact(O b a).1,(O b a).2⟩
  have Ib:Inv X ce σ (upd H s.heap.objs.size (.tup [x,y])) {s with heap:=r}:=by
   refine fV (s:={s with heap:=s.heap.push {cls:=.type "tuple",data:=.seq #[u,v]} }) (t':=s.toks) Ia (λb o a e=>?_) p
   simp only[av,List.not_mem_nil,or_false,not_or]at a
   by_cases hq:b=s.heap.objs.size
   ·subst hq;rw[show(s.heap.push {cls:=.type "tuple",data:=.seq #[u,v]}).get? s.heap.objs.size=some _ from ag _ rfl]at e
    cases e;exact a5
   ·have e2:s.heap.get? b=some o:=by
     exact(Heap.get?_push_ne _ b _ hq).symm.trans e
    exact a7 b o a.1 a.2.2.1 a.2.2.2.1 a.2.2.2.2 e2
  have ac:(upd H s.heap.objs.size (.tup [x,y])) S=some (.lst vs):=by rw[aB J];exact Q
  have f:r.get? S=some {cls:=.type "list",dict:=none,data:=.seq acc c,slots:= #[]}:=a7 S _ (Ne.symm (d z (by simp))) (Ne.symm (d TO (by simp))) (Ne.symm (d i1 (by simp))) (Ne.symm (d i2 (by simp))) M
  have st1:Step G H (upd G s.heap.objs.size (.tup [x,y])) (upd H s.heap.objs.size (.tup [x,y])):=Step.new g.gh Z
  have rp:Rep X.K ad (upd G s.heap.objs.size (.tup [x,y])) (.tup [d1,d2]) (.ref s.heap.objs.size):=by
   unfold Rep;exact⟨_,[x,y],rfl,SqT.of aF,aJ.cons (q1.mono (g.sg.trans st1.sg)) (aJ.cons (q2.mono (g.sg.trans st1.sg)) aJ.nil)⟩
  have C:(upd G s.heap.objs.size (.tup [x,y])) S=none:=by rw[aB J];exact gS
  show wpAny _ A.in1 (updateSeq S (·.push (.ref s.heap.objs.size)) >>= _) _ _ _
  refine aa ?_
  have wM:cN (vs++[.ref s.heap.objs.size]) (acc.push (.ref s.heap.objs.size)).toList:=by
   rw[Array.toList_push];exact hv.append (.cons rfl .nil)
  refine wpAny_updateSeq f rfl (ae ⟨plainId_quiet F.plain_extend_loop _,ih (i+1) (upd G s.heap.objs.size (.tup [x,y])) (upd (upd H s.heap.objs.size (.tup [x,y])) S (.lst (vs++[.ref s.heap.objs.size]))) _ (acc.push (.ref s.heap.objs.size)) _ (vs++[.ref s.heap.objs.size]) (by lia) n ?_ ?_ ?_ ((g.trans st1).put hS0 C) C aF (ZS.keep B U λc o h e=>?_) (Heap.get?_update_self _ f rfl) wM ?_ hR⟩)
   (by rw[na];lia) (by show(acc.push _).size<=sizeLine+1;rw[Array.size_push,na];lia)
  ·show N<=(r.update S _).objs.size;rw[Heap.size_update,a6];exact Nat.le_succ_of_le j
  ·refine Inv.write (t':=s.toks) Ib (x:=S) (e:=S) (by rw[ac];trivial) (.inl rfl) (λb o a e=>(Heap.get?_update_other _ _ (Ne.symm a)).trans e) ⟨_,Heap.get?_update_self _ f rfl⟩ ?_
   exact show ObjOk X.prog X.w _ _ _ (.lst _) from⟨by simp;lia,(acc.push (.ref s.heap.objs.size)).toList,_,wM,by rw[Array.toArray_toList];exact Heap.get?_update_self (Obj.mapSeq (·.push (.ref s.heap.objs.size))) f rfl⟩
  ·intro b a;refine⟨?_,(p b a).2⟩;rw[aB (d b a)];exact(p b a).1
  ·refine(Heap.get?_update_other _ _ (λq:S=c=>?_)).trans e
   subst q;rcases h with h|h|h|h|h|h
   ·exact d z (by simp) h.symm
   ·exact d TI (by simp) h.symm
   ·exact d TO (by simp) h.symm
   ·exact d i1 (by simp) h.symm
   ·exact d i2 (by simp) h.symm
   ·exact absurd hSN (Nat.not_lt.mpr h)
  ·rw[List.take_succ,bf n,hd];exact(E.mono st1.sg).append (aJ.cons rp aJ.nil)
end
theorem vL:typeLookup (.type "zip") "__len__"=pure none:=by rw[typeLookup_type,builtinLookup_eq_fast];kernel_rfl
theorem rU:typeLookup (.type "zip") "__length_hint__"=pure none:=by rw[typeLookup_type,builtinLookup_eq_fast];kernel_rfl
section
variable {prog:Program} {w:World} {A:Around} {s:Shared} {R:Result->Shared->Prop}
theorem aHq{z TI TO S:Addr}(hz:IsZip s.heap z TI TO .none)(hS:s.heap.get? S=some {cls:=.type "list",data:=.seq #[] c₀})(hL: ∀h' c,(∀b o,b≠S->s.heap.get? b=some o->h'.get? b=some o)->h'.objs.size=s.heap.objs.size->h'.get? S=some {cls:=.type "list",dict:=none,data:=.seq #[] c,slots:= #[]}->codeAny (model prog w) A (.builtin "list.extend.loop" ⟨[.ref S,.ref z,res],[]⟩) R {s with heap:=h'}):
  wpAny (model prog w) A.in1 (Builtin.List.listExtendWith (.ref S) (.ref z) res)
   (λfin s'=>match fin with|.done f=>R (.ok f) s'|.again c'=>c'.quiet=true/\codeAny (model prog w) A c' R s') (λe s'=>R (.error e) s') s:=by
 have i:S≠z:=λe=>by rw[e,hz]at hS;simp at hS
 have g:s.TypeIs (.ref z) "zip":=⟨_,hz,rfl⟩;unfold Builtin.List.listExtendWith;refine aa (wpAny_typeOf g ?_)
 have m:Builtin.List.listSameRef (.ref S) (.ref z)=false:=by simp[Builtin.List.listSameRef,i]
 have l:(Value.type "zip"==Value.type "list")=false:=by decide
 have n:(Value.type "zip"==Value.type "tuple")=false:=by decide
 simp only[m,l,n,Bool.or_false,az,if_false];refine aa (wpAny_pyIter_zip hz ?_);refine aa (wpAny_holding ?_);unfold Builtin.List.listLengthHint;refine aa (wpAny_specialOf g vL ?_);show wpAny _ A.in1 (specialOf (Value.ref z) (Str.ofString "__length_hint__") >>= _) _ _ _;refine aa (wpAny_specialOf g rU ?_);refine ae ?_
 show wpAny _ A.in1 (rule "list.extend.makes-room" >>= λ_=>Builtin.List.listTouch (.ref S) >>= λ_=>
  again (.builtin "list.extend.loop" ⟨[.ref S,.ref z,res],[]⟩)) _ _ _
 refine aa (wpAny_rule ?_);refine aa ?_;show wpAny _ A.in1 (updateSeq S (·.push .none) >>= λ_=>updateSeq S (·.pop)) _ _ _
 refine aa (wpAny_updateSeq hS rfl ?_);have a:=Heap.get?_update_self (Obj.mapSeq (·.push Value.none)) hS rfl
 refine wpAny_updateSeq (hz:=by seq_fits) a rfl ?_
 have d:=Heap.get?_update_self (Obj.mapSeq (·.pop)) a rfl
 have h: ∀b o,b≠S->s.heap.get? b=some o->((s.heap.update S (Obj.mapSeq (·.push Value.none))).update S (Obj.mapSeq (·.pop))).get? b=some o:=
  λb o j e=>(Heap.get?_update_other _ _ (Ne.symm j)).trans ((Heap.get?_update_other _ _ (Ne.symm j)).trans e)
 exact ae ⟨plainId_quiet F.plain_extend_loop _,hL _ _ h (by rw[Heap.size_update,Heap.size_update]) d⟩
theorem aCv{z TI TO S:Addr}(hz:IsZip s.heap z TI TO .none)(hS:s.heap.get? S=some {cls:=.type "list",data:=.seq #[]})
  (hL: ∀h' c,(∀b o,b≠S->s.heap.get? b=some o->h'.get? b=some o)->h'.objs.size=s.heap.objs.size->h'.get? S=some {cls:=.type "list",dict:=none,data:=.seq #[] c,slots:= #[]}->codeAny (model prog w) A (.builtin "list.extend.loop" ⟨[.ref S,.ref z,.none],[]⟩) R {s with heap:=h'}):
  wpAny (model prog w) A.in1 (Builtin.«list.__init__» ⟨[.ref S,.ref z],[]⟩)
   (λfin s'=>match fin with|.done f=>R (.ok f) s'|.again c'=>c'.quiet=true/\codeAny (model prog w) A c' R s') (λe s'=>R (.error e) s') s:=by
 have h:S≠z:=λe=>by rw[e,hz]at hS;simp at hS
 show wpAny _ _ (do let old<-Builtin.List.listItems (.ref S);Builtin.List.listUpdate (.ref S) (λ_=> #[]);letGo old.toList.reverse;Builtin.List.listExtendWith (.ref S) (.ref z) .none) _ _ s
 refine aa ?_;unfold Builtin.List.listItems;refine aa (wpAny_seqItems hS rfl (ae ?_));show wpAny _ _ (updateSeq S (λ_=> #[]) >>= λ_=>letGo (#[]:Array Value).toList.reverse >>= λ_=>Builtin.List.listExtendWith (.ref S) (.ref z) .none) _ _ s
 refine aa (wpAny_updateSeq hS rfl ?_);have a:=Heap.get?_update_self (Obj.mapSeq (λ_=>(#[]:Array Value))) hS rfl
 have d: ∀b o,b≠S->s.heap.get? b=some o->(s.heap.update S (Obj.mapSeq (λ_=>(#[]:Array Value)))).get? b=some o:=
  λb o g e=>(Heap.get?_update_other _ _ (Ne.symm g)).trans e
 refine aa (wpAny_letGo ?_);refine aHq (d z _ (Ne.symm h) hz) a λh' c hk j i=>?_
 exact hL h' c (λb o g e=>hk b o g (d b o g e)) (by rw[j];exact Heap.size_update ..) i
end
section
variable {X:Cx} {ad:Ad} {ce:cg} {s:Shared} {σ:St} {H G:Hp} {ρ:Rho} {Q:VK} {E:Nat->Hp->Prop} {pos p p2 pos2:Pos} {a b:Expr} {f g:F} {t t2:Bool}
theorem nJ(hc:X.calm=true)(I:Inv X ce σ H s)(hG:Same G H)(hq1:SqA t X.K G l xs)(hq2:SqA t2 X.K G m ys)(hr1:aJ X.K ad G ds xs)(hr2:aJ X.K ad G es ys)(k:RK X.K ad G H (.ow (pD ds es)) Q E):
  wpAny (model X.prog X.w) X.A (call (.type "zip") [.ref l,.ref m]) (λv s1=>wpAny (model X.prog X.w) X.A (call (.type "list") [v]) (EP X ce σ Q) X.xe s1) X.xe s:=by
 obtain⟨us,_,C,_⟩:=dX I (aW hG hq1);obtain⟨ws,_,O,_⟩:=dX I (aW hG hq2);refine pR C O λa J S U a4 a5 g a7=>?_
 have l1:l<s.heap.objs.size:=by cases t<;>(obtain⟨o,e,_⟩:=C;exact ah e)
 have l2:m<s.heap.objs.size:=by cases t2<;>(obtain⟨o,e,_⟩:=O;exact ah e)
 refine callType_codes (Q₁:=λn d=>n= .ref a.objs.size/\d={s with heap:=a.push {cls:=.type "list",data:=.seq #[]} }) F.called_list (F.typeCall_list_1 _) F.entry_list_init
  (code_list_new _ ⟨rfl,rfl⟩) λn d p=>?_
 obtain⟨rfl,rfl⟩:=p;have M:(a.push {cls:=.type "list",data:=.seq #[]}).get? a.objs.size=some {cls:=.type "list",data:=.seq #[]}:=ag _ rfl;have x:IsZip (a.push {cls:=.type "list",data:=.seq #[]}) _ _ _ .none:=af _ J;refine⟨⟨_,M,rfl⟩,F.args_list_init_2 _ _,aCv (A:=X.A.in1) x M λh c hk W i=>?_⟩
 have ge: ∀b,s.heap.objs.size<=b->oI X ce H b:=λb j=>I.fpOk j (I.hok.fresh j)
 have q:H a.objs.size=none:=I.hok.fresh (by rw[g];exact Nat.le_add_right _ _)
 have up: ∀b o,a.get? b=some o->h.get? b=some o:=λb o e=>hk b o (bj (ah e)) (af _ e)
 have T:Inv X ce σ (upd H a.objs.size (.lst [])) {s with heap:=h}:=
  I.laid (t':=s.toks) (λb o e=>up b o (a7 b o e)) (by rw[g];exact Nat.le_add_right _ _) (show ObjOk X.prog X.w _ h _ (.lst []) from⟨by simp,[],c,.nil,i⟩)
 have z:h.objs.size=s.heap.objs.size+6:=by rw[W,ai,g]
 refine aCu (A:=X.A.in1) (ad:=ad) (G0:=G) (H0:=H) (N:=s.heap.objs.size+6) (I.ok.hd hc) (pO l1 l2) ⟨?_,?_,?_,?_,?_⟩ ?_ .none hq1 hq2 hr1 hr2 q _ 0 G _ {s with heap:=h} #[] c [] rfl (bx _) (Nat.le_of_eq z.symm) T (λb j=>?_) (Step.own hG q) (hG.free q) aF
  ⟨.inl (up _ _ J),up _ _ S,⟨_,_,up _ _ U⟩,bS a4 λo e=>up _ o e,bS a5 λo e=>up _ o e⟩ i .nil aJ.nil λs' Y L u I' B r y Z=>?_
 ·exact Nat.add_lt_add_left (by decide) _
 ·exact Nat.add_lt_add_left (by decide) _
 ·exact Nat.add_lt_add_left (by decide) _
 ·exact Nat.lt_add_of_pos_right (by decide)
 ·exact Nat.add_lt_add_left (by decide) _
 ·rw[g];exact Nat.add_lt_add_left (by decide) _
 ·have f:s.heap.objs.size<=b/\b≠s.heap.objs.size+5:=by
   simp only[av,List.not_mem_nil,or_false]at j;rcases j with rfl|rfl|rfl|rfl|rfl<;>exact⟨by simp,by simp⟩
  exact⟨by rw[aB (by rw[g];exact f.2)];exact(ge b f.1).1,(ge b f.1).2⟩
 ·exact⟨rfl,.ref a.objs.size,L,I',rfl,k _ u Y L B q r y Z⟩
def zl:D->D->R
 |.tup xs,.tup ys=>.ow (pD xs ys)
 |.lst xs,.lst ys=>.ow (pD xs ys)
 |.lst xs,.tup ys=>.ow (pD xs ys)
 |.tup xs,.lst ys=>.ow (pD xs ys)
 |_,_=>.bad
theorem aHr:aG vG [o7 f g] ρ=(f ρ).bind λx=>(g ρ).bind λy=>zl x y:=by
 unfold aG l7 args args o7
 cases f ρ with
 |ok x=>
  cases g ρ with
  |ok y=>cases x<;>cases y<;>rfl
  |ow a=>cases x<;>rfl
  |ex c=>rfl
  |bad=>rfl
 |ow b=>
  cases g ρ with
  |ok y=>cases y<;>rfl
  |ow a=>rfl
  |ex c=>rfl
  |bad=>rfl
 |ex c=>rfl
 |bad=>rfl
theorem rV(hg:L2.Gl X "zip")(hm:X.mg "zip"=none)(hgl:L2.Gl X "list")(hml:X.mg "list"=none)(hc:X.calm=true)(ha:ME X ad a f)(hb:ME X ad b g)(he:starEach [a,b] X.env=(false,eval a X.env)::starEach [b] X.env)(he2:starEach [b] X.env=(false,eval b X.env)::starEach [] X.env):
  ME X ad (.Call (.Name "list" p) [.Call (.Name "zip" p2) [a,b] [] pos2] [] pos) (aG vG [o7 f g]):=by
 refine λce s σ H Q I Y=>Y.el λG ρ E hG r o y=>?_
 rw[aHr]at y;refine Call_ (fN (u:=.type "list") I hgl hml (by decide+kernel) (PyProof.Rows.callWith_type1 ?_ rfl rfl) (by decide) (by decide))
 refine Calls.spliced_cons ?_;refine Call_ (fN (u:=.type "zip") I hg hm (by decide+kernel) (PyProof.Rows.callWith_type1 ?_ he (by rw[he2];rfl)) (by decide) (by decide))
 rw[he];refine Calls.spliced_cons (L2.thn (ha.thn I hG r o y) λu s1 ⟨v,d,G1,H1,S,J,x,q,B⟩=>?_)
 rw[he2];refine Calls.spliced_cons (L2.thn (hb.thn S x.gh (r.step x) o B) λN s2 ⟨v2,n,T,H2,C,U,st2,M,c⟩=>Calls.spliced_nil ?_)
 obtain⟨t,z,i,j,c1,W,O⟩: ∃t z i j,isA t i d/\isA z j n/\RK X.K ad T H2 (.ow (pD i j)) Q E:=by
  cases d<;>try exact ba c
  ·cases n<;>try exact ba c
   ·exact⟨true,true,_,_,rfl,rfl,c⟩
   ·exact⟨true,false,_,_,rfl,rfl,c⟩
  ·cases n<;>try exact ba c
   ·exact⟨false,true,_,_,rfl,rfl,c⟩
   ·exact⟨false,false,_,_,rfl,rfl,c⟩
 obtain⟨l,xs,rfl,h,Z⟩:=nI c1 (q.mono st2.sg);obtain⟨m,ys,rfl,e,A⟩:=nI W M
 cases (show u=Value.ref l from J)
 cases (show N=Value.ref m from U)
 exact L2.thn (nJ hc C st2.gh h e Z A O) λv s3 L=>Calls.spliced_nil L
end
noncomputable def tab(m mv:Nat)(ps:List Nat):SetTable:={mask:=m,place:=ps.toArray,dummies:= #[],finger:=0,led:=true,moves:=mv,plain:=true}
noncomputable def tbl(m mv:Nat)(led:Bool)(ps:List Nat):SetTable:={mask:=m,place:=ps.toArray,dummies:= #[],finger:=0,led:=led,moves:=mv,plain:=true}
def adv(m:Nat)(p:SetTable.Probe):SetTable.Probe:=(tab m 0 []).advance p
def pr(m:Nat)(h:Int):Nat->SetTable.Probe
 |0=>(tab m 0 []).probeStart h
 |k+1=>adv m (pr m h k)
def lp(m:Nat)(h:Int):Nat->Nat×Nat
 |0=>(SetTable.bits h % (m+1),SetTable.bits h)
 |r+1=>SetTable.leap m (lp m h r).1 (lp m h r).2
def Rch(m:Nat)(h:Int)(ps:List Nat)(p:Nat):Prop:= ∃k,k<10*SetTable.turns m/\(pr m h k).j=p/\∀b,b<k->(pr m h b).j∈ps
structure TI(m:Nat)(L:List (Nat×Int×Value)):Prop where
 up:(L.map (·.1)).Pairwise (· < ·)
 le: ∀x∈L,x.1<=m
 rch: ∀x∈L,Rch m x.2.1 (L.map (·.1)) x.1
mutual
noncomputable def hk:PyData->Bool
 |.none=>true
 |.int _=>true
 |.tuple xs=>hks xs
 |_=>false
noncomputable def hks:List PyData->Bool
 |[]=>true
 |x::xs=>hk x&&hks xs
end
mutual
def hsh:PyData->Int
 |.none=>0xFCA86420
 |.int i=>hashInt i
 |.tuple xs=>reduceHash (Builtin.Tuple.tupleHashOf (aRz xs))
 |_=>0
def aRz:List PyData->List Int
 |[]=>[]
 |x::xs=>hsh x::aRz xs
end
mutual
theorem aMn: ∀d:PyData,hk d=true->d.canLay0=true
 |.none,_=>rfl
 |.int _,_=>rfl
 |.tuple xs,h=>by
  rw[hk]at h;rw[PyData.canLay0];exact yN xs h
 |.bool _,h=>by simp[hk]at h
 |.str _,h=>by simp[hk]at h
 |.list _,h=>by simp[hk]at h
 |.dict _,h=>by simp[hk]at h
theorem yN: ∀xs:List PyData,hks xs=true->PyData.canLayAll0 xs=true
 |[],_=>rfl
 |x::xs,h=>by
  rw[hks,aw]at h;rw[PyData.canLayAll0,aMn x h.1,yN xs h.2];rfl
end
mutual
theorem aHs: ∀d1 d2:PyData,hk d1=true->hk d2=true->PyData.eqv d1 d2=true->d1=d2
 |.none,d2,_,h2,e=>by cases d2<;>simp[hk]at h2<;>simp[PyData.eqv]at e ⊢
 |.int i,d2,_,h2,e=>by cases d2<;>simp[hk]at h2<;>simp[PyData.eqv]at e ⊢<;>exact e
 |.tuple xs,d2,h1,h2,e=>by
  cases d2<;>simp[hk]at h2<;>simp[PyData.eqv]at e
  rename_i a;rw[t9 xs a (by simpa[hk]using h1) h2 e]
 |.bool _,_,h,_,_=>by simp[hk]at h
 |.str _,_,h,_,_=>by simp[hk]at h
 |.list _,_,h,_,_=>by simp[hk]at h
 |.dict _,_,h,_,_=>by simp[hk]at h
theorem t9: ∀xs ys:List PyData,hks xs=true->hks ys=true->PyData.eqvAll xs ys=true->xs=ys
 |[],[],_,_,_=>rfl
 |[],_::_,_,_,e=>by simp[PyData.eqvAll]at e
 |_::_,[],_,_,e=>by simp[PyData.eqvAll]at e
 |x::xs,y::ys,h1,h2,e=>by
  rw[hks,aw]at h1 h2;rw[PyData.eqvAll,aw]at e;rw[aHs x y h1.1 h2.1 e.1,t9 xs ys h1.2 h2.2 e.2]
end
section
variable {prog:Program} {w:World}
mutual
def dr:PyData->Nat
 |.tuple xs=>drs xs+1
 |_=>1
def drs:List PyData->Nat
 |[]=>0
 |x::xs=>dr x+drs xs
end
end
section
variable {prog:Program} {w:World} {A:Around} {E:cf} {s:Shared}
end
section
variable {prog:Program} {w:World} {A:Around} {E:cf} {s:Shared}
end
noncomputable def Key(h:Heap)(d:PyData)(v:Value):Prop:=(∃b,v= .ref b)/\hk d=true/\d.depth<=8/\∃as,Reads h v d as
section
variable {prog:Program} {w:World} {A:Around} {E:cf} {s:Shared}
end
mutual
theorem nL: ∀{x y:D},same x y=true->(sU x).length=(sU y).length
 |.int _,y,h=>by cases y<;>simp[same]at h;rfl
 |.tup xs,y,h=>by
  cases y<;>simp[same]at h
  simp only[sU];exact pS h
 |.non,_,h=>by simp[same]at h
 |.bl _,_,h=>by simp[same]at h
 |.str _,_,h=>by simp[same]at h
 |.lst _,_,h=>by simp[same]at h
 |.exc _,_,h=>by simp[same]at h
 |.fn _,_,h=>by simp[same]at h
theorem pS: ∀{xs ys:List D},cQ xs ys=true->(kC xs).length=(kC ys).length
 |[],[],_=>rfl
 |[],_::_,h=>by simp[cQ]at h
 |_::_,[],h=>by simp[cQ]at h
 |x::xs,y::ys,h=>by
  simp only[cQ,aw]at h;simp only[kC,bq,nL h.1,pS h.2]
end
mutual
theorem aCw: ∀{x y:D},same x y=true->sU x=sU y->x=y
 |.int _,y,h,e=>by cases y<;>simp[same]at h;simpa[sU]using e
 |.tup xs,y,h,e=>by
  cases y<;>simp[same]at h
  simp only[sU]at e;rw[pT h e]
 |.non,_,h,_=>by simp[same]at h
 |.bl _,_,h,_=>by simp[same]at h
 |.str _,_,h,_=>by simp[same]at h
 |.lst _,_,h,_=>by simp[same]at h
 |.exc _,_,h,_=>by simp[same]at h
 |.fn _,_,h,_=>by simp[same]at h
theorem pT: ∀{xs ys:List D},cQ xs ys=true->kC xs=kC ys->xs=ys
 |[],[],_,_=>rfl
 |[],_::_,h,_=>by simp[cQ]at h
 |_::_,[],h,_=>by simp[cQ]at h
 |x::xs,y::ys,h,e=>by
  simp only[cQ,aw]at h;simp only[kC]at e;obtain⟨b,a⟩:=List.append_inj e (nL h.1);rw[aCw h.1 b,pT h.2 a]
end
mutual
theorem aCx: ∀{x y:D},same x y=true->deq x y=(sU x==sU y)
 |.int i,y,h=>by
  cases y<;>simp[same]at h
  simp[deq,sU]
 |.tup xs,y,h=>by
  cases y<;>simp[same]at h
  simp only[deq,sU];exact pU h
 |.non,_,h=>by simp[same]at h
 |.bl _,_,h=>by simp[same]at h
 |.str _,_,h=>by simp[same]at h
 |.lst _,_,h=>by simp[same]at h
 |.exc _,_,h=>by simp[same]at h
 |.fn _,_,h=>by simp[same]at h
theorem pU: ∀{xs ys:List D},cQ xs ys=true->vE xs ys=(kC xs==kC ys)
 |[],[],_=>rfl
 |[],_::_,h=>by simp[cQ]at h
 |_::_,[],h=>by simp[cQ]at h
 |x::xs,y::ys,h=>by
  simp only[cQ,aw]at h;simp only[vE,kC,aCx h.1,pU h.2];rw[Bool.eq_iff_iff];simp only[aw,beq_iff_eq];constructor
  ·rintro⟨a,b⟩;rw[a,b]
  ·intro e;exact List.append_inj e (nL h.1)
end
mutual
theorem aHt: ∀{x:D},same x x=true->hk (dS x)=true
 |.int _,_=>by simp[dS,hk]
 |.tup xs,h=>by
  simp only[dS,hk];exact uA (by simpa[same]using h)
 |.non,h=>by simp[same]at h
 |.bl _,h=>by simp[same]at h
 |.str _,h=>by simp[same]at h
 |.lst _,h=>by simp[same]at h
 |.exc _,h=>by simp[same]at h
 |.fn _,h=>by simp[same]at h
theorem uA: ∀{xs:List D},cQ xs xs=true->hks (eT xs)=true
 |[],_=>by simp[eT,hks]
 |x::xs,h=>by
  simp only[cQ,aw]at h;simp[eT,hks,aHt h.1,uA h.2]
end
mutual
theorem vM: ∀{x:D},same x x=true->plain x=true
 |.int _,_=>by simp[plain]
 |.tup xs,h=>by
  simp only[plain];exact k9 (by simpa[same]using h)
 |.non,h=>by simp[same]at h
 |.bl _,h=>by simp[same]at h
 |.str _,h=>by simp[same]at h
 |.lst _,h=>by simp[same]at h
 |.exc _,h=>by simp[same]at h
 |.fn _,h=>by simp[same]at h
theorem k9: ∀{xs:List D},cQ xs xs=true->bP xs=true
 |[],_=>by simp[bP]
 |x::xs,h=>by
  simp only[cQ,aw]at h;simp[bP,vM h.1,k9 h.2]
end
mutual
theorem aMo: ∀{x y:D},same x y=true->same y y=true/\same x x=true/\dep y=dep x
 |.int _,y,h=>by cases y<;>simp[same]at h;simp[same,dep]
 |.tup xs,y,h=>by
  cases y<;>simp[same]at h
  simp only[same,dep]
  have:=yO h
  exact⟨this.1,this.2.1,by rw[this.2.2]⟩
 |.non,_,h=>by simp[same]at h
 |.bl _,_,h=>by simp[same]at h
 |.str _,_,h=>by simp[same]at h
 |.lst _,_,h=>by simp[same]at h
 |.exc _,_,h=>by simp[same]at h
 |.fn _,_,h=>by simp[same]at h
theorem yO: ∀{xs ys:List D},cQ xs ys=true->cQ ys ys=true/\cQ xs xs=true/\wB ys=wB xs
 |[],[],_=>⟨rfl,rfl,rfl⟩
 |[],_::_,h=>by simp[cQ]at h
 |_::_,[],h=>by simp[cQ]at h
 |x::xs,y::ys,h=>by
  simp only[cQ,aw]at h;have a:=aMo h.1;have b:=yO h.2;simp only[cQ,wB,a.1,b.1,a.2.1,b.2.1,a.2.2,b.2.2,Bool.and_self,and_self]
end
mutual
theorem aHu: ∀{x y z:D},same x y=true->same x z=true->same y z=true
 |.int _,y,z,h,k=>by cases y<;>simp[same]at h;cases z<;>simp[same]at k;rfl
 |.tup xs,y,z,h,k=>by
  cases y<;>simp[same]at h
  cases z<;>simp[same]at k
  simp only[same];exact uB h k
 |.non,_,_,h,_=>by simp[same]at h
 |.bl _,_,_,h,_=>by simp[same]at h
 |.str _,_,_,h,_=>by simp[same]at h
 |.lst _,_,_,h,_=>by simp[same]at h
 |.exc _,_,_,h,_=>by simp[same]at h
 |.fn _,_,_,h,_=>by simp[same]at h
theorem uB: ∀{xs ys zs:List D},cQ xs ys=true->cQ xs zs=true->cQ ys zs=true
 |[],[],[],_,_=>rfl
 |[],_::_,_,h,_=>by simp[cQ]at h
 |[],[],_::_,_,h=>by simp[cQ]at h
 |_::_,[],_,h,_=>by simp[cQ]at h
 |_::_,_::_,[],_,h=>by simp[cQ]at h
 |x::xs,y::ys,z::zs,h,k=>by
  simp only[cQ,aw]at h k ⊢;exact⟨aHu h.1 k.1,uB h.2 k.2⟩
end
section
variable {prog:Program} {w:World}
end
section
variable {O:KeyOrd} {key:Nat->O.α} {n:Nat} {cmp:Nat->Nat->(Bool->Shared->Prop)->Shared->Prop} {s:Shared}
end
theorem rW: ∀a,rE a a=false
 |[]=>rfl
 |a::r=>by simp[rE,rW r]
theorem vN: ∀a b c,rE a b=true->rE b c=true->rE a c=true
 |[],[],_,h,_=>by cases h
 |[],_::_,[],_,h=>by cases h
 |[],_::_,_::_,_,_=>rfl
 |_::_,[],_,h,_=>by cases h
 |_::_,_::_,[],_,h=>by cases h
 |a::r,b::t,c::u,e,d=>by
  unfold rE at e d ⊢
  by_cases f:a=b
  ·subst f;rw[if_pos rfl]at e
   by_cases i:a=c
   ·rw[if_pos i]at d ⊢;exact vN r t u e d
   ·rw[if_neg i]at d ⊢;exact d
  ·rw[if_neg f]at e;have e:=of_decide_eq_true e
   by_cases g:b=c
   ·subst g;rw[if_neg f];exact decide_eq_true e
   ·rw[if_neg g]at d;have d:=of_decide_eq_true d;rw[if_neg (by lia)];exact decide_eq_true (by lia)
theorem aCy: ∀a b c,rE a c=true->rE a b=true\/rE b c=true
 |[],[],[],h=>by cases h
 |[],[],_::_,_=>.inr rfl
 |[],_::_,_,_=>.inl rfl
 |_::_,_,[],h=>by cases h
 |_::_,[],_::_,_=>.inr rfl
 |a::r,b::t,c::u,h=>by
  unfold rE at h ⊢
  by_cases e:a=c
  ·subst e;rw[if_pos rfl]at h
   by_cases d:a=b
   ·subst d;rw[if_pos rfl,if_pos rfl];exact aCy r t u h
   ·rw[if_neg d,if_neg (Ne.symm d)];rcases Int.lt_or_gt_of_ne d with z|z
    ·exact .inl (decide_eq_true z)
    ·exact .inr (decide_eq_true z)
  ·rw[if_neg e]at h;have h:=of_decide_eq_true h
   by_cases d:a=b
   ·subst d;rw[if_neg e];exact .inr (decide_eq_true h)
   ·rw[if_neg d]
    by_cases z:a<b
    ·exact .inl (decide_eq_true z)
    ·rw[if_neg (by lia)];exact .inr (decide_eq_true (by lia))
theorem vO: ∀a b,rE a b=false->rE b a=false->a=b
 |[],[],_,_=>rfl
 |[],_::_,h,_=>by cases h
 |_::_,[],_,h=>by cases h
 |a::r,b::t,d,c=>by
  unfold rE at d c
  by_cases e:a=b
  ·subst e;rw[if_pos rfl]at d c;rw[vO r t d c]
  ·rw[if_neg e]at d;rw[if_neg (Ne.symm e)]at c;have d:=of_decide_eq_false d;have c:=of_decide_eq_false c
   lia
section
variable {prog:Program} {w:World} {A:Around} {Ex:cf} {s:Shared}
mutual
theorem vP{h h':Heap}(k: ∀b o,o.cls= .type "tuple"->h.get? b=some o->h'.get? b=some o): ∀{d:PyData} {v:Value} {as:List Addr},hk d=true->Reads h v d as->Reads h' v d as
 |_,_,_,_,.none=>.none
 |_,_,_,_,.int i t=>.int i t
 |_,_,_,hd,.tuple e c q r=>.tuple (k _ _ c e) c q (iF k (by simpa[hk]using hd) r)
 |_,_,_,hd,.bool _=>by simp[hk]at hd
 |_,_,_,hd,.str _ _=>by simp[hk]at hd
 |_,_,_,hd,.list _ _ _ _=>by simp[hk]at hd
 |_,_,_,hd,.dict _ _ _ _ _=>by simp[hk]at hd
theorem iF{h h':Heap}(k: ∀b o,o.cls= .type "tuple"->h.get? b=some o->h'.get? b=some o): ∀{ds:List PyData} {vs:List Value} {as:List Addr},hks ds=true->ReadsAll h vs ds as->ReadsAll h' vs ds as
 |_,_,_,_,.nil=>.nil
 |_,_,_,hd,.cons a b=>by
  simp only[hks,aw]at hd;exact .cons (vP k hd.1 a) (iF k hd.2 b)
end
end
section
variable {prog:Program} {w:World} {A:Around} {I:Addr} {fp wr:List Addr} {G:Array GenState->Array GenState->Prop} {n:Nat} {P:Nat->Value->Prop} {St:Nat->Shared->Prop} {E:cf} {s:Shared} {R:_->Shared->Prop}
end
section
variable {X:Cx} {ad:Ad} {G:Hp}
end
section
variable {prog:Program} {w:World} {A:Around} {E:cf} {s:Shared}
noncomputable def ddS(acc:List Nat)(n:Nat):List Nat:=if n∈acc then acc else n::acc
def dd(ns:List Nat):List Nat:=ns.foldl ddS []
end
section
variable {prog:Program} {w:World} {A:Around} {E:cf} {s:Shared}
end
section
variable {prog:Program} {w:World} {A:Around} {E:cf} {s:Shared}
end
section
variable {prog:Program} {w:World} {A:Around} {E:cf} {s:Shared}
end
section
variable {prog:Program} {w:World} {A:Around} {E:cf} {s:Shared}
end
section
variable {X:Cx} {ad:Ad} {a:Expr} {f:F} {p p2 pos pos2:Pos}
end
section
variable {prog:Program} {w:World} {A:Around} {E:cf} {R:Result->Shared->Prop} {I:Addr} {fp wr:List Addr} {G:Array GenState->Array GenState->Prop} {n:Nat} {P:Nat->Value->Prop} {St:Nat->Shared->Prop}
end
def iv:Value->Int
 |.int n _=>n
 |_=>0
section
variable {X:Cx} {ad:Ad} {a:Expr} {f:F} {p p2 pos pos2:Pos}
end
section
variable {X:Cx} {ad:Ad} {Z:(St->Nat->Hp->Prop)->Prop} {ce:cg} {s:Shared} {σ:St} {H G G₀:Hp} {ρ:Rho} {D':Ends} {E:St->Nat->Hp->Prop} {pos pos':Pos} {e:Expr} {f:F} {g h:FS} {st:Stmt} {sts:List Stmt}
def aQf:V->V->V->Hp->(Hp->Prop)->Prop:=λo i v H Q=>aLc o i v H Q\/∃a x es,o= .ref a/\i= .str x/\H a=some (.dK es)/\es.length<sizeLine/\Q (upd H a (.dK (L2.putK es (.inr x) v)))
theorem aCz(hu:X.A.units+62<cLine):aPh X aQf:=λg s f H o i v e iv u Q I b c d h=>by
 rcases h with h|⟨a,x,es,rfl,rfl,ha,hl,q⟩
 ·exact aBu g s f H o i v e iv u Q I b c d h
 ·cases (show e=Value.ref a from b)
  exact pF (by lia) I (aJ9.k (k:=.inr x) ha hl) c d λl j=>⟨_,j,q⟩
theorem aMp{K:PySem.W.Frag}(h:HR K ad G held kvs)(x:Str):(kvs.any λq=>decide (q.1=(Sum.inr x:L2.Key)))=held.any λp=>decide (p.1=x):=by
 induction h with
 |nil=>rfl
 |@cons p q c d b t a=>
  rw[List.any_cons,List.any_cons,a]
  have e:decide (q.1=(Sum.inr x:L2.Key))=decide (p.1=x):=by
   rw[b.1]
   by_cases z:p.1=x
   ·rw[z];simp
   ·simp[z]
  rw[e]
theorem yP{K:PySem.W.Frag}(h:HR K ad G held kvs)(rv:Rep K ad G y v)(x:Str):HR K ad G (fR held x y) (L2.putK kvs (Sum.inr x) v):=by
 unfold fR L2.putK;rw[aMp h x]
 by_cases a:(held.any λp=>decide (p.1=x))=true
 ·rw[if_pos a,if_pos a];clear a
  induction h with
  |nil=>exact .nil
  |@cons p q e f b t c=>
   rw[List.map_cons,List.map_cons];refine .cons ?_ c
   by_cases z:p.1=x
   ·have d:q.1=(Sum.inr x:L2.Key):=by rw[b.1,z]
    rw[if_pos z,if_pos d];exact⟨b.1,rv⟩
   ·have d: ¬q.1=(Sum.inr x:L2.Key):=λy=>z (by rw[b.1]at y;exact Sum.inr.inj y)
    rw[if_neg z,if_neg d];exact b
 ·rw[if_neg a,if_neg a];clear a
  induction h with
  |nil=>exact .cons ⟨rfl,rv⟩ .nil
  |cons b t c=>exact .cons b c
theorem aMq(hu:X.A.units+62<cLine)(hN:X.N[i]? =some x)(hv:Vis X.env.scope x)(hd:(x==("__debug__":Str))=false)(hcd:(x==("__classdict__":Str))=false)(he:ME X ad e f)(hk:ME X ad kx fk)(ha: ∀v,assign (.Subscript (.Name x p) kx tp) X.env v=(do
   let ov<-holding [v] (eval (.Name x p) X.env);let iv<-holding [v,ov] (eval kx X.env)
   standAt tp
   holding [v,ov,iv] (setItem ov iv v)
   release [v,ov,iv] []))(hs:swapsWithSole [.Subscript (.Name x p) kx tp] e pos.line X.env=pure false)(hw:swappedStores [.Subscript (.Name x p) kx tp] e X.env=pure none):
  MS X ad Z (.Assign [.Subscript (.Name x p) kx tp] e pos) (wC i fk f):=by
 refine PS.imp (wK he (aKy (cP hN hv hd hcd) hk (aCz hu) ha) hs hw rfl) ?_;rintro U Y H ⟨g,G,Q,E,S,M,hr⟩;unfold wC at hr;refine fU S M hr λv d G1 H1 n r k=>?_
 cases q:Q[i]? with
 |none=>rw[q]at k;exact k.elim
 |some sl=>
  rw[q]at k
  cases sl with
  |no=>exact k.elim
  |sh d=>exact k.elim
  |sd d=>exact k.elim
  |rk _ _=>exact k.elim
  |ow T=>
   obtain⟨a,vs,l,h2,W,C⟩:=(S.step n).sl.ow q;refine⟨.ref a,l,?_⟩;refine fU (S.step n) M k λv2 y O H2 st2 t u=>?_
   obtain⟨g2,h⟩:=iC st2 h2 W
   cases y<;>try exact ba u
   rename_i j;unfold Rep at t;subst t
   have b:OKo X ad g (match ixD T.length j with|some m=>.nx (Q.set i (.ow (T.set m d)))|none=>.rt .bad) U E:=u
   cases J:ixD T.length j with
   |none=>rw[J]at b;exact b.elim
   |some m=>
    rw[J]at b;have r4:=C.mono st2.sg;refine .inl ⟨a,vs,j,m,rfl,rfl,h,by rw[C.length, <-aE1];exact J,?_⟩
    exact b Y O _ (((S.step n).step st2).upd q l g2 (aJ.set (r.mono st2.sg) m r4))
  |dc c=>
   obtain⟨a,es,l,h2,W,C,h5⟩:=(S.step n).sl.dc q;refine⟨.ref a,l,?_⟩;refine fU (S.step n) M k λv2 y O H2 st2 t u=>?_
   have S2:=(S.step n).step st2;obtain⟨I,B,s,h,L,o,ab⟩:=S2.sl.dc q
   have ea:I=a:=by rw[l]at s;cases s;rfl
   subst ea
   cases y<;>try exact ba u
   rename_i z;have b:OKo X ad g (if c.length<LIM then .nx (Q.set i (.dc (fR c z d)))else .rt .bad) U E:=u
   by_cases K:c.length<LIM
   ·rw[if_pos K]at b;unfold Rep at t;subst t
    have hl:B.length=c.length:=(Paired.length o).symm
    refine .inr ⟨I,z,B,rfl,rfl,L,by rw[hl];exact bh K (by decide),?_⟩
    exact b Y O _ (S2.updG q rfl l ⟨I,_,rfl,h,aF,yP o (r.mono st2.sg) z,trivial⟩)
   ·rw[if_neg K]at b;exact b.elim
theorem RK.bool_share{E:Nat->Hp->Prop}(hb:(∃b,r= .ok (.bl b))\/r= .bad)(g:G a=none)(k:RK X.K ad G H r Q E):RK X.K ad (upd G a (.lst vs)) H r Q E:=by
 rcases hb with ⟨b,rfl⟩|rfl
 ·intro v f m h q
  have n:v= .bl b:=by unfold Rep at q;exact q
  subst n;refine k (.bl b) (λc=>if c=a then none else f c) m ⟨λc u e=>?_,λc u e=>?_,h.sh,λc j l=>?_⟩ cT
  ·have i:c≠a:=aM e g
   show(if c=a then none else f c)=some u
   rw[if_neg i];exact h.sg c u (by rw[aB i];exact e)
  ·have d:(if c=a then none else f c)=some u:=e
   by_cases z:c=a
   ·rw[if_pos z]at d;cases d
   ·rw[if_neg z]at d;exact h.gh c u d
  ·have d:(if c=a then none else f c)≠none:=l
   by_cases z:c=a
   ·rw[if_pos z]at d;exact absurd rfl d
   ·rw[if_neg z]at d;exact h.nw c (by rw[aB z];exact j) d
 ·exact k
theorem aHv{E:Nat->Hp->Prop}(hu:X.A.units+62<cLine)(I:Inv X ce σ H s)(hG:Same G H)(qx:Seq X ad G H x v)(qy:Seq X ad G H y w)(ru:bA v u)(rz:bA w z)(k:RK X.K ad G H (eE op x y) Q E):wpAny (model X.prog X.w) X.A (compareOp op u z) (EP X ce σ Q) X.xe s:=by
 have j:=xI (op:=op) (x:=x) (y:=y)
 -- the left one is shared for the time
 have sh: ∀{G:Hp} {a:Addr} {vs:List V} {ds:List D},Same G H->H a=some (.lst vs)->aJ X.K ad G ds vs->Same (upd G a (.lst vs)) H/\Rep X.K ad (upd G a (.lst vs)) (.lst ds) (.ref a):=λ{G a vs ds} hG h2 h3=>by
  have m:G a=none\/G a=some (.lst vs):=by
   cases q:G a with
   |none=>exact .inl rfl
   |some o=>rw[hG a o q]at h2;exact .inr h2
  have n:Same G (upd G a (.lst vs)):=λb o e=>by
   by_cases d:b=a
   ·subst d;rcases m with q|q
    ·rw[q]at e;cases e
    ·rw[aF, <-q];exact e
   ·rw[aB d];exact e
  refine⟨λb o e=>?_,?_⟩
  ·by_cases d:b=a
   ·subst d;rw[aF]at e;cases e;exact h2
   ·rw[aB d]at e;exact hG b o e
  ·unfold Rep;exact⟨a,vs,rfl,SqL.of aF,h3.mono n⟩
 have f: ∀{G:Hp} {a:Addr} {vs:List V},G a=none->Same G (upd G a (.lst vs)):=λg=>Same.upd_new g
 have c: ∀{G:Hp},Same G H->Rep X.K ad G x v->Seq X ad G H y w->RK X.K ad G H (eE op x y) Q E->wpAny (model X.prog X.w) X.A (compareOp op u z) (EP X ce σ Q) X.xe s:=λ{G} hG rx qy k=>by
  rcases qy with ry|⟨a,vs,ds,rfl,rfl,g1,h2,h3⟩
  ·exact fT op hu ce s σ H G x y v w u z Q E I hG rx ry ru rz k
  ·obtain⟨h,i⟩:=sh hG h2 h3;exact fT op hu ce s σ H _ x _ v _ u z Q E I h (rx.mono (f g1)) i ru rz (k.bool_share j g1)
 rcases qx with rx|⟨a,vs,ds,rfl,rfl,g1,h2,h3⟩
 ·exact c hG rx qy k
 ·obtain⟨h,i⟩:=sh hG h2 h3;refine c h i ?_ (k.bool_share j g1);rcases qy with ry|⟨a',vs',ds',rfl,rfl,g1',h2',h3'⟩
  ·exact .inl (ry.mono (f g1))
  ·by_cases l:a'=a
   ·subst l;rw[h2]at h2';cases h2';refine .inl ?_;unfold Rep;exact⟨a',vs,rfl,SqL.of aF,h3'.mono (f g1)⟩
   ·exact .inr ⟨a',vs',ds',rfl,rfl,by rw[aB l];exact g1',h2',h3'.mono (f g1)⟩
theorem yQ{f g:F}{E:Nat->Hp->Prop}(hu:X.A.units+62<cLine)(ha:MLk X ad a f)(hb:MLk X ad b g)(I:Inv X ce σ H s)(hG:Same G H)(hS:SL X.K ad G H ρ σ)(hx:XP X ad σ E)(hr:RK X.K ad G H (aY op f g ρ) Q E):
  wpAny (model X.prog X.w) X.A (eval a X.env) (λu s1=>wpAny (model X.prog X.w) X.A (eval b X.env) (λz s2=>wpAny (model X.prog X.w) X.A (compareOp op u z) (EP X ce σ Q) X.xe s2) X.xe s1) X.xe s:=by
 refine L2.thn (ha ce s σ H G ρ (λx=>(g ρ).bind λy=>eE op x y) Q E I hG hS hx hr) λu s1 d=>?_
 obtain⟨v,h,e,p,q,m,st1,q1,i⟩:=d;refine L2.thn (hb ce s1 σ p e ρ (λy=>eE op h y) Q E q st1.gh (hS.step st1) hx i) λz s2 c=>?_
 obtain⟨w,r,B,t,l,j,st2,n,o⟩:=c;exact aHv hu l st2.gh (Seq.step q1 st2) n m j o
theorem aHw{f g:F}(hu:X.A.units+62<cLine)(ha:MLk X ad a f)(hb:MLk X ad b g)(hm:behindInMarks op b=false):ME X ad (.Compare a [op] [b] pos) (aY op f g):=by
 refine λl s j H Q I d=>d.el λG m E h i e c=>?_
 exact wpAny_Compare1 (yQ hu ha hb I h i e c) hm
theorem uC(hm:behindInMarks op b=false)(go: ∀{ce:cg} {s:Shared} {σ:St} {H G:Hp} {ρ:Rho} {Q:VK} {E:Nat->Hp->Prop},Inv X ce σ H s->Same G H->SL X.K ad G H ρ σ->XP X ad σ E->RK X.K ad G H (F' ρ) Q E->
   wpAny (model X.prog X.w) X.A (eval a X.env) (λu s1=>wpAny (model X.prog X.w) X.A (eval b X.env) (λz s2=>wpAny (model X.prog X.w) X.A (compareOp op u z) (EP X ce σ Q) X.xe s2) X.xe s1) X.xe s):MT X ad (.Compare a [op] [b] pos) F':=by
 refine λce s σ H Q I l=>l.el λG ρ E o h n r i=>?_
 refine wpAny_isTrue_Compare1 (L2.thn (go I o h n i) λv s1 j=>L2.thn j λu s2 d=>L2.thn d λc t f=>?_) hm
 obtain⟨x,m,p,g,k,e,q⟩:=f;subst e;cases g;exact wpAny_truthy_bool ⟨m,p,q⟩
theorem aHx{f g:F}(hu:X.A.units+62<cLine)(ha:MLk X ad a f)(hb:MLk X ad b g)(hm:behindInMarks op b=false):MT X ad (.Compare a [op] [b] pos) (aY op f g):=
 uC hm λI c h d e=>yQ hu ha hb I c h d e
end
section
variable {X:Cx} {ad:Ad} {ce:cg} {s:Shared} {σ:St} {H G:Hp} {ρ:Rho} {Q:VK} {E:Nat->Hp->Prop} {pos p ap cp:Pos} {a b c e:Expr} {f g h:F} {A i:Nat} {x:Str}
theorem lA(hr:RK X.K ad G H (aBw A i k ρ) Q E): ∃r,ρ[i]? =some (.rk A r)/\RK X.K ad G H (k r) Q E:=by
 unfold aBw at hr
 cases e:ρ[i]? with
 |none=>rw[e]at hr;exact hr.elim
 |some c=>
  rw[e]at hr
  cases c with
  |rk C r=>
   have a:RK X.K ad G H (if C=A then k r else .bad) Q E:=hr
   by_cases b:C=A
   ·rw[if_pos b]at a;subst b;exact⟨r,rfl,a⟩
   ·rw[if_neg b]at a;exact a.elim
  |no=>exact hr.elim
  |sh d=>exact hr.elim
  |ow d=>exact hr.elim
  |dc d=>exact hr.elim
  |sd d=>exact hr.elim
theorem jV{K:Frag}(h:HR K ad G held kvs)(x:Str):match bI held x with|none=>kP kvs (Sum.inr x)=none|some d=>∃v,kP kvs (Sum.inr x)=some v/\Rep K ad G d v:=by
 induction h with
 |nil=>exact aB2
 |@cons p q f g a t b=>
  unfold bI;rw[List.find?_cons]
  by_cases e:p.1=x
  ·rw[decide_eq_true e];exact⟨q.2,hZ (by rw[a.1,e]),a.2⟩
  ·rw[decide_eq_false e]
   have c: ¬q.1=(Sum.inr x:L2.Key):=λz=>e (by rw[a.1]at z;exact Sum.inr.inj z)
   rw[gB c];exact b
theorem gP(RC:RkC X.K A)(h:RackIn X.K ad A G H p0 r dx d l1 l2)(hi:σ[i]? =some (some (.ref p0)))(hf:[(("held":Str),V.ref d),("done",.ref l1),("undone",.ref l2)].lookup fd=some v)(na:gM X.K A fd)(q:Q v H):aOx X.K (aKl i) fd σ H Q:=
 ⟨.ref p0,hi,p0,A,dx,_,v,rfl,h.ins,RC.cl,na,hf,q⟩
theorem aE7(RC:RkC X.K A)(hN:X.N[i]? =some x)(hv:Vis X.env.scope x)(hd:(x==("__debug__":Str))=false)(hcd:(x==("__classdict__":Str))=false)(bb:Bool):
  ML X ad (.Attribute (.Name x p) (if bb then "done" else "undone") pos) (aJ6 A i bb):=by
 refine PE.imp (hJ (cP hN hv hd hcd) rfl) λI H Q g=>?_
 obtain⟨G,m,E,j,n,L,b⟩:=g;unfold aJ6 aBw at b
 cases e:m[i]? with
 |none=>rw[e]at b;exact b.elim
 |some u=>
  rw[e]at b
  cases u with
  |rk C r=>
   have a:LK X ad G H (if C=A then .ok (.lst (aLh bb r))else .bad) Q E:=b
   by_cases f:C=A
   ·rw[if_pos f]at a;subst f;obtain⟨J,B,d,o,s,h,c⟩:=n.rk e;obtain⟨l,t,y⟩:=c.done;obtain⟨v,z,q⟩:=c.undone;cases bb
    ·exact gP RC c h (fd:="undone") rfl RC.n3 (a _ G H (Step.refl j) (.inr ⟨s,v,_,rfl,rfl,c.g2,z,q⟩))
    ·exact gP RC c h (fd:="done") rfl RC.n2 (a _ G H (Step.refl j) (.inr ⟨o,l,_,rfl,rfl,c.g1,t,y⟩))
   ·rw[if_neg f]at a;exact a.elim
  |no=>exact b.elim
  |sh d=>exact b.elim
  |ow d=>exact b.elim
  |dc d=>exact b.elim
  |sd d=>exact b.elim
theorem aHy(hu:X.A.units+62<cLine)(RC:RkC X.K A)(hN:X.N[i]? =some x)(hv:Vis X.env.scope x)(hd:(x==("__debug__":Str))=false)(hcd:(x==("__classdict__":Str))=false)(hf:ME X ad a f)(hs:aP1 a):
  ME X ad (.Subscript (.Attribute (.Name x p) "held" ap) a pos) (vI A i f):=by
 refine PE.imp (aGs (by lia) (hJ (cP hN hv hd hcd) rfl) hf hs) λU H Q g=>?_
 obtain⟨G,O,E,L,j,J,c⟩:=g;unfold vI at c;obtain⟨r,e,c⟩:=lA c;obtain⟨Y,S,d,T,W,I,h⟩:=j.rk e;refine gP RC h I (fd:="held") rfl RC.n1 ?_;refine eU L j J c λv z o M l n k=>?_
 obtain⟨u,C,t⟩:=(h.step l).held
 cases z with
 |str y=>
  unfold Rep at n;subst n;have m:=jV t y
  have b:RK X.K ad o M (match bI r.held y with|some d=>.ok d|none=>.bad) Q E:=k
  cases q:bI r.held y with
  |none=>rw[q]at b;exact b.elim
  |some dd=>
   rw[q]at b m;obtain⟨v,s,B⟩:=m;refine⟨d,v,rfl,?_,b.ok_now l.gh B⟩;rw[<-s];exact oJ.k (k:=Sum.inr y) C
 |_=>exact ba k
theorem aHz(hu:X.A.units+62<cLine)(RC:RkC X.K A)(hN:X.N[i]? =some x)(hv:Vis X.env.scope x)(hd:(x==("__debug__":Str))=false)(hcd:(x==("__classdict__":Str))=false)(hf:ME X ad a f)(hm:M1 X (.Attribute (.Name x p) "held" pos) "get" ap a cp):
  ME X ad (.Call (.Attribute (.Attribute (.Name x p) "held" pos) "get" ap) [a] [] cp) (aBx A i f):=by
 refine PE.imp (aB4 (by lia) (hJ (cP hN hv hd hcd) rfl) hf hm) λT H Q n=>?_
 obtain⟨G,W,E,S,s,L,h⟩:=n;unfold aBx at h;obtain⟨r,e,h⟩:=lA h;obtain⟨U,Y,d,Z,l2,I,j⟩:=s.rk e;obtain⟨b,J,_⟩:=j.held;refine gP RC j I (fd:="held") rfl RC.n1 ⟨d,rfl,.inl ⟨b,.inl J⟩,?_⟩;refine eU S s L h λv z M O m o k=>?_
 obtain⟨l,C,u⟩:=(j.step m).held
 cases z with
 |str y=>
  unfold Rep at o;subst o;have g:=jV u y;have c:RK X.K ad M O (.ok ((bI r.held y).getD .non)) Q E:=k;refine⟨kP l (Sum.inr y),oJ.k (k:=Sum.inr y) C,?_⟩
  cases q:bI r.held y with
  |none=>
   rw[q]at c g;rw[g];exact c.ok_now m.gh (by unfold Rep;rfl)
  |some dd=>
   rw[q]at c g;obtain⟨v,t,B⟩:=g;rw[t];exact c.ok_now m.gh B
 |_=>exact ba k
theorem aMr(hu:X.A.units+62<cLine)(RC:RkC X.K A)(hN:X.N[i]? =some x)(hv:Vis X.env.scope x)(hd:(x==("__debug__":Str))=false)(hcd:(x==("__classdict__":Str))=false)(hf:ME X ad a f)(neg:Bool):
  PC X (if neg then .NotIn else .In) a (.Attribute (.Name x p) "held" ap) (tE X ad (aJ7 neg A i f)):=by
 have M: ∀(b:Bool) (c:St) (H:Hp) (Q:VK),tE X ad (aJ7 b A i f) c H Q->tE X ad f c H λy B=>aOx X.K (aKl i) "held" c B λz S=>∃a o,z= .ref a/\oJ S a y o/\Q (.bl (b != o.isSome)) S:=λb c H Q g=>by
  obtain⟨G,t,E,n,h,l,j⟩:=g;unfold aJ7 at j;refine eU n h l j λv Y G1 B O J k=>?_
  obtain⟨r,e,k⟩:=lA k;obtain⟨p0,dx,d,l1,l2,h1,L⟩:=(h.step O).rk e;refine gP RC L h1 (fd:="held") rfl RC.n1 ?_;obtain⟨m,Z,U⟩:=L.held
  cases Y with
  |str y=>
   unfold Rep at J;subst J;have u:=jV U y
   have W:RK X.K ad G1 B (.ok (.bl (b != (bI r.held y).isSome))) Q E:=k
   refine⟨d,kP m (Sum.inr y),rfl,oJ.k (k:=Sum.inr y) Z,?_⟩
   have es:(kP m (Sum.inr y)).isSome=(bI r.held y).isSome:=by
    cases q:bI r.held y with
    |none=>rw[q]at u;rw[u];rfl
    |some dd=>rw[q]at u;obtain⟨v,T,_⟩:=u;rw[T];rfl
   rw[es];exact W.ok_now O.gh (by unfold Rep;rfl)
  |_=>exact ba k
 intro C s c H Q I g;cases neg
 ·refine aLr (by lia) hf (hJ (cP hN hv hd hcd) rfl) C s c H Q I ?_
  obtain⟨G,t,E,n,h,l,j⟩:=M false c H Q g;exact⟨G,t,E,n,h,l,by simpa using j⟩
 ·refine xA (by lia) hf (hJ (cP hN hv hd hcd) rfl) C s c H Q I ?_
  obtain⟨G,t,E,n,h,l,j⟩:=M true c H Q g;exact⟨G,t,E,n,h,l,by simpa using j⟩
end
theorem aE8(h1:ltS b a=false)(h2:ltS c b=false):ltS c a=false:=by
 unfold ltS at *;rw[decide_eq_false_iff_not]at *;rw[List.not_lt]at *;exact List.le_trans h1 h2
theorem yR(h1:ltS a b=false)(h2:ltS b a=false):a=b:=by
 unfold ltS at *;rw[decide_eq_false_iff_not]at *;rw[List.not_lt]at *;have e:=List.le_antisymm h2 h1;obtain⟨⟨x⟩⟩:=a;obtain⟨⟨y⟩⟩:=b;cases e;rfl
theorem aC0(h:ltS a b=true):ltS b a=false:=by
 unfold ltS at *;rw[decide_eq_true_iff]at h;rw[decide_eq_false_iff_not,List.not_lt];exact List.le_of_lt h
theorem lB(x:Str): ∀l,(aBy x l).Perm (x::l)
 |[]=>List.Perm.refl _
 |y::l=>by
  unfold aBy;split
  ·exact((lB x l).cons y).trans (List.Perm.swap x y l)
  ·exact List.Perm.refl _
theorem i4: ∀l,(fE l).Perm l
 |[]=>List.Perm.refl _
 |x::l=>(lB x _).trans ((i4 l).cons x)
theorem mK(x:Str): ∀{l:List Str},l.Pairwise (λa b=>ltS b a=false)->(aBy x l).Pairwise (λa b=>ltS b a=false)
 |[],_=>by simp[aBy]
 |y::l,h=>by
  rw[List.pairwise_cons]at h;unfold aBy;split
  ·rename_i e;rw[List.pairwise_cons];refine⟨λz c=>?_,mK x h.2⟩
   rcases av.mp ((lB x l).mem_iff.mp c)with rfl|c
   ·exact aC0 e
   ·exact h.1 z c
  ·rename_i e
   have d:ltS y x=false:=by simpa using e
   rw[List.pairwise_cons];refine⟨λz c=>?_,List.pairwise_cons.mpr h⟩
   rcases av.mp c with rfl|c
   ·exact d
   ·exact aE8 d (h.1 z c)
theorem lC: ∀l,(fE l).Pairwise (λa b=>ltS b a=false)
 |[]=>.nil
 |x::l=>mK x (lC l)
theorem uD: ∀{l:List Str} {p:Str},risingS p l=true->(p::l).Pairwise (λa b=>ltS b a=false)
 |[],p,_=>by simp
 |x::r,p,h=>by
  unfold risingS at h;rw[aw]at h;have e:=uD h.2
  have d:ltS x p=false:=by
   have:=h.1
   rw[ltCps_eq]at this;simpa[ltS]using this
  rw[List.pairwise_cons];refine⟨λz c=>?_,e⟩
  rcases av.mp c with rfl|c
  ·exact d
  ·exact aE8 d ((List.pairwise_cons.mp e).1 z c)
theorem vQ(p:m.Perm l)(h:sortedS m=true):m=fE l:=by
 have c:m.Pairwise (λa b=>ltS b a=false):=by
  cases m with
  |nil=>exact .nil
  |cons x r=>exact uD h
 exact List.Perm.eq_of_pairwise (λa b _ _ x y=>yR y x) c (lC l) (p.trans (i4 l).symm)
section
variable {prog:Program} {w:World} {A:Around} {Ex:cf} {s:Shared} {T:String} {r d:Addr} {n:Nat} {P:Nat->Value->Prop} {OK:Heap->Prop}
theorem rX(S:KdlSrc prog w T r d n P OK)(hh:A.handled=none)(hok:OK s.heap)(hn:n<=sizeLine)(h: ∀h' tk (vs:List Value),(∀b o,s.heap.get? b=some o->h'.get? b=some o)->vs.length=n->(∀j v,vs[j]? =some v->P j v)->Q vs {s with heap:=h',toks:=tk}):wpAny (model prog w) A (collect (.ref r)) Q Ex s:=by
 have lt:=S.there _ hok;unfold collect;refine aa (wpAny_runValue (codeAny_builtin entry_proto_collect' ?_));refine aa (wpAny_newList (ae ⟨Code.quiet_builtin _ (by decide+kernel),codeAny_builtin entry_list_iadd' ?_⟩))
 refine kdl_extend (A:=A) (R:=λq i=>match q with
  |.ok (.ret v)=>wpAny (model prog w) A (match v with
   |.ref a=>(do
    let o<-load a
    match o.data with
    |.seq m _=>pure m.toList
    |_=>unsupported "internal:collect")
   |_=>unsupported "internal:collect") Q Ex i
  |.ok _=>False
  |.error e=>Ex e i) (s:={s with heap:=s.heap.push (seqObj "list" #[] 0)}) S hh (S.keep _ _ hok λb _ o e=>af _ e) s.heap.objs.size (Nat.ne_of_gt lt.1) (Nat.ne_of_gt lt.2) (.ref s.heap.objs.size) 0 (ag _ rfl) (λh' tk g c hk l f=>?_) hn
 refine aa (wpAny_load l (ae ?_));refine h h' tk g.toList (λb o e=>hk b o (bj (ah e)) (af _ e)) (by rw[Array.length_toList];exact f.1) λj v e=>f.2 j v (by rw[<-Array.getElem?_toList];exact e)
theorem vR{Q:cf}(S:KdlSrc prog w T r d n P OK)(hh:A.handled=none)(hok:OK s.heap)(h64:n<64)(hP: ∀vs:List Value,vs.length=n->(∀j v,vs[j]? =some v->P j v)->StrsAre vs ss)(h: ∀(h1 h':Heap) tk (out:List Value) e,(∀b o,s.heap.get? b=some o->h1.get? b=some o)->(∀b o,h1.get? b=some o->h'.get? b=some o)->h'.get? h1.objs.size=some (seqObj "list" out.toArray e)->StrsAre out (fE ss)->Q (.ref h1.objs.size) {s with heap:=h',toks:=tk}):
  wpAny (model prog w) A (call (.builtin "sorted") [.ref r]) Q Ex s:=by
 refine Calls.call_function_entry kind_sorted plain_sorted entry_sorted (args_sorted1 _) ?_;unfold Builtin.«sorted»;refine aa (m:=checkCount "sorted" 1 1 _) (ae ?_);refine aa (rX (A:=A.in1) S hh hok (by rw[sizeLine_eq];lia) λh1 tk vs hk t B=>?_)
 have g:=hP vs t B;refine aa (wpAny_newList ?_ (by rw[sizeLine_eq];lia))
 have a:(h1.push (seqObj "list" vs.toArray 0)).get? h1.objs.size=some (seqObj "list" vs.toArray 0):=ag _ rfl
 refine aa (wpAny_holding (wpAny_call_entry slot_list_sort ⟨_,a,rfl⟩ entry_list_sort (list_sort_treeK (s:={s with heap:=h1.push (seqObj "list" vs.toArray 0),toks:=tk}) strKind_oneLt a g.keysOf (λl i dU e=>keyKind_strs (by rw[<-e];exact g)) (by lia) λc z p=>⟨_,rfl,?_⟩) (args_list_sort _)))
 obtain⟨x,y,C,u⟩:=sorted_out_str g z p;obtain⟨e,q⟩:=sortedHeap_at (out:=(arrOf c).map (·.2)) a
 have f: ∀b o,h1.get? b=some o->(sortedHeap (h1.push (seqObj "list" vs.toArray 0)) h1.objs.size vs ((arrOf c).map (·.2))).get? b=some o:=λb o q1=>by
  have lt:b<h1.objs.size:=ah q1;rw[sortedHeap_old (bj lt) (by rw[ai];exact Nat.lt_succ_of_lt lt),Heap.get?_push_ne _ _ _ (bj lt)]
  exact q1
 exact ae ⟨_,rfl,h h1 _ tk ((arrOf c).map (·.2)).toList e hk f (by rw[Array.toArray_toList];exact q) (by rw[<-vQ C u];exact y)⟩
end
def aMs:List V->Hp->VK->Prop:=λxs H Q=>∃d kvs ks,xs=[V.ref d]/\Rd H d (.dK kvs)/\kvs.map (·.1)=ks.map (λk:Str=>(Sum.inr k:L2.Key))/\ks.length<64/\∀p,H p=none->Q (.ref p) (upd H p (.lst ((fE ks).map V.str)))
theorem yS(h:StrsAre vs ss):cN (ss.map V.str) vs:=by
 induction h with
 |nil=>exact .nil
 |cons y t _ a=>exact .cons ⟨t,rfl⟩ a
theorem mL(hc:X.calm=true):lT X (.builtin "sorted") aMs:=by
 intro U s T H xs us Q I r h;obtain⟨d,kvs,a,rfl,hd,hk,p,q⟩:=h;obtain⟨u,rfl,Y⟩:=cN.one r;cases Y;obtain⟨z,L,B,kv,dd⟩:=iV I.hok hd;obtain⟨o,es,ep,W,M,Z,m4,S,m6⟩:=dd
 have b:B.map (·.1)=a.map (λk:Str=>(Sum.inr k:L2.Key)):=by rw[<-kv.keys];exact hk
 have O:B.length=a.length:=by simpa using congrArg List.length b
 refine vR (ss:=a) (kdl_dict (knd:=aZ X.prog X.w) (kvs:=B) (ep:=ep) L) (I.ok.hd hc) ⟨o,es,W,M,Z,m4,S,m6⟩ (by lia) (λc l m=>?_) λC h' G E e N k2 f i=>?_
 ·have A: ∀(c:List Value) (a:List Str),c.length=a.length->(∀(j:Nat) (v:Value),c[j]? =some v->∃k,a[j]? =some k/\∃t,v=Value.str k t)->StrsAre c a:=by
   intro c
   induction c with
   |nil=>intro a l _;cases a with|nil=>exact .nil|cons _ _=>cases l
   |cons v c ih=>
    intro a l m
    cases a with
    |nil=>cases l
    |cons k a=>
     obtain⟨k',f,t,i⟩:=m 0 v rfl;cases f;subst i;exact .cons k t (ih a (by simpa using l) λj v e=>m (j+1) v e)
  refine A c a (by lia) λj v e=>?_
  obtain⟨k,x,f,i⟩:=m j v e
  have g:(a.map (λk:Str=>(Sum.inr k:L2.Key)))[j]? =some k:=by rw[<-b,List.getElem?_map,f];rfl
  rw[List.getElem?_map]at g
  cases K:a[j]? with
  |none=>rw[K]at g;cases g
  |some y=>
   rw[K]at g;cases g;refine⟨y,rfl,?_⟩;exact Value.isStrOf_shape i
 ·have J:Inv X U T H {s with heap:=C,toks:=G}:=I.kept N
  have n:=J.hok.fresh (aj C.objs.size)
  have hz:((fE a).map V.str).length<=sizeLine:=by
   rw[aq,(i4 a).length_eq];exact Nat.le_trans (Nat.le_of_lt p) (by decide)
  exact⟨.ref C.objs.size,_,J.laid (o:=.lst ((fE a).map V.str)) (t':=G) k2 (aj _) ⟨hz,E,e,yS i,f⟩,rfl,q _ n⟩
section
variable {X:Cx} {ad:Ad} {pos p np ap:Pos} {A i:Nat} {x:Str}
theorem aH0{K:Frag}(h:HR K ad G held kvs):kvs.map (·.1)=(held.map (·.1)).map (λk:Str=>(Sum.inr k:L2.Key)):=by
 induction h with
 |nil=>rfl
 |cons a t b=>rw[List.map_cons,List.map_cons,List.map_cons,b,a.1]
theorem lD{K:Frag}{G:Hp}: ∀ss:List Str,aJ K ad G (ss.map D.str) (ss.map V.str)
 |[]=>aJ.nil
 |s::ss=>aJ.cons (by unfold Rep;rfl) (lD ss)
theorem aH1(hc:X.calm=true)(RC:RkC X.K A)(hg:L2.Gl X "sorted")(hm:X.mg "sorted"=none)(hN:X.N[i]? =some x)(hv:Vis X.env.scope x)(hd:(x==("__debug__":Str))=false)(hcd:(x==("__classdict__":Str))=false):
  ME X ad (.Call (.Name "sorted" p) [.Attribute (.Name x np) "held" ap] [] pos) (aGi A i):=by
 refine PE.imp (sT (mL hc) hg hm (by decide+kernel) (bY (hJ (cP hN hv hd hcd) rfl) dZ rfl)) λv H Q f=>?_
 obtain⟨G,s,E,o,j,B,a⟩:=f;obtain⟨r,e,a⟩:=lA a;obtain⟨z,t,d,u,y,m,g⟩:=j.rk e;obtain⟨b,l,h⟩:=g.held
 by_cases c:r.held.length<64
 ·rw[if_pos c]at a;refine gP RC g m (fd:="held") rfl RC.n1 ⟨d,b,r.held.map (·.1),rfl,.inl l,aH0 h,by simpa using c,λq n=>?_⟩
  exact a.ow_new o (lD _) n
 ·rw[if_neg c]at a;exact a.elim
end
theorem uE{m:Str}(h:m≠"held"/\m≠"done"/\m≠"undone"):[(("held":Str),V.ref d),("done",.ref l1),("undone",.ref l2)].lookup m=none:=by
 have b:(m==("held":Str))=false:=by simpa using h.1
 have a:(m==("done":Str))=false:=by simpa using h.2.1
 have c:(m==("undone":Str))=false:=by simpa using h.2.2
 rw[List.lookup_cons,b,List.lookup_cons,a,List.lookup_cons,c,List.lookup_nil]
theorem iG(hb:attributeBase o m env (eval o env)=eval o env)(hf:methodCallForm (es.length+([]:List Keyword).length) (backTo cp (starEach es env)) (backToKw cp (keywordEach [] env))=true)(hl:(ap.endLine==cp.line)=true):
  eval (.Call (.Attribute o m ap) es [] cp) env=(do
   let ov<-eval o env
   standAt ap.atName
   let (f,first)<-holding [ov] (getMethod ov m (do return (<-importBound o env).getD true))
   callWith cp f first (backTo cp (starEach es env)) (backToKw cp (keywordEach [] env))):=by
 rw[arm_eval_Call,hb];unfold methodCall calleeOf methodCallPos;rw[hf,hl];rfl
section
variable {X:Cx} {ad:Ad} {ce:cg} {s:Shared} {σ:St} {H G:Hp} {ρ:Rho} {Q:VK} {E:Nat->Hp->Prop} {pos p ap cp:Pos} {a b c e:Expr} {es:List Expr} {f g h:F} {fs:List F} {A i n:Nat} {x m:Str} {M:FM}
theorem yT{m:RM}(h:RK X.K ad G H m.told Q E):RMK X.K ad A G H p0 dx d l1 l2 m Q E:=by
 cases m with
 |pure x=>exact h
 |chg _ _=>exact ba h
theorem RMK.impE{m:RM}(h:RMK X.K ad A G H p0 dx d l1 l2 m Q E)(k: ∀c H',E c H'->E' c H'):RMK X.K ad A G H p0 dx d l1 l2 m Q E':=by
 cases m with
 |pure x=>exact RK.impE h k
 |chg _ _=>exact h
theorem lE(M0:MetOk X ad A m n M)(I:Inv X ce σ H s)(hG:Same G H)(hR:RackIn X.K ad A G H p0 r dx d l1 l2)(rv:cN vs us)(rq:aJ X.K ad G ds vs)(hl:ds.length=n)(hx:XP X ad σ E)(h:RMK X.K ad A G H p0 dx d l1 l2 (M r ds) Q E){f:Addr}(hf:Meth X.K A m f):
  wpAny (model X.prog X.w) X.A (call (.ref f) (.ref p0::us)) (EP X ce σ Q) X.xe s:=by
 obtain⟨i,k,p,q,b,a,o,j⟩:=M0.ok
 have e:i=f:=by
  have z:=b.at_.symm.trans hf.at_;cases z;rfl
 subst e;exact rO (vs:=V.ref p0::vs) (E:=xk ad E) a o j I (.cons rfl rv) ⟨G,p0,r,dx,d,l1,l2,ds,vs,rfl,hG,hR,rq,hl,h.impE λc t e=>⟨c,rfl,e⟩⟩ λe l g=>hx ce H s e l I g
theorem aC1(RC:RkC X.K A)(M0:MetOk X ad A m n M)(hN:X.N[i]? =some x)(hv:Vis X.env.scope x)(hd:(x==("__debug__":Str))=false)(hcd:(x==("__classdict__":Str))=false)(ha:MA X ad (a::es) fs)(hn:fs.length=n)(hst:starEach (a::es) X.env=(false,eval a X.env)::starEach es X.env)(hpl:(backTo cp (starEach es X.env)).any (·.1)=false)(hfm:methodCallForm ((a::es).length+([]:List Keyword).length) (backTo cp (starEach (a::es) X.env)) (backToKw cp (keywordEach [] X.env))=true)(hln:(ap.endLine==cp.line)=true)(I:Inv X ce σ H s)(hG:Same G H)(hS:SL X.K ad G H ρ σ)(hx:XP X ad σ E)(h1:σ[i]? =some (some (.ref p0)))(hR:RackIn X.K ad A G H p0 r dx d l1 l2)(hr:RK X.K ad G H (l7 fs ρ W) Q E)(hq: ∀ds G1 H1,Step G H G1 H1->RK X.K ad G1 H1 (W ds) Q E->RMK X.K ad A G1 H1 p0 dx d l1 l2 (M r ds) Q E):
  wpAny (model X.prog X.w) X.A (eval (.Call (.Attribute (.Name x p) m ap) (a::es) [] cp) X.env) (EP X ce σ Q) X.xe s:=by
 obtain⟨f,k,S,L,o,_⟩:=M0.ok;refine PySem.W.methodCall_KW (L2.thn (cP hN hv hd hcd ce s σ H (λv H1=>v= .ref p0/\H1=H) I ⟨.ref p0,h1,rfl,rfl⟩) λu C l=>?_) (iG rfl hfm hln)
 obtain⟨v,H1,j,z,t,B⟩:=l;subst t;subst B
 cases (show u=Value.ref p0 from z)
 refine gA j hR.ins RC.cl o (uE M0.no) ?_
 refine PySem.W.callWith_K (first:=[.ref p0]) (h₀:=X.base) j.ok.mod.kin o.kp (L2.thn (ha cp ce C σ H1 (λe c=>∃ds G1,Step G H1 G1 c/\aJ X.K ad G1 ds e/\ds.length=fs.length/\RK X.K ad G1 c (W ds) Q E) j
  (rN hG hS hx hr λe ds G1 c b g h k=>⟨ds,G1,b,g,h,k⟩)) λJ O ⟨e,c,q,y,ds,G1,b,g,h,k⟩=>⟨q.kIn,?_⟩) hst hpl
 exact lE M0 q b.gh (hR.step b) y g (h.trans hn) hx (hq ds G1 c b k) o
theorem yU(RC:RkC X.K A)(M0:MetOk X ad A m 0 M)(hN:X.N[i]? =some x)(hv:Vis X.env.scope x)(hd:(x==("__debug__":Str))=false)(hcd:(x==("__classdict__":Str))=false)(hln:(ap.endLine==cp.line)=true)(I:Inv X ce σ H s)(hG:Same G H)(hx:XP X ad σ E)(h1:σ[i]? =some (some (.ref p0)))(hR:RackIn X.K ad A G H p0 r dx d l1 l2)(hq:RMK X.K ad A G H p0 dx d l1 l2 (M r []) Q E):
  wpAny (model X.prog X.w) X.A (eval (.Call (.Attribute (.Name x p) m ap) [] [] cp) X.env) (EP X ce σ Q) X.xe s:=by
 obtain⟨f,k,l,n,b,_⟩:=M0.ok;refine PySem.W.methodCall_KW (L2.thn (cP hN hv hd hcd ce s σ H (λv e=>v= .ref p0/\e=H) I ⟨.ref p0,h1,rfl,rfl⟩) λu o c=>?_) (iG rfl rfl hln)
 obtain⟨v,e,a,h,g,j⟩:=c;subst g;subst j
 cases (show u=Value.ref p0 from h)
 refine gA a hR.ins RC.cl b (uE M0.no) ?_;exact PySem.W.callWith_K0 (first:=[.ref p0]) a.kIn b.kp (lE M0 a hG hR .nil aJ.nil rfl hx hq b)
theorem aMt(RC:RkC X.K A)(M0:MetOk X ad A m n M)(hN:X.N[i]? =some x)(hv:Vis X.env.scope x)(hd:(x==("__debug__":Str))=false)(hcd:(x==("__classdict__":Str))=false)(ha:MA X ad es fs)(hn:fs.length=n)
  (hst: ∀a r,es=a::r->starEach (a::r) X.env=(false,eval a X.env)::starEach r X.env/\(backTo cp (starEach r X.env)).any (·.1)=false) (hl:es.length=fs.length) (hfm:methodCallForm (es.length+([]:List Keyword).length) (backTo cp (starEach es X.env)) (backToKw cp (keywordEach [] X.env))=true) (hln:(ap.endLine==cp.line)=true):
  ME X ad (.Call (.Attribute (.Name x p) m ap) es [] cp) (dA A i M fs):=by
 refine λJ s z H Q I o=>o.el λG t E l g j b=>?_
 obtain⟨r,e,b⟩:=lA b;obtain⟨C,u,d,v,B,h,c⟩:=g.rk e
 cases es with
 |nil=>
  cases fs with
  |nil=>
   subst hn;exact yU RC M0 hN hv hd hcd hln I l j h c (yT b)
  |cons _ _=>cases hl
 |cons a f=>exact aC1 RC M0 hN hv hd hcd ha hn (hst a f rfl).1 (hst a f rfl).2 hfm hln I l g j h c b λL q O y k=>yT k
end
theorem aE9{K:Frag}{ad:Ad}{G:Hp}: ∀{ks:List Str} {ds:List D} {es:List (L2.Key×V)},es.map (·.1)=ks.map Sum.inr->aJ K ad G ds (es.map (·.2))->HR K ad G (ks.zip ds) es
 |[],ds,[],_,_=>.nil
 |[],_,_::_,h,_=>by simp at h
 |_::_,_,[],h,_=>by simp at h
 |k::ks,ds,(q,v)::es,h1,h2=>by
  rw[List.map_cons,List.map_cons]at h1;obtain⟨a,f⟩:=List.cons.inj h1;rw[List.map_cons]at h2
  cases ds with
  |nil=>unfold aJ at h2;cases h2
  |cons d ds=>
   unfold aJ at h2;obtain⟨i,g,b,e,c⟩:=h2;cases b;exact .cons ⟨a,e⟩ (aE9 f c)
theorem RK.imp{K:Frag}{ad:Ad}(h:RK K ad G H r Q E)(k: ∀v H,Q v H->Q' v H):RK K ad G H r Q' E:=by
 cases r with
 |ok d=>exact λv b f a q=>k _ _ (h v b f a q)
 |ow i=>exact λp g b f a n m e q=>k _ _ (h p g b f a n m e q)
 |ex c=>exact h
 |bad=>exact h
def aR0:R->Option D
 |.ok d=>some d
 |.ow xs=>some (.lst xs)
 |_=>none
section
variable {X:Cx} {ad:Ad} {Z:(St->Nat->Hp->Prop)->Prop} {ce:cg} {s:Shared} {σ:St} {H G G₀:Hp} {ρ:Rho} {D':Ends} {pos pos' p ap cp:Pos} {a b c e o:Expr} {f g h:F}
def aMu(X:Cx)(ad:Ad)(f:F):TE:=λσ H Q=>tE X ad f σ H λv H1=>∃a o es,v= .ref a/\H1 a=some (.frz o (.dK es))/\∀q,H1 q=none->Q (.ref q) (upd H1 q (.dK es))
theorem aC2(hg:L2.Gl X "dict")(hm:X.mg "dict"=none)(ha:ME X ad a f)(he:starEach [a] X.env=(false,eval a X.env)::starEach [] X.env):PE X (.Call (.Name "dict" p) [a] [] pos) (aMu X ad f):=by
 intro z s y H Q I h;refine wpAny_Call_Name_kw (fN I hg hm (u:=.type "dict") (by decide+kernel) ?_ (by decide) (by decide))
 refine PyProof.Rows.callWith_type1 (L2.thn (bY ha dZ he pos z s y H (λe b=>∃v,e=[v]/\∃a o c,v= .ref a/\b a=some (.frz o (.dK c))/\∀q,b q=none->Q (.ref q) (upd b q (.dK c))) I ?_) λN O ⟨e,b,L,m,v,i,t,K,c,r,d,q⟩=>?_) he rfl
 ·obtain⟨G,j,E,J,l,C,x⟩:=h;refine⟨G,j,E,J,l,C,?_⟩;exact RK.imp x λv b k=>⟨v,rfl,k⟩
 ·subst i;subst r;obtain⟨u,rfl,A⟩:=lU m
  cases (show u=Value.ref t from A)
  exact aB7 L (.inr ⟨K,d⟩) λg M n B=>⟨.ref g,_,B,rfl,q g n⟩
theorem aC3(hN:X.N.Nodup)(hi:X.N[i]? =some x)(hl:Loc X.env.scope x)(hg:L2.Gl X "dict")(hm:X.mg "dict"=none)(ha:ME X ad a f)(he:starEach [a] X.env=(false,eval a X.env)::starEach [] X.env)(hf:X.fn x=true\/X.env.scope.names.lookup x=some .local):
  MS X ad Z (.Assign [.Name x pos'] (.Call (.Name "dict" p) [a] [] cp) pos) (l9 i f):=by
 refine PS.imp (sP hN hi hl (aC2 hg hm ha he) rfl hf) ?_;rintro l C H ⟨b,G,m,E,S,z,u⟩;refine fU S z u λv d e I c r k=>?_
 cases d<;>try exact ba k
 rename_i B s;unfold Rep at r;obtain⟨t,A,g,rfl,o,y,j⟩:=r;refine⟨t,A,g,rfl,c.gh _ _ o,λq n=>?_⟩
 have h:e q=none:=c.gh.free n
 exact(show OKo X ad b (.nx (m.set i (.dc (B.zip s)))) l E from k) _ e _ ((S.step c).setNew (Step.own c.gh n) n ⟨q,g,rfl,h,aF,aE9 y j,trivial⟩)
theorem rY{ks:List Str}(I:Inv X ce σ (upd H q (.dK es)) s)(hG:Same G H)(n:H q=none\/H q=some (.dK []))(gn:G q=none)(h1:es.map (·.1)=ks.map Sum.inr)(h2:aJ X.K ad G ds (es.map (·.2)))(hr: ∀v G' H',(∀c,c≠q->G' c=G c)->Same G G'->Same G' H'->(∀c,c≠q->H' c=H c)->Rep X.K ad G' (.dct ks ds) v->Q v H'):EP X ce σ Q (.ref q) s:=by
 obtain⟨o,b⟩:=Inv.frzD I aF;rw[wF]at b;refine⟨.ref q,_,b,rfl,hr (.ref q) (upd G q (.frz o (.dK es))) _ (λc a=>aB a) (Same.upd_new gn) (λc u e=>?_) (λc a=>aB a) ?_⟩
 ·by_cases z:c=q
  ·subst z;rw[aF]at e ⊢;exact e
  ·rw[aB z]at e ⊢;exact hG c u e
 ·unfold Rep;exact⟨q,o,es,rfl,aF,h1,h2.mono (Same.upd_new gn)⟩
theorem aC4:ME X ad (.Dict [] [] pos) kG:=by
 refine λl s j H Q I B=>B.el λG L E d M J A=>?_
 refine L2.thn (sY l s j H (λv b=>∃q,v= .ref q/\H q=none/\b=upd H q (.dK [])) I λq n=>⟨q,rfl,n,rfl⟩) λu N ⟨v,b,p,o,q,f,n,h⟩=>?_
 subst f;subst h
 cases (show u=Value.ref q from o)
 refine rY (ad:=ad) (ks:=[]) (ds:=[]) p d (.inl n) (d.free n) rfl aJ.nil λv m t y i g x r=>?_
 exact(show RK X.K ad G H (.ok (.dct [] [])) Q E from A) v m t ⟨i,g,λc w e=>by rw[x c (λz=>by rw[z,n]at e;cases e)];exact e,λc C a=>by
  by_cases z:c=q
  ·rw[z];exact n
  ·rw[y c z,C]at a;exact absurd rfl a⟩ r
theorem aFa(hG:Same G H)(hS:SL X.K ad G H ρ σ)(hx:XP X ad σ E)(hv:aR0 (f ρ)=some x)(q: ∀v G1 H1,Step G H G1 H1->Rep X.K ad G1 x v->Q v H1):tE X ad f σ H Q:=by
 refine⟨G,ρ,E,hG,hS,hx,?_⟩
 cases e:f ρ with
 |ok d=>rw[e]at hv;cases hv;exact q
 |ow i=>
  rw[e]at hv;cases hv;intro p j G1 H1 a n m b r;obtain⟨h,st2,g⟩:=cY (X:=X) (ad:=ad) a n m b r;exact q _ h H1 st2 g
 |ex c=>rw[e]at hv;cases hv
 |bad=>rw[e]at hv;cases hv
theorem aMv{c:Nat}(hG:Same G H)(hS:SL X.K ad G H ρ σ)(hx:XP X ad σ E)(hv:f ρ= .ex c)(q: ∀G1 H1,Step G H G1 H1->E c H1):tE X ad f σ H Q:=
 ⟨G,ρ,E,hG,hS,hx,by rw[hv];exact q⟩
theorem uF(h:RK X.K ad G H (r.bind k) Q E):(∃x,aR0 r=some x/\RK X.K ad G H (k x) Q E)\/∃c,r= .ex c/\∀G1 H1,Step G H G1 H1->E c H1:=by
 cases r with
 |ok d=>exact .inl ⟨d,rfl,h⟩
 |ow a=>exact .inl ⟨.lst a,rfl,h⟩
 |ex c=>exact .inr ⟨c,rfl,h⟩
 |bad=>exact h.elim
theorem aC5(ha:ME X ad a f)(hb:ME X ad b g):ME X ad (.Dict [some (.Constant (.str k1) j1 p1),some (.Constant (.str k2) j2 p2)] [a,b] pos) (sW k1 k2 f g):=by
 refine λce s σ H Q I h9=>h9.el λG T E hG t N hr=>?_
 have P:=sZ (pos:=pos) (jQ (X:=X) (ad:=ad) (k:=.str k1) (j:=j1) (pos:=p1) (d:=.str k1) rfl) ha (sZ (jQ (X:=X) (ad:=ad) (k:=.str k2) (j:=j2) (pos:=p2) (d:=.str k2) rfl) hb aGu)
 have rk: ∀(k:Str) (m h:Hp),Same m h->SL X.K ad m h T σ->∀(Q':VK),(∀J M,Step m h J M->Q' (.str k) M)->tE X ad (rK (.str k)) σ h Q':=λk m h hg hs Q' q=>⟨m,T,E,hg,hs,N,λv J M S r=>by
  have r':v= .str k:=by unfold Rep at r;exact r
  subst r';exact q J M S⟩
 refine L2.thn (aGv P rfl rfl (by simp) (by simp) ce s σ H (λv h=>∃q p A x y B C,v= .ref q/\H q=none/\Step G (upd H q (.dK [])) p A/\Rep X.K ad p x B/\Rep X.K ad p y C/\RK X.K ad G H (.ok (.dct [k1,k2] [x,y])) Q E/\h=upd A q (.dK [(.inr k1,B),(.inr k2,C)])) I λq n=>?_) λu O hz=>?_
 ·have gq:G q=none:=hG.free n
  have st0:Step G H G (upd H q (.dK [])):=Step.own hG n
  have W:RK X.K ad G H ((f T).bind λx=>(g T).bind λy=>if k1=k2 then .bad else .ok (.dct [k1,k2] [x,y])) Q E:=hr
  refine rk k1 G _ st0.gh (t.step st0) _ λm h st1=>?_
  have O:=st0.trans st1;rcases uF W with ⟨x,vx,h1⟩|⟨c,ec,Z⟩
  ·refine aFa st1.gh (t.step O) N vx λB J M st2 U=>?_
   have s2:=O.trans st2;refine rk k2 J _ st2.gh (t.step s2) _ λG3 H3 l=>?_
   have Y:=s2.trans l;rcases uF h1 with ⟨y,vy,h2⟩|⟨c,ec,Z⟩
   ·refine aFa l.gh (t.step Y) N vy λC p A L r4=>?_
    have o:Step G (upd H q (.dK [])) p A:=((st1.trans st2).trans l).trans L
    have hk: ¬k1=k2:=λz=>by
     have i:RK X.K ad G H (if k1=k2 then .bad else .ok (.dct [k1,k2] [x,y])) Q E:=h2
     rw[if_pos z]at i;exact i.elim
    have i:RK X.K ad G H (if k1=k2 then .bad else .ok (.dct [k1,k2] [x,y])) Q E:=h2
    rw[if_neg hk]at i;refine⟨o.sh _ _ aF,[(.inr k1,B),(.inr k2,C)],rfl,by simp,q,p,A,x,y,B,C,rfl,n,o,(U.mono l.sg).mono L.sg,r4,i,?_⟩
    have nk: ¬((Sum.inr k1:L2.Key)= .inr k2):=λz=>hk (Sum.inr.inj z)
    simp[iA,L2.putK,nk]
   ·exact aMv l.gh (t.step Y) N ec λm h S=>Z m h (Y.trans S)
  ·exact aMv st1.gh (t.step O) N ec λm h S=>Z m h (O.trans S)
 ·obtain⟨v,h,I1,ru,q,p,A,x,y,B,C,rfl,n,o,r1,U,hk,rfl⟩:=hz
  cases (show u=Value.ref q from ru)
  have gq:p q=none:=o.gnone (hG.free n) aF
  refine rY (ad:=ad) (ks:=[k1,k2]) (ds:=[x,y]) I1 o.gh (.inr (o.sh _ _ aF)) gq rfl (aJ.cons r1 (aJ.cons U aJ.nil)) λv G' H' g1 g2 g3 g4 r=>?_
  refine hk v G' H' ⟨o.sg.trans g2,g3,λc w e=>?_,λc z1 z2=>?_⟩ r
  ·have nc:c≠q:=λz=>by rw[z,n]at e;cases e
   rw[g4 c nc];exact o.sh _ _ (by rw[aB nc];exact e)
  ·by_cases z:c=q
   ·rw[z];exact n
   ·rw[g1 c z]at z2
    have:=o.nw c z1 z2
    rw[aB z]at this;exact this
theorem aC6(hu:X.A.units+62<cLine)(ho:ME X ad o f)(ha:ME X ad a g)(hb:ME X ad b h)(m:M2 X o "get" ap a b cp):ME X ad (.Call (.Attribute o "get" ap) [a,b] [] cp) (pA f g h):=by
 refine λZ s Y H Q I h9=>h9.el λG N E hG u p hr=>?_
 refine aB5 (by lia) ho ha hb m Z s Y H Q I ?_
 refine eU hG u p hr λv d G1 H1 e r k=>?_
 cases d<;>try exact ba k
 rename_i J l;unfold Rep at r;obtain⟨C,B,i,rfl,S,a1,W⟩:=r;refine⟨C,rfl,.inl ⟨i,.inr ⟨B,e.gh _ _ S⟩⟩,?_⟩;refine eU e.gh (u.step e) p (show RK X.K ad G1 H1 ((g N).bind λy=>(h N).bind λz=>(match y with|.str k=>.ok ((bI (J.zip l) k).getD z)|_=>.bad)) Q E from k) λv2 d2 G2 H2 st2 O k2=>?_
 refine eU st2.gh ((u.step e).step st2) p k2 λv3 d3 M T c r3 L=>?_
 cases d2<;>try exact ba L
 rename_i x;unfold Rep at O;subst O
 have U:T C=some (.frz B (.dK i)):=c.sh _ _ (st2.sh _ _ (e.gh _ _ S))
 refine⟨_,.inl ⟨i,.inr x,.inr ⟨B,U⟩,rfl,rfl⟩,?_⟩;have j:RK X.K ad M T (.ok ((bI (J.zip l) x).getD d3)) Q E:=L;have t:aJ X.K ad M l (i.map (·.2)):=(W.mono st2.sg).mono c.sg
 rcases pH (x:=x) a1 t with ⟨n,q,_⟩|⟨w,d,n,q,b3,_,_⟩
 ·rw[q]at j;rw[n];exact j.ok_now c.gh r3
 ·rw[q]at j;rw[n];exact j.ok_now c.gh b3
theorem rZ(hc:X.calm=true):BOp X ad (.builtin "sorted") cD:=by
 intro r s m H G x v u Q E I i q y g
 by_cases h: ∃c d,x= .dct c d
 ·obtain⟨c,d,rfl⟩:=h;have b:RK X.K ad G H (if c.length<64 then .ow ((fE c).map D.str)else .bad) Q E:=g
  have j:Rep X.K ad G (.dct c d) v:=by
   rcases q with q|⟨_,_,_,z,_⟩
   ·exact q
   ·cases z
  unfold Rep at j;obtain⟨a,o,l,rfl,A,t,B⟩:=j
  by_cases f:c.length<64
  ·rw[if_pos f]at b;exact mL hc r s m H [.ref a] [u] Q I (.cons y .nil) ⟨a,l,c,rfl,.inr ⟨o,i _ _ A⟩,t,f,λp n=>b.ow_new i (lD _) n⟩
  ·rw[if_neg f]at b;exact b.elim
 ·have e:cD [x]= .bad:=by
   cases x<;>first|rfl|exact absurd ⟨_,_,rfl⟩ h
  rw[e]at g;exact g.elim
end
section
variable {prog:Program} {w:World} {A:Around} {E:cf} {h:Heap} {g:Array GenState} {d:Drawn} {t:Nat} {os:OsState} {a:Addr}
theorem vS{Q:α->Shared->Prop}(hh:A.handled=none)(hm:msg.length<=sizeLine)(hq: ∀e h' t',(∀b o,h.get? b=some o->h'.get? b=some o)->(∃o,h'.get? e=some o/\o.cls= .type "AttributeError")->E (.ref e) ⟨h',g,d,t',os⟩):
  wpAny (model prog w) A (raiseAttrError (.ref a) nm msg) Q E ⟨h,g,d,t,os⟩:=by
 unfold raiseAttrError newExc
 repeat (any_goals (first|assumption|wp_step))
 have l:isSubtype (.type "AttributeError") (.type "AttributeError")=pure true:=by rw[isSubtype_type];kernel_rfl
 have f:((Manifest.find? "AttributeError").elim false λt=>t.mro.contains "StopIteration"||t.mro.contains "SystemExit")=false:=by kernel_rfl
 have j:ownMembersOf (Value.type "AttributeError") [Value.str msg t]= #[unsetMember,unsetMember]:=by rfl
 simp only[f,j,az,if_false]
 repeat (any_goals (first|assumption|wp_step))
 unfold raiseNew;refine aa (wpAny_handled ?_);rw[hh];refine aa (ae (wpAny_throw ?_));have i:((h.push {cls:=Value.type "tuple",data:=Data.seq #[Value.str msg t]}).push {cls:=Value.type "AttributeError",data:=Data.fields (#[Value.ref h.objs.size,Value.none,Value.none,Value.none,Value.bool false,Value.none]++ #[unsetMember,unsetMember])}).get? (h.push {cls:=Value.type "tuple",data:=Data.seq #[Value.str msg t]}).objs.size=some _:=ag _ rfl;refine hq _ _ _ (λb o e=>?_) ⟨_,Heap.get?_update_self _ i rfl,rfl⟩
 have lt:b<h.objs.size:=ah e;refine(Heap.get?_update_other _ _ (λz=>?_)).trans (af _ (af _ e))
 have c:b=(h.push {cls:=Value.type "tuple",data:=Data.seq #[Value.str msg t]}).objs.size:=by first|exact z|exact z.symm
 rw[ai]at c;rw[c]at lt;exact absurd lt (Nat.not_lt.mpr (Nat.le_succ _))
theorem pV:typeLookup (.type "list") "keys"=pure none:=by rw[typeLookup_type,builtinLookup_eq_fast];kernel_rfl
theorem pW:typeLookup (.type "list") "__getattr__"=pure none:=by rw[typeLookup_type,builtinLookup_eq_fast];kernel_rfl
variable {its:Array Value} {nn:Nat} {sl:Array (Option Value)}
def yV(E:cf)(h:Heap)(g:Array GenState)(d:Drawn)(os:OsState):Prop:= ∀e h' t',(∀b o,h.get? b=some o->h'.get? b=some o)->(∃o,h'.get? e=some o/\o.cls= .type "AttributeError")->E (.ref e) ⟨h',g,d,t',os⟩
theorem vT(hh:A.handled=none)(hx:h.get? a=some {cls:=.type "list",dict:=none,data:=.seq its nn,slots:=sl})(hq:yV E h g d os):
  wpAny (model prog w) A (Builtin.«object.__getattribute__» ⟨[.ref a,.str "keys" tk],[]⟩) Q E ⟨h,g,d,t,os⟩:=by
 have c:(⟨h,g,d,t,os⟩:Shared).TypeIs (.ref a) "list":=⟨_,hx,rfl⟩;have b:=pV
 repeat (any_goals (first|assumption|wp_step))
 exact vS hh (by decide+kernel) hq
theorem yW{R:Result->Shared->Prop}(hh:A.handled=none)(hx:h.get? a=some {cls:=.type "list",dict:=none,data:=.seq its nn,slots:=sl})(hq:yV (λe s=>R (.error e) s) h g d os):
  codeAny (model prog w) A (.call (.builtin "list.__getattribute__") ⟨[.ref a,.str "keys" tk],[]⟩) R ⟨h,g,d,t,os⟩:=
 codeAny_call_builtin F.slot_list_getattribute.plain F.entry_list_ga (F.slot_list_getattribute.check _ _ _ _ _ _ _ _ (show(⟨h,g,d,t,os⟩:Shared).TypeIs (.ref a) "list" from⟨_,hx,rfl⟩) (F.args_list_getattribute_2 _ _) (vT (by exact hh) hx hq))
theorem aH2{Q:cf}(hh:A.handled=none)(hx:h.get? a=some {cls:=.type "list",dict:=none,data:=.seq its nn,slots:=sl})(hq:yV E h g d os):wpAny (model prog w) A (getAttrBy (.ref a) (.str "keys" tk) false) Q E ⟨h,g,d,t,os⟩:=by
 have q:(⟨h,g,d,t,os⟩:Shared).TypeIs (.ref a) "list":=⟨_,hx,rfl⟩;have r:=F.slot_list_getattribute.lookup;have p:=F.slot_list_getattribute.bind (.ref a);have o:=pW
 have m:isSubtype (.type "AttributeError") (.type "AttributeError")=pure true:=by rw[isSubtype_type];kernel_rfl
 repeat (any_goals (first|assumption|wp_step))
 refine yW hh hx λe i l hk n=>?_
 obtain⟨c,j,f⟩:=n;have b:(⟨i,g,d,l,os⟩:Shared).TypeIs (.ref e) "AttributeError":=⟨c,j,f⟩;show wpAny _ _ (getattributeRaised _ _ _ _ _ _ _) _ _ _;unfold getattributeRaised;refine aa (wpAny_isInstance b m ?_);rw[if_pos rfl];unfold hookBehind;refine aa ?_;show wpAny _ _ (typeLookup (.type "list") "__getattr__") _ _ _;rw[o];refine ae ?_;exact wpAny_throw (hq e i l hk ⟨c,j,f⟩)
theorem yX(hh:A.handled=none)(hx:h.get? a=some {cls:=.type "list",dict:=none,data:=.seq its nn,slots:=sl})(hq: ∀h' t',(∀b o,h.get? b=some o->h'.get? b=some o)->Q none ⟨h',g,d,t',os⟩):
  wpAny (model prog w) A (getAttr? (.ref a) "keys") Q E ⟨h,g,d,t,os⟩:=by
 have l:isSubtype (.type "AttributeError") (.type "AttributeError")=pure true:=by rw[isSubtype_type];kernel_rfl
 unfold getAttr? getAttrBy?;refine aa (wpAny_mkText ?_);refine aa (wpAny_attempt (aH2 hh hx λe h' t' hk m=>?_))
 obtain⟨f,j,i⟩:=m;have c:(⟨h',g,d,t',os⟩:Shared).TypeIs (.ref e) "AttributeError":=⟨f,j,i⟩;refine aa (wpAny_isInstance c l ?_);rw[if_pos rfl];exact ae (hq h' t' hk)
end
theorem gQ:entryFor table "dict.update.loop"=some Builtin.«dict.update.loop»:=entryFor_of_tree (by kernel_rfl)
theorem dH:plainId "dict.update.loop"=true:=by decide+kernel
section
variable {prog:Program} {w:World} {A:Around} {E:cf} {s:Shared}
theorem vU(ho:s.heap.get? t=some o)(hc:o.cls= .type "tuple")(hd:o.data= .seq #[x,y] n)(h:Q [x,y] s):wpAny (model prog w) A (Builtin.Dict.pairItems (.ref t)) Q E s:=by
 unfold Builtin.Dict.pairItems;refine aa (wpAny_typeOf (T:="tuple") ⟨o,ho,hc⟩ ?_);rw[if_pos (by decide)]
 exact aa (wpAny_seqItems ho hd (ae h))
end
section
variable {X:Cx} {ad:Ad} {ce:cg} {σ:L2.St} {A:Around} {R:Result->Shared->Prop} {G H:Hp} {d it l:Addr}
theorem aC7(hh:A.handled=none)(res:Value)(hG:Same G H)(hn:G d=none)(hl:SqL X.K G l vs)(hp:Paired (λ(v:V) (p:Str×V)=>∃t,v= .ref t/\SqT X.K G t [.str p.1,p.2]) vs pv)(h1000:pv.length<=1000):
  ∀(k i:Nat) (s:Shared) (es:List (L2.Key×V)),pv.length-i=k->i<=pv.length->es.length<=i->Inv X ce σ (upd H d (.dK es)) s->oI X ce (upd H d (.dK es)) it->s.heap.IsListIter it l i->
   (∀s',Inv X ce σ (upd H d (.dK (iA es ((pv.drop i).map λp=>(Sum.inr p.1,p.2))))) s'->R (.ok (.ret res)) s')->
   codeAny (model X.prog X.w) A (.builtin "dict.update.loop" ⟨[.ref d,.ref it,rawInt i,res],[]⟩) R s:=by
 intro k
 have Q: ∀es,Same G (upd H d (.dK es)):=λes c u e=>by
  rw[aB (aM e hn)];exact hG c u e
 have ak:vs.length=pv.length:=Paired.length hp
 induction k with
 |zero=>
  intro i s es hk hi he I hf st Y
  have Z:i=pv.length:=by lia
  obtain⟨U,J,pl,_⟩:=I.list ((Q es).seq hl);obtain⟨f,L,f2,M,N,C⟩:=hf;have nl:=J.length;refine codeAny_builtin gQ ?_;rw[Around.under_plainId dH _];show wpAny _ A.in1 (pyNext (.ref it) >>= _) _ _ s;refine aa (wpAny_pyNext_list_end hh st pl.isList (by simp;lia) λO ab=>?_)
  have h:Inv X ce σ (upd H d (.dK es)) {s with heap:=O}:=I.turned (t':=s.toks) (λb o T e=>ab b o T e) f L M N C
  show wpAny _ A.in1 (Builtin.Dict.addKeywords d [] >>= _) _ _ _;refine aa (ae (ae (Y _ ?_)));rw[Z,List.drop_length];exact h
 |succ k ih=>
  intro i s es hk hi he I hf st Y;have n:i<pv.length:=by lia
  obtain⟨U,J,pl,_⟩:=I.list ((Q es).seq hl)
  obtain⟨v,p,e1,E,t,rfl,ht⟩: ∃v p,vs[i]? =some v/\pv[i]? =some p/\∃t,v= .ref t/\SqT X.K G t [.str p.1,p.2]:=by
   have e:vs[i]? =some (vs[i]'(by lia)):=bf _
   obtain⟨p,E,r⟩:=iY hp e;exact⟨_,p,e,E,r⟩
  obtain⟨u,hu,ru⟩:=J.get e1
  cases (show u=Value.ref t from ru)
  have nl:=J.length;obtain⟨f,L,f2,M,N,C⟩:=id hf;refine codeAny_builtin gQ ?_;rw[Around.under_plainId dH _];show wpAny _ A.in1 (pyNext (.ref it) >>= _) _ _ s;refine aa (wpAny_pyNext_list_item st pl.isList (x:=.ref t) (by simpa using hu) λO W sb=>?_)
  have h:Inv X ce σ (upd H d (.dK es)) {s with heap:=O}:=I.turned (t':=s.toks) (λb o T e=>(sb.2 b T).trans e) f L M N C
  obtain⟨ad,ac,pt,_⟩:=h.tuple ((Q es).seqT ht);obtain⟨x,y,rfl,rx,ry⟩:=cN.two ac;obtain⟨tk,rfl⟩:=(show ∃tk,x=Value.str p.1 tk from rx)
  obtain⟨ot,q1,q2,nt,q3⟩:=pt;obtain⟨z,hd,S,m,dd⟩:=w6 h.hok (aF (H:=H) (a:=d) (o:=.dK es))
  have hz:S.length=es.length:=(KV.length m).symm
  refine aa (wpAny_holding (aa (wpAny_tryCatch (vU q1 q2 q3 ?_))));refine wpAny_holding (wpAny_dictSet_pairs (knd:=aZ X.prog X.w) (k:=.inr p.1) (j0 _ _ _ _) dd (λh2 B j=>?_) (by rw[hz,sizeLine_eq];lia))
  have hit:it≠d:=λz=>by rw[z,aF]at f;cases f
  have z2:(L2.putK es (.inr p.1) p.2).length<=es.length+1:=fF _ _ _
  have I3:Inv X ce σ (upd H d (.dK (L2.putK es (.inr p.1) p.2))) {s with heap:=h2,toks:=s.toks+1}:=by
   have:=iW (t':=s.toks+1) (ob:=.dK (L2.putK es (.inr p.1) p.2)) h (by rw[aF];exact True.intro) j (let ⟨q,_,_,hq,_⟩:=B;⟨q,hq⟩) (mE (by rw[sizeLine_eq];lia) hd (m.put (.inr p.1) ry) B)
   rw[wF]at this;exact this
  refine ae ⟨plainId_quiet dH _,?_⟩
  have g:=ih (i+1) {s with heap:=h2,toks:=s.toks+1} (L2.putK es (.inr p.1) p.2) (by lia) (by lia) (by lia) I3 ⟨by rw[aB hit]at f ⊢;exact f,L,f2,M,N,C⟩ (W.extBut j.extBut hit) λs' Is=>Y s' (by
   rw[List.drop_eq_getElem_cons n]
   have ep:pv[i]=p:=by rw[bf n]at E;exact Option.some.inj E
   rw[ep,List.map_cons];exact Is)
  exact g
theorem uG: ∀{ds:List D} {ps:List (Str×D)} {vs:List V},jH ds=some ps->aJ X.K ad G ds vs->∃pv:List (Str×V),Paired (λ(v:V) (p:Str×V)=>∃t,v= .ref t/\SqT X.K G t [.str p.1,p.2]) vs pv/\Paired (λ(p:Str×D) (q:Str×V)=>q.1=p.1/\Rep X.K ad G p.2 q.2) ps pv
 |[],ps,vs,h,r=>by
  cases h;unfold aJ at r;subst r;exact⟨[],.nil,.nil⟩
 |d::ds,ps,vs,h,r=>by
  unfold aJ at r;obtain⟨v,y,rfl,e,g⟩:=r;unfold jH at h;split at h
  ·rename_i k x;obtain⟨u,l,rfl⟩:=zMd h;obtain⟨pv,j,n⟩:=uG l g;unfold Rep at e;obtain⟨t,A,rfl,f,b⟩:=e;unfold aJ at b;obtain⟨o,z,rfl,q1,a⟩:=b;unfold aJ at a;obtain⟨m,s,rfl,i,c⟩:=a;unfold aJ at c;subst c;unfold Rep at q1;subst q1;exact⟨(k,m)::pv,.cons ⟨t,rfl,f⟩ j,.cons ⟨rfl,i⟩ n⟩
  ·cases h
theorem uH: ∀{ps:List (Str×D)} {pv:List (Str×V)},Paired (λ(p:Str×D) (q:Str×V)=>q.1=p.1/\Rep X.K ad G p.2 q.2) ps pv->∀{acc:List (Str×D)} {es:List (L2.Key×V)},HR X.K ad G acc es->
  HR X.K ad G (ps.foldl (λacc p=>fR acc p.1 p.2) acc) (iA es (pv.map λp=>(Sum.inr p.1,p.2)))
 |_,_,.nil,_,_,h=>h
 |_,_,.cons (a:=p) (b:=q) r t,acc,es,h=>by
  have c:=yP h r.2 p.1
  have:=uH t c
  rw[List.map_cons];show HR X.K ad G _ (iA (L2.putK es (Sum.inr q.1) q.2) _);rw[r.1];exact this
theorem yY(hc:X.calm=true)(I:Inv X ce σ H s)(hG:Same G H)(r:Rep X.K ad G x v)(ru:bA v u)(hr:RK X.K ad G H (mC x) Q E):
  wpAny (model X.prog X.w) X.A (call (.type "dict") [u]) (EP X ce σ Q) X.xe s:=by
 cases x<;>try exact ba hr
 rename_i ds
 have f:RK X.K ad G H (match jH ds with|some h=>if h.length<=1000 then .ok (.dct ((rF h).map (·.1)) ((rF h).map (·.2)))else .bad|none=>.bad) Q E:=hr
 cases e:jH ds with
 |none=>rw[e]at f;exact f.elim
 |some h=>
  rw[e]at f
  have g:RK X.K ad G H (if h.length<=1000 then .ok (.dct ((rF h).map (·.1)) ((rF h).map (·.2)))else .bad) Q E:=f
  by_cases S:h.length<=1000
  ·rw[if_pos S]at g;unfold Rep at r;obtain⟨l,vs,rfl,sq,rs⟩:=r
   cases (show u=Value.ref l from ru)
   obtain⟨pv,p1,p2⟩:=uG e rs
   have hh:X.A.handled=none:=I.ok.hd hc
   obtain⟨m,rv,pl,_⟩:=I.list (hG.seq sq);have j:(s.heap.push {cls:=.type "dict",data:=.dict #[]}).DictOf (aZ X.prog X.w) s.heap.objs.size []:=Heap.DictOf.new s.heap
   have p:H s.heap.objs.size=none:=I.hok.fresh (aj _)
   have I1:Inv X ce σ (upd H s.heap.objs.size (.dK [])) {s with heap:=s.heap.push {cls:=.type "dict",data:=.dict #[]} }:=I.laid (a:=s.heap.objs.size) (o:=.dK []) (t':=s.toks) (λ_ _ q=>af _ q) (aj _) (nB s.heap I.bigK)
   refine callType_codes (Q₁:=λB i=>B= .ref s.heap.objs.size/\i={s with heap:=s.heap.push {cls:=.type "dict",data:=.dict #[]} }) F.kt_called_dict (F.kt_typeCall_dict_1 _) F.entry_dict_init (kt_code_dict_new _ ⟨rfl,rfl⟩) ?_
   rintro B i ⟨rfl,rfl⟩;refine⟨j.typeIs,F.args_dict_init_2 _ _,?_⟩;unfold Builtin.«dict.__init__»;refine aa ?_;unfold Builtin.Dict.selfAndRest;refine aa (wpAny_notOrdered_dict j.typeIs ?_);show wpAny _ _ (pure (s.heap.objs.size,[Value.ref l])) _ _ _;refine ae ?_;show wpAny _ _ (Builtin.Dict.updateFrom "dict.__init__" s.heap.objs.size (.ref l) [] .none) _ _ _;unfold Builtin.Dict.updateFrom;obtain⟨ol,U,C,Y,ab,O⟩:=pl
   have Z:s.heap.get? l=some {cls:=.type "list",dict:=none,data:=.seq m.toArray U,slots:=ol.slots}:=by
    rw[C];obtain⟨c0,d0,a0,s0⟩:=ol
    have c1:c0= .type "list":=Y
    have d1:d0=none:=ab
    have a1:a0= .seq m.toArray U:=O
    rw[c1,d1,a1]
   have W:({s with heap:=s.heap.push {cls:=.type "dict",data:=.dict #[]} }:Shared).TypeIs (.ref l) "list":=⟨_,af _ Z,rfl⟩
   refine aa (wpAny_typeOf W ?_);rw[if_pos (by decide)]
   refine aa (yX (by exact hh) (af _ Z) λy t n=>?_)
   rw[if_pos (show(none:Option Value).isNone=true from rfl)]
   refine aa (wpAny_rule ?_);have J:Inv X ce σ (upd H s.heap.objs.size (.dK [])) {s with heap:=y,toks:=t}:=I1.kept (t':=t) n
   have N:y.IsList l m.toArray:=⟨_,n _ _ (af _ Z),rfl,U,rfl⟩;refine aa (wpAny_pyIter_list (s:={s with heap:=y,toks:=t}) N ?_)
   refine ae ⟨plainId_quiet dH _,?_⟩;have I3:Inv X ce σ (upd H s.heap.objs.size (.dK [])) {s with heap:=y.push {cls:=.type "list_iterator",data:=.fields #[.ref l,.int 0 0]},toks:=t}:=J.kept (t':=t) λb o e=>af _ e
   refine aC7 (A:=X.A.in1) (d:=s.heap.objs.size) (it:=y.objs.size) (l:=l) hh .none hG (hG.free p) sq p1 (by rw[<-Paired.length p2];exact S) pv.length 0 _ [] (Nat.sub_zero _) (bx _) (aj _) I3 (J.fpOk (aj _) (J.hok.fresh (aj _))) ⟨_,ag _ rfl,rfl,rfl⟩ λs' I'=>?_
   rw[List.drop_zero]at I';have L:=uH p2 (acc:=[]) (es:=[]) .nil;obtain⟨M,T⟩:=L.rep;refine⟨rfl,rY (ad:=ad) I' hG (.inl p) (hG.free p) M T λv G' H' g1 g2 g3 g4 rr=>?_⟩
   refine g v G' H' ⟨g2,g3,λc w e=>?_,λc z1 z2=>?_⟩ rr
   ·rw[g4 c (λz=>by rw[z,p]at e;cases e)]
    exact e
   ·by_cases z:c=s.heap.objs.size
    ·rw[z];exact p
    ·rw[g1 c z,z1]at z2;exact absurd rfl z2
  ·rw[if_neg S]at g;exact g.elim
theorem aC8(hc:X.calm=true)(hg:L2.Gl X "dict")(hm:X.mg "dict"=none)(ha:ME X ad a f)(he:starEach [a] X.env=(false,eval a X.env)::starEach [] X.env):ME X ad (.Call (.Name "dict" p) [a] [] pos) (mD f):=by
 refine λo s n H Q I t=>t.el λG z E y j x m=>?_
 refine wpAny_Call_Name_kw (fN I hg hm (u:=.type "dict") (by decide+kernel) ?_ (by decide) (by decide))
 refine PyProof.Rows.callWith_type1 (L2.thn (bY ha dZ he pos o s n H (λg c=>∃v d b,g=[v]/\Step G H b c/\Rep X.K ad b d v/\RK X.K ad b c (mC d) Q E) I ?_) λA B ⟨g,c,i,l,v,d,b,h,e,r,k⟩=>?_) he rfl
 ·exact eU y j x m λv d b c e r k=>⟨v,d,b,rfl,e,r,k⟩
 ·subst h;obtain⟨u,rfl,q⟩:=lU l;exact yY hc i e.gh r q k
end
theorem cE(h:one l=some a):l=[a]:=by
 unfold one at h;split at h
 ·cases h;rfl
 ·cases h
theorem iH(h:two l=some (a,b)):l=[a,b]:=by
 unfold two at h;split at h
 ·cases h;rfl
 ·cases h
theorem bC(h:cG e=some (x,p)):e= .Name x p:=by
 cases e<;>first|(cases h;rfl)|(cases h;done)
theorem aC9(h:cG e=none): ∀x p,e≠ .Name x p:=λx p z=>by subst z;cases h
theorem yZ(h:aGe e=some (es,k,p)):e= .Tuple es k p:=by
 cases e<;>first|(cases h;rfl)|(cases h;done)
theorem aO3(h:aLg dE C a=some f): ∃x p b q,a= .Call (.Name x p) [b] [] q/\glo C x=some (.py .range)/\dE b=some f:=by
 unfold aLg at h;split at h
 ·rename_i j l g q;split at h
  ·rename_i hk;obtain⟨⟨x,p⟩,d,h⟩:=zBd h;obtain⟨b,c,h⟩:=zBd h;split at h
   ·rename_i i e;exact⟨x,p,b,q,by rw[bC d,cE c,List.isEmpty_iff.mp hk],e,h⟩
   ·cases h
  ·cases h
 ·cases h
theorem aDa(e:aGh dE C a=some h): ∃x p b c q f g,a= .Call (.Name x p) [b,c] [] q/\glo C x=some (.py .zip)/\dE b=some f/\dE c=some g/\h=o7 f g:=by
 unfold aGh at e;split at e
 ·rename_i r s m q;split at e
  ·rename_i hk;obtain⟨⟨x,p⟩,i,e⟩:=zBd e;obtain⟨⟨b,c⟩,d,e⟩:=zBd e
   simp only at e
   split at e
   ·rename_i o l;obtain⟨f,n,e⟩:=zBd e;obtain⟨g,j,e⟩:=zMd e;exact⟨x,p,b,c,q,f,g,by rw[bC i,iH d,List.isEmpty_iff.mp hk],l,n,j,e.symm⟩
   ·cases e
  ·cases e
 ·cases e
theorem eA{α:Type}{l:List α}(h:l.isEmpty=true):l=[]:=List.isEmpty_iff.mp h
def fL:Expr->Prop
 |.Starred _ _=>False
 |_=>True
theorem aK(h:fL e):starEach (e::es) env=(false,eval e env)::starEach es env:=by
 cases e<;>first|rfl|exact h.elim
def mM:Expr->Prop
 |.Set _ _ _=>False
 |_=>True
theorem dI(h:mM e):behindInMarks op e=false:=by
 cases e<;>first|rfl|exact h.elim
theorem pX(h:mM c):lastMarks [op,op'] [b,c]=false:=by
 show behindInMarks op' c=false;exact dI h
theorem nM(h: ∀a b c d,e≠ .Slice a b c d):wQ e:=by
 intro o i
 cases e<;>first|rfl|exact absurd rfl (h _ _ _ _)
theorem aL(h:bN n C e=some f):fL e/\mM e/\∀a b c d,e≠ .Slice a b c d:=by
 cases n with
 |zero=>cases h
 |succ n=>cases e<;>first|(cases h;done)|(refine⟨trivial,trivial,?_⟩;intro a b c d z;cases z;done)
theorem dC(h:aBi n C e=some f):fL e/\mM e:=by
 cases n with
 |zero=>cases h
 |succ n=>
  by_cases a: ∃x p,e= .Name x p
  ·obtain⟨x,p,rfl⟩:=a;exact⟨trivial,trivial⟩
  ·have:bN n C e=some f:=by
    rw[<-h]
    cases e<;>first|rfl|exact absurd ⟨_,_,rfl⟩ a
   exact⟨(aL this).1,(aL this).2.1⟩
theorem pY(h:aEl n C tt e=some f):mM e:=by
 cases n with
 |zero=>cases h
 |succ n=>cases e<;>first|trivial|exact(dC h).2
section
variable {ad:Ad}
def qP(ad:Ad)(n:Nat):Prop:= ∀(X:Cx) (C:SK.Ctx) (e:Expr) (f:F),CtxOk X ad C->bN n C e=some f->ME X ad e f/\MT X ad e f/\∀op es p,e= .BoolOp op es p->MW X ad e f
def aKb(ad:Ad)(n:Nat):Prop:= ∀(X:Cx) (C:SK.Ctx) (e:Expr) (f:F),CtxOk X ad C->aBi n C e=some f->ML X ad e f
def aMw(ad:Ad)(n:Nat):Prop:= ∀(X:Cx) (C:SK.Ctx) (tg e:Expr) (tt:Bool) (f:F),CtxOk X ad C->(tt=true->∃es k p,tg= .Tuple es k p)->aEl n C tt e=some f->MI X ad tg e f/\(tt=false->(∀x p,e≠ .Name x p)->MIG X ad tg e f)
variable {X:Cx} {C:SK.Ctx} {n:Nat}
theorem nN(hE:qP ad n)(O:CtxOk X ad C): ∀{es:List Expr} {fs:List F},dR (bN n C) es=some fs->MA X ad es fs/\∀e∈es,fL e
 |[],fs,h=>by
  cases h;exact⟨xJ,λ_ h=>by cases h⟩
 |e::es,fs,h=>by
  unfold dR at h
  cases b:bN n C e with
  |none=>rw[b]at h;cases h
  |some f=>
   rw[b]at h;obtain⟨r,j,g⟩:=zMd h;subst g;obtain⟨q1,i⟩:=nN hE O j;have d:=(aL b).1
   exact⟨nC (hE X C e f O b).1 q1 (aK d),λa c=>by
    rcases av.mp c with rfl|c
    ·exact d
    ·exact i a c⟩
theorem eQ{α β:Type}{f:α->Option β}: ∀{l:List α} {r:List β},dR f l=some r->r.length=l.length
 |[],r,h=>by cases h;rfl
 |x::l,r,h=>by
  unfold dR at h
  cases e:f x with
  |none=>rw[e]at h;cases h
  |some y=>
   rw[e]at h;obtain⟨c,b,a⟩:=zMd h;subst a;simp[eQ b]
theorem uI{env:PySem.Env}{pos:Pos}: ∀{es:List Expr},(∀e∈es,fL e)->(backTo pos (starEach es env)).any (·.1)=false
 |[],_=>rfl
 |e::es,h=>by
  rw[aK (h e (.head _))]
  show(false||(backTo pos (starEach es env)).any (·.1))=false
  rw[uI λa b=>h a (.tail _ b)]
  rfl
theorem aQg(hE:qP ad n)(hL:aKb ad n)(O:CtxOk X ad C)(hg:glo C x=some (.py p))(h:aGj (bN n C) (aBi n C) C p as=some f):ME X ad (.Call (.Name x np) as [] pos) f:=by
 obtain⟨m,q,o,l⟩:=O.gl hg;unfold aGj at h;split at h
 ·have i:=zBd h;clear h;obtain⟨a,j,h⟩:=i
  cases cE j
  obtain⟨e,d,rfl⟩:=zMd h;subst o;exact kR xN m l (by decide+kernel) (hL X C _ e O d) (by decide) q (aK (dC d).1)
 ·have i:=zBd h;clear h;obtain⟨a,j,h⟩:=i
  cases cE j
  obtain⟨e,d,rfl⟩:=zMd h;subst o;exact xM aGy m l (by decide+kernel) (hL X C _ e O d) (by decide) q (aK (dC d).1)
 ·have i:=zBd h;clear h;obtain⟨a,j,h⟩:=i
  cases cE j
  obtain⟨e,d,rfl⟩:=zMd h;subst o;exact xM xO m l (by decide+kernel) (hL X C _ e O d) (by decide) q (aK (dC d).1)
 ·have i:=zBd h;clear h;obtain⟨a,j,h⟩:=i
  cases cE j
  subst o
  cases d:aBi n C a with
  |some e=>
   rw[d]at h;cases h;exact xM aCa m l (by decide+kernel) (hL X C _ e O d) (by decide) q (aK (dC d).1)
  |none=>
   rw[d]at h;obtain⟨e,r,rfl⟩:=zMd h;obtain⟨y,Q,b,c,N,G,I,rfl,B,t,s,rfl⟩:=aDa r;obtain⟨H,L,K,E⟩:=O.gl B;subst K;exact rV H E m l O.calm (hE X C _ G O t).1 (hE X C _ I O s).1 (aK (aL t).1) (aK (aL s).1)
 ·have i:=zBd h;clear h;obtain⟨a,j,h⟩:=i
  cases cE j
  obtain⟨e,d,rfl⟩:=zMd h;subst o;exact kR (aGz O.hd) m l (by decide+kernel) (hL X C _ e O d) (by decide) q (aK (dC d).1)
 ·have i:=zBd h;clear h;obtain⟨a,j,h⟩:=i
  cases cE j
  obtain⟨e,d,rfl⟩:=zMd h;subst o;exact kR (aG0 O.hd) m l (by decide+kernel) (hL X C _ e O d) (by decide) q (aK (dC d).1)
 ·cases h
 ·cases h
 ·have i:=zBd h;clear h;obtain⟨a,j,h⟩:=i
  cases cE j
  obtain⟨e,d,rfl⟩:=zMd h;subst o;exact kR (rZ O.calm) m l (by decide+kernel) (hL X C _ e O d) (by decide) q (aK (dC d).1)
 ·cases h
 ·cases h
 ·have i:=zBd h;clear h;obtain⟨⟨a,b⟩,j,h⟩:=i
  cases iH j
  have i:=zBd h;clear h;obtain⟨⟨tn,S⟩,J,h⟩:=i
  cases bC J
  obtain⟨e,d,h⟩:=zBd h;obtain⟨g,A,h⟩:=zBd h;obtain⟨P,r,rfl⟩:=zMd h;subst o;obtain⟨M,z,u⟩:=aE6 O A r
  by_cases v:bsN C a=true
  ·rw[if_pos v]at d;exact rT O.exc m l z u (hL X C _ e O d) (aK (dC d).1)
  ·rw[if_neg v]at d;exact rT O.exc m l z u (hE X C _ e O d).1.ml (aK (aL d).1)
 ·cases h
theorem qQ(h:ME X ad e f)(ht: ∀whole,isTrue e X.env whole=(do let v<-whole;standAt e.pos;holding [v] (truthy v)))(hb: ∀op es p,e≠ .BoolOp op es p):ME X ad e f/\MT X ad e f/\∀op es p,e= .BoolOp op es p->MW X ad e f:=
 ⟨h,aEw h ht,λop es p z=>absurd z (hb op es p)⟩
theorem y0(h:MW X ad e f):MT X ad e f:=λb s a H Q I t=>h _ b s a H Q I t
theorem aMx{tg:Expr}(h:bZ tg=some (xs,k)):xs.length=(if k=0 then 1 else k)/\((k != 0)=true->∃es j p,tg= .Tuple es j p):=by
 cases tg<;>try (cases h;done)
 ·cases h;exact⟨rfl,λz=>absurd z (by decide)⟩
 ·rename_i es j p;unfold bZ at h;obtain⟨c,d,a⟩:=zBd h
  by_cases b:2<=c.length
  ·rw[if_pos b]at a;cases a;exact⟨by rw[if_neg (by lia)],λ_=>⟨es,j,p,rfl⟩⟩
  ·rw[if_neg b]at a;cases a
theorem mO(hE:qP ad n)(hI:aMw ad n)(O:CtxOk X ad C){elt tg it:Expr}(h:bN (n+1) C (.ListComp elt [⟨tg,it,ifs,0⟩] sc pos)=some f):
  ∃xs k cs fi fc fe,f=bB k cs fi fc fe/\(bZ tg=some (xs,k)/\bN n {C with sc:=sc,N:=xs++aP sc} elt=some fe)/\CompSc X C sc xs cs/\MI X ad tg it fi/\(∀a b c,it≠ .Set a b c)/\xs.length=(if k=0 then 1 else k)/\(∀fp s3 H3 pins',PG (cX X (xs++aP sc) sc s3 H3 fp pins') tg (gTg X.K k))/\
   (∀fp s3 H3 pins',MTs (cX X (xs++aP sc) sc s3 H3 fp pins') ad ifs fc)/\∀fp s3 H3 pins',ME (cX X (xs++aP sc) sc s3 H3 fp pins') ad elt fe:=by
 have A:((bZ tg).bind fun(xs,k)=>(aEl n C (k != 0) it).bind fun fi=>if kF sc xs then
    (dR (λx=>eO C x) (aP sc)).bind λcs=>(match ifs with
    |[]=>some none
    |[c]=>(bN n {C with sc:=sc,N:=xs++aP sc} c).map some
    |_=>none).bind λc=>(bN n {C with sc:=sc,N:=xs++aP sc} elt).map λe=>bB k cs fi c e
   else none)=some f:=h
 clear h;obtain⟨⟨xs,k⟩,p,h⟩:=zBd A;obtain⟨fi,y,h⟩:=zBd h;obtain⟨G,I⟩:=aMx p
 by_cases m:kF sc xs=true
 ·rw[if_pos m]at h;obtain⟨cs,v,h⟩:=zBd h;obtain⟨fc,q,h⟩:=zBd h;obtain⟨fe,s,B⟩:=zMd h;obtain⟨Q,H,u,J,t,M,L⟩:=i3 m;have o: ∀fp s3 H3 pins',CtxOk (cX X (xs++aP sc) sc s3 H3 fp pins') ad {C with sc:=sc,N:=xs++aP sc}:=λfp s3 H3 pins'=>aMh O m v
  refine⟨xs,k,cs,fi,fc,fe,B.symm,⟨p,s⟩,yF O m v,(hI X C tg it _ fi O I y).1,λa b c z=>?_,G,λfp s3 H3 pins'=>?_,λfp s3 H3 pins'=>?_,λfp s3 H3 pins'=>(hE _ _ elt fe (o fp s3 H3 pins') s).1⟩
  ·subst z;exact pY y
  ·by_cases d:o9 sc=[]
   case neg=>
    rcases H with z|⟨z,l⟩
    ·exact absurd z d
    ·obtain⟨x,rfl⟩:=List.length_eq_one_iff.mp l;refine aHm (X:=cX X ([x]++aP sc) sc s3 H3 fp pins') (x:=x) t p rfl rfl ?_ (decide_eq_true z)
     show(relabel sc X.env).names.lookup x=some .cell
     have j:=bW (env:=X.env) (x:=x) (names:=sc.names);rw[u x (.head _),z]at j;exact j
   refine aQa (X:=cX X (xs++aP sc) sc s3 H3 fp pins') O.calm t p λi x r=>⟨?_,?_⟩
   ·show(xs++aP sc)[i]? =some x
    rw[cb (ay.mp r).1];exact r
   ·show(relabel sc X.env).names.lookup x=some .local
    have j:=bW (env:=X.env) (x:=x) (names:=sc.names);rw[u x (List.mem_of_getElem? r),d]at j;exact j
  ·split at q
   ·cases q;trivial
   ·obtain⟨g,E,rfl⟩:=zMd q;exact(hE _ _ _ g (o fp s3 H3 pins') E).2.1
   ·cases q
 ·rw[if_neg m]at h;cases h
theorem iI(h:atF C f e=some i): ∃x p q,e= .Attribute (.Name x p) f q/\loc C x=some i:=by
 unfold atF at h;obtain⟨⟨o,g,q⟩,c,d⟩:=zBd h
 have a:(if g=f then(cG o).bind λ(x,_)=>loc C x else none)=some i:=d
 by_cases b:g=f
 ·rw[if_pos b]at a;subst b;obtain⟨⟨x,p⟩,l,j⟩:=zBd a
  cases bC l
  refine⟨x,p,q,?_,j⟩
  cases e<;>first|(cases c;rfl)|(cases c;done)
 ·rw[if_neg b]at a;cases a
theorem r8(h:aLi C e=some (i,b)): ∃x p q,e= .Attribute (.Name x p) (if b then "done" else "undone") q/\loc C x=some i:=by
 unfold aLi at h;split at h
 ·rename_i j c;cases h;exact iI c
 ·obtain⟨j,d,a⟩:=zMd h;cases a;exact iI d
theorem nO(hs: ∀e∈es,fL e)(hl:es.length<20):methodCallForm (es.length+([]:List Keyword).length) (backTo cp (starEach es env)) (backToKw cp (keywordEach [] env))=true:=by
 have all: ∀es:List Expr,(∀e∈es,fL e)->(backTo cp (starEach es env)).all (!·.1)=true/\(backTo cp (starEach es env)).any (·.1)=false:=by
  intro es
  induction es with
  |nil=>intro _;exact⟨rfl,rfl⟩
  |cons e es c=>
   intro hs;obtain⟨a,b⟩:=c λe d=>hs e (.tail _ d)
   rw[aK (hs e (.head _))];exact⟨a,b⟩
 unfold methodCallForm;rw[(all es hs).1]
 show(true&&true&&decide (es.length+0+0<30))=true
 simp
 lia
theorem gG(hs: ∀e∈es,fL e):(backTo cp (starEach es env)).any (·.1)=false:=by
 induction es with
 |nil=>rfl
 |cons e es a=>
  rw[aK (hs e (.head _))];exact a λe b=>hs e (.tail _ b)
theorem aQh(h:fL e)(hl:(ap.endLine==cp.line)=true):M1 X (.Attribute (.Name x p) "held" pos) "get" ap e cp:=by
 refine⟨rfl,?_,hl,?_⟩
 ·rw[aK h];rfl
 ·rw[aK h];rfl
theorem aH3(hE:qP ad n)(O:CtxOk X ad C)(h:aO0 (bN n C) C e=some f):ME X ad e f/\MT X ad e f/\∀op es p,e= .BoolOp op es p->MW X ad e f:=by
 unfold aO0 at h
 cases G:rkc C with
 |none=>rw[G]at h;cases h
 |some am=>
  obtain⟨A,ms⟩:=am;rw[G]at h
  have K:aQe X ad "Rack" (.cls A ms):=by
   unfold rkc at G;split at G
   ·rename_i a' ab e';cases G;exact(O.gt _ _ e').2
   ·cases G
  obtain⟨_,E,MO⟩:=K
  simp only at h
  split at h
  ·rename_i a op cs pos;have c:=zBd h;clear h;obtain⟨b,H,h⟩:=c
   cases cE H
   unfold aLj at h;split at h
   ·rename_i L B;have c:=zBd h;clear h;obtain⟨i,l,h⟩:=c;obtain⟨g,u,rfl⟩:=zMd h;obtain⟨x,p,q,rfl,v⟩:=iI l;obtain⟨d,t,s,j⟩:=O.vis x i v
    have S:op=if L then .NotIn else .In:=by
     cases op<;>first|(cases B;rfl)|(cases B;done)
    subst S;have go:=aMr (p:=p) (ap:=q) O.un E d t s j (hE X C _ g O u).1 L;exact⟨aKp go (dI trivial),uC (dI trivial) λI hG hS c hr=>go _ _ _ _ _ I ⟨_,_,_,hG,hS,c,hr⟩,λ_ _ _ z=>nomatch z⟩
   ·have c:=zBd h;clear h;obtain⟨⟨i,U⟩,l,h⟩:=c;obtain⟨g,u,rfl⟩:=zMd h;obtain⟨x,p,q,rfl,v⟩:=r8 l;obtain⟨d,t,s,j⟩:=O.vis x i v;have la:=(aE7 (ad:=ad) (p:=p) (pos:=q) E d t s j U).lk;have lb:=(hE X C _ g O u).1.look;have m:=(aL u).2.1;exact⟨aHw O.un la lb (dI m),aHx O.un la lb (dI m),λ_ _ _ z=>nomatch z⟩
  ·rename_i a b pos;have c:=zBd h;clear h;obtain⟨i,l,h⟩:=c;obtain⟨g,u,rfl⟩:=zMd h;obtain⟨x,p,q,rfl,v⟩:=iI l;obtain⟨d,t,s,j⟩:=O.vis x i v;exact qQ (aHy O.un E d t s j (hE X C _ g O u).1 (nM (aL u).2.2)) (λ_=>rfl) (λ_ _ _ z=>nomatch z)
  ·rename_i fe as ac cp;split at h
   ·rename_i hk
    cases List.isEmpty_iff.mp hk
    split at h
    ·rename_i o m ap;split at h
     ·rename_i hl;unfold aLk at h;split at h
      ·rename_i x p hv
       cases bC hv
       have c:=zBd h;clear h;obtain⟨i,l,h⟩:=c;have c:=zBd h;clear h;obtain⟨⟨n0,M⟩,u,h⟩:=c;obtain⟨d,t,s,j⟩:=O.vis x i l
       simp only at h
       split at h
       ·rename_i J;have c:=zBd h;clear h;obtain⟨fs,Z,h⟩:=c;split at h
        ·rename_i hn;cases h;obtain⟨ma,Y⟩:=nN hE O Z
         exact qQ (aMt E (MO m n0 M u) d t s j ma hn (λa r e=>by
          subst e;exact⟨aK (Y a (.head _)),gG λe he=>Y e (.tail _ he)⟩) (eQ Z).symm (nO Y J) hl) (λ_=>rfl) (λ_ _ _ z=>nomatch z)
        ·cases h
       ·cases h
      ·split at h
       ·rename_i hm;subst hm;have c:=zBd h;clear h;obtain⟨i,l,h⟩:=c;have c:=zBd h;clear h;obtain⟨a,H,h⟩:=c
        cases cE H
        obtain⟨g,u,rfl⟩:=zMd h;obtain⟨x,p,q,rfl,v⟩:=iI l;obtain⟨d,t,s,j⟩:=O.vis x i v;exact qQ (aHz O.un E d t s j (hE X C _ g O u).1 (aQh (aL u).1 hl)) (λ_=>rfl) (λ_ _ _ z=>nomatch z)
       ·cases h
     ·cases h
    ·rename_i x p;have c:=zBd h;clear h;obtain⟨a,H,h⟩:=c
     cases cE H
     unfold aRt at h;split at h
     ·rename_i Q;obtain⟨i,l,rfl⟩:=zMd h;obtain⟨y,py,q,rfl,v⟩:=iI l;obtain⟨d,t,s,j⟩:=O.vis y i v;obtain⟨W,g2,N,T⟩:=O.gl Q
      cases (show x="sorted" from N)
      exact qQ (aH1 O.calm E W T d t s j) (λ_=>rfl) (λ_ _ _ z=>nomatch z)
     ·rename_i Q;have c:=zMd h;clear h;obtain⟨⟨i,U⟩,l,rfl⟩:=c;obtain⟨y,py,q,rfl,v⟩:=r8 l;obtain⟨d,t,s,j⟩:=O.vis y i v;obtain⟨W,g2,N,T⟩:=O.gl Q
      cases (show x="len" from N)
      exact qQ (kR xN W T (by decide+kernel) (aE7 E d t s j U) (by decide) g2 rfl) (λ_=>rfl) (λ_ _ _ z=>nomatch z)
     ·cases h
    ·cases h
   ·cases h
  ·cases h
theorem aQi(ha:fL a)(hb:fL b)(hl:(ap.endLine==cp.line)=true):M2 X (.Name x p) "get" ap a b cp:=by
 refine⟨rfl,?_,hl,?_⟩
 ·rw[aK ha,aK hb];rfl
 ·rw[aK ha,aK hb];rfl
theorem aMy(hE:qP ad n)(O:CtxOk X ad C)(h:dkE (bN n C) C e=some f):ME X ad e f/\MT X ad e f/\∀op es p,e= .BoolOp op es p->MW X ad e f:=by
 unfold dkE at h;split at h
 ·rename_i G J u K;split at h
  ·rename_i hk
   cases List.isEmpty_iff.mp hk
   split at h
   ·rename_i o m H;split at h
    ·rename_i B;obtain⟨rfl,y,v⟩:=B;have c:=zBd h;clear h;obtain⟨⟨a,b⟩,i,h⟩:=c
     cases iH i
     have c:=zBd h;clear h;obtain⟨fo,d,h⟩:=c;have c:=zBd h;clear h;obtain⟨g,j,h⟩:=c;obtain⟨A,l,rfl⟩:=zMd h
     cases o<;>try (cases y;done)
     exact qQ (aC6 O.un (hE X C _ fo O d).1 (hE X C _ g O j).1 (hE X C _ A O l).1 (aQi (aL j).1 (aL l).1 v)) (λ_=>rfl) (λ_ _ _ z=>nomatch z)
    ·cases h
   ·rename_i x p;have c:=zBd h;clear h;obtain⟨a,i,h⟩:=c
    cases cE i
    split at h
    ·rename_i E t;obtain⟨g,d,rfl⟩:=zMd h;obtain⟨s,I,r,q⟩:=O.gl t
     cases (show x="dict" from r)
     exact qQ (aC8 O.calm s q (hE X C _ g O d).1 (aK (aL d).1)) (λ_=>rfl) (λ_ _ _ z=>nomatch z)
    ·cases h
   ·cases h
  ·cases h
 ·cases h
theorem y3(hE:qP ad n)(O:CtxOk X ad C)(h:rkE (bN n C) C e=some f):ME X ad e f/\MT X ad e f/\∀op es p,e= .BoolOp op es p->MW X ad e f:=by
 unfold rkE at h
 cases a:aO0 (bN n C) C e with
 |some g=>rw[a]at h;cases h;exact aH3 hE O a
 |none=>rw[a]at h;exact aMy hE O h
theorem aH4(h:aPy l=some (a,b)):l=[a,b]:=by
 unfold aPy at h;split at h
 ·cases h;rfl
 ·cases h
theorem y6(h:aO1 o=some x): ∃j p,o=some (.Constant (.str x) j p):=by
 unfold aO1 at h;have a:=zBd h;clear h;obtain⟨e,rfl,h⟩:=a;split at h
 ·split at h
  ·cases h;exact⟨_,_,rfl⟩
  ·cases h
 ·cases h
theorem aMz(hE:qP ad n)(O:CtxOk X ad C)(h:dkD (bN n C) ks vs=some f):ME X ad (.Dict ks vs pos) f:=by
 unfold dkD at h;split at h
 ·rename_i hk;rw[aw]at hk
  cases List.isEmpty_iff.mp hk.1
  cases List.isEmpty_iff.mp hk.2
  cases h;exact aC4
 ·have a:=zBd h;clear h;obtain⟨⟨p,s⟩,l,h⟩:=a
  cases aH4 l
  have a:=zBd h;clear h;obtain⟨⟨m,u⟩,i,h⟩:=a
  cases iH i
  have a:=zBd h;clear h;obtain⟨x,b,h⟩:=a;have a:=zBd h;clear h;obtain⟨y,g,h⟩:=a;have a:=zBd h;clear h;obtain⟨d,e,h⟩:=a;obtain⟨j,c,rfl⟩:=zMd h;obtain⟨q,r,rfl⟩:=y6 b;obtain⟨o,t,rfl⟩:=y6 g;exact aC5 (hE X C _ d O e).1 (hE X C _ j O c).1
theorem aQj(hE:qP ad n)(hL:aKb ad n)(hI:aMw ad n):qP ad (n+1):=by
 intro X C e f O h;unfold bN at h;split at h
 ·-- a name
  rename_i x pos;refine qQ ?_ (λ_=>rfl) (λ_ _ _ z=>nomatch z)
  cases U:loc C x with
  |some i=>
   rw[U]at h;cases h;obtain⟨v1,v2,v3,v4⟩:=O.vis x i U;exact wZ v1 v2 v3 v4
  |none=>
   rw[U]at h
   simp only at h
   split at h
   ·rename_i d A;cases h;obtain⟨J,H,u,v,g3,g4,g5⟩:=O.gl A;exact w4 J g3 g4 g5 H
   ·rename_i k0 n0 f0 A;cases h;obtain⟨J,H,r,f,T,hr,hf⟩:=O.gl A;subst hf;exact w4 (v:=.ref (ad.fnA k0)) J T.mg rfl (λG=>by unfold Rep;rfl) H
   ·cases h
 ·obtain⟨d,g,rfl⟩:=zMd h;exact qQ (jQ g) (λ_=>rfl) (λ_ _ _ z=>nomatch z)
 ·obtain⟨j,g,h⟩:=zBd h;obtain⟨m,q,rfl⟩:=zMd h;exact qQ (aEo (hE X C _ j O g).1 (hE X C _ m O q).1) (λ_=>rfl) (λ_ _ _ z=>nomatch z)
 ·obtain⟨j,g,h⟩:=zBd h;obtain⟨q1,t,_⟩:=hE X C _ j O g;split at h
  ·cases h;exact⟨aLx q1,aEx t,λ_ _ _ z=>nomatch z⟩
  ·cases h
 ·rename_i op es pos;split at h
  ·rename_i a b;obtain⟨j,g,h⟩:=zBd h;obtain⟨m,q,rfl⟩:=zMd h;obtain⟨q1,t,_⟩:=hE X C _ j O g;obtain⟨E,N,_⟩:=hE X C _ m O q
   cases op with
   |And=>
    have W:MW X ad (.BoolOp .And [a,b] pos) (hX j m):=aEy t (xH N);exact⟨aEu q1 (aEv E),y0 W,λ_ _ _ _=>W⟩
   |Or=>
    have W:MW X ad (.BoolOp .Or [a,b] pos) (rOr j m):=aGw t (xH N);exact⟨aLz q1 (aEv E),y0 W,λ_ _ _ _=>W⟩
  ·rename_i a b c r;obtain⟨j,g,h⟩:=zBd h;obtain⟨m,q,rfl⟩:=zMd h;obtain⟨q1,t,_⟩:=hE X C _ j O g;obtain⟨E,N,r3⟩:=hE X C _ m O q
   cases op with
   |And=>
    have W:MW X ad (.BoolOp .And (a::b::c::r) pos) (hX j m):=aEy t (r3 _ _ _ rfl);exact⟨aEu q1 E,y0 W,λ_ _ _ _=>W⟩
   |Or=>
    have W:MW X ad (.BoolOp .Or (a::b::c::r) pos) (rOr j m):=aGw t (r3 _ _ _ rfl);exact⟨aLz q1 E,y0 W,λ_ _ _ _=>W⟩
  ·cases h
 ·split at h
  ·rename_i fr s;cases h;exact y3 hE O s
  rename_i l;clear l;split at h
  ·have I:=zBd h;clear h;obtain⟨b,h0,h⟩:=I
   cases cE h0
   obtain⟨j,g,h⟩:=zBd h;obtain⟨m,q,rfl⟩:=zMd h;exact⟨aL2 O.un (hE X C _ j O g).1 (hE X C _ m O q).1 (dI (aL q).2.1),aEz O.un (hE X C _ j O g).1 (hE X C _ m O q).1 (dI (aL q).2.1),λ_ _ _ z=>nomatch z⟩
  ·have I:=zBd h;clear h;obtain⟨⟨b,c⟩,h0,h⟩:=I
   cases iH h0
   obtain⟨j,g,h⟩:=zBd h;obtain⟨m,q,h⟩:=zBd h;obtain⟨M,K,rfl⟩:=zMd h;exact⟨aB8 O.un (hE X C _ j O g).1 (hE X C _ m O q).1 (hE X C _ M O K).1 (pX (aL K).2.1),aB9 O.un (hE X C _ j O g).1 (hE X C _ m O q).1 (hE X C _ M O K).1 (pX (aL K).2.1),λ_ _ _ z=>nomatch z⟩
  ·cases h
 ·exact qQ (aMz hE O h) (λ_=>rfl) (λ_ _ _ z=>nomatch z)
 ·split at h
  ·rename_i Z;obtain⟨fs,g,rfl⟩:=zMd h;exact qQ (aL3 (nN hE O g).1 (by rw[eQ g];exact Z)) (λ_=>rfl) (λ_ _ _ z=>nomatch z)
  ·cases h
 ·split at h
  ·rename_i Z;obtain⟨fs,g,rfl⟩:=zMd h;exact qQ (aE0 (nN hE O g).1 (by rw[eQ g];exact Z)) (λ_=>rfl) (λ_ _ _ z=>nomatch z)
  ·cases h
 ·-- o[..]
  rename_i a b pos;split at h
  ·rename_i fr s;cases h;exact y3 hE O s
  rename_i l;clear l;have I:=zBd h;clear h;obtain⟨j,g,h⟩:=I;obtain⟨m,q,rfl⟩:=zMd h;exact qQ (aL5 (hL X C _ j O g).lk (hE X C _ m O q).1 (nM (aL q).2.2)) (λ_=>rfl) (λ_ _ _ z=>nomatch z)
 ·-- a comprehension
  rename_i al ak sc pos;refine qQ ?_ (λ_=>rfl) (λ_ _ _ z=>nomatch z)
  split at h
  ·rename_i tg it an Q;split at h
   ·rename_i ha;subst ha;obtain⟨xs,k,cs,fi,M,fe,rfl,_,S,hi,B,ab,hg,ac,Y⟩:=mO (pos:=pos) hE hI O h;exact aG5 O.calm S hi B ab hg ac Y
   ·cases h
  ·cases h
 ·-- a call
  rename_i f' Q am pos;split at h
  ·rename_i fr s;cases h;exact y3 hE O s
  rename_i l;clear l;refine qQ ?_ (λ_=>rfl) (λ_ _ _ z=>nomatch z)
  split at h
  ·rename_i L
   cases eA L
   split at h
   ·rename_i x np;split at h
    ·cases h
    ·split at h
     ·rename_i k1 k2 fn A
      by_cases y:Q.isEmpty=true
      ·rw[if_pos y]at h;cases h
      rw[if_neg y]at h;obtain⟨fs,g,h⟩:=zBd h;split at h
      ·rename_i hk;cases h;obtain⟨J,H,r,j,T,hr,_⟩:=O.gl A;obtain⟨q1,t⟩:=nN hE O g
       cases Q with
       |nil=>exact absurd rfl y
       |cons a es=>exact aG1 T hr J H q1 hk (aK (t a (.head _))) (uI λe Y=>t e (.tail _ Y))
      ·cases h
     ·rename_i p A;exact aQg hE hL O A h
     ·cases h
   ·cases h
  ·cases h
 ·cases h
theorem aQk(hE:qP ad n):aKb ad (n+1):=by
 intro X C e f O h;unfold aBi at h;split at h
 ·rename_i x p
  cases a:loc C x with
  |some i=>
   rw[a]at h;cases h;obtain⟨b,g,d,c⟩:=O.vis x i a;exact xK b g d c
  |none=>
   rw[a]at h;exact(hE X C _ f O h).1.ml
 ·exact(hE X C _ f O h).1.ml
theorem aH5(hE: ∀m,m<n->qP ad m)(O:CtxOk X ad C)(hn: ∀x p,e≠ .Name x p)(h:aBi n C e=some f):ME X ad e f:=by
 cases n with
 |zero=>cases h
 |succ n=>
  have:bN n C e=some f:=by
   rw[<-h]
   cases e<;>first|rfl|exact absurd rfl (hn _ _)
  exact(hE n (Nat.lt_succ_self _) X C e f O this).1
theorem aQl(hE: ∀m,m<n+1->qP ad m)(hL:aKb ad n):aMw ad (n+1):=by
 intro X C tg e B f O y h;have c:=hE n (Nat.lt_succ_self _);unfold aEl at h
 have i: ∀{x:Str} {j:List Expr} {t q:Pos},wW (bN n C) C B x j=some f->MI X ad tg (.Call (.Name x t) j [] q) f/\(B=false->MIG X ad tg (.Call (.Name x t) j [] q) f):=by
  intro x j t q h;unfold wW at h;split at h
  ·rename_i a s;obtain⟨v,g,rfl⟩:=zMd h;obtain⟨o,H,r,l⟩:=O.gl s;subst r;have d:=(c X C _ v O g).1;exact⟨aCh o l d (aK (aL g).1),λ_=>xZ o l d (aK (aL g).1)⟩
  ·rename_i a b s;split at h
   ·rename_i u;obtain⟨v,g,h⟩:=zBd h;obtain⟨K,A,rfl⟩:=zMd h;obtain⟨o,H,r,l⟩:=O.gl s;subst r;obtain⟨N,k,p,rfl⟩:=y u;have J:=(c X C _ v O g).1;have E:=(c X C _ K O A).1;exact⟨aMj o l J E (aK (aL g).1) (aK (aL A).1),λz=>by rw[z]at u;cases u⟩
   ·cases h
  ·cases h
 split at h
 ·rename_i L j G q;split at h
  ·rename_i x p;split at h
   ·exact⟨(i h).1,λz _=>(i h).2 z⟩
   ·exact⟨(i h).1,λz _=>(i h).2 z⟩
   ·exact⟨(i h).1,λz _=>(i h).2 z⟩
   ·have d:=(c X C _ f O h).1;exact⟨xX d.ml,λ_ _=>nD d⟩
  ·have d:=(c X C _ f O h).1;exact⟨xX d.ml,λ_ _=>nD d⟩
 ·refine⟨xX (hL X C _ f O h),λ_ I=>nD (aH5 (λm M=>hE m (by lia)) O I h)⟩
theorem dD: ∀n,qP ad n/\aKb ad n/\aMw ad n:=by
 have d: ∀n, ∀m,m<=n->qP ad m/\aKb ad m/\aMw ad m:=by
  intro n
  induction n with
  |zero=>
   intro m j
   have:m=0:=by lia
   subst this;refine⟨?_,?_,?_⟩
   ·intro X C e f O h;unfold bN at h;cases h
   ·intro X C e f O h;unfold aBi at h;cases h
   ·intro X C tg e l f O _ h;unfold aEl at h;cases h
  |succ n i=>
   intro m j
   by_cases g:m<=n
   ·exact i m g
   ·have:m=n+1:=by lia
    subst this;obtain⟨a,b,c⟩:=i n (aj _);exact⟨aQj a b c,aQk a,aQl (λm j=>(i m (by lia)).1) b⟩
 exact λn=>d n n (aj _)
end
noncomputable abbrev aO4:List Value:=[.type "ValueError",.type "Exception",.type "BaseException",.type "object"]
structure StOk(X:Cx)(ad:Ad)(C:SK.Ctx):Prop where
 cx:CtxOk X ad C
 fn: ∀x,X.fn x=true
 sc:X.env.scope=C.sc
 lc: ∀x i,loc C x=some i->Loc X.env.scope x
 exm: ∀c,exmOne X.K (.ref (ad.cls c)) (.ref (ad.cls 0))=some true
 exi: ∀c,excIn X.K (ad.cls c) aO4 "ValueError.__new__"=true
def Zt(ad:Ad)(E₀:XK)(t:Bool):(St->Nat->Hp->Prop)->Prop:=λE=>t=false->∀σ c H,E σ c H->E₀ (.ref (ad.cls c)) none H
section
variable {X:Cx} {ad:Ad} {C:SK.Ctx} {E₀:XK} {t:Bool} {e it tg:Expr} {f:F} {g h:FS} {x:Str} {i:Nat} {pos pos':Pos} {st:Stmt}
theorem StOk.nm(O:StOk X ad C)(h:loc C x=some i):aMc X x i:=⟨(O.cx.vis x i h).1,O.lc x i h,.inl (O.fn x)⟩
theorem StOk.nms(O:StOk X ad C): ∀{xs:List Str} {is:List Nat},dR (λx=>loc C x) xs=some is->NmsOk X xs is
 |[],_,h=>by cases h;exact .nil
 |x::xs,is,h=>by
  unfold dR at h
  cases e:loc C x with
  |none=>rw[e]at h;cases h
  |some j=>
   rw[e]at h;obtain⟨r,b,a⟩:=zMd h;subst a;exact .cons (O.nm e) (O.nms b)
theorem vV: ∃b,swapsWith (.ListComp elt gens sc cpos) (some (.Name x pos')) line env=pure b:=⟨_,rfl⟩
theorem aM0(h:aB0 C e=some a): ∃y p q,e= .Call (.Name y p) [a] [] q/\glo C y=some (.py .dict):=by
 unfold aB0 at h;split at h
 ·split at h
  ·rename_i hk
   cases List.isEmpty_iff.mp hk
   have c:=zBd h;clear h;obtain⟨⟨y,p⟩,f,h⟩:=c
   cases bC f
   have c:=zBd h;clear h;obtain⟨b,d,h⟩:=c
   cases cE d
   split at h
   ·rename_i i g;cases h;exact⟨_,_,_,rfl,g⟩
   ·cases h
  ·cases h
 ·cases h
theorem y8(O:StOk X ad C)(h:bN 50 C e=some f)(hi:loc C x=some i):PS X (.Assign [.Name x pos'] e pos) (aF3 (tE X ad f) (jM i)):=by
 obtain⟨t,y,s⟩:=dD (ad:=ad) 49;obtain⟨q,_,_⟩:=dD (ad:=ad) 50;have nm:=O.nm hi;have n:=(q X C e f O.cx h).1
 by_cases o: ∃elt gens sc cpos,e= .ListComp elt gens sc cpos
 ·obtain⟨elt,gens,sc,cpos,rfl⟩:=o;obtain⟨b,p⟩:=vV (x:=x) (pos':=pos') (elt:=elt) (gens:=gens) (sc:=sc) (cpos:=cpos) (line:=pos.line) (env:=X.env)
  cases b with
  |false=>exact sP O.cx.nd nm.1 nm.2.1 n p nm.2.2
  |true=>
   have d: ∃tg j a,gens=[⟨tg,j,a,0⟩]:=by
    unfold bN at h
    simp only at h
    split at h
    ·rename_i tg j a I;split at h
     ·rename_i v;subst v;exact⟨_,_,_,rfl⟩
     ·cases h
    ·cases h
   obtain⟨tg,j,a,rfl⟩:=d;obtain⟨H,k,E,A,z,G,rfl,_,S,g,c,m,u,l,r⟩:=mO t s O.cx h;exact aHj O.cx.nd nm O.cx.calm S g c m u l r p
 ·refine sP O.cx.nd nm.1 nm.2.1 n ?_ nm.2.2;have B:=aL h
  cases e<;>first|rfl|exact absurd ⟨_,_,_,_,rfl⟩ o|(unfold bN at h;cases h;done)
theorem y9(P:PS X st (aF3 (tE X ad f) (jM i))):MS X ad Z st (g6 i f):=by
 refine PS.imp P ?_;rintro j h H ⟨a,G,l,E,S,e,c⟩;exact fU S e c λv d b g st r k=>k _ b g ((S.step st).set r)
theorem aH6(P:PS X st (aF3 (tE X ad f) (jM i))):MS X ad Z st (sV i f):=by
 refine PS.imp P ?_;rintro e d H ⟨a,G,g,E,S,c,b⟩;exact aMa S c b
def aM1(K:PySem.W.Frag)(n:Nat)(t:TGs):TG:=λv σ H Q=>∃a xs,v= .ref a/\SqL K H a xs/\xs.length=n/\t xs σ H Q
theorem aH7{t:TGs}(hc:X.calm=true)(h:PGs X es t)(hn:(assignEach es X.env).length=n)(hst:(assignEach es X.env).findIdx? (·.1)=none):PG X (.Tuple es k pos) (aM1 X.K n t):=by
 intro i s g H v u Q I r f;obtain⟨a,y,l,A,x,f⟩:=f;subst l;cases r;obtain⟨d,j,m,B⟩:=I.list A
 have c:d.toArray.size=n:=by simp[<-x,j.length]
 rw[assign_Tuple];refine aa (wpAny_standAt ?_);unfold unpack;rw[hn,hst, <-c];refine aa (wpAny_holding (kun_itemsOf (I.ok.hd hc) m.isList λq z=>?_))
 have p:Inv X i g H {s with heap:=q}:=I.kept (t':=s.toks) λb o e=>z b o (bj (ah e)) e
 exact h i _ g H y _ Q p (by simpa using j) f
theorem aQm(h1:PG X tg g1)(h2:PG X tg g2):PG X tg (λv σ H Q=>g1 v σ H Q\/g2 v σ H Q):=by
 intro a s σ H v u Q I r h;rcases h with h|h
 ·exact h1 a s σ H v u Q I r h
 ·exact h2 a s σ H v u Q I r h
theorem zA(O:StOk X ad C)(he:ME X ad e f)(hs:swapsWithSole [.Tuple es j tp] e pos.line X.env=pure false)(hw:swappedStores [.Tuple es j tp] e X.env=pure none)(ht:bZ (.Tuple es j tp)=some (xs,k))(hn:NmsOk X xs is):MS X ad Z (.Assign [.Tuple es j tp] e pos) (fQ is f):=by
 obtain⟨P,hk⟩:=aHh O.cx.calm O.cx.nd ht hn
 have B:k≠0:=by
  unfold bZ at ht;obtain⟨n,m,g⟩:=zBd ht
  by_cases b:2<=n.length
  ·rw[if_pos b]at g;cases g
   lia
  ·rw[if_neg b]at g;cases g
 have Q:(k==0)=false:=by simpa using B
 have A:PG X (.Tuple es j tp) (aM1 X.K is.length (gIs is)):=by
  unfold bZ at ht;obtain⟨n,m,g⟩:=zBd ht
  by_cases b:2<=n.length
  ·rw[if_pos b]at g;cases g;obtain⟨q1,I⟩:=i0 (X:=X) m;exact aH7 O.cx.calm (x8 O.cx.nd m hn) (by rw[q1,hn.len]) I
  ·rw[if_neg b]at g;cases g
 refine PS.imp (wK he (aQm P A) hs hw rfl) ?_;rintro t T H ⟨i,G,l,E,S,J,x⟩;unfold fQ at x;refine fU S J x λv d u y p r q=>?_
 cases d<;>try exact ba q
 case lst c=>
  have h:OKo X ad i (if c.length=is.length then .nx (setN is c l)else .rt .bad) t E:=q
  by_cases b:c.length=is.length
  ·rw[if_pos b]at h;unfold Rep at r;obtain⟨a,z,rfl,N,o⟩:=r;exact .inr ⟨a,z,rfl,p.gh.seq N,by rw[o.length,b],tV (by rw[o.length,b]) (h _ u y ((S.step p).setN o))⟩
  ·rw[if_neg b]at h;exact h.elim
 rename_i c;refine .inl ?_
 have h:OKo X ad i (if c.length=is.length then .nx (setN is c l)else .rt .bad) t E:=q
 by_cases b:c.length=is.length
 ·rw[if_pos b]at h;refine aE4 (ρ1:=setN is c l) hk ?_ (S.step p) r λs M=>h s u y M
  rw[Q]
  have L:o8 is false (.tup c) l=if c.length=is.length then some (setN is c l)else none:=by
   cases is with
   |nil=>rfl
   |cons _ _=>rfl
  rw[L,if_pos b]
 ·rw[if_neg b]at h;exact h.elim
theorem jJ{kt k2:Nat}(h:((env.scope.names.lookup x=some .cell\/env.scope.names.lookup y=some .cell)/\p)/\q):swappedStores [.Tuple [.Name x px,.Name y py] kt pt] (.Tuple [a,b] k2 pt2) env=pure none:=by
 unfold swappedStores
 have f:env.kindOf x=env.scope.names.lookup x:=rfl
 have d:env.kindOf y=env.scope.names.lookup y:=rfl
 rcases h.1.1 with e|e
 ·simp[f,d,e,List.filterMap,Expr.pos];intro _ _ _ c
  exfalso;revert c
  (repeat' split)<;>simp
 ·simp[f,d,e,List.filterMap,Expr.pos];intro _ _ _ c
  exfalso;revert c
  (repeat' split)<;>simp
theorem sA{kt k2:Nat}(hb:env.scope.kind= .function)(hx:env.scope.names.lookup x=some .local)(hy:env.scope.names.lookup y=some .local)(hne:x≠y)(hl:px.line=py.line)(sa:fL a)(sb:fL b)(h1:[a,b].all (foldedForSure 8)=false)(h2:[a,b].all (constantsAlone 8)=false):swappedStores [.Tuple [.Name x px,.Name y py] kt pt] (.Tuple [a,b] k2 pt2) env=pure (some [x,y]):=by
 have d:env.blockKind= .function:=by unfold PySem.Env.blockKind;rw[hb];rfl
 have i:env.kindOf x=some .local:=hx
 have f:env.kindOf y=some .local:=hy
 have g:[x,y].eraseDups.length=2:=by
  have:(y==x)=false:=by simpa using λz=>hne z.symm
  simp[List.eraseDups_cons,this]
 have c: ¬(foldedForSure 8 a=true/\foldedForSure 8 b=true):=λ⟨p,q⟩=>by simp[p,q]at h1
 have e: ¬(constantsAlone 8 a=true/\constantsAlone 8 b=true):=λ⟨p,q⟩=>by simp[p,q]at h2
 unfold swappedStores;simp[Expr.pos,i,f, <-hl,d,g,c,e,List.filterMap];intro h;rcases h with h|h
 ·cases a<;>first|exact sa.elim|cases h
 ·cases b<;>first|exact sb.elim|cases h
theorem aDb:fQ [i,j] (eF [fa,fb]) ρ=eY ρ (fa ρ) λx=>eY ρ (fb ρ) λy=>.nx ((ρ.set i (.sh x)).set j (.sh y)):=by
 unfold fQ eF l7 args args args
 cases fa ρ<;>simp[eY,RA.then]<;>cases fb ρ<;>simp[RA.cons,setN]
theorem aM2{i j kt k2:Nat}(O:StOk X ad C)(ha:ME X ad a fa)(hb:ME X ad b fb)(sa:fL a)(sb:fL b)(hi:loc C x=some i)(hj:loc C y=some j)(ok:aGk C x y px py a b=true):
  MS X ad Z (.Assign [.Tuple [.Name x px,.Name y py] kt pt] (.Tuple [a,b] k2 pt2) pos) (fQ [i,j] (eF [fa,fb])):=by
 unfold aGk at ok;simp only[aw,Bool.not_eq_true']at ok;obtain⟨⟨⟨⟨⟨⟨⟨A,L⟩,Q⟩,N⟩,T⟩,B⟩,_⟩,_⟩:=ok
 have o:X.env.scope.names.lookup x=some .local:=by rw[O.sc];exact bX A
 have t:X.env.scope.names.lookup y=some .local:=by rw[O.sc];exact bX L
 have c:x≠y:=by simpa using Q
 have nx:=(O.cx.vis x i hi).1;have f:=(O.cx.vis y j hj).1;have g:i≠j:=λz=>by subst z;rw[nx]at f;exact c (Option.some.inj f)
 rintro J s e H l I ⟨m,G,W,E,S,n,q⟩;refine aKz (ta:=q9 (tE X ad fa) (q9 (tE X ad fb) aJ4)) O.cx.calm O.cx.nd nx f g o t (bY ha (bY hb dZ (aK sb)) (aK sa)) (sA I.ok.kind o t c (by simpa using N) sa sb T B) rfl J s e H l I ?_
 rw[aDb]at q;show tE X ad fa e H λv u=>tE X ad fb e u λw h=>∃v' w',[v,w]=[v',w']/\l.nx ((e.set i (some v')).set j (some w')) h
 exact fU S n q λv d U u p r k=>fU (S.step p) n k λw Y K h st2 M k2=>⟨v,w,rfl,k2 _ K h ((((S.step p).step st2).set (r.mono st2.sg)).set M)⟩
theorem aO5(O:StOk X ad C):StOk (tX X ce D' hd) ad C:=by
 refine⟨⟨O.cx.N,O.cx.nd,O.cx.vis,O.cx.gk,λx g e=>?_,O.cx.cap,O.cx.calm,O.cx.un,O.cx.hd,O.cx.exc,O.cx.kin,O.cx.kve,λj n F e=>let ⟨r,T,b⟩:=O.cx.fnv j n F e;⟨r,⟨T.kp,T.ok⟩,b⟩⟩,O.fn,O.sc,O.lc,O.exm,O.exi⟩
 obtain⟨h,a⟩:=O.cx.gt x g e;refine⟨h,?_⟩
 cases g with
 |fn k n F=>
  obtain⟨r,f,T,b,l⟩:=a;exact⟨r,f,⟨T.mg,T.kp,T.ok⟩,b,l⟩
 |exc c=>exact a
 |verr=>exact a
 |val d=>exact a
 |tbl i=>exact a
 |py p=>exact a
 |cls A q=>exact⟨a.1,a.2.1,λm n M o=>let z:=a.2.2 m n M o;⟨z.no,z.ok⟩⟩
theorem zB(h:aLl es e=some ⟨x,px,y,py,a,b⟩): ∃k p,es=[.Name x px,.Name y py]/\e= .Tuple [a,b] k p:=by
 unfold aLl at h;obtain⟨⟨u,v⟩,j,h⟩:=zBd h;obtain⟨⟨q,g⟩,c,h⟩:=zBd h;obtain⟨⟨n,d⟩,m,h⟩:=zBd h;obtain⟨⟨r,k,p⟩,l,h⟩:=zBd h;obtain⟨⟨o,s⟩,f,i⟩:=zMd h;cases i;rw[iH j,bC c,bC m,yZ l,iH f];exact⟨k,p,rfl,rfl⟩
theorem uJ(h:aGg e=true): ∃s k p,e= .Constant (.str s) k p:=by
 cases e<;>try (cases h;done)
 rename_i c k p
 cases c<;>try (cases h;done)
 exact⟨_,k,p,rfl⟩
def aQn(ad:Ad)(E₀:XK)(n:Nat):Prop:= ∀(X:Cx) (C:SK.Ctx) (t:Bool) (s:Stmt) (g:FS),StOk X ad C->(t=false->DefX X E₀/\PassesOwn (model X.prog X.w) X.A X.env X.xe)->aBk n t C s=some g->MS X ad (Zt ad E₀ t) s g
def aDc(ad:Ad)(E₀:XK)(n:Nat):Prop:= ∀(X:Cx) (C:SK.Ctx) (t:Bool) (s:List Stmt) (g:FS),StOk X ad C->(t=false->DefX X E₀/\PassesOwn (model X.prog X.w) X.A X.env X.xe)->kJ n t C s=some g->MSs X ad (Zt ad E₀ t) s g
theorem Zt.imp(h:MS X ad Z st g)(k: ∀E,Z' E->Z E):MS X ad Z' st g:=PS.imp h λf e H ⟨a,G,d,E,S,b,c⟩=>⟨a,G,d,E,S,⟨b.1,k E b.2⟩,c⟩
theorem Zts.imp(h:MSs X ad Z sts g)(k: ∀E,Z' E->Z E):MSs X ad Z' sts g:=PSs.imp h λf e H ⟨a,G,d,E,S,b,c⟩=>⟨a,G,d,E,S,⟨b.1,k E b.2⟩,c⟩
theorem aDd(h:aLm b=some s):b=[s]:=by
 unfold aLm at h;split at h
 ·cases h;rfl
 ·cases h
theorem aQo(hS:aDc ad E₀ n):aQn ad E₀ (n+1):=by
 intro X C t s g O Y h;obtain⟨r,kL,kI⟩:=dD (ad:=ad) 50;unfold aBk at h;split at h
 ·cases h;exact aG9
 ·-- return
  split at h
  ·cases h
  ·split at h
   ·rename_i x p G
    cases bC G
    split at h
    ·rename_i i I;obtain⟨M,T,S,L⟩:=O.cx.vis x i I
     cases h;exact tR (wZ M T S L)
    ·obtain⟨f,d,rfl⟩:=zMd h;exact tR (r X C _ f O.cx d).1
   ·obtain⟨f,d,rfl⟩:=zMd h;exact iD (tR (r X C _ f O.cx d).1)
 ·-- an assignment
  rename_i ts e K;have A:=zBd h;clear h;obtain⟨tg,J,h⟩:=A
  cases cE J
  split at h
  ·-- x=e
   have A:=zBd h;clear h;obtain⟨i,d,h⟩:=A;split at h
   ·-- o=dict(e)
    rename_i a U;obtain⟨f,l,rfl⟩:=zMd h
    have Z:aB0 C e=some a:=by
     split at U
     ·exact U
     ·cases U
    obtain⟨y,p,q,rfl,I⟩:=aM0 Z;obtain⟨W,g2,N,g4⟩:=O.cx.gl I
    cases (show y="dict" from N)
    have nm:=O.nm d;exact iD (aC3 O.cx.nd nm.1 nm.2.1 W g4 (r X C _ f O.cx l).1 (aK (aL l).1) nm.2.2)
   ·obtain⟨f,l,rfl⟩:=zMd h;refine iD ?_;split
    ·exact aH6 (y8 O l d)
    ·exact y9 (y8 O l d)
  ·split at h
   ·-- a,b=x,y
    rename_i x px y py a b hp;obtain⟨k2,ac,rfl,rfl⟩:=zB hp;split at h
    ·rename_i ab;obtain⟨i,d,h⟩:=zBd h;obtain⟨j,l,h⟩:=zBd h;obtain⟨fa,m,h⟩:=zBd h;obtain⟨fb,h4,rfl⟩:=zMd h;exact iD (aM2 O (r X C _ fa O.cx m).1 (r X C _ fb O.cx h4).1 (aL m).1 (aL h4).1 d l ab)
    ·split at h
     ·rename_i hc;obtain⟨i,d,h⟩:=zBd h;obtain⟨j,l,h⟩:=zBd h;obtain⟨f,m,rfl⟩:=zMd h
      have hm:dR (λx=>loc C x) [x,y]=some [i,j]:=by simp[dR,d,l]
      exact iD (zA (xs:=[x,y]) (k:=2) O (r X C _ f O.cx m).1 rfl (jJ (by rw[O.sc];simpa[kH]using hc)) rfl (O.nms hm))
     ·cases h
   ·-- a,b=e
    obtain⟨u,J,h⟩:=zBd h;obtain⟨⟨xs,k⟩,d,h⟩:=zBd h;obtain⟨is,l,h⟩:=zBd h;split at h
    ·obtain⟨f,m,rfl⟩:=zMd h
     have hf:wX e=true:=by
      split at J
      ·assumption
      ·cases J
     exact iD (zA O (r X C _ f O.cx m).1 (by cases e<;>first|rfl|(cases hf;done)) (by cases e<;>first|rfl|(cases hf;done)) d (O.nms l))
    ·cases h
  ·-- x[k]=e
   rename_i o k tp;have A:=zBd h;clear h;obtain⟨⟨x,p⟩,G,h⟩:=A
   cases bC G
   obtain⟨i,d,h⟩:=zBd h;obtain⟨M,T,S,L⟩:=O.cx.vis x i d;split at h
   ·obtain⟨f,l,h⟩:=zBd h;obtain⟨g,m,rfl⟩:=zMd h;refine iD (aMq O.cx.un M T S L (r X C _ f O.cx l).1 (r X C _ g O.cx m).1 (λv=>?_) ?_ ?_)
    ·have ns:=(aL m).2.2
     cases k<;>first|rfl|exact absurd rfl (ns _ _ _ _)
    ·cases e<;>rfl
    ·cases e<;>rfl
   ·cases h
  ·cases h
 ·-- an expression
  split at h
  ·rename_i f' as Q cp;split at h
   ·rename_i B
    cases eA B
    split at h
    ·obtain⟨f,d,rfl⟩:=zMd h;exact iD (aHb (r X C _ f O.cx d).1 rfl)
    ·cases h
   ·cases h
  ·cases h
 ·obtain⟨f,d,h⟩:=zBd h;obtain⟨ga,l,h⟩:=zBd h;obtain⟨gb,m,rfl⟩:=zMd h;exact iD (aMb (r X C _ f O.cx d).2.1 (hS X C t _ ga O Y l) (hS X C t _ gb O Y m))
 ·-- raise
  rename_i x c K
  cases t with
  |true=>cases h
  |false=>
   cases c with
   |some _=>cases h
   |none=>
    simp only[Bool.false_or,Option.isSome_none,az,if_false]at h;have A:=zBd h;clear h;obtain⟨e,rfl,h⟩:=A;split at h
    ·rename_i f' as Q cp;split at h
     ·rename_i B
      cases eA B
      have A:=zBd h;clear h;obtain⟨⟨x,p⟩,G,h⟩:=A
      cases bC G
      have A:=zBd h;clear h;obtain⟨a,ho,h⟩:=A
      cases cE ho
      split at h
      ·rename_i H;obtain⟨sx,k1,k2,rfl⟩:=uJ H;split at h
       ·rename_i c I e2;cases h;obtain⟨W,g2,N,g4⟩:=O.cx.gl e2;exact Zt.imp (aCm (Y rfl).1 O.cx.calm W N g2 (O.exi c)) λE z=>z rfl
       ·cases h
      ·cases h
     ·cases h
    ·cases h
 ·cases h
theorem aM3(hS:aQn ad E₀ n)(hSs:aDc ad E₀ n):aDc ad E₀ (n+1):=by
 intro X C t s g O b h
 have c: ∀a:Stmt,MS X ad (Zt ad E₀ t) a ((aBk n t C a).getD aOz):=λa=>by
  cases e:aBk n t C a with
  |none=>exact aMd
  |some f=>exact hS X C t a f O b e
 unfold kJ at h;split at h
 ·cases h;exact rR
 ·cases h;exact aHa (c _)
 ·obtain⟨r,d,rfl⟩:=zMd h;exact tQ (c _) (hSs X C t _ r O b d)
theorem lF: ∀n,aQn ad E₀ n/\aDc ad E₀ n:=by
 intro n
 induction n with
 |zero=>
  refine⟨?_,?_⟩
  ·intro X C t s g O b h;unfold aBk at h;cases h
  ·intro X C t s g O b h;unfold kJ at h;cases h
 |succ n a=>exact⟨aQo a.2,aM3 a.1 a.2⟩
end
def GlT(P:Program)(w:World)(K:Frag)(mg:Str->Option Value)(base:Heap)(ad:Ad)(k:Nat)(x:Str):SK.Gl->Prop
 |.fn j n F=>∃r f,r<=k/\mg x=some (.ref f)/\keepIn K (.ref f)=true/\(∃fd ps,FnOk P w K mg base (CXe P w) r f fd ps (vJ K ad n F)/\dW K fd ps [])/\f=ad.fnA j
 |.exc c=>mg x=some (.ref (ad.cls c))/\c<ad.nb
 |.verr=>x="ValueError"/\mg x=none
 |.val d=>∃u v,mg x=some u/\bA v u/\∀G,Rep K ad G d v
 |.py p=>x=dF p/\mg x=none
 |.tbl kvs=>∃A,mg x=some (.ref A)/\aMg P w K ad A kvs
 |.cls A ms=>mg x=some (.ref A)/\RkC K A/\∀m n M,ms.lookup m=some (n,M)->(m≠"held"/\m≠"done"/\m≠"undone")/\∃f r fd ps,r<=k/\Meth K A m f/\FnOk P w K mg base (CXe P w) r f fd ps (spM K ad A n M)/\dW K fd ps []
def dY(P:Program)(w:World)(K:Frag)(mg:Str->Option Value)(base:Heap)(ad:Ad)(k:Nat)(tab:List (Str×SK.Gl)):Prop:= ∀x g,tab.lookup x=some g->(x==("__debug__":Str))=false/\GlT P w K mg base ad k x g
def fM(P:Program)(w:World)(K:Frag)(mg:Str->Option Value)(base:Heap)(ad:Ad)(k:Nat)(fns:List (Nat×Fn)):Prop:= ∀j n F,fns[j]? =some (n,F)->∃r,r<=k/\keepIn K (.ref (ad.fnA j))=true/\∃fd ps,FnOk P w K mg base (CXe P w) r (ad.fnA j) fd ps (vJ K ad n F)/\dW K fd ps []
structure ExcK(K:Frag)(ad:Ad):Prop where
 exc: ∀c,ExcCls K (ad.cls c)
 kin: ∀c e,c<ad.nb->kitOne K (.ref (ad.cls e)) (.ref (ad.cls c))=some (hit c e)
 kve: ∀e,kitOne K (.ref (ad.cls e)) (.type "ValueError")=some true
 exm: ∀c,exmOne K (.ref (ad.cls c)) (.ref (ad.cls 0))=some true
 exi: ∀c,excIn K (ad.cls c) aO4 "ValueError.__new__"=true
section
variable {P:Program} {w:World} {K:Frag} {mg:Str->Option Value} {base:Heap} {ad:Ad} {k:Nat} {tab:List (Str×SK.Gl)}
theorem GlT.mono(h:GlT P w K mg base ad k x g)(hk:k<=j):GlT P w K mg base ad j x g:=by
 cases g with
 |fn i n F=>
  obtain⟨r,f,a,b⟩:=h;exact⟨r,f,Nat.le_trans a hk,b⟩
 |exc c=>exact h
 |verr=>exact h
 |val d=>exact h
 |tbl e=>exact h
 |py p=>exact h
 |cls A o=>exact⟨h.1,h.2.1,λm n M l=>let ⟨no,f,r,fd,ps,h1,h2⟩:=h.2.2 m n M l;⟨no,f,r,fd,ps,Nat.le_trans h1 hk,h2⟩⟩
theorem dY.mono(h:dY P w K mg base ad k tab)(hk:k<=j):dY P w K mg base ad j tab:=λx g e=>⟨(h x g e).1,(h x g e).2.mono hk⟩
theorem dY.nil:dY P w K mg base ad k []:=λx g e=>by cases e
theorem dY.cons{x:Str}{g:SK.Gl}(h:dY P w K mg base ad k tab)(hd:(x==("__debug__":Str))=false)(hg:GlT P w K mg base ad k x g):dY P w K mg base ad k ((x,g)::tab):=by
 intro y a e;rw[List.lookup_cons]at e
 cases q:y==x with
 |true=>
  rw[q]at e;cases e
  have:y=x:=by simpa using q
  subst this;exact⟨hd,hg⟩
 |false=>
  rw[q]at e;exact h y a e
theorem fM.nil:fM P w K mg base ad k []:=λj n F e=>by simp at e
theorem fM.snoc{F:Fn}(h:fM P w K mg base ad k fns)(hk:k<=k')(hl:fns.length=j)(hf:f=ad.fnA j)(hr:r<=k')(kp:keepIn K (.ref f)=true)(ok:FnOk P w K mg base (CXe P w) r f fd ps (vJ K ad n F))(hb:dW K fd ps []):
  fM P w K mg base ad k' (fns++[(n,F)]):=by
 intro i m G e;subst hf
 by_cases c:i<fns.length
 ·rw[cb c]at e;obtain⟨d,g,b⟩:=h i m G e;exact⟨d,Nat.le_trans g hk,b⟩
 ·rw[bo (by lia)]at e
  cases a:i-fns.length with
  |zero=>
   rw[a]at e;cases e
   have:i=j:=by lia
   subst this;exact⟨r,hr,kp,fd,ps,ok,hb⟩
  |succ q=>rw[a]at e;simp at e
theorem cH(h:bT N Ps sc=true):FnScope N Ps sc/\∀x∈N,(x==("__debug__":Str))=false/\(x==("__classdict__":Str))=false:=by
 unfold bT at h;simp only[aw]at h;obtain⟨⟨⟨⟨⟨⟨⟨e,b⟩,j⟩,i⟩,c⟩,d⟩,l⟩,f⟩:=h;refine⟨⟨by simpa using e,by simpa using b,by simpa using j,of_decide_eq_true i,of_decide_eq_true c,λx a=>?_,λy g z=>?_⟩,λx a=>?_⟩
 ·have:=zAd d x a
  rcases(Bool.or_eq_true _ _).mp this with z|z
  ·exact .inl (bX z)
  ·exact .inr (bX z)
 ·have:=zAd l y g
  rw[z]at this
  simp at this
 ·have:=zAd f x a
  simpa using this
theorem iJ(hG:Same G X.H₀)(r:aJ X.K ad G ds vs):SS X ad G G X.H₀ (ds.map Slot.sh++ao n .no) (vs.map some++ao n none):=by
 have u:=r.length
 have c: ∀(i:Nat) (g:Slot),(ds.map Slot.sh++ao n .no)[i]? =some g->(∃d v,g= .sh d/\(vs.map some++ao n none)[i]? =some (some v)/\Rep X.K ad G d v)\/(g= .no/\∃o,(vs.map some++ao n none)[i]? =some o):=λi g e=>by
  by_cases t:i<ds.length
  ·rw[cb (by simpa using t),List.getElem?_map]at e
   cases b:ds[i]? with
   |none=>rw[b]at e;cases e
   |some d=>
    rw[b]at e;cases e;obtain⟨v,s,q⟩:=r.get b;refine .inl ⟨d,v,rfl,?_,q⟩;rw[cb (by rw[aq];lia),List.getElem?_map,s]
    rfl
  ·rw[bo (by simpa using t),List.getElem?_replicate]at e
   split at e
   ·cases e;refine .inr ⟨rfl,none,?_⟩;rename_i m;rw[bo (by rw[aq];lia),List.getElem?_replicate,if_pos]
    rw[aq]at m ⊢
    lia
   ·cases e
 refine⟨Step.refl hG,⟨by simp[u],λi g e=>?_⟩,λi B a e w h=>?_,λi j B H a b s A E I J=>?_,?_⟩
 ·rcases c i g e with ⟨d,v,rfl,b,q⟩|⟨rfl,o,b⟩
  ·exact⟨some v,b,v,rfl,q⟩
  ·exact⟨o,b,trivial⟩
 ·rcases c i _ e with ⟨d,v,z,_⟩|⟨z,_⟩<;>(subst z;exact(bg w).elim)
 ·rcases c i _ b with ⟨d,v,z,_⟩|⟨z,_⟩<;>(subst z;exact(bg A).elim)
 ·have no: ∀{i:Nat} {l:List Addr}, ¬gF X.H₀ (ds.map Slot.sh++ao n .no) (vs.map some++ao n none) i l:=λ{i l} f=>by
   obtain⟨C,r,p,L,d,M,N,x,_⟩:=f;rcases c i _ x with ⟨d,v,z,_⟩|⟨z,_⟩<;>cases z
  exact⟨λi l f=>(no f).elim,λi l f=>(no f).elim,λi j l y a f=>(no f).elim⟩
theorem sB(B:ExcK K ad)(TB:dY P w K mg base ad k tab)(FB:fM P w K mg base ad k fns)(hs:bT (aC sc) ps sc=true)(hr:Room k (A.deeper (envOfC qual sc s.heap.objs.size f cdv))):
  StOk (jP (CXe P w) P w K mg base (aC sc) qual sc f cdv A outer s H E) ad ⟨tab,fns,sc,aC sc,bs⟩:=by
 obtain⟨S,nm⟩:=cH hs;let C:SK.Ctx:=⟨tab,fns,sc,aC sc,bs⟩
 have o: ∀x i,loc C x=some i->(aC sc)[i]? =some x/\Loc sc x/\x∈aC sc:=λx i e=>by
  obtain⟨u,h⟩:=kY e;refine⟨fI u,?_,kX u⟩;rcases h with h|h|h
  ·exact .inl h
  ·exact .inr h
  ·exact absurd rfl (S.nofree _ (d8 h))
 refine⟨⟨rfl,S.nd,λx i e=>?_,λx e=>e,λx g e=>?_,λx i e=>?_,rfl,?_,hr.hd,B.exc,B.kin,B.kve,λj m G e=>?_⟩,λ_=>rfl,rfl,λx i e=>(o x i e).2.1,B.exm,B.exi⟩
 ·obtain⟨a,b,c⟩:=o x i e;exact⟨a,b.elim .inl λz=>.inr (.inl z),(nm x c).1,(nm x c).2⟩
 ·obtain⟨a,b⟩:=TB x g e;refine⟨a,?_⟩
  cases g with
  |fn j m G=>
   obtain⟨v,J,t,l,q,y,I⟩:=b;exact⟨v,J,⟨l,q,y⟩,hr.mono t,I⟩
  |exc c=>exact b
  |verr=>exact b
  |val d=>exact b
  |tbl L=>exact b
  |py p=>exact b
  |cls A O=>exact⟨b.1,b.2.1,λm n M N=>let ⟨no,f,r,fd,ps,t,l,q,y⟩:=b.2.2 m n M N;⟨no,f,r,fd,ps,l,q,hr.mono t,y⟩⟩
 ·obtain⟨u,h⟩:=d7 e;rcases h with h|h
  ·exact .inl h
  ·exact absurd rfl (S.nofree _ (d8 h))
 ·exact Nat.lt_of_le_of_lt (Nat.add_le_add_left (by decide:62<=64) _) hr.units
 ·obtain⟨v,t,l,q⟩:=FB j m G e;exact⟨v,⟨l,q⟩,hr.mono t⟩
theorem aM4{st:Stmt}{F:Fn}(B:ExcK K ad)(TB:dY P w K mg base ad k tab)(FB:fM P w K mg base ad k fns)(Fu:Fun K x qual st f fd)(hps:eG (defArgs st)=some ps)(hd:aGl tab fns st=some (n,F)):FnOk P w K mg base (CXe P w) (k+1) f fd ps (vJ K ad n F):=by
 obtain⟨oc,od,kV,ac,pm,an,o,ct,ab,rfl,lk,L⟩:=Fu.ex
 cases st with
 |FunctionDef nm W b dl re tp i ts bi Z=>
  have q:((eG W).bind λU=>if bT (aC i) U i then(kJ 100 false ⟨tab,fns,i,aC i,aBj 50 b⟩ b).map λg=>(U.length,SK.fnOf (aC i).length g)else none)=some (n,F):=hd
  have t:eG W=some ps:=hps
  rw[t]at q
  have l:(if bT (aC i) ps i then(kJ 100 false ⟨tab,fns,i,aC i,aBj 50 b⟩ b).map λg=>(ps.length,SK.fnOf (aC i).length g)else none)=some (n,F):=q
  by_cases v:bT (aC i) ps i=true
  ·rw[if_pos v]at l;obtain⟨g,hg,e⟩:=zMd l;cases e;obtain⟨S,nm⟩:=cH v;refine aGa lk L S (λvs H Q E ⟨G,m,_,r,N,_⟩=>by rw[r.length,N]) λA j s H vs Q E hr M=>?_
   obtain⟨G,m,hG,r,N,hq⟩:=M;let C:SK.Ctx:=⟨tab,fns,i,aC i,aBj 50 b⟩;have O:StOk (jP (CXe P w) P w K mg base (aC i) qual i f o A j s H E) ad C:=sB B TB FB v hr;have T:DefX (jP (CXe P w) P w K mg base (aC i) qual i f o A j s H E) E:=⟨rfl,rfl,rfl,λe s' h=>h⟩
   refine⟨_,(lF (ad:=ad) (E₀:=E) 100).2 _ C false b g O (λ_=>⟨T,PassesOwn.leaving (Q₁:=λe y=>CXe P w j H s E e y)⟩) hg,?_⟩
   refine⟨G,G,m.map Slot.sh++ao ((aC i).length-m.length) .no,λu c p=>E (.ref (ad.cls c)) none p,?_,⟨λu=>yD T,λ_ u c H h=>h⟩,?_⟩
   ·have:=iJ (X:=jP (CXe P w) P w K mg base (aC i) qual i f o A j s H E) (ad:=ad) (n:=(aC i).length-m.length) hG r
    unfold L2.start;rw[r.length];exact this
   ·have a:RK K ad G H (match g (m.map Slot.sh++ao ((aC i).length-m.length) .no)with
     |.rt (.ok d)=>.ok d
     |.rt (.ow Y)=>.ow Y
     |.rt _=>.bad
     |.nx _=>.ok .non
     |.ex c _=>.ex c
     |_=>.bad) Q (λc p=>E (.ref (ad.cls c)) none p):=hq
    cases e:g (m.map Slot.sh++ao ((aC i).length-m.length) .no)with
    |nx I=>rw[e]at a;exact λu z p J=>a .non z p J.st (by unfold Rep;rfl)
    |bk I=>rw[e]at a;exact a.elim
    |ct I=>rw[e]at a;exact a.elim
    |ex c I=>rw[e]at a;exact λu z p J=>a z p J.st
    |rt r'=>
     rw[e]at a
     cases r' with
     |ok d=>exact a
     |ow Y=>exact a
     |ex c=>exact a.elim
     |bad=>exact a.elim
  ·rw[if_neg v]at l;cases l
 |_=>cases hd
def uK(K:Frag)(cs:List Addr)(C0:Addr):Bool:=
 decide (cs.length<=100)&&cs.head?==some C0&&cs.all λC=>(clsIn K C).isSome&&mroIn K C (.type "object")==some true&&mroIn K C (.type "BaseException")==some true&&findIn K (.ref C) "__class__"==some (some (.builtin "object.__class__"))&&
  findIn K (.ref C) "__getattribute__"==some (some (.builtin "BaseException.__getattribute__"))&&findIn K (.ref C) "__getattr__"==some none&&kitOne K (.ref C) (.type "ValueError")==some true&&exmOne K (.ref C) (.ref C0)==some true&&
  excIn K C aO4 "ValueError.__new__"
def uL(K:Frag)(cs:List Addr):Bool:=cs.zipIdx.all λp=>cs.zipIdx.all λq=>kitOne K (.ref p.1) (.ref q.1)==some (hit q.2 p.2)
noncomputable def aFb(cs:List Addr)(C0:Addr)(fs:List Addr):Ad:=⟨λc=>cs.getD c C0,λk=>if k<1000 then fs.getD k 0 else k-1000,cs.length⟩
theorem aH8(h:uK K cs C0=true)(h2:uL K cs=true):ExcK K (aFb cs C0 fs):=by
 unfold uK at h;rw[aw,aw]at h;obtain⟨⟨o,j⟩,E⟩:=h
 have o:cs.length<=100:=of_decide_eq_true o
 have j:cs.head?=some C0:=by simpa using j
 have g:C0∈cs:=List.mem_of_mem_head? (by rw[j];rfl)
 have get: ∀c,(aFb cs C0 fs).cls c∈cs:=λc=>by
  show cs.getD c C0∈cs;rw[cc]
  cases e:cs[c]? with
  |none=>exact g
  |some a=>exact List.mem_of_getElem? e
 have n:cs[0]? =some C0:=by rw[<-List.head?_eq_getElem?];exact j
 have t:(aFb cs C0 fs).cls 0=C0:=by
  show cs.getD 0 C0=C0;rw[cc,n];rfl
 have all: ∀C∈cs,ExcCls K C/\kitOne K (.ref C) (.type "ValueError")=some true/\exmOne K (.ref C) (.ref C0)=some true/\excIn K C aO4 "ValueError.__new__"=true:=λC p=>by
  have:=zAd E C p
  simp only[aw,beq_iff_eq]at this;obtain⟨⟨⟨⟨⟨⟨⟨⟨z,h2⟩,u⟩,s⟩,G⟩,I⟩,x⟩,v⟩,J⟩:=this;exact⟨⟨z,h2,u,s,G,I⟩,x,v,J⟩
 have d: ∀(c e:Nat) (a b:Addr),cs[e]? =some a->cs[c]? =some b->kitOne K (.ref a) (.ref b)=some (hit c e):=λc e a b f i=>by
  unfold uL at h2;have A:(a,e)∈cs.zipIdx:=List.mem_zipIdx_iff_getElem?.mpr f;have r:(b,c)∈cs.zipIdx:=List.mem_zipIdx_iff_getElem?.mpr i
  have:=zAd (zAd h2 _ A) _ r
  simpa using this
 refine⟨λc=>(all _ (get c)).1,λc e B=>?_,λe=>(all _ (get e)).2.1,λc=>?_,λc=>(all _ (get c)).2.2.2⟩
 ·have m:c<cs.length:=B;obtain⟨b,i⟩: ∃b,cs[c]? =some b:=⟨_,bf m⟩
  have q:(aFb cs C0 fs).cls c=b:=by
   show cs.getD c C0=b;rw[cc,i];rfl
  rw[q]
  cases f:cs[e]? with
  |some a=>
   have l:(aFb cs C0 fs).cls e=a:=by
    show cs.getD e C0=a;rw[cc,f];rfl
   rw[l];exact d c e a b f i
  |none=>
   have l:(aFb cs C0 fs).cls e=C0:=by
    show cs.getD e C0=C0;rw[cc,f];rfl
   have H:cs.length<=e:=List.getElem?_eq_none_iff.mp f
   rw[l,d c 0 C0 b n i]
   congr 1
   unfold hit
   have y:(c==e)=false:=by simp;lia
   rw[y]
   cases c<;>simp
 ·rw[t];exact(all _ (get c)).2.2.1
end
section
variable {P:Program} {w:World} {K:Frag} {mg:Str->Option Value} {base h:Heap} {ad:Ad} {k:Nat} {tab:List (Str×SK.Gl)} {fns:List (Nat×Fn)}
structure PQ(P:Program)(w:World)(K:Frag)(mg:Str->Option Value)(base h:Heap)(ad:Ad)(k:Nat)(tab:List (Str×SK.Gl))(fns:List (Nat×Fn)):Prop where
 t:dY P w K mg base ad k tab
 u:fM P w K mg base ad k fns
 X:K.In h
 G:h.Ns mainGlobals mg
 B:ExcK K ad
def Bnd(x:Str)(st:Stmt)(ps:List Str):Prop:= ∀(kV doc pm:Value) (an:Option Addr) (cdv ct:Value) (us:List Value),us.length=ps.length->bindArgs (PySem.W.fnOf x x (defArgs st) (defBody st) (defScope st) .none kV doc pm an cdv ct) ⟨us,[]⟩=pure (ps.zip us)
theorem PQ.cons(T:PQ P w K mg base h ad k tab fns){x:Str}{f:Addr}{fd:FuncData}{ps:List Str}{n r:Nat}{M:Fn}(hr:k<=r)(ok:FnOk P w K mg base (CXe P w) r f fd ps (vJ K ad n M))(hb:dW K fd ps [])(kp:keepIn K (.ref f)=true)(hm:mg x=some (.ref f))(hj:f=ad.fnA fns.length)(hdb:(x==("__debug__":Str))=false):
  PQ P w K mg base h ad r ((x,.fn fns.length n M)::tab) (fns++[(n,M)]):=
 ⟨dY.cons (T.t.mono hr) hdb ⟨r,f,aj _,hm,kp,⟨_,_,ok,hb⟩,hj⟩,fM.snoc T.u hr rfl hj (aj _) kp ok hb,T.X,T.G,T.B⟩
theorem PQ.addV(T:PQ P w K mg base h ad k tab fns)(x:Str)(st:Stmt)(f:Addr)(ps:List Str)(n:Nat)(M:Fn){oc:Value}{od an:Option Addr}{osl:Array (Option Value)}{kV doc pm cdv ct:Value}(l:K.lookup f=some ⟨oc,od,.func (PySem.W.fnOf x x (defArgs st) (defBody st) (defScope st) .none kV doc pm an cdv ct),osl⟩)
  (fns':List (Nat×Fn)) (hf:fns'=fns\/fns'=[]) (d:aGl tab fns' st=some (n,M):=by kernel_rfl) (c:codeIn K cdv x=true:=by kernel_rfl) (kp:keepIn K (.ref f)=true:=by kernel_rfl) (hm:nsIn K mainGlobals x=some (some (.ref f)):=by kernel_rfl) (hj:f=ad.fnA fns.length:=by rfl)
  (hdb:(x==("__debug__":Str))=false:=by decide) (hps:eG (defArgs st)=some ps:=by rfl) (hb:Bnd x st ps:=by intro _ _ _ _ _ _ us hl;rcases us with _|⟨u0,_|⟨u1,_|⟨u2,_|⟨u3,_|⟨u4,us⟩⟩⟩⟩⟩<;>first|rfl|(simp at hl)):
  PQ P w K mg base h ad (k+1) ((x,.fn fns.length n M)::tab) (fns++[(n,M)]):=by
 have F:=l6 (st:=st) l c kp;refine T.cons (Nat.le_succ _) (aM4 (ps:=ps) T.B T.t ?_ F hps d) (F.binds hb) kp (PySem.W.mg_of T.X T.G hm) hj hdb;rcases hf with rfl|rfl
 ·exact T.u
 ·exact fM.nil
theorem PQ.add(T:PQ P w K mg base h ad k tab fns)(x:Str)(st:Stmt)(f:Addr)(ps:List Str)(n:Nat)(M:Fn){oc:Value}{od an:Option Addr}{osl:Array (Option Value)}{kV doc pm cdv ct:Value}(l:K.lookup f=some ⟨oc,od,.func (PySem.W.fnOf x x (defArgs st) (defBody st) (defScope st) .none kV doc pm an cdv ct),osl⟩)
  (d:aGl tab [] st=some (n,M):=by kernel_rfl) (c:codeIn K cdv x=true:=by kernel_rfl) (kp:keepIn K (.ref f)=true:=by kernel_rfl) (hm:nsIn K mainGlobals x=some (some (.ref f)):=by kernel_rfl) (hj:f=ad.fnA fns.length:=by rfl)
  (hdb:(x==("__debug__":Str))=false:=by decide) (hps:eG (defArgs st)=some ps:=by rfl) (hb:Bnd x st ps:=by intro _ _ _ _ _ _ us hl;rcases us with _|⟨u0,_|⟨u1,_|⟨u2,_|⟨u3,_|⟨u4,us⟩⟩⟩⟩⟩<;>first|rfl|(simp at hl)):
  PQ P w K mg base h ad (k+1) ((x,.fn fns.length n M)::tab) (fns++[(n,M)]):=T.addV x st f ps n M l [] (.inr rfl) d c kp hm hj hdb hps hb
theorem PQ.py(T:PQ P w K mg base h ad 0 tab [])(p:Py)(hm:nsIn K mainGlobals (dF p)=some none:=by kernel_rfl)(hdb:(dF p==("__debug__":Str))=false:=by decide):PQ P w K mg base h ad 0 ((dF p,.py p)::tab) []:=⟨dY.cons T.t hdb ⟨rfl,PySem.W.mg_none_of T.X T.G hm⟩,T.u,T.X,T.G,T.B⟩
theorem PQ.verr(T:PQ P w K mg base h ad 0 tab [])(hm:nsIn K mainGlobals "ValueError"=some none:=by kernel_rfl):PQ P w K mg base h ad 0 (("ValueError",.verr)::tab) []:=⟨dY.cons T.t (by decide) ⟨rfl,PySem.W.mg_none_of T.X T.G hm⟩,T.u,T.X,T.G,T.B⟩
theorem PQ.exc(T:PQ P w K mg base h ad 0 tab [])(x:Str)(c:Nat)(hm:nsIn K mainGlobals x=some (some (.ref (ad.cls c))):=by kernel_rfl)(hc:c<ad.nb:=by decide)(hdb:(x==("__debug__":Str))=false:=by decide):PQ P w K mg base h ad 0 ((x,.exc c)::tab) []:=⟨dY.cons T.t hdb ⟨PySem.W.mg_of T.X T.G hm,hc⟩,T.u,T.X,T.G,T.B⟩
theorem PQ.int(T:PQ P w K mg base h ad 0 tab [])(x:Str)(i:Int)(t:Tok)(hm:nsIn K mainGlobals x=some (some (.int i t)):=by kernel_rfl)(hdb:(x==("__debug__":Str))=false:=by decide):PQ P w K mg base h ad 0 ((x,.val (.int i))::tab) []:=⟨dY.cons T.t hdb ⟨.int i t,.int i,PySem.W.mg_of T.X T.G hm,⟨_,rfl⟩,λG=>by unfold Rep;rfl⟩,T.u,T.X,T.G,T.B⟩
theorem PQ.nil(X:K.In h)(G:h.Ns mainGlobals mg)(B:ExcK K ad):PQ P w K mg base h ad 0 [] []:=⟨dY.nil,fM.nil,X,G,B⟩
end
def aQp(o:Obj)(q:Str):Prop:= ∃vs t,o.data= .fields vs/\vs[1]? =some (.str q t)
structure Tb(P:Addr)(q:Str)(ps:Array Value)(cs:cg):Prop where
 ok:TriplesOk ps.toList
 cod: ∀pos cv,codeAmong pos ps.toList=some cv->∃c o,cv= .ref c/\(c,o)∈cs/\aQp o q
 ne: ∀p∈cs,p.1≠P
theorem jK: ∀{l:List Value} {i j:Int} {a b:Nat} {c:Value},TriplesOk l->TriplesOk (l++[.int i a,.int j b,c])
 |[],_,_,_,_,_,_=>trivial
 |.int _ _:: .int _ _::_::r,_,_,_,_,_,h=>jK (l:=r) h
theorem mP{pos pos':Pos}{c cv:Value}: ∀{l:List Value},TriplesOk l->codeAmong pos' (l++[rawInt pos.line,rawInt pos.col,c])=some cv->codeAmong pos' l=some cv\/cv=c
 |[],_,h=>by
  simp only[List.nil_append,codeAmong,rawInt]at h;split at h
  ·exact .inr (Option.some.inj h).symm
  ·cases h
 |.int i a:: .int j b::d::r,ht,h=>by
  simp only[List.cons_append,codeAmong]at h ⊢;split at h
  ·rename_i e;rw[if_pos e];exact .inl h
  ·rename_i e;rw[if_neg e];exact mP (l:=r) ht h
section
variable {X:Cx} {P c:Addr} {q:Str} {ps:Array Value} {cs ce:cg} {σ:St} {H:Hp} {s:Shared} {params:Arguments} {body:Expr} {sc:Scope} {pos:Pos} {R':cf}
theorem zC(I:Inv X ((P,PySem.W.tabObj ps)::(cs++ce)) σ H s)(T:Tb P q ps cs)(hx:P∈X.ex)(hpn: ∀p∈X.pn++ce,p.1≠P)(hpar:defaultsOf params X.env=([],[]))(hq:X.env.qual++"<lambda>"=q)
  (hfree: ∀x,(x,NameKind.free)∈sc.names->X.env.kindOf x=some .cell\/X.env.kindOf x=some .free) (hcode:X.env.code= .ref c) (hC:PySem.W.CodeHd s.heap c P) (hB:s.heap.BuiltinsAt X.mg P)
  (k: ∀(a:Addr) (ps':Array Value) (cs':cg) (cv ctv:Value) (s':Shared),Inv X ((P,PySem.W.tabObj ps')::(cs'++ce)) σ H s'->Tb P q ps' cs'->(∃more,ps'=ps++more)->(∀p∈cs',p∈cs\/s.heap.objs.size<=p.1)->s.heap.objs.size<=a->
   s'.heap.get? a=some {cls:=.type "function",data:=.func (PySem.W.kla_fn "<lambda>" q params body sc (kS X.env.cells sc.names []) ((X.mg "__name__").getD .none) cv ctv)}->s'.heap.CodeRec cv q->(∃c',cv= .ref c'/\H c'=none/\c'≠X.env.locals/\c'∉X.fs)->
   (∀b o,b≠P->s.heap.get? b=some o->s'.heap.get? b=some o)->R' (.ref a) s'):
  wpAny (model X.prog X.w) X.A (eval (.Lambda params body sc pos) X.env) R' X.xe s:=by
 have G:closureFor sc X.env=pure (kS X.env.cells sc.names []):=iX λx hx=>by
  obtain⟨c,h⟩:=I.ok.has x (hfree x hx);rw[h];rfl
 have l:=I.pin (P,PySem.W.tabObj ps) (bu _ (.head _));have hg:s.heap.Ns mainGlobals X.mg:=I.mod.glob.keeps I.bk
 have am:mainGlobals≠P:=λz=>by
  obtain⟨o,es,ep,e,Q,_⟩:=hg;have e2:=l.1;rw[z]at e;rw[e]at e2;cases e2;cases Q
 -- without the table's pin
 have I0:Inv X (cs++ce) σ H s:=I.pins_of λp g=>I.pin p (bu _ (.tail _ g))
 have O: ∀p∈X.pn++(cs++ce),p.1≠P:=λp g=>by
  rcases List.mem_append.mp g with h|h
  ·exact hpn p (List.mem_append_left _ h)
  ·rcases List.mem_append.mp h with h|h
   ·exact T.ne p h
   ·exact hpn p (bu _ h)
 have ab: ∀b∈[P],(b∈X.ex\/X.s₀.heap.objs.size<=b)/\b≠X.env.locals/\(∀x c,X.env.cells.lookup x=some c->c≠b)/\∀p∈X.pn++(cs++ce),p.1≠b:=λb j=>by
  rw[List.mem_singleton.mp j];exact⟨.inl hx,(I.ok.exf P hx).1,(I.ok.exf P hx).2,O⟩
 -- the state behind
 have after: ∀(B:Heap) (E:Nat),(∀b o,b≠P->s.heap.get? b=some o->B.get? b=some o)->Inv X (cs++ce) σ H {s with heap:=B,toks:=E}:=λB E f=>by
  have y: ∀b,b∉[P]->b≠P:=λb j z=>j (by rw[z];exact .head _)
  refine I0.step (ch:=[P]) (g':=s.gens) (d':=s.drawn) ab (λb o _ _ j e _=>f b o (y b j) e) (λb o _ _ j e _=>⟨o.slots,f b o (y b j) e⟩) (λb o _ _ n=>n) (λb o j e=>⟨o,f b o (y b j) e⟩) (λ_ _ e=>e) (λ_ _ _ e=>e) (λb ps e=>⟨#[],by rw[e];simp⟩) (λm hn=>?_) (λa o e=>?_) I.bare
  ·obtain⟨o,es,ep,e,r⟩:=hn;exact⟨o,es,ep,f _ o (I.ok.exf P hx).1.symm e,r⟩
  ·have nP: ∀b,H b≠none->b≠P:=λb j z=>j (by rw[z];exact l.2.1)
   refine(I.hok a o e).stay (λb u j q=>f b u ?_ q) (λ_ q=>q) λ_ _ q=>q
   rcases j with rfl|j
   ·exact nP _ (by rw[e];exact λz=>nomatch z)
   ·exact nP _ (by rw[j];exact λz=>nomatch z)
 refine PySem.W.kla_eval hpar ?_;rw[hq]
 cases hf:codeAmong pos ps.toList with
 |some cv=>
  refine PySem.W.kla_makeFunctionHit (mg:=X.mg) G I.ok.glob hg hcode hC l.1 T.ok hf hB λctv B E hk ac=>?_
  obtain⟨S,U,e1,m1,r1⟩:=T.cod pos cv hf;have Z:=I.pin (S,U) (bu _ (.tail _ (List.mem_append_left _ m1)))
  have f: ∀b o,s.heap.get? b=some o->(B.push {cls:=.type "function",data:=.func (PySem.W.kla_fn "<lambda>" q params body sc (kS X.env.cells sc.names []) ((X.mg "__name__").getD .none) cv ctv)}).get? b=some o:=λb o e=>af _ (hk b o e)
  refine k _ ps cs cv ctv _ ((after _ E λb o _ e=>f b o e).pins_of λp g=>?_) T ⟨#[],by simp⟩ (λp g=>.inl g) ac (ag _ rfl) ?_ ⟨S,e1,Z.2.1,Z.2.2.1,Z.2.2.2.1⟩ λb o _ e=>f b o e
  ·have:=I.pin p (bu _ g)
   exact⟨f _ _ this.1,this.2⟩
  ·obtain⟨Y,t,d,v⟩:=r1;exact⟨S,U,Y,t,e1,f _ _ Z.1,d,v⟩
 |none=>
  refine PySem.W.kla_makeFunction (mg:=X.mg) G I.ok.glob hg hcode hC l.1 T.ok hf am hB λc' ctv B E ad i al K ak=>?_
  obtain⟨c2,oc,Y,t,e2,M,Q,hv⟩:=K;cases e2
  have f: ∀b o,b≠P->s.heap.get? b=some o->(B.push (PySem.W.kla_obj "<lambda>" q params body sc (kS X.env.cells sc.names []) ((X.mg "__name__").getD .none) c' ctv)).get? b=some o:=λb o ne e=>af _ (ad b o ne e)
  have N:P<s.heap.objs.size:=ah l.1;have C: ∀v,oc.data≠ .cell v:=λv z=>by rw[Q]at z;cases z
  have L:H c'=none:=I.hok.fresh i
  refine k _ (ps++ #[rawInt pos.line,rawInt pos.col,.ref c']) ((c',oc)::cs) (.ref c') ctv _ ((after _ E f).pins_of λp g=>?_) ⟨?_,?_,?_⟩ ⟨_,rfl⟩ (λp g=>(av.mp g).elim (λz=>.inr (by rw[z];exact i)) .inl) (Nat.le_trans i (Nat.le_of_lt al)) (ag _ rfl) ?_ ⟨c',rfl,L,Nat.ne_of_gt (bh I.lt i),I.nofs i⟩ f
  ·rcases av.mp g with rfl|g
   ·exact⟨af _ ak,l.2.1,l.2.2.1,l.2.2.2.1,λv z=>nomatch z⟩
   ·rcases av.mp g with rfl|g
    ·refine⟨af _ M,L,?_,I.nofs i,C⟩;exact Nat.ne_of_gt (bh I.lt i)
    ·have:=I.pin p (bu _ (.tail _ g))
     exact⟨f _ _ (O p (bu _ g)) this.1,this.2⟩
  ·rw[Array.toList_append];exact jK T.ok
  ·intro J cv h;rw[Array.toList_append]at h;rcases mP T.ok h with h|rfl
   ·obtain⟨S,U,e1,m1,r1⟩:=T.cod J cv h;exact⟨S,U,e1,.tail _ m1,r1⟩
   ·exact⟨c',oc,rfl,.head _,Y,t,Q,hv⟩
  ·intro p g;rcases av.mp g with rfl|g
   ·exact Nat.ne_of_gt (bh N i)
   ·exact T.ne p g
  ·exact⟨c',oc,Y,t,rfl,af _ M,Q,hv⟩
end
noncomputable abbrev aFc(qual:Str)(sc:Scope)(L f:Addr)(cd:Value)(cl:List (Str×Addr)):PySem.Env:=PySem.W.envX qual sc L f cd cl
def cxL(CX:CXT)(P:Program)(w:World)(K:PySem.W.Frag)(mg:Str->Option Value)(base:Heap)(N:List Str)(qual:Str)(sc:Scope)(f:Addr)(cd:Value)(cl:List (Str×Addr))(A:Around)(outer:List PySem.Env)(s:Shared)(H:Hp)(E:XK):Cx where
 prog:=P
 w:=w
 K:=K
 mg:=mg
 base:=base
 A:=A.deeper (aFc qual sc s.heap.objs.size f cd cl)
 N:=N
 s₀:=s
 H₀:=H
 env:=aFc qual sc s.heap.objs.size f cd cl
 outer:=outer
 stack:=aFc qual sc s.heap.objs.size f cd cl::outer
 ex:=[]
 calm:=true
 fn:=λ_=>false
 pn:=[]
 xe:=λe s'=>wpAny (model P w) (A.deeper (aFc qual sc s.heap.objs.size f cd cl)) (leaving (aFc qual sc s.heap.objs.size f cd cl) e) (λ_ s''=>CX outer H s E e s'') (λe' s''=>CX outer H s E e' s'') s'
structure LamSc(N:List Str)(sc:Scope):Prop where
 kind:sc.kind= .function
 co:sc.isCoroutine=false
 gen:sc.isGenerator=false
 nocell: ∀x∈sc.names,x.2≠ .cell
 noloc: ∀x,sc.names.lookup x≠some .local
section
variable {CX:CXT} {P:Program} {w:World} {K:PySem.W.Frag} {mg:Str->Option Value} {base:Heap} {N:List Str} {name qual:Str} {sc:Scope} {f:Addr} {cd pm ct:Value} {cl:List (Str×Addr)} {A:Around} {outer:List PySem.Env} {s:Shared} {H:Hp} {E:XK} {Q:VK} {params:Arguments} {body:Expr} {vs:List V}
theorem zD(S:LamSc N sc)(hd:A.handled=none)(e0:Env0 P w K mg base A outer s H)(hns:h'.Ns s.heap.objs.size m)(hk: ∀b o,s.heap.get? b=some o->h'.get? b=some o)(inj: ∀x y c,cl.lookup x=some c->cl.lookup y=some c->x=y)(has: ∀x,sc.names.lookup x=some .free->∃c,cl.lookup x=some c)(cel: ∀x c,cl.lookup x=some c->(∃v,s.heap.IsCell c v)/\H c=none)(hl:vs.length=N.length)(hv: ∀(i:Nat) (x:Str) (v:V),N[i]? =some x->vs[i]? =some v->sc.names.lookup x=some .free->∃u c,bA v u/\cl.lookup x=some c/\s.heap.IsCell c (some u)):
  Inv (cxL CX P w K mg base N qual sc f cd cl A outer s H E) [] (vs.map some) H {s with heap:=h',toks:=t'}:=by
 have e: ∀b:Addr,b∉(cxL CX P w K mg base N qual sc f cd cl A outer s H E).ex:=λb z=>absurd (show b∈([]:List Addr) from z) (by simp)
 have j: ∀x,sc.names.lookup x≠some .cell:=λx z=>S.nocell _ (PySem.mem_of_lookup z) rfl
 refine⟨⟨e0.mod,S.kind,rfl,rfl,aj _,inj,λy d=>?_,λy c d _=>(bg d).elim,λ_=>hd,Around.frames_deeper e0.frames,.inr ⟨rfl,rfl⟩,λb z=>absurd z (e b),e0.bs,e0.bsz,λb _ _=>e b,λb z=>absurd z (e b),e0.funs,e0.frf⟩,
  rfl,e0.bare,Un.kept hk,⟨m,hns,λi y v G g l=>?_⟩,λy c h=>?_,e0.hok.fresh (aj _),λy c h=>(cel y c h).2,λp C=>absurd (show p∈([]:cg) from C) (by simp),e0.hok.kept hk,(aq ..).trans hl⟩
 ·have d:sc.names.lookup y=some .cell\/sc.names.lookup y=some .free:=d
  rcases d with d|d
  ·exact absurd d (j y)
  ·exact has y d
 ·have n:vs[i]? =some v:=by
   rw[List.getElem?_map]at g
   cases q:vs[i]? with
   |none=>rw[q]at g;cases g
   |some a=>rw[q]at g;cases g;rfl
  have l:sc.names.lookup y=some .local\/sc.names.lookup y=some .cell\/sc.names.lookup y=some .free:=l
  rcases l with z|z|z
  ·exact absurd z (S.noloc y)
  ·exact absurd z (j y)
  ·obtain⟨u,c,r,B,o,t,hd⟩:=hv i y v G n z;exact⟨u,r,.inr ⟨.inr z,c,B,o,hk _ _ t,hd⟩⟩
 ·obtain⟨⟨v,o,t,hd⟩,_⟩:=cel y c h;exact⟨v,o,hk _ _ t,hd⟩
theorem aH9(S:LamSc N sc)(hobj:s.heap.get? f=some {cls:=.type "function",data:=.func (PySem.W.kla_fn name qual params body sc cl pm cd ct)})(hcd:s.heap.CodeRec cd qual)(hbind:bindArgs (PySem.W.kla_fn name qual params body sc cl pm cd ct) ⟨[],[]⟩=pure [])(hr:Room (k+1) A)(e0:Env0 P w K mg base A outer s H)(inj: ∀x y c,cl.lookup x=some c->cl.lookup y=some c->x=y)(has: ∀x,sc.names.lookup x=some .free->∃c,cl.lookup x=some c)(cel: ∀x c,cl.lookup x=some c->(∃v,s.heap.IsCell c v)/\H c=none)(hl:vs.length=N.length)(hv: ∀(i:Nat) (x:Str) (v:V),N[i]? =some x->vs[i]? =some v->sc.names.lookup x=some .free->∃u c,bA v u/\cl.lookup x=some c/\s.heap.IsCell c (some u))(hb: ∃t,PE (cxL CX P w K mg base N qual sc f cd cl A outer s H E) body t/\t (vs.map some) H Q):
  codeAny (model P w) A (.call (.ref f) ⟨[],[]⟩) (CR CX outer P w H s Q E) s:=by
 have d:s.heap.NoLimit:=e0.mod.nolimit.keeps λb o e=>(e0.bs b o e).1
 refine PySem.W.kla_callFunE hr.depth hobj rfl S.co S.gen rfl hcd ?_;rw[hbind];refine ae (wpAny_newFunctionEnv S.nocell (λx n=>nomatch n) (λm g a=>⟨d.fresh _ a,?_⟩) S.kind)
 have hk: ∀b o,s.heap.get? b=some o->m.get? b=some o:=λb o e=>a.extBut b o (bj (ah e)) (af _ e)
 show codeAny _ _ (.expr body (aFc qual sc s.heap.objs.size f cd cl)) _ _;obtain⟨t,l,p⟩:=hb;have I:=zD (CX:=CX) (E:=E) (t':=s.toks+0) (qual:=qual) (f:=f) (cd:=cd) S hr.hd e0 g hk inj has cel hl hv;refine PySem.W.kla_codeExpr (wpAny_mono (l [] _ (vs.map some) H Q I p) (λv j h=>?_) λe j h=>h)
 obtain⟨x,r,J,z,q⟩:=h;exact⟨x,r,J.os,J.bare,J.base,J.hok,z,q⟩
end
structure RoomQ(k:Nat)(A:Around):Prop where
 dp:A.depth+3*k+5<recursionLimit
 un:A.units+16*k+200<cLine
structure FnOkQ(P:Program)(w:World)(K:PySem.W.Frag)(mg:Str->Option Value)(base:Heap)(CX:CXT)(k:Nat)(f:Addr)(fd:FuncData)(ps:List Str)(sp:Sp):Prop where
 len: ∀vs H Q E,sp vs H Q E->vs.length=ps.length
 run: ∀(A:Around) (outer:List PySem.Env) (s:Shared) (H:Hp) (args:Args) (us:List Value) (vs:List V) (Q:VK) (E:XK),RoomQ k A->Env0 P w K mg base A outer s H->BindsTo s fd args (ps.zip us)->cN vs us->sp vs H Q E->
  codeAny (model P w) A (.call (.ref f) args) (CR CX outer P w H s Q E) s
def qX(X:Cx)(A:Around)(Ex:cf):Cx:={X with A:=A,calm:=false,xe:=Ex}
section
variable {X:Cx} {ad:Ad} {ce:cg} {s:Shared} {σ:St} {H:Hp} {A:Around} {Ex:cf}
theorem aM5(hA:A.frames=X.A.frames)(I:Inv X ce σ H s):Inv (qX X A Ex) ce σ H s:=
 ⟨⟨I.ok.mod,I.ok.kind,I.ok.glob,I.ok.blt,I.ok.above,I.ok.inj,I.ok.has,I.ok.cab,(λz=>(bg z).elim),hA.trans I.ok.frames,I.ok.stk,I.ok.exf,I.ok.bs,I.ok.bsz,I.ok.noex,I.ok.exfs,I.ok.funs,I.ok.frf⟩,I.os,I.bare,I.base,I.loc,I.cell,I.free,I.freeC,I.pin,I.hok,I.len⟩
theorem aM6(h:Cx.Ok X)(I:Inv (qX X A Ex) ce σ H s):Inv X ce σ H s:=
 ⟨h,I.os,I.bare,I.base,I.loc,I.cell,I.free,I.freeC,I.pin,I.hok,I.len⟩
end
section
variable {X:Cx} {ad:Ad} {i kf:Nat} {en x q1:Str} {ea fa:Addr} {F:Fn} {fd:FuncData} {p p2 pos:Pos}
theorem aDe(hi:X.N[i]? =some en)(hv:Vis X.env.scope en)(hde:(en==("__debug__":Str))=false)(hdc:(en==("__classdict__":Str))=false)(hg:L2.Gl X x)(hm:X.mg x=some (.ref fa))(hdb:(x==("__debug__":Str))=false)(hk:PySem.W.keepIn X.K (.ref fa)=true)
  (hf:FnOkQ X.prog X.w X.K X.mg X.base (CXe X.prog X.w) kf fa fd [q1] (vJ X.K ad 1 F)) (hb:dW X.K fd [q1] []) (hr:RoomQ kf X.A) (he:starEach [.Name en p2] X.env=(false,eval (.Name en p2) X.env)::starEach [] X.env) (hpl:(backTo pos (starEach [] X.env)).any (·.1)=false):
  PE X (.Call (.Name x p) [.Name en p2] [] pos) (λσ H Q=>σ[i]? =some (some (.ref ea))/\vJ X.K ad 1 F [.ref ea] H Q λ_ _ _=>False):=by
 rintro o s σ H Q I ⟨q,d⟩;refine wpAny_Call_Name_kw (fD I hg hm ?_ hdb);refine PySem.W.callWith_K (h₀:=X.base) I.ok.mod.kin hk (L2.thn (bY (cP hi hv hde hdc) dZ he pos o s σ H (λg f=>g=[.ref ea]/\f=H) I ⟨.ref ea,q,rfl,rfl⟩) λb h ⟨g,f,c,r,j,l⟩=>⟨c.kIn,?_⟩) he hpl
 subst j l
 have m:(b++[]).length=[q1].length:=by rw[List.append_nil, <-r.length];rfl
 refine wpAny_call (codeAny_mono (hf.run X.A X.stack h f ⟨b,[]⟩ b [.ref ea] Q (λ_ _ _=>False) hr c.env0 (by have:=hb h b c.kIn m;rwa [List.append_nil]at this) r d) λr t a=>?_)
 cases r with
 |error e=>obtain⟨_,_,_,_,_,_,_,_,_,_,_,_,_,_,z⟩:=a;exact z.elim
 |ok n=>
  cases n with
  |ret u=>exact c.after a
  |next=>exact ba a
  |brk=>exact ba a
  |cont=>exact ba a
end
section
variable {X:Cx} {ad:Ad} {ce pins':cg} {s:Shared} {σ:St} {H H':Hp} {B h':Heap} {ea:Addr} {cls a0:Value} {D':Ends} {hd:ExceptHandler}
theorem vW{i:Nat}{F:Fn}{q1:Str}(F0:Fram X)(hN:X.N.Nodup)(hi:X.N[i]? =some en)(hil:X.env.scope.names.lookup en=some .local)(hic:(en==("__classdict__":Str))=false)(hgx:L2.Gl X x)(hmx:X.mg x=some (.ref fa))(hdx:(x==("__debug__":Str))=false)(hkx:PySem.W.keepIn X.K (.ref fa)=true)(hfx:FnOkQ X.prog X.w X.K X.mg X.base (CXe X.prog X.w) kf fa fd [q1] (vJ X.K ad 1 F))(hbx:dW X.K fd [q1] [])(hrq: ∀v,RoomQ kf (X.A.mark v))(hg:L2.Gl X cx)(hm:X.mg cx=some (.ref (ad.cls 0)))(hdb:(cx==("__debug__":Str))=false)(hde:(en==("__debug__":Str))=false)(hx:exmOne X.K (.ref (ad.cls c)) (.ref (ad.cls 0))=some true)(I:Inv X ce σ H s)(ho:s'.os=s.os)(hgn:AllBare s'.gens)(fly:Heap.FlyingW B X.stack ea (.ref (ad.cls c)) a0 s'.heap)(un:Un (frs X.stack) [] H H' s.heap s'.heap)(hok:HOk X.prog X.w H' s'.heap)(ne:H' ea=none)(c8: ∀b o,s.heap.get? b=some o->b∉frs X.stack->∃o',B.get? b=some o')(c9: ∀b o,H' b=some o->∃o',B.get? b=some o')(hGe: ∃G,Same G (upd H' ea (aEn (ad.cls c) ea))/\Rep X.K ad G (.exc c) (.ref ea)/\RK X.K ad G (upd H' ea (aEn (ad.cls c) ea)) (F [.exc c]) D'.rt λ_ _=>False):
  (tX X ce D' (.ExceptHandler (some (.Name cx cp)) (some en) [.Return (some (.Call (.Name x xp) [.Name en ep] [] ap)) rq] hp')).xe (.ref ea) s':=by
 have al:X.A.frames=some (X.env::X.outer):=by rw[<-F0.stk];exact I.ok.frames
 have M: ∀{h:Heap},h.FunFrames B X.stack->∀b∈frs X.stack, ∀o,h.get? b=some o->∀j,o.data≠ .fields j:=λff b Y o e=>by
  obtain⟨_,o2,e2,nf⟩:=ff.mem (b:=b) Y;rw[e]at e2;cases e2;exact nf
 -- the invariant through the stations
 have O: ∀l:Heap,B.StaysIn l->s'.heap.UpToSlots l->Inv X ce σ H' {s' with heap:=l}:=λl st2 up=>
  I.call' (ch:=[]) (s':={s' with heap:=l}) ho (aQb un fly.1 st2 up (M fly.2.2.1) c8) (aMe hok fly.1 st2 c9) hgn λb Y=>by simp at Y
 have f:s.heap.get? ea=none:=by
  cases e:s.heap.get? ea with
  |none=>rfl
  |some o=>
   by_cases hf:ea∈frs X.stack
   ·obtain⟨J,j,_,_,_,t,_,C,_⟩:=fly.2.2.2;exact absurd C (M fly.2.2.1 ea hf J t j)
   ·obtain⟨o',e'⟩:=c8 ea o e hf;rw[fly.2.1]at e';cases e'
 show wpAny (model X.prog X.w) X.A (noteFrame (.ref ea) X.env) _ X.xe s';have r:=fly;rw[F0.stk]at r;refine wpAny_looks_onW al F0.fr r λh1 E ab=>?_
 refine wpAny_landsW E λl g an=>?_
 have n:=ab.trans an;have T:=O l g.1 n;refine wpAny_handleBy_cons (codeAny_handlers_test ?_) (by intro z;cases z)
 refine Calls.Name_function_global T.ok.kind hg (Calls.loadGlobal_global (by rw[T.ok.glob];exact T.mod.glob.keeps T.bk) hm ?_) hdb
 have LT:Looks (model X.prog X.w) l (typeOf (.ref ea)) (.ref (ad.cls c)):=by
  obtain⟨J,j,_,_,_,t,⟨Q,_⟩,C,_⟩:=g.2.2.2;exact Q▸(Looks.ld t).andThen .now
 refine(exm_one (K:=X.K) T.kIn LT hx).at ?_;show codeAny _ _ _ _ _;refine codeAny_handlers_suite_as ?_;refine lands_againW g λh3 q am=>?_
 have J3:=O h3 q.1 (n.trans am)
 have L:m9 h3 ea (ad.cls c):=by
  obtain⟨J,j,_,_,_,t,⟨Q,_⟩,C,_⟩:=q.2.2.2;exact⟨J,j,t,Q,C⟩
 have J4:Inv X ce σ (upd H' ea (aEn (ad.cls c) ea)) {s' with heap:=h3}:=by
  refine J3.track ne ?_ (λz=>?_) (λy d C z=>?_) (λp hp z=>?_) ?_
  ·cases e:X.s₀.heap.get? ea with
   |none=>rfl
   |some o=>
    obtain⟨o',Z⟩:=I.base.there ea o e (by rw[F0.ex];simp)
    rw[f]at Z;cases Z
  ·obtain⟨m,hn,_⟩:=I.loc;obtain⟨o,_,_,a,_⟩:=hn;rw[<-z,f]at a;cases a
  ·obtain⟨v,o,a,_⟩:=I.cell y d C;rw[z,f]at a;cases a
  ·obtain⟨a,_⟩:=I.pin p hp;rw[z,f]at a;cases a
  ·obtain⟨J,j,t,Q,C⟩:=L;refine⟨⟨J,j,t,Q,C⟩,⟨J,t⟩,?_⟩;rintro ha Y ⟨o1,v1,Z,e2,e3⟩ k;exact⟨o1,v1,k _ Z,e2,e3⟩
 -- e = the exception
 refine f8 J4 hN hi (.inl hil) (v:=.ref ea) rfl (λs5 J5=>?_) (.inr hil)
 have ar:i<σ.length:=by rw[J4.len];exact(ay.mp hi).1
 have ak:(σ.set i (some (.ref ea)))[i]? =some (some (V.ref ea)):=bn ar
 obtain⟨G,sG,rG,hq⟩:=hGe
 -- the suite
 refine wpAny_mono (qZ (wI (aDe (X:=qX X (X.A.mark (some (.ref ea))) _) (i:=i) (ea:=ea) hi (.inl hil) hde hic hgx hmx hdx hkx hfx hbx (hrq _) rfl rfl)) ce s5 (σ.set i (some (.ref ea))) _ ⟨λ_ _=>False,λv H1=>D'.rt v H1,λ_ _=>False,λ_ _=>False⟩ (aM5 rfl J5) ⟨ak,G,[.exc c],sG,?_,rfl,hq⟩) (λfl s6 hs=>?_) λ_ _ h=>h
 ·unfold aJ;exact⟨.ref ea,[],rfl,rG,by unfold aJ;rfl⟩
 ·cases fl with
  |next=>obtain⟨_,_,_,z⟩:=hs;exact z.elim
  |brk=>obtain⟨_,_,_,z⟩:=hs;exact z.elim
  |cont=>obtain⟨_,_,_,z⟩:=hs;exact z.elim
  |ret u=>
   obtain⟨v,S,H6,ac,r6,q6⟩:=hs;have J6:Inv X ce S H6 s6:=aM6 J4.ok ac;have U:i<S.length:=by rw[J6.len];exact(ay.mp hi).1
   show wpAny _ _ (do bindName X.env en .none;unbindBehindTheSuite X.env en hp') _ _ s6
   refine aa (wpAny_bindName (f8 J6 hN hi (.inl hil) (v:=.non) rfl (λs7 J7=>?_) (.inr hil)))
   unfold unbindBehindTheSuite;refine wpAny_onRaise (aCl J7 hN hi hil (v:=.non) (bn U) λs8 J8=>?_)
   exact⟨v,_,_,J8,r6,q6⟩
end
def pZ(F:Fn):R->R
 |.ok d=>.ok d
 |.ow xs=>.ow xs
 |.ex c=>match F [.exc c]with
  |.ok d=>.ok d
  |.ow xs=>.ow xs
  |_=>.bad
 |.bad=>.bad
section
variable {P:Program} {w:World} {K:PySem.W.Frag} {mg:Str->Option Value} {base:Heap} {ad:Ad} {k kf:Nat} {f fa a:Addr} {name qual:Str} {params:Arguments} {scope:Scope} {dV kV doc pm cdv ct oc:Value} {an od:Option Addr}
  {osl:Array (Option Value)} {N ps:List Str} {dn en x cx q1:Str} {cp xp ep ap hp' rq np dp rp tp:Pos} {F:Fn} {fd:FuncData} {A:Around} {outer:List PySem.Env} {s:Shared} {G H:Hp} {Q:VK} {E:XK} {args:Args} {r:R}
noncomputable def jW(dn en x cx:Str)(cp xp ep ap hp' rq np dp rp tp:Pos):Stmt:=
 .Try [.Return (some (.Call (.Name dn np) [] [] dp)) rp] [.ExceptHandler (some (.Name cx cp)) (some en) [.Return (some (.Call (.Name x xp) [.Name en ep] [] ap)) rq] hp'] [] [] tp
end
abbrev Mn:=Hp->Hp->VK->(Nat->Hp->Prop)->Prop
def exR(F:Fn)(c:Nat):R:=match F [.exc c]with
 |.ok d=>.ok d
 |.ow xs=>.ow xs
 |_=>.bad
def aIa(P:Program)(w:World)(K:PySem.W.Frag)(mg:Str->Option Value)(base:Heap)(ad:Ad)(k:Nat)(fs:List Addr)(s:Shared)(G H:Hp)(a:Addr)(Φ:Mn):Prop:=
 ∀(A:Around) (outer:List PySem.Env) (s1:Shared) (G1 H1:Hp) (Q:VK) (E:XK),Room k A->Step G H G1 H1->Env0 P w K mg base A outer s1 H1->(∀b o,s.heap.get? b=some o->H b=none->b∉fs->s1.heap.get? b=some o/\H1 b=none)->
  Φ G1 H1 Q (λc H'=>E (.ref (ad.cls c)) none H')->codeAny (model P w) A (.call (.ref a) ⟨[],[]⟩) (CR (CXe P w) outer P w H1 s1 Q E) s1
def tlM(K:PySem.W.Frag)(ad:Ad)(F:Fn)(Φ:Mn)(G H:Hp)(Q:VK):Prop:=
 Φ G H Q λc H'=>xk ad (λc H'=>∃G',Step G H G' H'/\RK K ad G' H' (exR F c) Q λ_ _=>False) (.ref (ad.cls c)) none H'
def eI(F:Fn):RM->RM
 |.pure r=>.pure (pZ F r)
 |.chg x r=>.chg x r
theorem aM7{K:PySem.W.Frag}{ad:Ad}{F:Fn}(h:RMK K ad A G H p dx d l1 l2 (eI F m) Q λ_ _=>False):tlM K ad F (λG H Q E=>RMK K ad A G H p dx d l1 l2 m Q E) G H Q:=by
 cases m with
 |chg x r=>exact h
 |pure r=>
  cases r with
  |ok d=>exact h
  |ow e=>exact h
  |bad=>exact h
  |ex c=>exact λb f a=>⟨c,rfl,b,a,RK.step (show RK K ad G H (exR F c) Q λ_ _=>False from h) a⟩
section
variable {P:Program} {w:World} {K:PySem.W.Frag} {mg:Str->Option Value} {base:Heap} {ad:Ad} {k kf:Nat} {f fa a:Addr} {name qual:Str} {params:Arguments} {scope:Scope} {dV kV doc pm cdv ct oc:Value} {an od:Option Addr}
  {osl:Array (Option Value)} {N ps:List Str} {dn en x cx q1:Str} {cp xp ep ap hp' rq np dp rp tp:Pos} {F:Fn} {fd:FuncData} {A:Around} {outer:List PySem.Env} {s:Shared} {G H:Hp} {Q:VK} {E:XK} {args:Args} {Φ:Mn}
theorem zE(lk:K.lookup f=some ⟨oc,od,.func (PySem.W.fnOf name qual params [jW dn en x cx cp xp ep ap hp' rq np dp rp tp] scope dV kV doc pm an cdv ct),osl⟩)(hcd:PySem.W.codeIn K cdv qual=true)(S:FnScope N [dn] scope)
  (h0:N[0]? =some dn) (h1:N[1]? =some en) (hdl:scope.names.lookup dn=some .local) (hel:scope.names.lookup en=some .local) (hdd:(dn==("__debug__":Str))=false) (hdk:(dn==("__classdict__":Str))=false) (hed:(en==("__debug__":Str))=false) (hek:(en==("__classdict__":Str))=false)
  (hmx:mg x=some (.ref fa)) (hdx:(x==("__debug__":Str))=false) (hkx:PySem.W.keepIn K (.ref fa)=true)
  (hfx:FnOkQ P w K mg base (CXe P w) kf fa fd [q1] (vJ K ad 1 F)) (hbx:dW K fd [q1] []) (hkf:kf<=k) (hmc:mg cx=some (.ref (ad.cls 0))) (hcb:(cx==("__debug__":Str))=false) (hx: ∀c,exmOne K (.ref (ad.cls c)) (.ref (ad.cls 0))=some true)
  (hglx: ∀X:Cx,X.env.scope=scope->L2.Gl X x) (hglc: ∀X:Cx,X.env.scope=scope->L2.Gl X cx)
  (hr:Room (k+1) A) (e0:Env0 P w K mg base A outer s H) (hb:BindsTo s (PySem.W.fnOf name qual params [jW dn en x cx cp xp ep ap hp' rq np dp rp tp] scope dV kV doc pm an cdv ct) args [(dn,.ref a)]) (hfn:PySem.W.FnAt a s.heap)
  (hdeed:aIa P w K mg base ad k (frs outer) s G H a Φ) (hG:Same G H) (hq:tlM K ad F Φ G H Q):
  codeAny (model P w) A (.call (.ref f) args) (CR (CXe P w) outer P w H s Q E) s:=by
 have KX:K.In s.heap:=e0.mod.kin.keeps λb o e=>(e0.bs b o e).1
 have Y:s.heap.NoLimit:=e0.mod.nolimit.keeps λb o e=>(e0.bs b o e).1
 have r: ∀y∈[(dn,Value.ref a)],scope.names.lookup y.1=some .local\/(scope.names.lookup y.1=some .cell/\((cellsFrom (s.heap.objs.size+1) scope.names []).lookup y.1).isSome=true):=λy hy=>by
  rw[List.mem_singleton.mp hy];exact .inl hdl
 refine codeAny_call_function hr.depth (KX _ _ lk) rfl S.co S.gen rfl (PySem.W.codeRec_of KX hcd) (hb _ _ _ _ ?_);refine wpAny_newFunctionEnv_cells S.kind r λenv he C y=>?_
 subst he;refine⟨Y.keeps y.toInCall.keep,codeAny_func ?_⟩;let X:=jP (CXe P w) P w K mg base N qual scope f cdv A outer s H E;have I:Inv X [] (start N [.ref a]) H C:=fP (vs:=[.ref a]) (us:=[.ref a]) (ps:=[dn]) S hr.hd e0 rfl (.cons rfl .nil) y;have hk:=y.toInCall.keep;let p:Ends:={nx:=λ_ j=>Q .non j,rt:=Q}
 have M:wpAny (model P w) X.A (execs [jW dn en x cx cp xp ep ap hp' rq np dp rp tp] X.env) (SP X [] p) X.xe C:=by
  let hd:ExceptHandler:=.ExceptHandler (some (.Name cx cp)) (some en) [.Return (some (.Call (.Name x xp) [.Name en ep] [] ap)) rq] hp';have I':Inv (tX X [] p hd) [] (start N [.ref a]) H C:=aQc I;refine wpAny_execs_cons (L2.thn (Q:=SP X [] p) (wpAny_Try_except ?_) λO s2 l=>?_)
  ·show wpAny (model P w) (tX X [] p hd).A (execs _ (tX X [] p hd).env) _ (tX X [] p hd).xe C;refine wpAny_execs_cons (wpAny_Return_some (wpAny_Call_Name_kw ?_));obtain⟨m5,ak,am⟩:=I.loc;obtain⟨u5,r5,l5⟩:=am 0 dn (.ref a) h0 rfl (.inl hdl)
   cases (show u5=Value.ref a from r5)
   have ab:m5 dn=some (.ref a):=by
    have hk:X.env.kindOf dn=some .local:=hdl
    rcases l5 with ⟨_,e⟩|⟨k,_⟩
    ·exact e
    ·rcases k with k|k<;>(rw[hk]at k;cases k)
   refine wpAny_Name (wpAny_loadName_local I.ok.kind hdl ak ab ?_) hdd
   have U:PySem.W.FnAt a C.heap:=by
    obtain⟨oc,od,fd,sl,e⟩:=hfn;exact⟨oc,od,fd,sl,hk _ _ e⟩
   refine PySem.W.callWith_F0 U (wpAny_call ?_);refine codeAny_mono (hdeed (tX X [] p hd).A (tX X [] p hd).stack C G H Q (xk ad λc j=>∃z,Step G H z j/\RK K ad z j (exR F c) Q λ_ _=>False) (hr.deeper _) (Step.refl hG) I'.env0 (λb o e n _=>⟨hk b o e,n⟩) hq) λZ s2 g=>?_
   ·cases Z with
    |error e=>
     obtain⟨t,cls,a0,j,B,rfl,ho,ac,al,un,hok,ne,c8,c9,c,rfl,z,st,ar⟩:=g;have st2:Step z j (upd z t (aEn (ad.cls c) t)) (upd j t (aEn (ad.cls c) t)):=Step.new st.gh ne;refine vW (X:=X) (i:=1) (kf:=kf) (fa:=fa) (F:=F) (fd:=fd) (q1:=q1) ⟨rfl,rfl,rfl⟩ S.nd h1 hel hek (hglx X rfl) hmx hdx hkx hfx hbx (λv=>⟨?_,?_⟩) (hglc X rfl) hmc hcb hed (hx c) I ho ac al un hok ne c8 c9 ⟨upd z t (aEn (ad.cls c) t),(st.trans st2).gh,?_,?_⟩
     ·have:=(hr.deeper X.env).dp
      show X.A.depth+3*kf+5<_
      have e:X.A=A.deeper X.env:=rfl
      rw[e]
      lia
     ·have:=(hr.deeper X.env).un
      show X.A.units+16*kf+200<_
      have e:X.A=A.deeper X.env:=rfl
      rw[e]
      lia
     ·unfold Rep;exact⟨t,rfl,aF⟩
     ·have h:RK K ad _ _ (match F [.exc c]with|.ok d=>.ok d|.ow xs=>.ow xs|_=>.bad) Q λ_ _=>False:=RK.step ar st2
      cases e:F [.exc c]with
      |ok d=>rw[e]at h;exact h
      |ow xs=>rw[e]at h;exact h
      |ex c'=>rw[e]at h;exact h.elim
      |bad=>rw[e]at h;exact h.elim
    |ok O=>
     cases O with
     |next=>exact ba g
     |brk=>exact ba g
     |cont=>exact ba g
     |ret u=>
      obtain⟨v,j,J,L,q⟩:=Inv.after I' g;exact⟨v,_,j,aMf J,L,q⟩
  ·cases O with
   |next=>exact wpAny_execs_nil l
   |brk=>exact l
   |cont=>exact l
   |ret u=>exact l
 refine wpAny_mono M (λO s' l=>?_) λe s' l=>l
 have T: ∀{m:St} {j:Hp} {v:V} {u:Value},Inv X [] m j s'->bA v u->Q v j->CE outer P w H s Q u s':=
  λ{m j v u} J L q=>⟨v,j,J.os,J.bare,J.base,J.hok,L,q⟩
 cases O with
 |ret u=>
  obtain⟨v,m,j,J,L,q⟩:=l;exact T J L q
 |next=>
  obtain⟨m,j,J,q⟩:=l;exact T (v:=V.non) (u:=Value.none) J rfl q
 |brk=>
  obtain⟨_,_,_,q⟩:=l;exact ba q
 |cont=>
  obtain⟨_,_,_,q⟩:=l;exact ba q
end
def zF:Option SK.Gl->Bool
 |some (.py .isin)=>true
 |_=>false
theorem zG(h:zF g=true):g=some (.py .isin):=by
 unfold zF at h;split at h
 ·rfl
 ·cases h
def qL(C:SK.Ctx):Expr->Option F
 |.Name x _=>(loc C x).map aD
 |_=>none
def qE:Nat->SK.Ctx->Expr->Option F
 |0,_,_=>none
 |n+1,C,e=>match e with
  |.Name x _=>(loc C x).map aA
  |.Constant c _ _=>(kD c).map rK
  |.BinOp a op b _=>(qE n C a).bind λf=>(qE n C b).map λg=>bF op f g
  |.List es _=>if es.length<=1000 then(dR (qE n C) es).map iU else none
  |.Subscript a b _=>(qL C a).bind λf=>(qE n C b).map λg=>rIx f g
  |.Call f as kws cp=>if kws.isEmpty then(match f with
   |.Name x _=>if zF (glo C x)then(two as).bind λ(a,t)=>(cG t).bind λ(tn,_)=>(qE n C a).bind λfa=>(glo C tn).bind λg=>(isP g).map λP=>rIs P fa else none
   |.Attribute o m ap=>(one as).bind λa=>if(ap.endLine==cp.line)=true then(qL C o).bind λf=>(qE n C a).bind λg=>if m="count" then some (rC wU f g)else if m="index" then some (rC wV f g)else none else none
   |_=>none)else none
  |_=>none
def qT:Nat->SK.Ctx->Expr->Option F
 |0,_,_=>none
 |n+1,C,e=>match e with
  |.BoolOp op es _=>(two es).bind λ(a,b)=>if op= .And then none else(qT n C a).bind λf=>(qT n C b).map λg=>rOr f g
  |.UnaryOp op a _=>(match op with
   |.Not=>(qT n C a).map o0
   |_=>none)
  |.Compare a ops cs _=>(match ops with
   |[op]=>(one cs).bind λb=>(qE n C a).bind λf=>(qE n C b).map λg=>aY op f g
   |_=>none)
  |.Call f as kws cp=>qE n C (.Call f as kws cp)
  |_=>none
mutual
def qS:Nat->SK.Ctx->Stmt->Option FS
 |0,_,_=>none
 |n+1,C,st=>match st with
  |.Assign ts e _=>(one ts).bind λt=>(cG t).bind λ(x,_)=>(loc C x).bind λi=>(qE n C e).map λf=>g6 i f
  |.If c a b _=>(qT n C c).bind λf=>(qSs n C a).bind λg=>(qSs n C b).map λh=>sIf f g h
  |.Return o _=>o.bind λe=>(qE n C e).map dG
  |_=>none
def qSs:Nat->SK.Ctx->List Stmt->Option FS
 |0,_,_=>none
 |n+1,C,l=>match l with
  |[]=>some a9
  |st::r=>(qS n C st).bind λg=>(qSs n C r).map λh=>bL g h
end
structure QOk(X:Cx)(ad:Ad)(C:SK.Ctx):Prop where
 nd:X.N.Nodup
 vis: ∀x i,loc C x=some i->X.N[i]? =some x/\Vis X.env.scope x/\(x==("__debug__":Str))=false/\(x==("__classdict__":Str))=false
 nm: ∀x i,loc C x=some i->aMc X x i
 isn: ∀x,glo C x=some (.py .isin)->x="isinstance"/\L2.Gl X "isinstance"/\X.mg "isinstance"=none
 cls: ∀t g P,glo C t=some g->isP g=some P->∃cv,ClNm X t cv/\aQd X ad cv P
 un:X.A.units+62<cLine
 exc: ∀c,ExcCls X.K (ad.cls c)
section
variable {X X0:Cx} {ad:Ad} {C:SK.Ctx} {A:Around} {Ex:cf}
theorem aM8(O:StOk X0 ad C)(hu:A.units+62<cLine):QOk (qX X0 A Ex) ad C:=by
 refine⟨O.cx.nd,O.cx.vis,λx i h=>O.nm h,λx h=>?_,λt g P h e=>?_,hu,O.cx.exc⟩
 ·obtain⟨l,o,f,a⟩:=O.cx.gl h
  cases (show x="isinstance" from f)
  exact⟨rfl,l,a⟩
 ·obtain⟨j,c,k⟩:=aE6 O.cx h e;refine⟨j,?_,k⟩
  cases c with
  |blt T e g m b n d=>exact .blt T e g m b n d
  |own C e g m d=>exact .own C e g m d
theorem aM9(O:QOk X ad C)(h:qL C e=some f):ML X ad e f/\∃x p,e= .Name x p:=by
 unfold qL at h;split at h
 ·rename_i x p;obtain⟨i,a,rfl⟩:=zMd h;obtain⟨b,g,d,c⟩:=O.vis x i a;exact⟨xK b g d c,x,p,rfl⟩
 ·cases h
theorem gX(h:qE n C e=some f):fL e/\mM e/\(∀a b c d,e≠ .Slice a b c d)/\∀a b c d,e≠ .ListComp a b c d:=by
 cases n with
 |zero=>cases h
 |succ n=>cases e<;>first|(cases h;done)|exact⟨trivial,trivial,(λ_ _ _ _ z=>nomatch z),(λ_ _ _ _ z=>nomatch z)⟩
theorem aFd{n:Nat}(hE: ∀e f,qE n C e=some f->ME X ad e f): ∀{es:List Expr} {fs:List F},dR (qE n C) es=some fs->MA X ad es fs
 |[],fs,h=>by
  cases h;exact xJ
 |e::es,fs,h=>by
  unfold dR at h
  cases a:qE n C e with
  |none=>rw[a]at h;cases h
  |some f=>
   rw[a]at h;obtain⟨r,c,b⟩:=zMd h;subst b;exact nC (hE e f a) (aFd hE c) (aK (gX a).1)
theorem vX(O:QOk X ad C): ∀(n:Nat) (e:Expr) (f:F),qE n C e=some f->ME X ad e f
 |0,_,_,h=>by cases h
 |n+1,e,f,h=>by
  have q:=vX O n;unfold qE at h;split at h
  ·rename_i x p;obtain⟨i,z,rfl⟩:=zMd h;obtain⟨A,K,I,H⟩:=O.vis x i z;exact wZ A K I H
  ·obtain⟨d,b,rfl⟩:=zMd h;exact jQ b
  ·obtain⟨l,b,h⟩:=zBd h;obtain⟨v,c,rfl⟩:=zMd h;exact aEo (q _ l b) (q _ v c)
  ·split at h
   ·rename_i r;obtain⟨fs,b,rfl⟩:=zMd h;exact aE0 (aFd q b) (by rw[eQ b];exact r)
   ·cases h
  ·obtain⟨l,b,h⟩:=zBd h;obtain⟨v,c,rfl⟩:=zMd h;exact aL5 (aM9 O b).1.lk (q _ v c) (nM (gX c).2.2.1)
  ·rename_i Y Z B U;split at h
   ·rename_i hk
    cases List.isEmpty_iff.mp hk
    split at h
    ·rename_i x p;split at h
     ·rename_i L;obtain⟨rfl,M,G⟩:=O.isn x (zG L);have j:=zBd h;clear h;obtain⟨⟨a,t⟩,s,h⟩:=j
      cases iH s
      have j:=zBd h;clear h;obtain⟨⟨tn,W⟩,J,h⟩:=j
      cases bC J
      obtain⟨l,b,h⟩:=zBd h;obtain⟨g,c,h⟩:=zBd h;obtain⟨P,E,rfl⟩:=zMd h;obtain⟨S,Q,N⟩:=O.cls tn g P c E;exact rT O.exc M G Q N (q _ l b).ml (aK (gX b).1)
     ·cases h
    ·rename_i o m T;have j:=zBd h;clear h;obtain⟨a,s,h⟩:=j
     cases cE s
     split at h
     ·rename_i r;have j:=zBd h;clear h;obtain⟨fo,b,h⟩:=j;have j:=zBd h;clear h;obtain⟨l,c,h⟩:=j;obtain⟨y,x,p,rfl⟩:=aM9 O b;split at h
      ·rename_i u;cases h;subst u;exact aCp O.un y (q _ l c) (aK (gX c).1) rfl r
      ·split at h
       ·rename_i u;cases h;subst u;exact aCq O.un y (q _ l c) (aK (gX c).1) rfl r
       ·cases h
     ·cases h
    ·cases h
   ·cases h
  ·cases h
theorem aNa(O:QOk X ad C): ∀(n:Nat) (e:Expr) (f:F),qT n C e=some f->MT X ad e f
 |0,_,_,h=>by cases h
 |n+1,e,f,h=>by
  have i:=aNa O n;unfold qT at h;split at h
  ·rename_i o r p;have j:=zBd h;clear h;obtain⟨⟨a,b⟩,m,h⟩:=j
   cases iH m
   simp only at h
   split at h
   ·cases h
   rename_i q
   cases o with
   |And=>exact absurd rfl q
   |Or=>
   obtain⟨c,d,h⟩:=zBd h;obtain⟨l,g,rfl⟩:=zMd h;exact y0 (aGw (i _ c d) (xH (i _ l g)))
  ·split at h
   ·obtain⟨c,d,rfl⟩:=zMd h;exact aEx (i _ c d)
   ·cases h
  ·split at h
   ·have j:=zBd h;clear h;obtain⟨b,m,h⟩:=j
    cases cE m
    obtain⟨c,d,h⟩:=zBd h;obtain⟨l,g,rfl⟩:=zMd h;exact aEz O.un (vX O n _ c d) (vX O n _ l g) (dI (gX g).2.1)
   ·cases h
  ·exact aEw (vX O n _ _ h) (λ_=>rfl)
  ·cases h
theorem aNb(O:QOk X ad C){Z:(St->Nat->Hp->Prop)->Prop}: ∀n:Nat,(∀st g,qS n C st=some g->MS X ad Z st g)/\∀l g,qSs n C l=some g->MSs X ad Z l g
 |0=>⟨(λ_ _ h=>by cases h),(λ_ _ h=>by cases h)⟩
 |n+1=>by
  obtain⟨r,b⟩:=aNb O (Z:=Z) n;refine⟨λst g h=>?_,λl g h=>?_⟩
  ·unfold qS at h;split at h
   ·rename_i v e q;have d:=zBd h;clear h;obtain⟨t,o,h⟩:=d
    cases cE o
    have d:=zBd h;clear h;obtain⟨⟨x,p⟩,o,h⟩:=d
    cases bC o
    obtain⟨i,c,h⟩:=zBd h;obtain⟨f,a,rfl⟩:=zMd h;have nm:=O.nm x i c;refine y9 (sP O.nd nm.1 nm.2.1 (vX O n _ f a) ?_ nm.2.2);have s:=(gX a).2.2.2
    cases e<;>first|rfl|exact absurd rfl (s _ _ _ _)|(cases n<;>cases a;done)
   ·obtain⟨f,c,h⟩:=zBd h;obtain⟨m,a,h⟩:=zBd h;obtain⟨j,u,rfl⟩:=zMd h;exact aMb (aNa O n _ f c) (b _ m a) (b _ j u)
   ·have d:=zBd h;clear h;obtain⟨e,rfl,h⟩:=d;obtain⟨f,c,rfl⟩:=zMd h;exact tR (vX O n _ f c)
   ·cases h
  ·unfold qSs at h;split at h
   ·cases h;exact rR
   ·obtain⟨m,c,h⟩:=zBd h;obtain⟨j,a,rfl⟩:=zMd h;exact tQ (r _ m c) (b _ j a)
end
def aNc:R->R
 |.ex _=>.bad
 |r=>r
def qFn(tab:List (Str×SK.Gl))(st:Stmt):Option (Nat×Fn):=match st with
 |.FunctionDef _ as b _ _ _ sc _ _ _=>(eG as).bind λps=>if bT (aC sc) ps sc then(qSs 100 ⟨tab,[],sc,aC sc,[]⟩ b).map λg=>(ps.length,λds=>aNc (SK.fnOf (aC sc).length g ds))else none
 |_=>none
noncomputable def quiet(A:Around):Around:={A with handled:=none}
theorem RoomQ.room(r:RoomQ k A):Room k (quiet A):=⟨rfl,r.dp,r.un⟩
theorem RoomQ.deeper(r:RoomQ (k+1) A)(env:PySem.Env):RoomQ k (A.deeper env):=
 ⟨by have:=r.dp;show A.depth+1+3*k+5<_;lia,by have:=r.un;show A.units+3+16*k+200<_;lia⟩
section
variable {P:Program} {w:World} {K:Frag} {mg:Str->Option Value} {base:Heap} {ad:Ad} {k:Nat} {tab:List (Str×SK.Gl)}
theorem aIb{st:Stmt}{F:Fn}(B:ExcK K ad)(TB:dY P w K mg base ad k tab)(Fu:Fun K x qual st f fd)(hps:eG (defArgs st)=some ps)(hd:qFn tab st=some (n,F)):FnOkQ P w K mg base (CXe P w) (k+1) f fd ps (vJ K ad n F):=by
 obtain⟨oc,od,kV,be,pm,an,ac,ct,bb,rfl,lk,a6⟩:=Fu.ex
 cases st with
 |FunctionDef nm as b dl re tp h ts bi a7=>
  have a1:((eG as).bind λPs=>if bT (aC h) Ps h then(qSs 100 ⟨tab,[],h,aC h,[]⟩ b).map λg=>(Ps.length,λL=>aNc (SK.fnOf (aC h).length g L))else none)=some (n,F):=hd
  have ar:eG as=some ps:=hps
  rw[ar]at a1
  have ak:(if bT (aC h) ps h then(qSs 100 ⟨tab,[],h,aC h,[]⟩ b).map λg=>(ps.length,λL=>aNc (SK.fnOf (aC h).length g L))else none)=some (n,F):=a1
  by_cases hs:bT (aC h) ps h=true
  ·rw[if_pos hs]at ak;obtain⟨g,hg,e⟩:=zMd ak;cases e;obtain⟨S,nm⟩:=cH hs;refine⟨λvs H Q E ⟨G,L,_,r,hl,_⟩=>by rw[r.length,hl],λA t s H args us vs Q E hr T hb r a0=>?_⟩
   have hl:vs.length=ps.length:=by obtain⟨G,L,_,r,hl,_⟩:=a0;rw[r.length,hl]
   have KX:K.In s.heap:=T.mod.kin.keeps λb o e=>(T.bs b o e).1
   have a5:s.heap.NoLimit:=T.mod.nolimit.keeps λb o e=>(T.bs b o e).1
   have al: ∀y∈ps.zip us,h.names.lookup y.1=some .local\/(h.names.lookup y.1=some .cell/\((cellsFrom (s.heap.objs.size+1) h.names []).lookup y.1).isSome=true):=λ⟨n,v⟩ hy=>by
    rcases S.par n (List.of_mem_zip hy).1 with q|q
    ·exact .inl q
    ·exact .inr ⟨q,PySem.W.cellsFrom_some _ _ _ (.inl q)⟩
   have ap:A.depth<recursionLimit:=by have:=hr.dp;lia
   refine codeAny_call_function ap (KX _ _ lk) rfl S.co S.gen rfl (PySem.W.codeRec_of KX a6) (hb _ _ _ _ ?_);refine wpAny_newFunctionEnv_cells S.kind al λenv he s1 y=>?_
   subst he;refine⟨a5.keeps y.toInCall.keep,codeAny_func ?_⟩;have e1:Env0 P w K mg base (quiet A) t s H:=⟨T.frames,T.mod,T.bs,T.bsz,T.funs,T.frf,T.hok,T.bare⟩;let X0:=jP (CXe P w) P w K mg base (aC h) qual h f ac (quiet A) t s H E;have I0:Inv X0 [] (L2.start (aC h) vs) H s1:=fP S rfl e1 hl r y;let X:=qX X0 (A.deeper (envOfC qual h s.heap.objs.size f ac)) (λe s'=>wpAny (model P w) (A.deeper (envOfC qual h s.heap.objs.size f ac)) (leaving (envOfC qual h s.heap.objs.size f ac) e) (λ_ am=>CXe P w t H s E e am) (λe' am=>CXe P w t H s E e' am) s')
   have I:Inv X [] (L2.start (aC h) vs) H s1:=aM5 rfl I0;have Y:Room k X0.A:=(hr.deeper _).room;let C:SK.Ctx:=⟨tab,[],h,aC h,[]⟩
   have a2: ∀x i,loc C x=some i->(aC h)[i]? =some x/\Loc h x/\x∈aC h:=λx i e=>by
    obtain⟨e1,N⟩:=kY e;refine⟨fI e1,?_,kX e1⟩;rcases N with N|N|N
    ·exact .inl N
    ·exact .inr N
    ·exact absurd rfl (S.nofree _ (d8 N))
   have O:StOk X0 ad C:=by
    refine⟨⟨rfl,S.nd,λx i e=>?_,λx e=>e,λx g e=>?_,λx i e=>?_,rfl,?_,Y.hd,B.exc,B.kin,B.kve,λj m F' e=>by cases e⟩,λ_=>rfl,rfl,λx i e=>(a2 x i e).2.1,B.exm,B.exi⟩
    ·obtain⟨a,b,c⟩:=a2 x i e;exact⟨a,b.elim .inl λz=>.inr (.inl z),(nm x c).1,(nm x c).2⟩
    ·obtain⟨a,b⟩:=TB x g e;refine⟨a,?_⟩
     cases g with
     |fn j m F'=>
      obtain⟨r',f',h1,h2,h3,h4,h5⟩:=b;exact⟨r',f',⟨h2,h3,h4⟩,Y.mono h1,h5⟩
     |exc c=>exact b
     |verr=>exact b
     |val d=>exact b
     |tbl bc=>exact b
     |py p=>exact b
     |cls A ms=>exact⟨b.1,b.2.1,λm n M hm=>let ⟨no,f,r,fd,ps,h1,h2,h3,h4⟩:=b.2.2 m n M hm;⟨no,f,r,fd,ps,h2,h3,Y.mono h1,h4⟩⟩
    ·obtain⟨e1,N⟩:=d7 e;rcases N with N|N
     ·exact .inl N
     ·exact absurd rfl (S.nofree _ (d8 N))
    ·exact Nat.lt_of_le_of_lt (Nat.add_le_add_left (by decide:62<=64) _) Y.units
   have OQ:QOk X ad C:=aM8 O (Nat.lt_of_le_of_lt (Nat.add_le_add_left (by decide:62<=64) _) Y.units)
   obtain⟨G,L,hG,rr,bl,hq⟩:=a0
   have a3:wpAny (model P w) X.A (execs b X.env) (SP X [] {nx:=λ_ U=>Q .non U,rt:=Q}) X.xe s1:=by
    refine(aNb OQ (Z:=λ_=>True) 100).2 b g hg [] s1 _ H _ I ⟨G,G,L.map Slot.sh++ao ((aC h).length-L.length) .no,λ_ _ _=>False,?_,⟨λσ ce H s e s' _ hc=>?_,trivial⟩,?_⟩
    ·have:=iJ (X:=X) (ad:=ad) (n:=(aC h).length-L.length) hG rr
     unfold L2.start;rw[rr.length];exact this
    ·obtain⟨_,_,_,_,_,_,_,_,_,_,_,_,_,_,_,_,z⟩:=hc;exact z.elim
    ·have l:RK K ad G H (aNc (match g (L.map Slot.sh++ao ((aC h).length-L.length) .no)with
      |.rt (.ok d)=>.ok d
      |.rt (.ow xs)=>.ow xs
      |.rt _=>.bad
      |.nx _=>.ok .non
      |.ex c _=>.ex c
      |_=>.bad)) Q (λc U=>E (.ref (ad.cls c)) none U):=hq
     cases e:g (L.map Slot.sh++ao ((aC h).length-L.length) .no)with
     |nx ρ=>rw[e]at l;exact λσ G' U S'=>l .non G' U S'.st (by unfold Rep;rfl)
     |bk ρ=>rw[e]at l;exact l.elim
     |ct ρ=>rw[e]at l;exact l.elim
     |ex c ρ=>rw[e]at l;exact l.elim
     |rt r'=>
      rw[e]at l
      cases r' with
      |ok d=>exact l
      |ow xs=>exact l
      |ex c=>exact l.elim
      |bad=>exact l.elim
   refine wpAny_mono a3 (λfl s' hs=>?_) λe s' hs=>hs
   have a4: ∀{ab:St} {U:Hp} {v:V} {u:Value},Inv X [] ab U s'->bA v u->Q v U->CE t P w H s Q u s':=
    λ{ab U v u} J rv q=>⟨v,U,J.os,J.bare,J.base,J.hok,rv,q⟩
   cases fl with
   |ret u=>
    obtain⟨v,ab,U,J,rv,q⟩:=hs;exact a4 J rv q
   |next=>
    obtain⟨ab,U,J,q⟩:=hs;exact a4 (v:=V.non) (u:=Value.none) J rfl q
   |brk=>
    obtain⟨_,_,_,q⟩:=hs;exact ba q
   |cont=>
    obtain⟨_,_,_,q⟩:=hs;exact ba q
  ·rw[if_neg hs]at ak;cases ak
 |_=>cases hd
end
structure TbD(P:Addr)(q:Str)(ps0 ps:Array Value)(cs pl:cg):Prop where
 tb:Tb P q ps cs
 gr: ∃more,ps=ps0++more
 nP: ∀r∈pl,r.1≠P
 dj: ∀p∈cs, ∀r∈pl,p.1≠r.1
abbrev pnL(P:Addr)(ps:Array Value)(cs ce:cg):cg:=(P,PySem.W.tabObj ps)::(cs++ce)
def SPL(X:Cx)(P:Addr)(q:Str)(ps0:Array Value)(ce:cg)(D:Ends)(f:Flow)(s':Shared):Prop:=
 ∃ps cs,TbD P q ps0 ps cs (X.pn++ce)/\SP X (pnL P ps cs ce) D f s'
def LPS(X:Cx)(P:Addr)(q:Str)(ps0:Array Value)(st:Stmt)(t:TS):Prop:=
 ∀(ce:cg) (ps:Array Value) (cs:cg) (s:Shared) (σ:St) (H:Hp) (D:Ends),TbD P q ps0 ps cs (X.pn++ce)->Inv X (pnL P ps cs ce) σ H s->t D σ H->
  wpAny (model X.prog X.w) X.A (exec st X.env) (SPL X P q ps0 ce D) X.xe s
def qR(X:Cx)(P:Addr)(q:Str)(ps0:Array Value)(st:List Stmt)(t:TS):Prop:=
 ∀(ce:cg) (ps:Array Value) (cs:cg) (s:Shared) (σ:St) (H:Hp) (D:Ends),TbD P q ps0 ps cs (X.pn++ce)->Inv X (pnL P ps cs ce) σ H s->t D σ H->
  wpAny (model X.prog X.w) X.A (execs st X.env) (SPL X P q ps0 ce D) X.xe s
section
variable {X:Cx} {P:Addr} {q:Str} {ps0:Array Value} {st:Stmt} {dU:List Stmt} {t u t':TS} {pos:Pos} {ad:Ad} {Z:(St->Nat->Hp->Prop)->Prop} {f:F} {g h:FS}
theorem LPS.imp(a:LPS X P q ps0 st t)(k: ∀D σ H,t' D σ H->t D σ H):LPS X P q ps0 st t':=λb c d s σ H D T I w=>a b c d s σ H D T I (k D σ H w)
theorem qR.imp(a:qR X P q ps0 dU t)(k: ∀D σ H,t' D σ H->t D σ H):qR X P q ps0 dU t':=λb c d s σ H D T I w=>a b c d s σ H D T I (k D σ H w)
theorem aNd(a:PS X st t):LPS X P q ps0 st t:=λg c d s b H D T I w=>L2.thn (a _ s b H D I w) λf h e=>⟨c,d,T,e⟩
theorem nQ(a:PSs X dU t):qR X P q ps0 dU t:=λg c d s b H D T I w=>L2.thn (a _ s b H D I w) λf h e=>⟨c,d,T,e⟩
theorem iK(h1:LPS X P q ps0 st t)(h2:qR X P q ps0 dU u):qR X P q ps0 (st::dU) (aRh t u):=by
 intro g i j s m H D T I h;refine wpAny_execs_cons (L2.thn (h1 g i j s m H {D with nx:=u D} T I h) λf l c=>?_)
 obtain⟨b,a,d,c⟩:=c
 cases f with
 |next=>
  obtain⟨e,o,n,c⟩:=c;exact h2 g b a l e o D d n c
 |ret v=>exact⟨b,a,d,c⟩
 |brk=>exact⟨b,a,d,c⟩
 |cont=>exact⟨b,a,d,c⟩
theorem aNe(hc:PT X c tc)(ha:qR X P q ps0 a t)(hb:qR X P q ps0 b u):LPS X P q ps0 (.If c a b pos) (aPf tc t u):=by
 intro g j m s e H D T I h;refine wpAny_If (L2.thn (hc _ s e H _ I h) λd n f=>?_)
 obtain⟨i,l,q1⟩:=f
 cases d with
 |true=>exact ha g j m n e i D T l q1
 |false=>exact hb g j m n e i D T l q1
theorem aIc{iter tg:Expr}(hp:PassesOwn (model X.prog X.w) X.A X.env X.xe)(hc:X.calm=true)(hi:PI X tg iter wi)(hg:PG X tg gg)(hb:qR X P q ps0 body tb)(hs: ∀x,foldedSetIterable iter X.env x=pure x):LPS X P q ps0 (.For tg iter body [] pos) (aSd wi gg tb):=by
 intro B ps cs s σ H D T0 I h;refine wpAny_For (L2.thn (hi _ s σ H _ I h) λv s1 h1=>L2.thn h1 λas s2 h2=>?_) hs
 obtain⟨it,j,tn,J,H2,e,I2,T,st2,f2,W,⟨m0,w0⟩,ak⟩:=h2;subst e
 -- what stays true of the iterator's objects, whatever stands in the table
 have M: ∀{H':Hp} {g:Array Value} {a:cg},(∀b∈j,H' b=none)->(∀b∈j, ∀p∈a,p.1≠b)->∀b∈j,oI X (pnL P g a B) H' b:=λ{H' g a} hn hd b hb=>by
  obtain⟨_,a1,a2,a3,a4,a5⟩:=f2 b hb;refine⟨hn b hb,a1,a2,a3,a4,λp hp=>?_⟩
  rcases List.mem_append.mp hp with z|z
  ·exact a5 p (List.mem_append_left _ z)
  ·rcases av.mp z with rfl|z
   ·exact a5 (P,PySem.W.tabObj ps) (bu _ (.head _))
   ·rcases List.mem_append.mp z with z|z
    ·exact hd b hb p z
    ·exact a5 p (bu _ (.tail _ (bu _ z)))
 have d0: ∀b∈j, ∀p∈cs,p.1≠b:=λb hb p hp=>(f2 b hb).2.2.2.2.2 p (bu _ (.tail _ (List.mem_append_left _ hp)))
 have al: ∀b∈j,P≠b:=λb hb=>(f2 b hb).2.2.2.2.2 (P,PySem.W.tabObj ps) (bu _ (.head _))
 refine codeAny_forLoop_any (λn s'=>∃i σ' H' g a,TbD P q ps0 g a (X.pn++B)/\(∀b∈j, ∀p∈a,p.1≠b)/\Inv X (pnL P g a B) σ' H' s'/\tn i s'.heap/\(∀b∈j,H' b=none)/\W i n σ' H') ?_ m0 ⟨0,σ,H2,ps,cs,T0,d0,I2,st2,λb hb=>(f2 b hb).1,w0⟩
 rintro n s3 ⟨i,K,H3,U,Y,T3,d3,I3,ab,ad,w3⟩;rcases ak i n K H3 w3 with ⟨ac,qn⟩|⟨go,N,hN,step⟩
 ·refine wpAny_passesOwn hp (L2.thn (T.done X rfl rfl rfl hc i _ s3 K H3 X.xe I3 (M ad d3) ab ac) λr s4 C=>?_)
  obtain⟨G,I4⟩:=C;subst G;exact wpAny_execs_nil ⟨U,Y,T3,K,H3,I4,qn⟩
 ·refine wpAny_passesOwn hp (L2.thn (T.item X rfl rfl rfl hc i _ s3 K H3 X.xe I3 (M ad d3) ab go) λr s4 C=>?_)
  obtain⟨u,G,h4⟩:=C;subst G;refine wpAny_passesOwn hp (L2.thn h4 λ_ S C=>?_)
  obtain⟨x,H5,I5,r5,y5,Q,ap⟩:=C;have am:=I5.pinned (M ap d3) (T.obj _ _ Q);refine wpAny_passesOwn hp (L2.thn (hg _ S K H5 x u _ am r5 (step x H5 y5)) λ_ s6 C=>?_)
  obtain⟨an,H6,I6,q6⟩:=C
  have ep: ∀(g:Array Value) (a:cg),pnL P g a B++fO j S.heap=pnL P g a (B++fO j S.heap):=λg a=>by
   show _::(a++B++_)=_::(a++(B++_));rw[List.append_assoc]
  rw[ep]at I6
  have T6:TbD P q ps0 U Y (X.pn++(B++fO j S.heap)):=by
   refine⟨T3.tb,T3.gr,λr G=>?_,λp hp r G=>?_⟩
   ·rw[<-List.append_assoc]at G;rcases List.mem_append.mp G with z|z
    ·exact T3.nP r z
    ·exact(al _ (j6 z).1).symm
   ·rw[<-List.append_assoc]at G;rcases List.mem_append.mp G with z|z
    ·exact T3.dj p hp r z
    ·exact d3 _ (j6 z).1 p hp
  refine wpAny_passesOwn hp (L2.thn (hb _ U Y s6 an H6 _ T6 I6 q6) λf s7 O=>?_)
  obtain⟨t,y,T7,O⟩:=O
  have Z:TbD P q ps0 t y (X.pn++B):=by
   refine⟨T7.tb,T7.gr,λr G=>T7.nP r ?_,λp hp r G=>T7.dj p hp r ?_⟩<;>(rw[<-List.append_assoc];exact List.mem_append_left _ G)
  have un: ∀{c:St} {l:Hp},Inv X (pnL P t y (B++fO j S.heap)) c l s7->Inv X (pnL P t y B) c l s7:=λ{c l} E=>by
   rw[<-ep]at E;exact E.unpinned
  have L: ∀{c:St} {l:Hp},Inv X (pnL P t y (B++fO j S.heap)) c l s7->N c l->∃m,m<n/\∃i σ' H' g a,TbD P q ps0 g a (X.pn++B)/\(∀b∈j, ∀p∈a,p.1≠b)/\Inv X (pnL P g a B) σ' H' s7/\tn i s7.heap/\(∀b∈j,H' b=none)/\W i m σ' H':=λ{c l} E n7=>by
   obtain⟨m',hm,w7⟩:=hN c l n7
   have ar: ∀b∈j, ∀o,S.heap.get? b=some o->(b,o)∈X.pn++(B++fO j S.heap):=λb hb o e=>bu _ (bu _ (f9 hb e))
   have pin: ∀b∈j, ∀o,S.heap.get? b=some o->s7.heap.get? b=some o/\l b=none:=λb hb o e=>by
    have:=E.pin (b,o) (bu _ (.tail _ (bu _ (bu _ (f9 hb e)))))
    exact⟨this.1,this.2.1⟩
   refine⟨m',hm,i+1,c,l,t,y,Z,λb hb p hp=>?_,un E,T.keep _ _ _ Q λb hb o e=>(pin b hb o e).1,λb hb=>?_,w7⟩
   ·obtain⟨o,e,d⟩:=T.obj _ _ Q b hb;exact T7.dj p hp (b,o) (ar b hb o e)
   ·obtain⟨o,e,d⟩:=T.obj _ _ Q b hb;exact(pin b hb o e).2
  cases f with
  |next=>obtain⟨c,l,E,n7⟩:=O;exact L E n7
  |cont=>obtain⟨c,l,E,n7⟩:=O;exact L E n7
  |brk=>obtain⟨c,l,E,O⟩:=O;exact⟨t,y,Z,c,l,un E,O⟩
  |ret v=>obtain⟨x7,c,l,E,r7,O⟩:=O;exact⟨t,y,Z,x7,c,l,un E,r7,O⟩
end
def EPL(X:Cx)(P:Addr)(q:Str)(ps0:Array Value)(ce:cg)(σ:St)(Q:VK)(u:Value)(s':Shared):Prop:=
 ∃ps cs,TbD P q ps0 ps cs (X.pn++ce)/\EP X (pnL P ps cs ce) σ Q u s'
def sC:Option SK.Slot->Option SK.Slot
 |some (.sh d)=>some (.sh d)
 |some (.rk C r)=>some (.rk C r)
 |_=>none
def aFe(cs:List Nat)(ρ:Rho):Option (List SK.Slot):=dR (λi=>sC ρ[i]?) cs
def aQq(T:R->R)(cs:List Nat)(f:SK.F):SK.F:=λρ=>match aFe cs ρ with
 |some sl=>T (f sl)
 |none=>.bad
theorem SL.cons0{K:PySem.W.Frag}{ad:Ad}(h:SL K ad G H ρ σ)(h0:SLi K ad G H s ov):SL K ad G H (s::ρ) (ov::σ):=
 ⟨by simp[h.len],λi a e=>by
  cases i with
  |zero=>cases e;exact⟨ov,rfl,h0⟩
  |succ i=>exact h.at_ i a e⟩
theorem uM{K:PySem.W.Frag}{ad:Ad}{G H:Hp}{ρ:Rho}{σ:St}(hS:SL K ad G H ρ σ): ∀{cs:List Nat} {sl:List SK.Slot},aFe cs ρ=some sl->
  ∃vs:List V,vs.length=cs.length/\SL K ad G H sl (vs.map some)/\∀(i j:Nat) (v:V),cs[i]? =some j->vs[i]? =some v->σ[j]? =some (some v)
 |[],sl,h=>by
  cases h;exact⟨[],rfl,⟨rfl,λi s e=>by cases e⟩,λi j v h=>by cases h⟩
 |c::cs,sl,h=>by
  unfold aFe dR at h
  cases e:ρ[c]? with
  |none=>rw[e]at h;cases h
  |some b=>
   rw[e]at h
   have f: ∀(v:V),sC (some b)=some b->σ[c]? =some (some v)->SLi K ad G H b (some v)->(dR (λi=>sC ρ[i]?) cs).map (b:: ·)=some sl->∃vs:List V,vs.length=(c::cs).length/\SL K ad G H sl (vs.map some)/\∀(i j:Nat) (v:V),(c::cs)[i]? =some j->vs[i]? =some v->σ[j]? =some (some v):=λv _ a u h=>by
    obtain⟨r,z,q⟩:=zMd h;subst q;obtain⟨vs,l,A,B⟩:=uM hS (cs:=cs) (sl:=r) z;refine⟨v::vs,by simp[l],A.cons0 u,λi j w m o=>?_⟩
    cases i with
    |zero=>cases m;cases o;exact a
    |succ i=>exact B i j w m o
   cases b with
   |sh d=>
    obtain⟨v,a,g⟩:=hS.sh e;exact f v rfl a ⟨v,rfl,g⟩ h
   |rk C r=>
    obtain⟨p,t,d,x,y,a,g⟩:=hS.rk e;exact f (.ref p) rfl a ⟨p,t,d,x,y,rfl,g⟩ h
   |no=>cases h
   |ow n=>cases h
   |dc n=>cases h
   |sd n=>cases h
section
variable {X:Cx} {P c ft:Addr} {q tn dn:Str} {ps0 ps:Array Value} {cs ce:cg} {σ:St} {G H:Hp} {ρ:Rho} {s:Shared} {params:Arguments} {body:Expr} {sc:Scope} {lp p cp:Pos} {ad:Ad} {k:Nat} {F:R->R} {f:SK.F} {cap:List Nat} {fd:FuncData} {Q:VK}
end
def nR(P:Program)(w:World)(K:PySem.W.Frag)(mg:Str->Option Value)(base:Heap)(ad:Ad)(k:Nat)(f:Addr)(fd:FuncData)(dn:Str)(F:Fn):Prop:=
 ∀(A:Around) (outer:List PySem.Env) (s:Shared) (G H:Hp) (a:Addr) (Φ:Mn) (Q:VK) (E:XK) (args:Args),Room (k+1) A->Env0 P w K mg base A outer s H->BindsTo s fd args [(dn,.ref a)]->PySem.W.FnAt a s.heap->H a=none->a∉frs outer->aIa P w K mg base ad k (frs outer) s G H a Φ->Same G H->
  tlM K ad F Φ G H Q->codeAny (model P w) A (.call (.ref f) args) (CR (CXe P w) outer P w H s Q E) s
section
variable {X:Cx} {P c ft:Addr} {q tn dn:Str} {ps0 ps:Array Value} {cs ce:cg} {σ:St} {G H:Hp} {ρ:Rho} {s:Shared} {params:Arguments} {body:Expr} {sc:Scope} {lp p cp:Pos} {ad:Ad} {k:Nat} {F:Fn} {Φ:Mn} {tb:Cx->TE} {ds:List SK.Slot} {cap:List Nat} {fd:FuncData} {Q:VK}
theorem aDf(hfn: ∀x,X.fn x=true)(hg:L2.Gl X tn)(hm:X.mg tn=some (.ref ft))(hdb:(tn==("__debug__":Str))=false)(hk:PySem.W.keepIn X.K (.ref ft)=true)(hT:nR X.prog X.w X.K X.mg X.base ad k.succ ft fd dn F)(hr:Room (k+2) X.A)
  (hb: ∀(s:Shared) (u:Value),X.K.In s.heap->BindsTo s fd ⟨[u],[]⟩ [(dn,u)])
  (hx:P∈X.ex) (hpar:defaultsOf params X.env=([],[])) (hq:X.env.qual++"<lambda>"=q) (hfree: ∀x,(x,NameKind.free)∈sc.names->X.env.kindOf x=some .cell\/X.env.kindOf x=some .free)
  (hcode:X.env.code= .ref c) (hC:PySem.W.CodeHd s.heap c P) (hB:s.heap.BuiltinsAt X.mg P)
  (S:LamSc (aP sc) sc) (hbind: ∀cl pm cd ct,bindArgs (PySem.W.kla_fn "<lambda>" q params body sc cl pm cd ct) ⟨[],[]⟩=pure [])
  (hcl:cap.length=(aP sc).length) (hcap: ∀(i:Nat) (x:Str),(aP sc)[i]? =some x->∃j,cap[i]? =some j/\X.N[j]? =some x/\(X.env.kindOf x=some .cell\/X.env.kindOf x=some .free))
  (hbody: ∀a cd cl A outer s H E,Room k (A.deeper (aFc q sc s.heap.objs.size a cd cl))->PE (cxL (CXe X.prog X.w) X.prog X.w X.K X.mg X.base (aP sc) q sc a cd cl A outer s H E) body (tb (cxL (CXe X.prog X.w) X.prog X.w X.K X.mg X.base (aP sc) q sc a cd cl A outer s H E)))
  (T:TbD P q ps0 ps cs (X.pn++ce)) (I:Inv X (pnL P ps cs ce) σ H s) (hG:Same G H) (hS:SL X.K ad G H ρ σ) (hcd:aFe cap ρ=some ds) (htb: ∀(Y:Cx) (vs:List V) (G1 H1:Hp) (Q1:VK) (E1:XK),Y.K=X.K->DefX Y E1->Same G1 H1->Step G H G1 H1->SL X.K ad G1 H1 ds (vs.map some)->(∀(i j:Nat) (v:V),cap[i]? =some j->vs[i]? =some v->σ[j]? =some (some v))->Φ G1 H1 Q1 (λc H'=>E1 (.ref (ad.cls c)) none H')->tb Y (vs.map some) H1 Q1) (hrk:tlM X.K ad F Φ G H Q):
  wpAny (model X.prog X.w) X.A (eval (.Call (.Name tn p) [.Lambda params body sc lp] [] cp) X.env) (EPL X P q ps0 ce σ Q) X.xe s:=by
 refine wpAny_Call_Name_kw (fD I hg hm ?_ hdb);refine PySem.W.callWith_K (h₀:=X.base) I.ok.mod.kin hk ?_ rfl rfl;refine Calls.spliced_cons (zC I T.tb hx (λp hp=>T.nP p hp) hpar hq hfree hcode hC hB λa ap ab cv a7 s' n T' al new g J am a0 bb=>Calls.spliced_nil ⟨n.kIn,?_⟩)
 obtain⟨vs,as,a6,ak⟩:=uM hS hcd
 have TD:TbD P q ps0 ap ab (X.pn++ce):=by
  refine⟨T',?_,T.nP,λp hp r hr=>?_⟩
  ·obtain⟨m1,e1⟩:=T.gr;obtain⟨m2,e2⟩:=al;exact⟨m1++m2,by rw[e2,e1,Array.append_assoc]⟩
  ·rcases new p hp with z|z
   ·exact T.dj p z r hr
   ·have a5:r∈X.pn++pnL P ps cs ce:=by
     rcases List.mem_append.mp hr with y|y
     ·exact List.mem_append_left _ y
     ·exact bu _ (.tail _ (bu _ y))
    exact Nat.ne_of_gt (bh (ah (I.pin r a5).1) z)
 have f: ∀x d,(kS X.env.cells sc.names []).lookup x=some d->(x,NameKind.free)∈sc.names/\X.env.cells.lookup x=some d:=λx d e=>by
  rcases jS e with ⟨k,O,h2,h3⟩|h
  ·subst h2;refine⟨O,?_⟩;obtain⟨c',ac⟩:=I.ok.has x (hfree x O);rw[ac]at h3;rw[h3];exact ac
  ·cases h
 have C: ∀x,sc.names.lookup x=some .free->∃d,(kS X.env.cells sc.names []).lookup x=some d:=λx e=>Option.isSome_iff_exists.mp (jT (cells:=X.env.cells) (acc:=[]) (PySem.mem_of_lookup e))
 have t: ∀b,b≠X.env.locals->b∉X.fs->b∉frs X.stack:=λb n1 n2 z=>by
  rcases I.ok.stk with e|⟨e,e2⟩
  ·rw[e]at z;exact n2 z
  ·rw[e]at z;unfold frs at z;rw[List.filterMap_cons,e2]at z;rcases av.mp z with y|y
   ·exact n1 y
   ·exact n2 y
 have Z:aIa X.prog X.w X.K X.mg X.base ad k.succ (frs X.stack) s' G H a Φ:=by
  intro A outer s1 G1 H1 Q1 E1 hR st1 e0 B ar
  have an: ∀x d,X.env.cells.lookup x=some d->d∉frs X.stack:=λx d M=>by
   refine t d (λz=>?_) (λz=>?_)
   ·obtain⟨v,o,L,l⟩:=n.cell x d M;obtain⟨m,⟨o2,es,ep,e3,a4,_⟩,_⟩:=n.loc;rw[z,e3]at L;cases L;rw[a4]at l;cases l
   ·exact absurd (I.ok.cab x d (hfn x) M) (Nat.not_le.mpr (let ⟨o,L⟩:=(I.ok.funs.mem z).2;ah L.1))
  have Tx:DefX (cxL (CXe X.prog X.w) X.prog X.w X.K X.mg X.base (aP sc) q sc a cv (kS X.env.cells sc.names []) A outer s1 H1 E1) E1:=⟨rfl,rfl,rfl,λe s' h=>h⟩
  obtain⟨c',rfl,a2,a3,a1⟩:=a0;refine aH9 (vs:=vs) S (B _ _ J (I.hok.fresh g) (t a (Nat.ne_of_gt (bh I.lt g)) (I.nofs g))).1 (am.at λo e=>(B _ _ e a2 (t c' a3 a1)).1) (hbind _ _ _ _) hR e0 (λx y d O h2=>I.ok.inj x y d (f x d O).2 (f y d h2).2) C (λx d h=>?_) (by rw[as,hcl]) (λi x v O h2 h3=>?_) ⟨_,hbody a _ _ A outer s1 H1 E1 (hR.deeper _),htb _ vs G1 H1 Q1 E1 rfl Tx st1.gh st1 (a6.step st1) ak ar⟩
  ·obtain⟨v,o,L,M⟩:=n.cell x d (f x d h).2;have kk:=B _ _ L (n.freeC x d (f x d h).2) (an x d (f x d h).2);exact⟨⟨v,o,kk.1,M⟩,kk.2⟩
  ·obtain⟨j,e1,e2,e3⟩:=hcap i x O;have e4:=ak i j v e1 h2;obtain⟨m,hn,hl⟩:=n.loc;obtain⟨u,ru,lu⟩:=hl j x v e2 e4 (by rcases e3 with z|z<;>first|exact .inr (.inl z)|exact .inr (.inr z))
   rcases lu with ⟨z,_⟩|⟨_,d,M,o,L,U⟩
   ·rcases e3 with y|y<;>(rw[z]at y;cases y)
   ·obtain⟨d',l⟩:=C x h3
    have:=(f x d' l).2
    rw[M]at this;cases this;exact⟨u,d,ru,l,o,(B _ _ L (n.freeC x d M) (an x d M)).1,U⟩
 refine wpAny_call (codeAny_mono (hT X.A X.stack s' G H a _ Q (λ_ _ _=>False) ⟨[.ref a],[]⟩ hr n.env0 (hb s' _ n.kIn) ⟨_,_,_,_,J⟩ (I.hok.fresh g) (t a (Nat.ne_of_gt (bh I.lt g)) (I.nofs g)) Z hG hrk) λr s2 hq=>?_)
 cases r with
 |error e=>obtain⟨_,_,_,_,_,_,_,_,_,_,_,_,_,_,z⟩:=hq;exact z.elim
 |ok fl=>
  cases fl with
  |ret u=>exact⟨ap,ab,TD,n.after hq⟩
  |next=>exact ba hq
  |brk=>exact ba hq
  |cont=>exact ba hq
end
inductive OutM where
 |nx (ρ:Rho) (b:Bool)|rt (x:R) (ρ:Rho) (b:Bool)|ex (c:Nat) (b:Bool)|bad
abbrev FSM:=Rho->Bool->OutM
def uN(b:Bool)(r:R)(k:D->OutM):OutM:=match r with
 |.ok d=>k d
 |.ow xs=>k (.lst xs)
 |.ex c=>.ex c b
 |.bad=>.bad
def fJ:FSM:=λρ b=>.nx ρ b
def dJ(g h:FSM):FSM:=λρ b=>match g ρ b with
 |.nx ρ' b'=>h ρ' b'
 |o=>o
def mIf(f:F)(g h:FSM):FSM:=λρ b=>match f ρ with
 |.ok (.bl k)=>if k then g ρ b else h ρ b
 |.ex c=>.ex c b
 |_=>.bad
def aBl(i:Nat)(f:F):FSM:=λρ b=>uN b (f ρ) λd=>.nx (ρ.set (i+1) (.sh d)) b
def p5(f:F):FSM:=λρ b=>uN b (f ρ) λ_=>.nx ρ b
def qU(f:F):FSM:=λρ b=>match f ρ with
 |.ex c=>.ex c b
 |x=>.rt x ρ b
def zH(c:Nat):FSM:=λ_ b=>.ex c b
def StB(b:Bool)(foot:List Addr)(G₀ H₀ G H:Hp):Prop:=if b=true then StepR foot G₀ H₀ G H else Step G₀ H₀ G H
theorem StepR.step(a:StepR foot G₀ H₀ G H)(t:Step G H G1 H1)(fr: ∀b,H₀ b≠none->H b≠none):StepR foot G₀ H₀ G1 H1:=
 ⟨a.sg.trans t.sg,t.gh,λb o c e=>t.sh _ _ (a.sh b o c e),λb f d=>by
  cases q:G b with
  |none=>
   have:=t.nw b q d
   cases z:H₀ b with
   |none=>rfl
   |some o=>exact absurd this (fr b (by rw[z];exact λy=>nomatch y))
  |some o=>exact a.nw b f (by rw[q];exact λz=>nomatch z),λb c=>by
  cases q:H b with
  |none=>exact absurd q (fr b c)
  |some o=>rw[t.sh b o q];exact λz=>nomatch z⟩
theorem Step.toR(a:Step G₀ H₀ G H):StepR foot G₀ H₀ G H:=⟨a.sg,a.gh,λb o _ e=>a.sh b o e,a.nw,λb c=>by
 cases q:H₀ b with
 |none=>exact absurd q c
 |some o=>rw[a.sh b o q];exact λz=>nomatch z⟩
def shN:Slot->Bool
 |.no=>true
 |.sh _=>true
 |_=>false
structure SM(X:Cx)(ad:Ad)(A:Nat)(G₀:Hp)(p dx d l1 l20:Addr)(b:Bool)(G H:Hp)(ρ:Rho)(σ:St):Prop where
 sl:SL X.K ad G H ρ σ
 gh:Same G H
 me:σ[0]? =some (some (.ref p))
 rk: ∃r l2,ρ[0]? =some (.rk A r)/\RackIn X.K ad A G H p r dx d l1 l2/\(l2=l20\/X.H₀ l2=none)
 st:StB b [p,dx,d,l1,l20] G₀ X.H₀ G H
 fr: ∀c,X.H₀ c≠none->H c≠none
 on: ∀j sl,ρ[j+1]? =some sl->shN sl=true
def OKm(X:Cx)(ad:Ad)(A:Nat)(G₀:Hp)(p dx d l1 l20:Addr)(o:OutM)(D':Ends)(E:Nat->Hp->Prop):Prop:=match o with
 |.nx ρ b=>∀σ G H,SM X ad A G₀ p dx d l1 l20 b G H ρ σ->D'.nx σ H
 |.rt (.ok x) ρ b=>∀σ G H v,SM X ad A G₀ p dx d l1 l20 b G H ρ σ->Rep X.K ad G x v->D'.rt v H
 |.rt (.ow xs) _ b=>b=false/\∀q vs G H,Step G₀ X.H₀ G H->X.H₀ q=none->G q=none->H q=some (.lst vs)->aJ X.K ad G xs vs->D'.rt (.ref q) H
 |.ex c b=>b=false/\∀G H,Step G₀ X.H₀ G H->E c H
 |_=>False
def tM(X:Cx)(ad:Ad)(A:Nat)(E:Nat->Hp->Prop)(g:FSM):TS:=λD' σ H=>∃G₀ p dx d l1 l20 G ρ b,SM X ad A G₀ p dx d l1 l20 b G H ρ σ/\OKm X ad A G₀ p dx d l1 l20 (g ρ b) D' E
abbrev MM(X:Cx)(ad:Ad)(A:Nat)(E:Nat->Hp->Prop)(st:Stmt)(g:FSM):Prop:=PS X st (tM X ad A E g)
abbrev MMs(X:Cx)(ad:Ad)(A:Nat)(E:Nat->Hp->Prop)(sts:List Stmt)(g:FSM):Prop:=PSs X sts (tM X ad A E g)
section
variable {X:Cx} {ad:Ad} {A:Nat} {G₀ G H G1 H1:Hp} {p dx d l1 l20:Addr} {b:Bool} {ρ:Rho} {σ:St} {E:Nat->Hp->Prop} {D':Ends} {f:F} {g h:FSM} {e c:Expr} {st:Stmt} {sts:List Stmt} {pos pos':Pos}
theorem SM.step(S:SM X ad A G₀ p dx d l1 l20 b G H ρ σ)(t:Step G H G1 H1):SM X ad A G₀ p dx d l1 l20 b G1 H1 ρ σ:=by
 obtain⟨r,f,h,e,i⟩:=S.rk;refine⟨S.sl.step t,t.gh,S.me,⟨r,f,h,e.step t,i⟩,?_,λc g=>?_,S.on⟩
 ·have z:=S.st;unfold StB at z ⊢
  by_cases a:b=true
  ·rw[if_pos a]at z ⊢;exact z.step t S.fr
  ·rw[if_neg a]at z ⊢;exact z.trans t
 ·cases q:H c with
  |none=>exact absurd q (S.fr c g)
  |some o=>rw[t.sh c o q];exact λz=>nomatch z
theorem mQ(S:SM X ad A G₀ p dx d l1 l20 b G H ρ σ)(hx:XP X ad σ E)(hr:OKm X ad A G₀ p dx d l1 l20 (uN b (f ρ) k) D' E)(q: ∀v x G1 H1,SM X ad A G₀ p dx d l1 l20 b G1 H1 ρ σ->Rep X.K ad G1 x v->OKm X ad A G₀ p dx d l1 l20 (k x) D' E->Step G H G1 H1->Q' v H1):tE X ad f σ H Q':=by
 refine⟨G,ρ,E,S.gh,S.sl,hx,?_⟩
 cases e:f ρ with
 |ok x=>
  rw[e]at hr;exact λv G1 H1 t r=>q v x G1 H1 (S.step t) r hr t
 |ow s=>
  rw[e]at hr;intro a o G1 H1 t n m i r;obtain⟨l,g,h⟩:=cY (X:=X) (ad:=ad) t n m i r;exact q _ _ l H1 (S.step g) h hr g
 |ex c=>
  rw[e]at hr;obtain⟨j,hr⟩:=hr;have z:=S.st;unfold StB at z;rw[j,if_neg bg]at z;exact λG1 H1 t=>hr G1 H1 (z.trans t)
 |bad=>
  rw[e]at hr;exact hr
theorem aId:MM X ad A E (.Pass pos) fJ:=PS.imp wH λg e H ⟨a,p,i,d,j,f,G,h,b,S,c⟩=>c e G H S
theorem aIe:MMs X ad A E [] fJ:=PSs.imp j4 λg e H ⟨a,p,i,d,j,f,G,h,b,S,c⟩=>c e G H S
theorem aDg(h1:MM X ad A E st g)(h2:MMs X ad A E sts h):MMs X ad A E (st::sts) (dJ g h):=by
 refine PSs.imp (jO h1 h2) ?_;rintro t u H ⟨f,p,n,d,o,j,G,m,b,S,a⟩;refine⟨f,p,n,d,o,j,G,m,b,S,?_⟩;unfold dJ at a
 cases e:g m b with
 |nx i l=>
  rw[e]at a;exact λq s y r=>⟨f,p,n,d,o,j,s,i,l,r,a⟩
 |rt x i l=>
  rw[e]at a
  cases x with
  |ok x=>exact a
  |ow v=>exact a
  |ex c=>exact a
  |bad=>exact a
 |ex c l=>rw[e]at a;exact a
 |bad=>rw[e]at a;exact a
theorem aQr{a b:List Stmt}(hx: ∀σ,XP X ad σ E)(hc:MT X ad c f)(ha:MMs X ad A E a g)(hb:MMs X ad A E b h):MM X ad A E (.If c a b pos) (mIf f g h):=by
 refine PS.imp (aKw hc ha hb) ?_;rintro y σ H ⟨j,p,q,d,s,n,G,m,b,S,i⟩;unfold mIf at i
 cases e:f m with
 |ok x=>
  rw[e]at i
  cases x<;>try exact i.elim
  rename_i k;refine⟨G,m,E,S.gh,S.sl,hx σ,.inl ⟨k,e⟩,?_⟩;rw[e];intro v o u t r;unfold Rep at r;subst r;refine⟨k,rfl,?_⟩
  have l:OKm X ad A j p q d s n (if k=true then g m b else h m b) y E:=i
  cases k
  ·rw[if_neg bg]at l;show if false=true then _ else _
   rw[if_neg bg];exact⟨j,p,q,d,s,n,o,m,b,S.step t,l⟩
  ·rw[if_pos rfl]at l;show if true=true then _ else _
   rw[if_pos rfl];exact⟨j,p,q,d,s,n,o,m,b,S.step t,l⟩
 |ow B=>rw[e]at i;exact i.elim
 |ex c=>
  rw[e]at i;obtain⟨hb,i⟩:=i;have z:=S.st;unfold StB at z;rw[hb,if_neg bg]at z;refine⟨G,m,E,S.gh,S.sl,hx σ,.inr ⟨c,e⟩,?_⟩;rw[e];exact λo u t=>i o u (z.trans t)
 |bad=>rw[e]at i;exact i.elim
theorem SM.set(S:SM X ad A G₀ p dx d l1 l20 b G H ρ σ)(r:Rep X.K ad G x v):SM X ad A G₀ p dx d l1 l20 b G H (ρ.set (i+1) (.sh x)) (σ.set (i+1) (some v)):=by
 obtain⟨n,h,l,c,g⟩:=S.rk;refine⟨⟨by rw[List.length_set,List.length_set];exact S.sl.len,λj sl e=>?_⟩,S.gh,by rw[bd (by lia)];exact S.me,⟨n,h,by rw[bd (by lia)];exact l,c,g⟩,S.st,S.fr,λj sl e=>?_⟩
 ·by_cases z:j=i+1
  ·subst z;have a:i+1<ρ.length:=by have:=(ay.mp e).1;rwa [List.length_set]at this
   rw[bn a]at e;cases e;exact⟨some v,bn (by rw[<-S.sl.len];exact a),v,rfl,r⟩
  ·rw[bd (Ne.symm z)]at e;obtain⟨o,f,m⟩:=S.sl.at_ j sl e;exact⟨o,by rw[bd (Ne.symm z)];exact f,m⟩
 ·by_cases z:j=i
  ·subst z;have a:j+1<ρ.length:=by have:=(ay.mp e).1;rwa [List.length_set]at this
   rw[bn a]at e;cases e;rfl
  ·rw[bd (by lia)]at e
   exact S.on j sl e
theorem aIf(hx: ∀σ,XP X ad σ E)(he:ME X ad e f)(hs:swapsWith e none pos.line X.env=pure false):MM X ad A E (.Expr e pos) (p5 f):=by
 refine PS.imp (mY he hs) ?_;rintro m σ H ⟨a,p,n,d,o,h,G,l,b,S,i⟩;exact mQ S (hx σ) i λv x c j g r k _=>k _ c j g
theorem aNf(hx: ∀σ,XP X ad σ E)(he:ME X ad e f):MM X ad A E (.Return (some e) pos) (qU f):=by
 refine PS.imp (wI he) ?_;rintro y σ H ⟨l,p,B,d,C,s,G,j,b,S,a⟩;refine⟨G,j,E,S.gh,S.sl,hx σ,?_⟩;unfold qU at a
 cases e:f j with
 |ok x=>
  rw[e]at a;exact λv g h t r=>a σ g h v (S.step t) r
 |ow I=>
  rw[e]at a;obtain⟨i,a⟩:=a;have z:=S.st;unfold StB at z;rw[i,if_neg bg]at z;exact λq o g h t n m u r=>a q o g h (z.trans t) (z.sh.free n) m u r
 |ex c=>
  rw[e]at a;obtain⟨i,a⟩:=a;have z:=S.st;unfold StB at z;rw[i,if_neg bg]at z;exact λg h t=>a g h (z.trans t)
 |bad=>
  rw[e]at a;exact a
theorem aDh(T:DefX X E₀)(hc:X.calm=true)(hg:L2.Gl X x)(hm:X.mg x=some (.ref (ad.cls k)))(hd:(x==("__debug__":Str))=false)(hi:excIn X.K (ad.cls k) [.type "ValueError",.type "Exception",.type "BaseException",.type "object"] "ValueError.__new__"=true)(hE: ∀c H,E c H->E₀ (.ref (ad.cls c)) none H):
  MM X ad A E (.Raise (some (.Call (.Name x np) [.Constant (.str msg) j kp] [] cpos)) none pos) (zH k):=by
 rintro o s n H i I ⟨e,p,l,d,m,f,G,h,b,S,a⟩;obtain⟨g,a⟩:=a;have z:=S.st;unfold StB at z;rw[g,if_neg bg]at z;exact tZ T hc hg hm hd hi I (hE k H (a G H z))
end
noncomputable def iL(kvs:List (Str×D))(x:Str):List (Str×D):=kvs.filter λp=>decide (p.1≠x)
def mUp(A:Nat)(ρ:Rho)(k:Rk->OutM):OutM:=match(ρ[0]? :Option Slot)with
 |some (.rk C r)=>if C=A then k r else .bad
 |_=>.bad
def setR(A:Nat)(ρ:Rho)(r:Rk):OutM:=.nx (ρ.set 0 (.rk A r)) true
noncomputable def aR1(bb:Bool)(r:Rk)(d:D):Rk:=if bb then {r with done:=r.done++[d]} else {r with undone:=r.undone++[d]}
def aQs(A:Nat)(bb:Bool)(f:F):FSM:=λρ b=>mUp A ρ λr=>uN b (f ρ) λd=>if(aLh bb r).length<LIM then setR A ρ (aR1 bb r d)else .bad
def uO(A:Nat):FSM:=λρ _=>mUp A ρ λr=>setR A ρ {r with undone:=[]}
def aIg(A:Nat)(f g:F):FSM:=λρ b=>uN b (g ρ) λv=>mUp A ρ λr=>uN b (f ρ) λk=>match k with
 |.str x=>if r.held.length<LIM then setR A ρ {r with held:=fR r.held x v} else .bad
 |_=>.bad
def aIh(A:Nat)(f:F):FSM:=λρ b=>mUp A ρ λr=>uN b (f ρ) λk=>match k with
 |.str x=>if(bI r.held x).isSome then setR A ρ {r with held:=iL r.held x} else .bad
 |_=>.bad
def aQt(b:Bool)(r:RA)(k:List D->OutM):OutM:=match r with
 |.ok ds=>k ds
 |.ex c=>.ex c b
 |.bad=>.bad
section
variable {X:Cx} {ad:Ad} {A:Nat} {G₀ G H G1 H1:Hp} {p dx d l1 l2 l20:Addr} {b:Bool} {ρ:Rho} {σ:St} {E:Nat->Hp->Prop} {D':Ends} {f g:F} {e:Expr} {pos pos' ap cp np qp:Pos} {x:Str} {r r':Rk}
theorem p6(hr:OKm X ad A G₀ p dx d l1 l20 (mUp A ρ k) D' E): ∃r,ρ[0]? =some (.rk A r)/\OKm X ad A G₀ p dx d l1 l20 (k r) D' E:=by
 unfold mUp at hr;split at hr
 ·rename_i C r e
  by_cases a:C=A
  ·rw[if_pos a]at hr;subst a;exact⟨r,e,hr⟩
  ·rw[if_neg a]at hr;exact hr.elim
 ·exact hr.elim
theorem SM.toR(S:SM X ad A G₀ p dx d l1 l20 b G H ρ σ):StepR [p,dx,d,l1,l20] G₀ X.H₀ G H:=by
 have z:=S.st;unfold StB at z
 by_cases a:b=true
 ·rw[if_pos a]at z;exact z
 ·rw[if_neg a]at z;exact z.toR
theorem SM.chg(S:SM X ad A G₀ p dx d l1 l20 b G H ρ σ)(hf:a∈[p,dx,d,l1,l20]\/X.H₀ a=none)(ga:G a=none)(hR:RackIn X.K ad A G (upd H a o) p r' dx d l1 l2)(h2:l2=l20\/X.H₀ l2=none):
  SM X ad A G₀ p dx d l1 l20 true G (upd H a o) (ρ.set 0 (.rk A r')) σ:=by
 have h:0<ρ.length:=by
  obtain⟨r,_,l,_⟩:=S.rk;exact(ay.mp l).1
 have gh:Same G (upd H a o):=λc u e=>by
  have g:c≠a:=λz=>by rw[z,ga]at e;cases e
  rw[aB g];exact S.gh c u e
 refine⟨⟨by rw[List.length_set];exact S.sl.len,λj sl e=>?_⟩,gh,S.me,⟨r',l2,bn h,hR,h2⟩,?_,λc f=>?_,λj sl e=>?_⟩
 ·cases j with
  |zero=>
   rw[bn h]at e;cases e;exact⟨_,S.me,p,dx,d,l1,l2,rfl,hR⟩
  |succ j=>
   rw[bd (by lia)]at e
   obtain⟨s,i,m⟩:=S.sl.at_ _ sl e;have n:=S.on j sl e;refine⟨s,i,?_⟩
   cases sl with
   |no=>trivial
   |sh d=>exact m
   |_=>cases n
 ·show StB true _ _ _ _ _;unfold StB;rw[if_pos rfl];have z:=S.toR
  refine⟨z.sg,gh,λc u f e=>?_,z.nw,λc f=>by
   by_cases q:c=a
   ·subst q;rw[aF];exact λz=>nomatch z
   ·rw[aB q];exact S.fr c f⟩
  have g:c≠a:=λq=>by
   subst q;rcases hf with hf|hf
   ·exact f hf
   ·rw[hf]at e;cases e
  rw[aB g];exact z.sh c u f e
 ·by_cases q:c=a
  ·subst q;rw[aF];exact λz=>nomatch z
  ·rw[aB q];exact S.fr c f
 ·rw[bd (by lia)]at e
  exact S.on j sl e
theorem aNg(h2:l2=l20\/X.H₀ l2=none):l2∈[p,dx,d,l1,l20]\/X.H₀ l2=none:=h2.elim (λz=>.inl (by rw[z];simp)) .inr
theorem RackIn.list(bb:Bool)(h:RackIn X.K ad A G H p r dx d l1 l2)(rv:aJ X.K ad G ds vs):RackIn X.K ad A G (upd H (if bb then l1 else l2) (.lst vs)) p (if bb then {r with done:=ds} else {r with undone:=ds}) dx d l1 l2:=by
 obtain⟨a,c,g⟩:=h.held;obtain⟨n,f,q⟩:=h.done;obtain⟨o,j,m⟩:=h.undone
 have i: ∀{l:Addr} {ws:List V},H l=some (.lst ws)->p≠l/\dx≠l/\d≠l:=λ{l ws} hl=>
  ⟨(λz=>by rw[<-z,h.ins]at hl;cases hl),(λz=>by rw[<-z,h.own]at hl;cases hl),(λz=>by rw[<-z,c]at hl;cases hl)⟩
 cases bb
 ·obtain⟨q1,e,b⟩:=i j;exact⟨by show upd H l2 _ _=_;rw[aB q1];exact h.ins,by show upd H l2 _ _=_;rw[aB e];exact h.own,⟨a,by show upd H l2 _ _=_;rw[aB b];exact c,g⟩,⟨n,by show upd H l2 _ _=_;rw[aB h.ne];exact f,q⟩,⟨vs,aF,rv⟩,h.ne,h.gp,h.gx,h.gd,h.g1,h.g2⟩
 ·obtain⟨q1,e,b⟩:=i f;exact⟨by show upd H l1 _ _=_;rw[aB q1];exact h.ins,by show upd H l1 _ _=_;rw[aB e];exact h.own,⟨a,by show upd H l1 _ _=_;rw[aB b];exact c,g⟩,⟨vs,aF,rv⟩,⟨o,by show upd H l1 _ _=_;rw[aB h.ne.symm];exact j,m⟩,h.ne,h.gp,h.gx,h.gd,h.g1,h.g2⟩
theorem aNh(bb:Bool)(RC:RkC X.K A)(h:RackIn X.K ad A G H p r dx d l1 l2)(hi:σ[0]? =some (some (.ref p)))(q:Q (.ref (if bb then l1 else l2)) H):aOx X.K (aKl 0) (if bb then "done" else "undone") σ H Q:=by
 cases bb
 ·exact gP RC h hi (fd:="undone") rfl RC.n3 q
 ·exact gP RC h hi (fd:="done") rfl RC.n2 q
theorem aFf(bb:Bool)(h:RackIn X.K ad A G H p r dx d l1 l2): ∃vs,H (if bb then l1 else l2)=some (.lst vs)/\aJ X.K ad G (aLh bb r) vs/\G (if bb then l1 else l2)=none:=by
 cases bb
 ·obtain⟨e,g,a⟩:=h.undone;exact⟨e,g,a,h.g2⟩
 ·obtain⟨b,c,f⟩:=h.done;exact⟨b,c,f,h.g1⟩
theorem aNi(bb:Bool)(hx: ∀σ,XP X ad σ E)(RC:RkC X.K A)(hN:X.N[0]? =some x)(hv:Vis X.env.scope x)(hd:(x==("__debug__":Str))=false)(hcd:(x==("__classdict__":Str))=false)(he:ME X ad e f)(hs:starEach [e] X.env=(false,eval e X.env)::starEach [] X.env)(hl:(ap.endLine==cp.line)=true):
  MM X ad A E (.Expr (.Call (.Attribute (.Attribute (.Name x np) (if bb then "done" else "undone") qp) "append" ap) [e] [] cp) pos) (aQs A bb f):=by
 refine PS.imp (mY (aPs (T:="list") PySem.F.plainAttrs_list PySem.F.slot_list_append PySem.F.type_list_append oX (hJ (cP hN hv hd hcd) rfl) (bY he dZ hs) rfl (tU hs) hl hs rfl) rfl) ?_;rintro W σ H ⟨m,p,M,d,i,c,G,ρ,b,S,j⟩;obtain⟨r,C,j⟩:=p6 j;obtain⟨Y,q,o,g,n⟩:=S.rk;rw[C]at o;cases o;obtain⟨t,s,k2,Z⟩:=aFf bb g;unfold aF1 tBM;refine aNh bb RC g S.me ?_;refine⟨.inl ⟨rfl,t,SqL.of s⟩,?_⟩;refine mQ S (hx σ) j λv y J H1 L I k O=>?_
 have a:=g.step O;obtain⟨U,u,l,B⟩:=aFf bb a
 by_cases h:(aLh bb r).length<LIM
 ·rw[if_pos h]at k;refine⟨_,U,v,rfl,rfl,u,by rw[l.length];exact bh h (by decide),?_⟩
  have Q:(if bb then i else q)∈[p,M,d,i,c]\/X.H₀ (if bb then i else q)=none:=by
   cases bb
   ·exact aNg n
   ·exact .inl (by simp)
  refine k σ J _ (L.chg (r':=aR1 bb r y) Q B ?_ n);have z:=a.list bb (l.append (aJ.cons I aJ.nil))
  cases bb<;>exact z
 ·rw[if_neg h]at k;exact k.elim
end
def nT(A:Nat)(M:FM)(fs:List F):FSM:=λρ b=>mUp A ρ λr=>aQt b (args fs ρ) λds=>match M r ds with
 |.pure x=>uN b x λ_=>.nx ρ b
 |.chg _ r'=>.nx (ρ.set 0 (.rk A r')) true
section
variable {X:Cx} {ad:Ad} {A n:Nat} {G₀ G H G1 H1:Hp} {p dx d l1 l2 l20:Addr} {b:Bool} {ρ:Rho} {σ:St} {E:Nat->Hp->Prop} {D':Ends} {f g:F} {fs:List F} {e k v:Expr} {es:List Expr} {pos pos' ap cp np qp kp lp:Pos} {x m:Str} {r r':Rk} {M:FM}
theorem aDi(RC:RkC X.K A)(hN:X.N[0]? =some x)(hv:Vis X.env.scope x)(hd:(x==("__debug__":Str))=false)(hcd:(x==("__classdict__":Str))=false):
  MM X ad A E (.Assign [.Attribute (.Name x np) "undone" qp] (.List [] lp) pos) (uO A):=by
 refine PS.imp (sQ (cP hN hv hd hcd) (sR dZ) rfl) ?_;rintro T I H ⟨j,p,s,d,O,B,G,Y,b,S,g⟩;obtain⟨r,L,g⟩:=p6 g;obtain⟨U,l2,t,h,W⟩:=S.rk;rw[L]at t;cases t;refine⟨bx _,λl n=>?_⟩
 have u:Step G H G (upd H l (.lst [])):=Step.own S.gh n;have Q:=S.step u;have a:=h.step u
 have C:X.H₀ l=none:=by
  cases q:X.H₀ l with
  |none=>rfl
  |some o=>exact absurd n (S.fr l (by rw[q];exact λz=>nomatch z))
 obtain⟨f,m,y⟩:=a.held;obtain⟨v,i,M⟩:=a.done
 have el:upd H l (.lst []) l=some (.lst []):=aF
 have e: ∀{c:Addr} {o:HO},upd H l (.lst []) c=some o->(∀fs,o≠ .ins A s fs)->c≠p:=λ{c o} hc ho z=>by
  rw[z,a.ins]at hc;cases hc;exact ho _ rfl
 have J:O≠l:=λz=>by
  obtain⟨w,q1,_⟩:=h.done;rw[z,n]at q1;cases q1
 refine⟨.ref p,S.me,p,A,s,_,rfl,a.ins,RC.cl,RC.n3,by show 3<1000;decide,?_⟩
 refine g I G _ (Q.chg (r':={r with undone:=[]}) (l2:=l) (.inl (by simp)) a.gp ?_ (.inr C))
 exact⟨aF,by rw[aB (e a.own λ_ z=>nomatch z)];exact a.own,⟨f,by rw[aB (e m λ_ z=>nomatch z)];exact m,y⟩,⟨v,by rw[aB (e i λ_ z=>nomatch z)];exact i,M⟩,
  ⟨[],by rw[aB (e el λ_ z=>nomatch z)];exact el,aJ.nil⟩,J,a.gp,a.gx,a.gd,a.g1,S.gh.free n⟩
theorem aIi{K:Frag}(h:HR K ad G held kvs)(x:Str):HR K ad G (iL held x) (L2.dropK kvs (Sum.inr x)):=by
 unfold iL L2.dropK
 induction h with
 |nil=>exact .nil
 |@cons p q d e b t c=>
  rw[List.filter_cons,List.filter_cons]
  by_cases z:p.1=x
  ·have a:q.1=(Sum.inr x:L2.Key):=by rw[b.1,z]
   simp only[z,a,ne_eq,not_true_eq_false,decide_false,az,if_false];exact c
  ·have a: ¬q.1=(Sum.inr x:L2.Key):=λy=>z (by rw[b.1]at y;exact Sum.inr.inj y)
   simp only[z,a,ne_eq,not_false_eq_true,decide_true,if_true];exact .cons b c
theorem RackIn.dict{held:List (Str×D)}(h:RackIn X.K ad A G H p r dx d l1 l2)(rv:HR X.K ad G held kvs):RackIn X.K ad A G (upd H d (.dK kvs)) p {r with held:=held} dx d l1 l2:=by
 obtain⟨a,i,m⟩:=h.held;obtain⟨g,b,l⟩:=h.done;obtain⟨j,e,f⟩:=h.undone
 have ne: ∀{c:Addr} {o:HO},H c=some o->(∀fs,o≠ .dK fs)->c≠d:=λ{c o} hc ho z=>by
  rw[z,i]at hc;cases hc;exact ho _ rfl
 exact⟨by rw[aB (ne h.ins λ_ z=>nomatch z)];exact h.ins,by rw[aB (ne h.own λ_ z=>nomatch z)];exact h.own,⟨kvs,aF,rv⟩,⟨g,by rw[aB (ne b λ_ z=>nomatch z)];exact b,l⟩,
  ⟨j,by rw[aB (ne e λ_ z=>nomatch z)];exact e,f⟩,h.ne,h.gp,h.gx,h.gd,h.g1,h.g2⟩
theorem aIj(hu:X.A.units+62<cLine)(hx: ∀σ,XP X ad σ E)(RC:RkC X.K A)(hN:X.N[0]? =some x)(hv:Vis X.env.scope x)(hd:(x==("__debug__":Str))=false)(hcd:(x==("__classdict__":Str))=false)(hk:ME X ad k f)(hw:ME X ad v g)(hs:swapsWith v (some (.Subscript (.Attribute (.Name x np) "held" qp) k kp)) pos.line X.env=pure false):
  MM X ad A E (.Assign [.Subscript (.Attribute (.Name x np) "held" qp) k kp] v pos) (aIg A f g):=by
 refine PS.imp (aGt (by lia) (hJ (cP hN hv hd hcd) rfl) hk hw hs) ?_
 rintro I σ H ⟨e,p,U,d,W,j,G,T,b,S,Y⟩;refine mQ S (hx σ) Y λw y G1 H1 n i a st=>?_
 obtain⟨r,M,a⟩:=p6 a;obtain⟨r1,l2,B,s,Q⟩:=n.rk;rw[M]at B;cases B;refine gP RC s n.me (fd:="held") rfl RC.n1 ?_;refine mQ n (hx σ) a λu z O H2 Z t C st2=>?_
 cases z with
 |str q=>
  unfold Rep at t;subst t;have c:=s.step st2;obtain⟨m,L,o⟩:=c.held
  have J:m.length=r.held.length:=(Paired.length o).symm
  have h:OKm X ad A e p U d W j (if r.held.length<LIM then setR A T {r with held:=fR r.held q y} else .bad) I E:=C
  by_cases l:r.held.length<LIM
  ·rw[if_pos l]at h;refine⟨d,_,rfl,aJ9.k (k:=Sum.inr q) L (by rw[J];exact bh l (by decide)),?_⟩
   exact h σ O _ (Z.chg (.inl (by simp)) c.gd (c.dict (yP o (i.mono st2.sg) q)) Q)
  ·rw[if_neg l]at h;exact h.elim
 |_=>exact C.elim
theorem aIk(hx: ∀σ,XP X ad σ E)(RC:RkC X.K A)(hN:X.N[0]? =some x)(hv:Vis X.env.scope x)(hd:(x==("__debug__":Str))=false)(hcd:(x==("__classdict__":Str))=false)(hk:ME X ad k f)(hm:M1 X (.Attribute (.Name x np) "held" qp) "pop" ap k cp):
  MM X ad A E (.Expr (.Call (.Attribute (.Attribute (.Name x np) "held" qp) "pop" ap) [k] [] cp) pos) (aIh A f):=by
 refine PS.imp (mY (aB6 (hJ (cP hN hv hd hcd) rfl) hk hm) rfl) ?_;rintro C σ H ⟨c,p,T,d,U,h,G,Q,b,S,l⟩;obtain⟨r,L,l⟩:=p6 l;obtain⟨Y,Z,o,i,O⟩:=S.rk;rw[L]at o;cases o;obtain⟨e,J,_⟩:=i.held;unfold aF1 aEp;refine gP RC i S.me (fd:="held") rfl RC.n1 ⟨d,rfl,.inl ⟨e,.inl J⟩,?_⟩;refine mQ S (hx σ) l λu z M H2 W n y st2=>?_
 cases z with
 |str q=>
  unfold Rep at n;subst n;have a:=i.step st2;obtain⟨j,I,m⟩:=a.held;have s:=jV m q
  have g:OKm X ad A c p T d U h (if(bI r.held q).isSome=true then setR A Q {r with held:=iL r.held q} else .bad) C E:=y
  cases t:bI r.held q with
  |none=>rw[t]at g;exact g.elim
  |some dd=>
   rw[t]at g s;obtain⟨v,B,_⟩:=s;refine⟨j,Sum.inr q,v,I,rfl,B,?_⟩;exact g σ M _ (W.chg (.inl (by simp)) a.gd (a.dict (aIi m q)) O)
 |_=>exact y.elim
theorem aIl{k:List D->OutM}(S:SM X ad A G₀ p dx d l1 l20 b G H ρ σ)(hx:XP X ad σ E)(hr:OKm X ad A G₀ p dx d l1 l20 (aQt b (args fs ρ) k) D' E)(q: ∀vs ds G1 H1,SM X ad A G₀ p dx d l1 l20 b G1 H1 ρ σ->aJ X.K ad G1 ds vs->ds.length=fs.length->OKm X ad A G₀ p dx d l1 l20 (k ds) D' E->Step G H G1 H1->Q' vs H1):tA X ad fs σ H Q':=by
 refine⟨G,ρ,E,S.gh,S.sl,hx,?_⟩
 cases e:args fs ρ with
 |ok ds=>
  rw[e]at hr;exact λvs G1 H1 t r=>q vs ds G1 H1 (S.step t) r (gC e) hr t
 |ex c=>
  rw[e]at hr;obtain⟨a,hr⟩:=hr;have z:=S.st;unfold StB at z;rw[a,if_neg bg]at z;exact λG1 H1 t=>hr G1 H1 (z.trans t)
 |bad=>
  rw[e]at hr;exact hr
theorem SM.call(S:SM X ad A G₀ p dx d l1 l20 b G H ρ σ)(h2:l2=l20\/X.H₀ l2=none)(t:StepR [p,dx,d,l1,l2] G H G1 H1)(hR:RackIn X.K ad A G1 H1 p r' dx d l1 l2')(h3:l2'=l2\/H l2'=none):SM X ad A G₀ p dx d l1 l20 true G1 H1 (ρ.set 0 (.rk A r')) σ:=by
 have g:0<ρ.length:=by
  obtain⟨r,_,s,_⟩:=S.rk;exact(ay.mp s).1
 have f: ∀c,H c=none->X.H₀ c=none:=λc a=>by
  cases q:X.H₀ c with
  |none=>rfl
  |some o=>exact absurd a (S.fr c (by rw[q];exact λz=>nomatch z))
 refine⟨⟨by rw[List.length_set];exact S.sl.len,λj sl e=>?_⟩,t.gh,S.me,⟨r',l2',bn g,hR,?_⟩,?_,λc a=>t.th c (S.fr c a),λj sl e=>?_⟩
 ·cases j with
  |zero=>
   rw[bn g]at e;cases e;exact⟨_,S.me,p,dx,d,l1,l2',rfl,hR⟩
  |succ j=>
   rw[bd (by lia)]at e
   obtain⟨C,h,x⟩:=S.sl.at_ _ sl e;have B:=S.on j sl e;refine⟨C,h,?_⟩
   cases sl with
   |no=>trivial
   |sh d=>
    obtain⟨v,q1,n⟩:=x;exact⟨v,q1,n.mono t.sg⟩
   |_=>cases B
 ·rcases h3 with rfl|h3
  ·exact h2
  ·exact .inr (f _ h3)
 ·show StB true _ _ _ _ _;unfold StB;rw[if_pos rfl];have z:=S.toR;refine⟨z.sg.trans t.sg,t.gh,λc u a e=>t.sh c u (λm=>?_) (z.sh c u a e),λc i l=>?_,λc a=>t.th c (S.fr c a)⟩
  ·simp only[av,List.not_mem_nil,or_false,not_or]at m a;rcases m with m|m|m|m|m
   ·exact a.1 m
   ·exact a.2.1 m
   ·exact a.2.2.1 m
   ·exact a.2.2.2.1 m
   ·rcases h2 with h2|h2
    ·exact a.2.2.2.2 (m.trans h2)
    ·rw[m,h2]at e;cases e
  ·cases q:G c with
   |none=>exact f c (t.nw c q l)
   |some o=>exact z.nw c i (by rw[q];exact λy=>nomatch y)
 ·rw[bd (by lia)]at e
  exact S.on j sl e
theorem aDj(S:SM X ad A G₀ p dx d l1 l20 b G H ρ σ)(h2:l2=l20\/X.H₀ l2=none)(hr:OKm X ad A G₀ p dx d l1 l20 (match R' with|.pure x=>uN b x λ_=>.nx ρ b|.chg _ r'=>.nx (ρ.set 0 (.rk A r')) true) D' E):
  RMK X.K ad A G H p dx d l1 l2 R' (λ_ H1=>D'.nx σ H1) E:=by
 cases R' with
 |pure x=>
  have a:OKm X ad A G₀ p dx d l1 l20 (uN b x λ_=>.nx ρ b) D' E:=hr
  cases x with
  |ok y=>exact λv e H1 t _=>a σ e H1 (S.step t)
  |ow o=>exact λq n e H1 t _ _ _ _=>a σ e H1 (S.step t)
  |ex c=>
   obtain⟨l,f⟩:=a;have z:=S.st;unfold StB at z;rw[l,if_neg bg]at z;exact λe H1 t=>f e H1 (z.trans t)
  |bad=>exact a.elim
 |chg x r'=>exact λv j m i t h g _=>hr σ j m (S.call h2 t h g)
theorem aIm(hx: ∀σ,XP X ad σ E)(RC:RkC X.K A)(M0:MetOk X ad A m n M)(hN:X.N[0]? =some x)(hv:Vis X.env.scope x)(hd:(x==("__debug__":Str))=false)(hcd:(x==("__classdict__":Str))=false)(ha:MA X ad (e::es) fs)(hn:fs.length=n)
  (hst:starEach (e::es) X.env=(false,eval e X.env)::starEach es X.env) (hpl:(backTo cp (starEach es X.env)).any (·.1)=false) (hfm:methodCallForm ((e::es).length+([]:List Keyword).length) (backTo cp (starEach (e::es) X.env)) (backToKw cp (keywordEach [] X.env))=true) (hln:(ap.endLine==cp.line)=true):
  MM X ad A E (.Expr (.Call (.Attribute (.Name x np) m ap) (e::es) [] cp) pos) (nT A M fs):=by
 rintro t s σ H L I ⟨T,p,dx,d,l1,ab,G,ρ,b,S,C⟩;obtain⟨r,e0,C⟩:=p6 C;obtain⟨l,l2,U,Q,h2⟩:=S.rk;rw[e0]at U;cases U
 have h:wpAny (model X.prog X.w) X.A (eval (.Call (.Attribute (.Name x np) m ap) (e::es) [] cp) X.env) (EP X t σ λ_ a=>L.nx σ a) X.xe s:=by
  obtain⟨fm,k,fd,ps,z,_⟩:=M0.ok;refine PySem.W.methodCall_KW (L2.thn (cP hN hv hd hcd t s σ H (λv a=>v= .ref p/\a=H) I ⟨.ref p,S.me,rfl,rfl⟩) λu Y J=>?_) (iG rfl hfm hln)
  obtain⟨v,a,g,l,Z,e2⟩:=J;subst Z;subst e2
  cases (show u=Value.ref p from l)
  refine gA g Q.ins RC.cl z (uE M0.no) ?_
  refine PySem.W.callWith_K (first:=[.ref p]) (h₀:=X.base) g.ok.mod.kin z.kp (L2.thn (ha cp t Y σ a (λo j=>∃c f,Step G a f j/\aJ X.K ad f c o/\c.length=fs.length/\RMK X.K ad A f j p dx d l1 l2 (M r c) (λ_ H3=>L.nx σ H3) E) g
   (aIl S (hx σ) C λo c f j S1 B q k i=>⟨c,f,i,B,q,aDj S1 h2 k⟩)) λus s2 ⟨o,j,O,r2,c,f,i,B,q,k⟩=>⟨O.kIn,?_⟩) hst hpl
  exact lE M0 O i.gh (Q.step i) r2 B (q.trans hn) (hx σ) k z
 exact wpAny_Expr_any (L2.thn h λv Y ⟨y,a,g,l,q1⟩=>⟨σ,a,g,q1⟩) I.quiet rfl
end
structure CA where
 o:Expr
 m:Str
 ap:Pos
 as:List Expr
 cp:Pos
def zI:Expr->Option CA
 |.Call f as kws cp=>if kws.isEmpty then(aBz f).bind λ(o,m,ap)=>if(ap.endLine==cp.line)=true then some ⟨o,m,ap,as,cp⟩ else none else none
 |_=>none
theorem aDk(h:aBz e=some (o,f,q)):e= .Attribute o f q:=by
 cases e<;>first|(cases h;rfl)|(cases h;done)
theorem p7(h:zI e=some c):e= .Call (.Attribute c.o c.m c.ap) c.as [] c.cp/\(c.ap.endLine==c.cp.line)=true:=by
 cases e<;>try (cases h;done)
 rename_i f as a cp
 have d:(if a.isEmpty then(aBz f).bind λ(o,m,ap)=>if(ap.endLine==cp.line)=true then some (⟨o,m,ap,as,cp⟩:CA)else none else none)=some c:=h
 by_cases hk:a.isEmpty=true
 ·rw[if_pos hk]at d;obtain⟨⟨o,m,ap⟩,j,i⟩:=zBd d
  have b:(if(ap.endLine==cp.line)=true then some (⟨o,m,ap,as,cp⟩:CA)else none)=some c:=i
  by_cases g:(ap.endLine==cp.line)=true
  ·rw[if_pos g]at b;cases b
   cases aDk j
   cases List.isEmpty_iff.mp hk
   exact⟨rfl,g⟩
  ·rw[if_neg g]at b;cases b
 ·rw[if_neg hk]at d;cases d
def aNj:Option Nat->Option Nat
 |some (i+1)=>some i
 |_=>none
theorem aDl(h:aNj o=some i):o=some (i+1):=by
 cases o with
 |none=>cases h
 |some j=>cases j with
  |zero=>cases h
  |succ j=>cases h;rfl
def aFg:Expr->Bool
 |.List es _=>es.isEmpty
 |_=>false
theorem zJ(h:aFg e=true): ∃p,e= .List [] p:=by
 cases e<;>try (cases h;done)
 rename_i a p
 cases List.isEmpty_iff.mp (show a.isEmpty=true from h)
 exact⟨p,rfl⟩
def aQu(A:Nat)(C:SK.Ctx)(t e:Expr):Option FSM:=match t with
 |.Name x _=>(aNj (loc C x)).bind λi=>(bN 50 C e).map λf=>aBl i f
 |.Attribute o f q=>if atF C "undone" (.Attribute o f q)=some 0/\aFg e=true then some (uO A)else none
 |.Subscript o k _=>if atF C "held" o=some 0 then(bN 50 C k).bind λf=>(cG e).bind λ(y,py)=>(bN 50 C (.Name y py)).map λg=>aIg A f g else none
 |_=>none
def aQv(A:Nat)(ms:List (Str×Nat×FM))(C:SK.Ctx)(e:Expr):Option FSM:=match zI e with
 |some c=>(match cG c.o with
  |some (x,_)=>if loc C x=some 0 then(ms.lookup c.m).bind λ(n,M)=>if c.as.length<20/\c.as.isEmpty=false then(dR (bN 50 C) c.as).bind λfs=>if fs.length=n then some (nT A M fs)else none else none else none
  |none=>(match aLi C c.o with
   |some (i,bb)=>if i=0/\c.m="append" then(one c.as).bind λa=>(bN 50 C a).map λf=>aQs A bb f else none
   |none=>if atF C "held" c.o=some 0/\c.m="pop" then(one c.as).bind λa=>(bN 50 C a).map λf=>aIh A f else none))
 |none=>(match e with
  |.Call f as kws cp=>if kws.isEmpty then(bN 50 C (.Call f as [] cp)).map p5 else none
  |_=>none)
def aIn(C:SK.Ctx)(x:Option Expr):Option FSM:=x.bind λe=>(match e with
 |.Call f as kws _=>if kws.isEmpty then(cG f).bind λ(x,_)=>(one as).bind λa=>if aGg a then(match loc C x,glo C x with
  |none,some (.exc c)=>some (zH c)
  |_,_=>none)else none else none
 |_=>none)
def isN{α:Type}:Option α->Bool
 |none=>true
 |some _=>false
mutual
def mS:Nat->Nat->List (Str×Nat×FM)->SK.Ctx->Stmt->Option FSM
 |0,_,_,_,_=>none
 |n+1,A,ms,C,st=>match st with
  |.Pass _=>some fJ
  |.If c a b _=>(bN 50 C c).bind λf=>(mSs n A ms C a).bind λg=>(mSs n A ms C b).map λh=>mIf f g h
  |.Return e _=>e.bind λe=>(bN 50 C e).map qU
  |.Raise x c _=>if isN c then aIn C x else none
  |.Assign ts e _=>(one ts).bind λt=>aQu A C t e
  |.Expr e _=>aQv A ms C e
  |_=>none
def mSs:Nat->Nat->List (Str×Nat×FM)->SK.Ctx->List Stmt->Option FSM
 |0,_,_,_,_=>none
 |n+1,A,ms,C,l=>match l with
  |[]=>some fJ
  |st::r=>(mS n A ms C st).bind λg=>(mSs n A ms C r).map λh=>dJ g h
end
section
variable {X:Cx} {ad:Ad} {A:Nat} {C:SK.Ctx} {E:Nat->Hp->Prop} {E₀:XK} {ms:List (Str×Nat×FM)} {e t:Expr} {g:FSM} {pos:Pos}
structure MeOk(X:Cx)(ad:Ad)(A:Nat)(ms:List (Str×Nat×FM))(C:SK.Ctx)(E:Nat->Hp->Prop)(E₀:XK):Prop where
 O:StOk X ad C
 T:DefX X E₀
 hx: ∀σ,XP X ad σ E
 hE: ∀c H,E c H->E₀ (.ref (ad.cls c)) none H
 RC:RkC X.K A
 MO: ∀m n M,ms.lookup m=some (n,M)->MetOk X ad A m n M
theorem aIo(L:MeOk X ad A ms C E E₀)(h:aQu A C t e=some g):MM X ad A E (.Assign [t] e pos) g:=by
 obtain⟨B,kL,kI⟩:=dD (ad:=ad) 50;unfold aQu at h;split at h
 ·rename_i y py;have hx:=zBd h;clear h;obtain⟨i,n,h⟩:=hx;have a:=aDl n;have nm:=L.O.nm a;obtain⟨f,z,rfl⟩:=zMd h;refine PS.imp (y8 L.O z a) ?_;rintro D' Q H ⟨I,p,dx,d,l1,M,G,ρ,b,S,Z⟩;exact mQ S (L.hx Q) Z λv x T H1 U r k _=>k _ T H1 (U.set r)
 ·rename_i o f q;split at h
  ·rename_i c;cases h;obtain⟨x,K,W,J,l⟩:=iI c.1;cases J;obtain⟨lp,rfl⟩:=zJ c.2;obtain⟨j,u,s,m⟩:=L.O.cx.vis x 0 l;exact aDi L.RC j u s m
  ·cases h
 ·rename_i o k kp;split at h
  ·rename_i c;obtain⟨x,K,W,rfl,l⟩:=iI c;obtain⟨j,u,s,m⟩:=L.O.cx.vis x 0 l;have hx:=zBd h;clear h;obtain⟨f,n,h⟩:=hx;have hx:=zBd h;clear h;obtain⟨⟨y,py⟩,z,h⟩:=hx
   cases bC z
   obtain⟨Y,N,rfl⟩:=zMd h;exact aIj L.O.cx.un L.hx L.RC j u s m (B X C _ f L.O.cx n).1 (B X C _ Y L.O.cx N).1 rfl
  ·cases h
 ·cases h
theorem aIp(L:MeOk X ad A ms C E E₀)(h:aQv A ms C e=some g):MM X ad A E (.Expr e pos) g:=by
 obtain⟨v,kL,kI⟩:=dD (ad:=ad) 50;unfold aQv at h;split at h
 ·rename_i c Q;obtain⟨rfl,u⟩:=p7 Q;obtain⟨o,m,ap,G,U⟩:=c
  simp only at h u ⊢
  split at h
  ·rename_i x B T
   cases bC T
   split at h
   ·rename_i l;obtain⟨n,t,s,p⟩:=L.O.cx.vis x 0 l;have hx:=zBd h;clear h;obtain⟨⟨N,M⟩,b,h⟩:=hx
    simp only at h
    split at h
    ·rename_i d;have hx:=zBd h;clear h;obtain⟨fs,K,h⟩:=hx;split at h
     ·rename_i S;cases h;obtain⟨Y,y⟩:=nN v L.O.cx K
      cases G with
      |nil=>exact absurd d.2 (by simp)
      |cons a r=>exact aIm L.hx L.RC (L.MO m N M b) n t s p Y S (aK (y a (.head _))) (gG λe I=>y e (.tail _ I)) (nO y d.1) u
     ·cases h
    ·cases h
   ·cases h
  ·split at h
   ·rename_i i W z;split at h
    ·rename_i j;obtain⟨rfl,rfl⟩:=j;have hx:=zBd h;clear h;obtain⟨a,q,h⟩:=hx
     cases cE q
     obtain⟨f,b,rfl⟩:=zMd h;obtain⟨x,B,Z,rfl,l⟩:=r8 z;obtain⟨n,t,s,p⟩:=L.O.cx.vis x 0 l;exact aNi W L.hx L.RC n t s p (v X C _ f L.O.cx b).1 (aK (aL b).1) u
    ·cases h
   ·split at h
    ·rename_i j;obtain⟨z,rfl⟩:=j;have hx:=zBd h;clear h;obtain⟨a,q,h⟩:=hx
     cases cE q
     obtain⟨f,b,rfl⟩:=zMd h;obtain⟨x,B,Z,rfl,l⟩:=iI z;obtain⟨n,t,s,p⟩:=L.O.cx.vis x 0 l;refine aIk L.hx L.RC n t s p (v X C _ f L.O.cx b).1 ⟨rfl,?_,u,?_⟩
     ·rw[aK (aL b).1];rfl
     ·rw[aK (aL b).1];rfl
    ·cases h
 ·split at h
  ·rename_i f G J U;split at h
   ·rename_i hk
    cases List.isEmpty_iff.mp hk
    obtain⟨H,q,rfl⟩:=zMd h;exact aIf L.hx (v X C _ H L.O.cx q).1 rfl
   ·cases h
  ·cases h
theorem aDm(L:MeOk X ad A ms C E E₀)(h:aIn C x=some g):MM X ad A E (.Raise x none pos) g:=by
 unfold aIn at h;have d:=zBd h;clear h;obtain⟨e,rfl,h⟩:=d;split at h
 ·rename_i u z m v;split at h
  ·rename_i f
   cases eA f
   have d:=zBd h;clear h;obtain⟨⟨x,p⟩,q,h⟩:=d
   cases bC q
   have d:=zBd h;clear h;obtain⟨a,o,h⟩:=d
   cases cE o
   split at h
   ·rename_i b;obtain⟨B,t,y,rfl⟩:=uJ b;split at h
    ·rename_i c s l;cases h;obtain⟨j,n,i,r⟩:=L.O.cx.gl l;exact aDh L.T L.O.cx.calm j i n (L.O.exi c) L.hE
    ·cases h
   ·cases h
  ·cases h
 ·cases h
theorem aFh(L:MeOk X ad A ms C E E₀): ∀n:Nat,(∀st g,mS n A ms C st=some g->MM X ad A E st g)/\∀l g,mSs n A ms C l=some g->MMs X ad A E l g
 |0=>⟨(λ_ _ h=>by cases h),(λ_ _ h=>by cases h)⟩
 |n+1=>by
  obtain⟨p,a⟩:=aFh L n;obtain⟨m,u,s⟩:=dD (ad:=ad) 50;refine⟨λst g h=>?_,λl g h=>?_⟩
  ·unfold mS at h;split at h
   ·cases h;exact aId
   ·obtain⟨f,b,h⟩:=zBd h;obtain⟨j,d,h⟩:=zBd h;obtain⟨i,q,rfl⟩:=zMd h;exact aQr L.hx (m X C _ f L.O.cx b).2.1 (a _ j d) (a _ i q)
   ·have hx:=zBd h;clear h;obtain⟨e,rfl,h⟩:=hx;obtain⟨f,b,rfl⟩:=zMd h;exact aNf L.hx (m X C _ f L.O.cx b).1
   ·rename_i x c o;split at h
    ·rename_i r
     cases c with
     |some _=>cases r
     |none=>exact aDm L h
    ·cases h
   ·have hx:=zBd h;clear h;obtain⟨t,b,h⟩:=hx
    cases cE b
    exact aIo L h
   ·exact aIp L h
   ·cases h
  ·unfold mSs at h;split at h
   ·cases h;exact aIe
   ·obtain⟨j,b,h⟩:=zBd h;obtain⟨i,d,rfl⟩:=zMd h;exact aDg (p _ j b) (a _ i d)
end
def aDn(A:Nat)(ρ:Rho)(x:D):RM:=match(ρ[0]? :Option Slot)with
 |some (.rk C r)=>if C=A then .chg x r else .pure .bad
 |_=>.pure .bad
def fW(A:Nat):OutM->RM
 |.rt (.ok x) ρ b=>if b then aDn A ρ x else .pure (.ok x)
 |.rt (.ow xs) _ b=>if b then .pure .bad else .pure (.ow xs)
 |.rt _ _ _=>.pure .bad
 |.nx ρ b=>if b then aDn A ρ .non else .pure (.ok .non)
 |.ex c b=>if b then .pure .bad else .pure (.ex c)
 |.bad=>.pure .bad
def iM(A N:Nat)(g:FSM):FM:=λr ds=>fW A (g (.rk A r::(ds.map Slot.sh++ao (N-(ds.length+1)) .no)) false)
def aNk(tab:List (Str×SK.Gl))(A:Nat)(ms:List (Str×Nat×FM))(st:Stmt):Option (Nat×FM):=match st with
 |.FunctionDef _ as b _ _ _ sc _ _ _=>(eG as).bind λps=>if bT (aC sc) ps sc then(mSs 100 A ms ⟨tab,[],sc,aC sc,[]⟩ b).map λg=>(ps.length-1,iM A (aC sc).length g)else none
 |_=>none
theorem SL.cons{K:Frag}{ad:Ad}{G H:Hp}{ρ:Rho}{σ:St}{s:Slot}{ov:Option V}(h:SL K ad G H ρ σ)(h0:SLi K ad G H s ov):SL K ad G H (s::ρ) (ov::σ):=
 ⟨by simp[h.len],λi a e=>by
  cases i with
  |zero=>cases e;exact⟨ov,rfl,h0⟩
  |succ i=>exact h.at_ i a e⟩
section
variable {P:Program} {w:World} {K:Frag} {mg:Str->Option Value} {base:Heap} {ad:Ad} {k:Nat} {tab:List (Str×SK.Gl)}
theorem aFi{st:Stmt}{A n:Nat}{ms:List (Str×Nat×FM)}(B:ExcK K ad)(TB:dY P w K mg base ad k tab)(RC:RkC K A)(MO: ∀m n M,ms.lookup m=some (n,M)->(m≠"held"/\m≠"done"/\m≠"undone")/\∃f r fd ps,r<=k/\Meth K A m f/\FnOk P w K mg base (CXe P w) r f fd ps (spM K ad A n M)/\dW K fd ps [])(Fu:Fun K x qual st f fd)(hps:eG (defArgs st)=some (self::ps))(hd:aNk tab A ms st=some (n,M)):FnOk P w K mg base (CXe P w) (k+1) f fd (self::ps) (spM K ad A n M):=by
 obtain⟨oc,od,kV,a6,pm,an,a0,ct,a4,rfl,lk,a1⟩:=Fu.ex
 cases st with
 |FunctionDef nm as b dl re tp o ts bi a3=>
  have al:((eG as).bind λps=>if bT (aC o) ps o then(mSs 100 A ms ⟨tab,[],o,aC o,[]⟩ b).map λg=>(ps.length-1,iM A (aC o).length g)else none)=some (n,M):=hd
  have ac:eG as=some (self::ps):=hps
  rw[ac]at al
  have J:(if bT (aC o) (self::ps) o then(mSs 100 A ms ⟨tab,[],o,aC o,[]⟩ b).map λg=>((self::ps).length-1,iM A (aC o).length g)else none)=some (n,M):=al
  by_cases hs:bT (aC o) (self::ps) o=true
  ·rw[if_pos hs]at J;obtain⟨g,hg,e⟩:=zMd J;cases e;obtain⟨S,nm⟩:=cH hs;refine aGa lk a1 S (λvs H Q E ab=>?_) λA' Y s H vs Q E hr ab=>?_
   ·obtain⟨G,p,r,dx,d,l1,U,u,ws,rfl,_,_,rq,hl,_⟩:=ab
    have:=rq.length
    simp at hl ⊢
    lia
   obtain⟨G,p,r,dx,d,l1,U,u,ws,rfl,hG,hR,rq,hl,N⟩:=ab;let C:SK.Ctx:=⟨tab,[],o,aC o,[]⟩
   have am: ∀x i,loc C x=some i->(aC o)[i]? =some x/\Loc o x/\x∈aC o:=λx i e=>by
    obtain⟨e1,t⟩:=kY e;refine⟨fI e1,?_,kX e1⟩;rcases t with t|t|t
    ·exact .inl t
    ·exact .inr t
    ·exact absurd rfl (S.nofree _ (d8 t))
   let X:=jP (CXe P w) P w K mg base (aC o) qual o f a0 A' Y s H E
   have O:StOk X ad C:=by
    refine⟨⟨rfl,S.nd,λx i e=>?_,λx e=>e,λx g e=>?_,λx i e=>?_,rfl,?_,hr.hd,B.exc,B.kin,B.kve,λj m F' e=>by cases e⟩,λ_=>rfl,rfl,λx i e=>(am x i e).2.1,B.exm,B.exi⟩
    ·obtain⟨a,b,c⟩:=am x i e;exact⟨a,b.elim .inl λz=>.inr (.inl z),(nm x c).1,(nm x c).2⟩
    ·obtain⟨a,b⟩:=TB x g e;refine⟨a,?_⟩
     cases g with
     |fn j m F'=>
      obtain⟨r',f',h1,h2,h3,h4,h5⟩:=b;exact⟨r',f',⟨h2,h3,h4⟩,hr.mono h1,h5⟩
     |exc c=>exact b
     |verr=>exact b
     |val d=>exact b
     |tbl a5=>exact b
     |py p=>exact b
     |cls A ms=>exact⟨b.1,b.2.1,λm n M hm=>let ⟨no,f,r,fd,ps,h1,h2,h3,h4⟩:=b.2.2 m n M hm;⟨no,f,r,fd,ps,h2,h3,hr.mono h1,h4⟩⟩
    ·obtain⟨e1,t⟩:=d7 e;rcases t with t|t
     ·exact .inl t
     ·exact absurd rfl (S.nofree _ (d8 t))
    ·exact Nat.lt_of_le_of_lt (Nat.add_le_add_left (by decide:62<=64) _) hr.units
   have T:DefX X E:=⟨rfl,rfl,rfl,λe s' h=>h⟩
   have L:MeOk X ad A ms C (λc q=>E (.ref (ad.cls c)) none q) E:=⟨O,T,λW=>yD T,λc H h=>h,RC,λm n M hm=>let ⟨no,f,r,fd,ps,h1,h2,h3,h4⟩:=MO m n M hm;⟨no,f,r,fd,ps,h2,h3,hr.mono h1,h4⟩⟩
   refine⟨_,(aFh L 100).2 b g hg,?_⟩;have S0:=iJ (X:=X) (ad:=ad) (n:=(aC o).length-(u.length+1)) hG rq
   have ar:L2.start (aC o) (V.ref p::ws)=some (V.ref p)::(ws.map some++ao ((aC o).length-(u.length+1)) none):=by
    unfold L2.start;rw[bt,rq.length];rfl
   refine⟨G,p,dx,d,l1,U,G,.rk A r::(u.map Slot.sh++ao ((aC o).length-(u.length+1)) .no),false,?_,?_⟩
   ·rw[ar];refine⟨S0.sl.cons ⟨p,dx,d,l1,U,rfl,hR⟩,hG,rfl,⟨r,U,rfl,hR,.inl rfl⟩,?_,λc hc=>hc,λj sl e=>?_⟩
    ·unfold StB;rw[if_neg bg];exact Step.refl hG
    ·have e':(u.map Slot.sh++ao ((aC o).length-(u.length+1)) Slot.no)[j]? =some sl:=e
     have m:=List.mem_of_getElem? e';rcases List.mem_append.mp m with m|m
     ·obtain⟨d',_,rfl⟩:=au.mp m;rfl
     ·rw[(List.mem_replicate.mp m).2];rfl
   ·have l:RMK K ad A G H p dx d l1 U (fW A (g (.rk A r::(u.map Slot.sh++ao ((aC o).length-(u.length+1)) .no)) false)) Q (λc q=>E (.ref (ad.cls c)) none q):=N
    have ap: ∀(Z:Rho) (b:Bool) (y:D),RMK K ad A G H p dx d l1 U (if b then aDn A Z y else .pure (.ok y)) Q (λc q=>E (.ref (ad.cls c)) none q)->∀W I q v,SM X ad A G p dx d l1 U b I q Z W->Rep K ad I y v->Q v q:=λZ b y N W I q v S' rv=>by
     cases b
     ·rw[if_neg bg]at N;have z:=S'.st;unfold StB at z;rw[if_neg bg]at z;exact N v I q z rv
     ·rw[if_pos rfl]at N;obtain⟨r1,a2,f1,f2,f3⟩:=S'.rk;unfold aDn at N;rw[f1]at N
      have ak:RMK K ad A G H p dx d l1 U (if A=A then .chg y r1 else .pure .bad) Q (λc q=>E (.ref (ad.cls c)) none q):=N
      rw[if_pos rfl]at ak;exact ak v I q a2 S'.toR f2 f3 rv
    cases e:g (.rk A r::(u.map Slot.sh++ao ((aC o).length-(u.length+1)) .no)) false with
    |nx Z b=>rw[e]at l;exact λW I q S'=>ap Z b .non l W I q .non S' (by unfold Rep;rfl)
    |rt y Z b=>
     rw[e]at l
     cases y with
     |ok y=>exact λW I q v S' rv=>ap Z b y l W I q v S' rv
     |ow xs=>
      cases b
      ·exact⟨rfl,l⟩
      ·exact l.elim
     |ex c=>exact l.elim
     |bad=>exact l.elim
    |ex c b=>
     rw[e]at l;cases b
     ·exact⟨rfl,l⟩
     ·exact l.elim
    |bad=>rw[e]at l;exact l.elim
  ·rw[if_neg hs]at J;cases J
 |_=>cases hd
end
def lG(ρ:Rho)(A i:Nat)(M:FM)(fs:List F)(k:D->Rho->Out):Out:=match(ρ[i]? :Option Slot)with
 |some (.rk C r)=>if C=A then(match args fs ρ with
  |.ok ds=>(match M r ds with
   |.pure x=>eY ρ x λd=>k d ρ
   |.chg x r'=>k x (ρ.set i (.rk A r')))
  |.ex c=>.ex c ρ
  |.bad=>.rt .bad)else .rt .bad
 |_=>.rt .bad
def aS1(A i:Nat)(M:FM)(fs:List F):FS:=λρ=>lG ρ A i M fs λ_ ρ'=>.nx ρ'
section
variable {X:Cx} {ad:Ad} {Z:(St->Nat->Hp->Prop)->Prop} {ce:cg} {s:Shared} {σ:St} {G₀ G H G1 H1:Hp} {ρ:Rho} {D':Ends} {E:St->Nat->Hp->Prop} {A i n:Nat} {M:FM} {fs:List F} {x m:Str} {es:List Expr} {pos p np ap cp:Pos} {r r':Rk} {p0 dx d l1 l2 l2':Addr}
theorem RackIn.stepR{K:Frag}{qx qd q1 q2:Addr}(h:RackIn K ad C G H q r qx qd q1 q2)(t:StepR foot G H G1 H1)(dis: ∀a∈[q,qx,qd,q1,q2],a∉foot):RackIn K ad C G1 H1 q r qx qd q1 q2:=by
 obtain⟨d,f,m⟩:=h.held;obtain⟨l,e,p⟩:=h.done;obtain⟨n,i,j⟩:=h.undone
 have c: ∀{b:Addr} {o:HO},G b=none->H b=some o->G1 b=none:=λ{b o} g hb=>by
  cases z:G1 b with
  |none=>rfl
  |some u=>
   have:=t.nw b g (by rw[z];exact λy=>nomatch y)
   rw[hb]at this;cases this
 exact⟨t.sh _ _ (dis _ (by simp)) h.ins,t.sh _ _ (dis _ (by simp)) h.own,⟨d,t.sh _ _ (dis _ (by simp)) f,m.mono t.sg⟩,⟨l,t.sh _ _ (dis _ (by simp)) e,p.mono t.sg⟩,⟨n,t.sh _ _ (dis _ (by simp)) i,j.mono t.sg⟩,h.ne,
  c h.gp h.ins,c h.gx h.own,c h.gd f,c h.g1 e,c h.g2 i⟩
theorem SS.updR(S:SS X ad G₀ G H ρ σ)(e:ρ[i]? =some (.rk A r))(h1:σ[i]? =some (some (.ref p0)))(hR:RackIn X.K ad A G H p0 r dx d l1 l2)(t:StepR [p0,dx,d,l1,l2] G H G1 H1)(hR':RackIn X.K ad A G1 H1 p0 r' dx d l1 l2')(h3:l2'=l2\/H l2'=none):
  SS X ad G₀ G1 H1 (ρ.set i (.rk A r')) σ:=by
 have hl:i<ρ.length:=(ay.mp e).1;have Z:gF H ρ σ i [p0,dx,d,l1,l2]:=⟨A,r,p0,dx,d,l1,l2,e,h1,hR.ins,rfl⟩;have f0:=S.rs.h0 i _ Z;have L:=S.rs.ow i _ Z;have a1:=Z.at S.sl
 have I: ∀c,H c=none->X.H₀ c=none:=λc hc=>S.st.sh.free hc
 have E: ∀(j:Nat) (sl:Slot),(ρ.set i (.rk A r'))[j]? =some sl->(j=i/\sl= .rk A r')\/(j≠i/\ρ[j]? =some sl):=λj sl e=>by
  by_cases z:j=i
  ·subst z;rw[bn hl]at e;cases e;exact .inl ⟨rfl,rfl⟩
  ·rw[bd (Ne.symm z)]at e;exact .inr ⟨z,e⟩
 have gn: ∀{b:Addr} {o:HO},G b=none->H b=some o->G1 b=none:=λ{b o} g hb=>by
  cases z:G1 b with
  |none=>rfl
  |some u=>
   have:=t.nw b g (by rw[z];exact λy=>nomatch y)
   rw[hb]at this;cases this
 -- another rack's pieces are none of these
 have al: ∀{j:Nat} {h:List Addr},j≠i->gF H ρ σ j h->∀a∈h,a∉[p0,dx,d,l1,l2]:=λ{j h} l f a n hm=>l (S.rs.rr j i h _ a f Z n hm)
 -- the pieces of a rack, h they were
 have bk: ∀{j:Nat} {h:List Addr},j≠i->gF H1 (ρ.set i (.rk A r')) σ j h->gF H ρ σ j h:=λ{j h} l f=>by
  obtain⟨C,r2,q,qx,qd,q1,x,T,Y,f3,f4⟩:=f;rw[bd (Ne.symm l)]at T;obtain⟨q',ac,ap,am,ab,W,M⟩:=S.sl.rk T;rw[Y]at W;cases W;have fo:gF H ρ σ j [q,ac,ap,am,ab]:=⟨C,r2,q,ac,ap,am,ab,T,Y,M.ins,rfl⟩
  have:=t.sh _ _ (al l fo q (by simp)) M.ins
  rw[f3]at this;cases this;exact⟨C,r2,q,qx,qd,q1,x,T,Y,M.ins,f4⟩
 have bi: ∀{h:List Addr},gF H1 (ρ.set i (.rk A r')) σ i h->h=[p0,dx,d,l1,l2']:=λ{h} f=>by
  obtain⟨C,r2,q,qx,qd,q1,x,T,Y,f3,f4⟩:=f;rw[h1]at Y;cases Y;rw[bn hl]at T;cases T;rw[hR'.ins]at f3;cases f3;exact f4
 have s: ∀a∈[p0,dx,d,l1,l2'],a∈[p0,dx,d,l1,l2]\/H a=none:=λa n=>by
  simp only[av,List.not_mem_nil,or_false]at n ⊢;rcases n with z|z|z|z|z
  ·exact .inl (.inl z)
  ·exact .inl (.inr (.inl z))
  ·exact .inl (.inr (.inr (.inl z)))
  ·exact .inl (.inr (.inr (.inr (.inl z))))
  ·rcases h3 with y|y
   ·exact .inl (.inr (.inr (.inr (.inr (z.trans y)))))
   ·exact .inr (by rw[z];exact y)
 refine⟨⟨S.st.sg.trans t.sg,t.gh,λb o hb=>t.sh b o (λm=>by rw[f0 b m]at hb;cases hb) (S.st.sh b o hb),λb W M=>?_⟩,⟨by rw[List.length_set];exact S.sl.len,λj sl p=>?_⟩,λj sl a p w hj=>?_,λj N sl ak a p Q w w' hj a0=>?_,⟨λj h f a n=>?_,λj h f a n k sl ek w hk=>?_,λj N h an a f f' n J=>?_⟩⟩
 ·cases q:G b with
  |none=>exact I b (t.nw b q M)
  |some o=>exact S.st.nw b W (by rw[q];exact λy=>nomatch y)
 ·rcases E j sl p with ⟨rfl,rfl⟩|⟨l,p⟩
  ·exact⟨_,h1,p0,dx,d,l1,l2',rfl,hR'⟩
  ·obtain⟨ov,k1,k2⟩:=S.sl.at_ j sl p;refine⟨ov,k1,?_⟩
   cases sl with
   |no=>trivial
   |sh y=>
    obtain⟨v,q1,x⟩:=k2;exact⟨v,q1,x.mono t.sg⟩
   |ow xs=>
    obtain⟨a,vs,q1,x,O,q4⟩:=k2;subst q1;exact⟨a,vs,rfl,gn x O,t.sh _ _ (λm=>L a m j _ p rfl k1) O,q4.mono t.sg⟩
   |dc ar=>
    obtain⟨a,vs,q1,x,O,q4,q5⟩:=k2;subst q1;exact⟨a,vs,rfl,gn x O,t.sh _ _ (λm=>L a m j _ p rfl k1) O,q4.mono t.sg,q5⟩
   |sd ar=>
    obtain⟨a,vs,q1,x,O,q4,q5⟩:=k2;subst q1;exact⟨a,vs,rfl,gn x O,t.sh _ _ (λm=>L a m j _ p rfl k1) O,q4.mono t.sg,q5⟩
   |rk C r2=>
    obtain⟨q,qx,qd,q1,x,W,M⟩:=k2;subst W;exact⟨q,qx,qd,q1,x,rfl,M.stepR t (al l ⟨C,r2,q,qx,qd,q1,x,p,k1,M.ins,rfl⟩)⟩
 ·rcases E j sl p with ⟨rfl,rfl⟩|⟨l,p⟩
  ·cases w
  ·exact S.ow j sl a p w hj
 ·rcases E j sl p with ⟨rfl,rfl⟩|⟨l,p⟩
  ·cases w
  ·rcases E N ak Q with ⟨rfl,rfl⟩|⟨B,Q⟩
   ·cases w'
   ·exact S.dj j N sl ak a p Q w w' hj a0
 ·by_cases l:j=i
  ·subst l;rw[bi f]at n;rcases s a n with z|z
   ·exact f0 a z
   ·exact I a z
  ·exact S.rs.h0 j h (bk l f) a n
 ·rcases E k sl ek with ⟨rfl,rfl⟩|⟨nk,U⟩
  ·cases w
  ·by_cases l:j=i
   ·subst l;rw[bi f]at n;rcases s a n with z|z
    ·exact L a z k sl U w hk
    ·exact(S.sl.own_at U w hk).2 z
   ·exact S.rs.ow j h (bk l f) a n k sl U w hk
 ·by_cases l:j=i
  ·by_cases B:N=i
   ·rw[l,B]
   ·subst l;rw[bi f]at n;have fb:=bk B f';rcases s a n with z|z
    ·exact S.rs.rr j N _ an a Z fb z J
    ·exact absurd z (fb.at S.sl a J).2
  ·by_cases B:N=i
   ·subst B;rw[bi f']at J;have fb:=bk l f;rcases s a J with z|z
    ·exact S.rs.rr j N h _ a fb Z n z
    ·exact absurd z (fb.at S.sl a n).2
   ·exact S.rs.rr j N h an a (bk l f) (bk B f') n J
end
def lY(X:Cx)(ad:Ad)(A i:Nat)(M:FM)(fs:List F):TE:=λσ H Q=>∃G ρ E r p0 dx d l1 l2,Same G H/\SL X.K ad G H ρ σ/\XP X ad σ E/\σ[i]? =some (some (V.ref p0))/\RackIn X.K ad A G H p0 r dx d l1 l2/\
 tA X ad fs σ H (λvs H1=>∃ds G1,Step G H G1 H1/\aJ X.K ad G1 ds vs/\ds.length=fs.length/\RMK X.K ad A G1 H1 p0 dx d l1 l2 (M r ds) Q E)
section
variable {X:Cx} {ad:Ad} {Z:(St->Nat->Hp->Prop)->Prop} {ce:cg} {s:Shared} {σ:St} {G₀ G H G1 H1:Hp} {ρ:Rho} {D':Ends} {E:St->Nat->Hp->Prop} {A i n:Nat} {M:FM} {f g:F} {fs:List F} {x m:Str} {e:Expr} {es:List Expr} {pos p np ap cp:Pos} {r r':Rk} {p0 dx d l1 l2 l2':Addr}
theorem aFj(RC:RkC X.K A)(M0:MetOk X ad A m n M)(hN:X.N[i]? =some x)(hv:Vis X.env.scope x)(hd:(x==("__debug__":Str))=false)(hcd:(x==("__classdict__":Str))=false)(ha:MA X ad es fs)(hn:fs.length=n)
  (hst: ∀a r,es=a::r->starEach (a::r) X.env=(false,eval a X.env)::starEach r X.env/\(backTo cp (starEach r X.env)).any (·.1)=false) (hl:es.length=fs.length) (hfm:methodCallForm (es.length+([]:List Keyword).length) (backTo cp (starEach es X.env)) (backToKw cp (keywordEach [] X.env))=true) (hln:(ap.endLine==cp.line)=true):
  PE X (.Call (.Attribute (.Name x np) m ap) es [] cp) (lY X ad A i M fs):=by
 rintro z s y H Q I ⟨G,ρ,E,r,b,dx,d,l1,l2,hG,hS,B,S,j,h⟩;obtain⟨fm,k,fd,ps,e,_⟩:=M0.ok;refine PySem.W.methodCall_KW (L2.thn (cP hN hv hd hcd z s y H (λv g=>v= .ref b/\g=H) I ⟨.ref b,S,rfl,rfl⟩) λu Z q=>?_) (iG rfl hfm hln)
 obtain⟨v,g,c,L,J,O⟩:=q;subst J;subst O
 cases (show u=Value.ref b from L)
 refine gA c j.ins RC.cl e (uE M0.no) ?_
 cases es with
 |nil=>
  cases fs with
  |cons _ _=>cases hl
  |nil=>
   obtain⟨C,U,E2,o,_,_,h⟩:=h;obtain⟨T,G3,f,p,l,k⟩:=(show AK X.K ad C g (.ok []) _ E2 from h) [] C g (Step.refl o) aJ.nil
   exact PySem.W.callWith_K0 (first:=[.ref b]) c.kIn e.kp (lE M0 c f.gh (j.step f) .nil p (l.trans hn) B k e)
 |cons a dU=>
  refine PySem.W.callWith_K (first:=[.ref b]) (h₀:=X.base) c.ok.mod.kin e.kp (L2.thn (ha cp z Z y g _ c h) λus s2 ⟨vs,H2,t,Y,T,G1,f,p,hl,k⟩=>⟨t.kIn,?_⟩) (hst a dU rfl).1 (hst a dU rfl).2
  exact lE M0 t f.gh (j.step f) Y p (hl.trans hn) B k e
theorem aNl(S:SS X ad G₀ G H ρ σ)(hx:XA X ad Z E)(hr:OKo X ad G₀ (lG ρ A i M fs k) D' E)(q: ∀v y G1 H1 ρ1,SS X ad G₀ G1 H1 ρ1 σ->Rep X.K ad G1 y v->OKo X ad G₀ (k y ρ1) D' E->Q' v H1):lY X ad A i M fs σ H Q':=by
 unfold lG at hr
 cases e:(ρ[i]? :Option Slot)with
 |none=>rw[e]at hr;exact hr.elim
 |some sl=>
  rw[e]at hr
  cases sl with
  |rk C r=>
   have b:OKo X ad G₀ (if C=A then(match args fs ρ with
    |.ok j=>(match M r j with
     |.pure x=>eY ρ x λd=>k d ρ
     |.chg x m=>k x (ρ.set i (.rk A m)))
    |.ex c=>.ex c ρ
    |.bad=>.rt .bad)else .rt .bad) D' E:=hr
   by_cases p:C=A
   ·rw[if_pos p]at b;subst p;obtain⟨U,dx,d,l1,l2,J,I⟩:=S.sl.rk e;refine⟨G,ρ,E σ,r,U,dx,d,l1,l2,S.st.gh,S.sl,hx.1 σ,J,I,G,ρ,E σ,S.st.gh,S.sl,hx.1 σ,?_⟩
    cases l:args fs ρ with
    |ok j=>
     rw[l]at b;intro vs G1 H1 st rq;refine⟨j,G1,st,rq,gC l,?_⟩;have n:=S.step st;have B:=I.step st
     have f:OKo X ad G₀ (match M r j with
      |.pure x=>eY ρ x λd=>k d ρ
      |.chg x m=>k x (ρ.set i (.rk C m))) D' E:=b
     cases L:M r j with
     |pure y=>
      rw[L]at f
      cases y with
      |ok y=>exact λv h g st2 u=>q v y h g ρ (n.step st2) u f
      |ow xs=>
       intro a ws h g st2 N O Q z;obtain⟨Y,s,W⟩:=cY (X:=X) (ad:=ad) st2 N O Q z;exact q _ _ Y g ρ (n.step s) W f
      |ex c=>exact λh g st2=>f σ h g (n.step st2)
      |bad=>exact f.elim
     |chg y m=>
      rw[L]at f;exact λv h g ab t o T u=>q v y h g _ (n.updR e J B t o T) u f
    |ex c=>
     rw[l]at b;exact λG1 H1 st=>b σ G1 H1 (S.step st)
    |bad=>
     rw[l]at b;exact b.elim
   ·rw[if_neg p]at b;exact b.elim
  |no=>exact hr.elim
  |sh _=>exact hr.elim
  |ow _=>exact hr.elim
  |dc _=>exact hr.elim
  |sd _=>exact hr.elim
end
def rk0:Rk:=⟨[],[],[]⟩
def spI(K:Frag)(ad:Ad)(A:Nat):Sp:=λvs H Q _=>∃p dx G,vs=[V.ref p]/\Same G H/\G p=none/\G dx=none/\dx≠p/\H p=some (.ins A dx [])/\H dx=some (.own p)/\
 ∀d l1 l2 H',H d=none->H l1=none->H l2=none->RackIn K ad A G H' p rk0 dx d l1 l2->(∀b o,b≠p->H b=some o->H' b=some o)->Q .non H'
structure Ini(X:Cx)(A:Nat)(x:Str):Prop where
 RC:RkC X.K A
 hN:X.N[0]? =some x
 hv:Vis X.env.scope x
 hd:(x==("__debug__":Str))=false
 hcd:(x==("__classdict__":Str))=false
noncomputable def aR2(x:Str)(n1 q1 a1 n2 q2 a2 n3 q3 a3 e1 e2 e3:Pos):List Stmt:=
 [.Assign [.Attribute (.Name x n1) "held" q1] (.Dict [] [] e1) a1,.Assign [.Attribute (.Name x n2) "done" q2] (.List [] e2) a2,.Assign [.Attribute (.Name x n3) "undone" q3] (.List [] e3) a3]
section
variable {X:Cx} {ad:Ad} {A:Nat} {x:Str} {n1 q1 a1 n2 q2 a2 n3 q3 a3 e1 e2 e3:Pos}
theorem zK(L:Ini X A x){σ:St}(me:σ[0]? =some (some (.ref p)))(hG:Same G H)(gp:G p=none)(gx:G dx=none)(ne:dx≠p)(hp:H p=some (.ins A dx []))(hx:H dx=some (.own p))(q: ∀d l1 l2 H',H d=none->H l1=none->H l2=none->RackIn X.K ad A G H' p rk0 dx d l1 l2->(∀b o,b≠p->H b=some o->H' b=some o)->Q .non H'):
  ∃t,PSs X (aR2 x n1 q1 a1 n2 q2 a2 n3 q3 a3 e1 e2 e3) t/\t {nx:=λ_ H'=>Q .non H',rt:=Q} σ H:=by
 have nm: ∀n:Pos,PE X (.Name x n) (aKl 0):=λn=>cP L.hN L.hv L.hd L.hcd
 refine⟨_,jO (sQ (nm n1) sY rfl) (jO (sQ (nm n2) (sR dZ) rfl) (qZ (sQ (nm n3) (sR dZ) rfl))),?_⟩;intro d g;have h:d≠p:=λz=>by rw[z,hp]at g;cases g
 have dd:dx≠d:=λz=>by rw[<-z,hx]at g;cases g
 have j:upd H d (.dK []) p=some (.ins A dx []):=by rw[aB (Ne.symm h)];exact hp
 refine⟨.ref p,me,p,A,dx,_,rfl,j,L.RC.cl,L.RC.n1,by show 0<1000;decide,?_⟩
 refine⟨bx _,λl1 n1=>?_⟩
 have lp:l1≠p:=λz=>by rw[z,aF]at n1;cases n1
 have m:l1≠d:=λz=>by rw[aB lp,z,aF]at n1;cases n1
 have c:H l1=none:=by rw[aB lp,aB m]at n1;exact n1
 have r:dx≠l1:=λz=>by rw[<-z,hx]at c;cases c
 refine⟨.ref p,me,p,A,dx,[(("held":Str),V.ref d)],rfl,by rw[aB (Ne.symm lp),aF];rfl,L.RC.cl,L.RC.n2,by show 1<1000;decide,?_⟩
 refine⟨bx _,λl2 n2=>?_⟩
 have f:l2≠p:=λz=>by rw[z,aF]at n2;cases n2
 have ml:l2≠l1:=λz=>by rw[aB f,z,aF]at n2;cases n2
 have l:l2≠d:=λz=>by rw[aB f,aB ml,aB f,z,aF]at n2;cases n2
 have a:H l2=none:=by rw[aB f,aB ml,aB f,aB l]at n2;exact n2
 have s:dx≠l2:=λz=>by rw[<-z,hx]at a;cases a
 refine⟨.ref p,me,p,A,dx,[(("held":Str),V.ref d),("done",V.ref l1)],rfl,by rw[aB (Ne.symm f),aF];rfl,L.RC.cl,L.RC.n3,by show 2<1000;decide,?_⟩
 refine q d l1 l2 _ g c a ⟨by rw[aF];rfl,?_,⟨[],?_,.nil⟩,⟨[],?_,aJ.nil⟩,⟨[],?_,aJ.nil⟩,Ne.symm ml,gp,gx,hG.free g,hG.free c,hG.free a⟩ λb o i e=>?_
 ·rw[aB ne,aB s,aB ne,aB r,aB ne,aB dd];exact hx
 ·rw[aB h,aB (Ne.symm l),aB h,aB (Ne.symm m),aB h,aF]
 ·rw[aB lp,aB (Ne.symm ml),aB lp,aF]
 ·rw[aB f,aF]
 ·rw[aB i,aB (aM e a),aB i,aB (aM e c),aB i,aB (aM e g)];exact e
end
def aQw(i A:Nat):FS:=λρ=>.nx (ρ.set i (.rk A rk0))
section
variable {X:Cx} {ad:Ad} {Z:(St->Nat->Hp->Prop)->Prop} {σ:St} {G₀ G H H1:Hp} {ρ:Rho} {A i:Nat} {r:Rk} {p dx d l1 l2:Addr} {y x:Str} {pos yp np cp:Pos}
theorem SS.setR(S:SS X ad G₀ G H ρ σ)(s1:Same H H1)(hR:RackIn X.K ad A G H1 p r dx d l1 l2)(nw: ∀a∈[p,dx,d,l1,l2],H a=none)(gh:Same G H1):SS X ad G₀ G H1 (ρ.set i (.rk A r)) (σ.set i (some (.ref p))):=by
 have st:Step G H G H1:=⟨Same.refl _,gh,s1,λb O Q=>absurd O Q⟩
 have S1:=S.step st
 have g: ∀(j:Nat) (sl:Slot),(ρ.set i (.rk A r))[j]? =some sl->(j=i/\sl= .rk A r/\i<ρ.length)\/(j≠i/\ρ[j]? =some sl):=λj sl e=>by
  by_cases z:j=i
  ·subst z;have x:j<ρ.length:=by have:=(ay.mp e).1;rwa [List.length_set]at this
   rw[bn x]at e;cases e;exact .inl ⟨rfl,rfl,x⟩
  ·rw[bd (Ne.symm z)]at e;exact .inr ⟨z,e⟩
 have o: ∀{j:Nat},j≠i->(σ.set i (some (V.ref p)))[j]? =σ[j]? :=λ{j} z=>bd (Ne.symm z)
 have bk: ∀{j:Nat} {l:List Addr},j≠i->gF H1 (ρ.set i (.rk A r)) (σ.set i (some (.ref p))) j l->gF H ρ σ j l:=λ{j l} n f=>by
  obtain⟨C,r2,q,qx,Z,q1,Y,J,E,L,U⟩:=f;rw[bd (Ne.symm n)]at J E;exact gF.back S.sl s1 ⟨C,r2,q,qx,Z,q1,Y,J,E,L,U⟩
 have M: ∀{l:List Addr},gF H1 (ρ.set i (.rk A r)) (σ.set i (some (.ref p))) i l->l=[p,dx,d,l1,l2]:=λ{l} f=>by
  obtain⟨C,r2,q,qx,Z,q1,Y,J,E,L,U⟩:=f;rcases g i _ J with ⟨_,z,x⟩|⟨z,_⟩
  ·cases z;rw[bn (by rw[<-S.sl.len];exact x)]at E
   cases E;rw[hR.ins]at L;cases L;exact U
  ·exact absurd rfl z
 have u: ∀c,H c=none->X.H₀ c=none:=λc hc=>S.st.sh.free hc
 refine⟨S1.st,⟨by rw[List.length_set,List.length_set];exact S.sl.len,λj sl e=>?_⟩,λj sl a e w h=>?_,λj v sl y a e N w w' h W=>?_,⟨λj l f a m=>?_,λj l f a m k sl ek w hk=>?_,λj v l T a f I m t=>?_⟩⟩
 ·rcases g j sl e with ⟨rfl,rfl,x⟩|⟨z,e⟩
  ·exact⟨some (.ref p),bn (by rw[<-S.sl.len];exact x),p,dx,d,l1,l2,rfl,hR⟩
  ·obtain⟨ov,O,Q⟩:=S1.sl.at_ j sl e;exact⟨ov,by rw[o z];exact O,Q⟩
 ·rcases g j sl e with ⟨_,rfl,_⟩|⟨z,e⟩
  ·cases w
  ·rw[o z]at h;exact S.ow j sl a e w h
 ·rcases g j sl e with ⟨_,rfl,_⟩|⟨z,e⟩
  ·cases w
  ·rcases g v y N with ⟨_,rfl,_⟩|⟨z',N⟩
   ·cases w'
   ·rw[o z]at h;rw[o z']at W;exact S.dj j v sl y a e N w w' h W
 ·by_cases n:j=i
  ·subst n;rw[M f]at m;exact u a (nw a m)
  ·exact S.rs.h0 j l (bk n f) a m
 ·rcases g k sl ek with ⟨_,rfl,_⟩|⟨z,B⟩
  ·cases w
  ·rw[o z]at hk
   by_cases n:j=i
   ·rw[n]at f;rw[M f]at m;exact(S.sl.own_at B w hk).2 (nw a m)
   ·exact S.rs.ow j l (bk n f) a m k sl B w hk
 ·by_cases n:j=i
  ·by_cases s:v=i
   ·rw[n,s]
   ·rw[n]at f;rw[M f]at m;exact absurd (nw a m) ((bk s I).at S.sl a t).2
  ·by_cases s:v=i
   ·rw[s]at I;rw[M I]at t;exact absurd (nw a t) ((bk n f).at S.sl a m).2
   ·exact S.rs.rr j v l T a (bk n f) (bk s I) m t
structure MkOk(X:Cx)(ad:Ad)(A:Addr):Prop where
 ok: ∃f k fd ps,Mk X.K A f/\FnOk X.prog X.w X.K X.mg X.base (CXe X.prog X.w) k f fd ps (spI X.K ad A)/\Room (k+1) X.A/\dW X.K fd ps []
end
abbrev FC:=Rho->(Bool->Rho->Out)->Out
def aKc(d:D)(k:Bool->Out):Out:=match d with
 |.bl b=>k b
 |_=>.rt .bad
def aNm(f:F):FC:=λρ k=>eY ρ (f ρ) λd=>aKc d λb=>k b ρ
def g9(A i:Nat)(M:FM)(fs:List F)(op:CmpOp)(g:F):FC:=λρ k=>lG ρ A i M fs λd ρ1=>eY ρ1 (g ρ1) λd2=>eY ρ1 (eE op d d2) λz=>aKc z λb=>k b ρ1
def cOr(c1 c2:FC):FC:=λρ k=>c1 ρ λb ρ1=>if b then k true ρ1 else c2 ρ1 k
def aFk(c:FC)(g h:FS):FS:=λρ=>c ρ λb ρ1=>if b then g ρ1 else h ρ1
def aQx(c:FC)(f:F):FS:=λρ=>c ρ λb ρ1=>if b then dG f ρ1 else .rt (.ok (.bl false))
def tTx(X:Cx)(ad:Ad)(Z:(St->Nat->Hp->Prop)->Prop)(c:FC):TT:=λσ H Q=>∃G₀ G ρ D' E k,SS X ad G₀ G H ρ σ/\XA X ad Z E/\OKo X ad G₀ (c ρ k) D' E/\∀b ρ1 G1 H1,SS X ad G₀ G1 H1 ρ1 σ->OKo X ad G₀ (k b ρ1) D' E->Q b H1
abbrev MTX(X:Cx)(ad:Ad)(Z:(St->Nat->Hp->Prop)->Prop)(e:Expr)(c:FC):Prop:=PT X e (tTx X ad Z c)
def aNn(X:Cx)(ad:Ad)(op:CmpOp):R2:=λx y H Q=>∃G d1 d2 E,Same G H/\Rep X.K ad G d1 x/\Rep X.K ad G d2 y/\RK X.K ad G H (eE op d1 d2) Q E
section
variable {X:Cx} {ad:Ad} {Z:(St->Nat->Hp->Prop)->Prop} {A i:Nat} {M:FM} {f g:F} {fs:List F} {gs hs:FS} {a b e:Expr} {dU sa sb:List Stmt} {es:List Expr} {pos bp:Pos} {c c1 c2:FC} {op:CmpOp}
theorem zL(hu:X.A.units+62<cLine):OpR X (compareOp op) (aNn X ad op):=by
 intro g s f H x y v u Q I l a h;obtain⟨G,b,i,E,j,d,c,e⟩:=h;exact fT op hu g s f H G b i x y v u Q E I j d c l a e
theorem aFl{k:Bool->Rho->Out}{Q:Bool->Hp->Prop}(S:SS X ad G₀ G H ρ σ)(hr:OKo X ad G₀ (eY ρ r λz=>aKc z λb=>k b ρ) D' E)(q: ∀b ρ1 G1 H1,SS X ad G₀ G1 H1 ρ1 σ->OKo X ad G₀ (k b ρ1) D' E->Q b H1):
  RK X.K ad G H r (λv H'=>∃b,v= .bl b/\Q b H') (E σ)/\kO r:=by
 cases r with
 |ok d=>
  cases d with
  |bl b=>
   refine⟨λv G1 H1 a e=>?_,.inl ⟨b,rfl⟩⟩
   unfold Rep at e;exact⟨b,e,q b ρ G1 H1 (S.step a) hr⟩
  |_=>exact hr.elim
 |ow f=>exact hr.elim
 |ex c=>exact⟨λG1 H1 a=>hr σ G1 H1 (S.step a),.inr ⟨c,rfl⟩⟩
 |bad=>exact hr.elim
theorem aDo(h:MT X ad e f):MTX X ad Z e (aNm f):=by
 rintro i s a H Q I ⟨b,G,d,m,E,k,S,l,g,q⟩;obtain⟨j,c⟩:=aFl S g q;exact h i s a H Q I ⟨G,d,E a,S.st.gh,S.sl,l.1 a,c,j⟩
theorem aFm{σ:St}(h:tTx X ad Z (g9 A i M fs op g) σ H Q):tOp (aNn X ad op) (lY X ad A i M fs) (tE X ad g) σ H λv H'=>∃b,v= .bl b/\Q b H':=by
 obtain⟨c,G,s,t,E,k,S,d,l,q⟩:=h;refine aNl S d l λv y r u n e p hk=>?_
 refine fU e d hk λz j o x a f m=>?_
 exact⟨o,y,j,E σ,a.gh,p.mono a.sg,f,(aFl (e.step a) m q).1⟩
theorem aIq(hu:X.A.units+62<cLine)(ha:PE X a (lY X ad A i M fs))(hb:ME X ad b g)(hm:behindInMarks op b=false):MTX X ad Z (.Compare a [op] [b] pos) (g9 A i M fs op g):=
 λd s c H Q I h=>aF6 (zL hu) ha hb hm d s c H Q I (aFm h)
end
section
variable {P:Program} {w:World} {K:Frag} {mg:Str->Option Value} {base h:Heap} {ad:Ad} {k:Nat} {tab:List (Str×SK.Gl)} {fns:List (Nat×Fn)}
theorem aNo{st:Stmt}{A:Nat}(RC:RkC K A)(Fu:Fun K x qual st f fd)(hs:bT (aC (defScope st)) [self] (defScope st)=true)(hb: ∃n1 q1 a1 n2 q2 a2 n3 q3 a3 e1 e2 e3,defBody st=aR2 self n1 q1 a1 n2 q2 a2 n3 q3 a3 e1 e2 e3):FnOk P w K mg base (CXe P w) (k+1) f fd [self] (spI K ad A):=by
 obtain⟨M,J,kV,u,B,N,m,I,o,rfl,lk,d⟩:=Fu.ex;obtain⟨S,nm⟩:=cH hs;obtain⟨n1,q1,a1,n2,q2,a2,n3,q3,a3,e1,e2,e3,b⟩:=hb
 have h:(aC (defScope st))[0]? =some self:=by
  have:=S.pre
  cases e:aC (defScope st)with
  |nil=>rw[e]at this;cases this
  |cons y C=>rw[e]at this;cases this;rfl
 have g:self∈aC (defScope st):=List.mem_of_getElem? h;refine aGa lk d S (λj H Q E a=>?_) λL c s H j Q E O a=>?_
 ·obtain⟨p,dx,G,rfl,_⟩:=a;rfl
 ·obtain⟨p,dx,G,rfl,t,r,i,q,l,n,v⟩:=a;rw[b];refine zK ⟨RC,h,(S.par self (.head _)).elim .inl λz=>.inr (.inl z),(nm _ g).1,(nm _ g).2⟩ (p:=p) (dx:=dx) (G:=G) ?_ t r i q l n v
  unfold L2.start;rfl
theorem fM.mono(h:fM P w K mg base ad k fns)(hk:k<=k'):fM P w K mg base ad k' fns:=λj n F e=>let ⟨r,h1,h2⟩:=h j n F e;⟨r,Nat.le_trans h1 hk,h2⟩
theorem aFn(h1:PySem.W.plainGet K A Str.empty=true)(h2:PySem.W.hasDictIn K A=true)(h3:PySem.W.plainOver K A=true)(h4:PySem.W.findIn K (.ref A) "__setattr__"=some (some (.builtin "object.__setattr__")))(h5:PySem.W.findIn K (.ref A) "held"=some none)(h6:PySem.W.findIn K (.ref A) "done"=some none)(h7:PySem.W.findIn K (.ref A) "undone"=some none):RkC K A:=⟨⟨h1,h2,h3,h4⟩,h5,h6,h7⟩
theorem PQ.rack(T:PQ P w K mg base h ad k tab fns)(A:Addr)(c:RkC K A)(hm:nsIn K mainGlobals "Rack"=some (some (.ref A)):=by kernel_rfl):PQ P w K mg base h ad k (("Rack",.cls A [])::tab) fns:=
 ⟨dY.cons T.t (by decide) ⟨PySem.W.mg_of T.X T.G hm,c,λ_ _ _ e=>by cases e⟩,T.u,T.X,T.G,T.B⟩
def aS2(x qual:Str)(st:Stmt)(ps:List Str):Prop:= ∀(kV doc pm:Value) (an:Option Addr) (cdv ct:Value) (us:List Value),us.length=ps.length->bindArgs (PySem.W.fnOf x qual (defArgs st) (defBody st) (defScope st) .none kV doc pm an cdv ct) ⟨us,[]⟩=pure (ps.zip us)
theorem PQ.met(T:PQ P w K mg base h ad k tab fns)(m qual:Str)(st:Stmt)(f:Addr)(self:Str)(ps:List Str)(n:Nat)(M:FM){A:Addr}{ms:List (Str×Nat×FM)}{oc:Value}{od an:Option Addr}{osl:Array (Option Value)}{kV doc pm cdv ct:Value}(l:K.lookup f=some ⟨oc,od,.func (PySem.W.fnOf m qual (defArgs st) (defBody st) (defScope st) .none kV doc pm an cdv ct),osl⟩)
  (hl:tab.lookup ("Rack":Str)=some (SK.Gl.cls A ms)) (d:aNk tab A ms st=some (n,M):=by kernel_rfl) (c:codeIn K cdv qual=true:=by kernel_rfl) (kp:keepIn K (.ref f)=true:=by kernel_rfl) (m1:PySem.W.findIn K (.ref A) m=some (some (.ref f)):=by kernel_rfl) (m2:PySem.W.isFn K (.ref f)=true:=by kernel_rfl)
  (no:m≠"held"/\m≠"done"/\m≠"undone":=by decide) (hps:eG (defArgs st)=some (self::ps):=by rfl) (hb:aS2 m qual st (self::ps):=by intro _ _ _ _ _ _ us hl;rcases us with _|⟨u0,_|⟨u1,_|⟨u2,_|⟨u3,_|⟨u4,_|⟨u5,us⟩⟩⟩⟩⟩⟩<;>first|rfl|(simp at hl)):
  PQ P w K mg base h ad (k+1) (("Rack",.cls A ((m,n,M)::ms))::tab) fns:=by
 have F:=l6 (x:=m) (qual:=qual) (st:=st) l c kp;obtain⟨C,g,i⟩:=(T.t "Rack" _ hl).2;have ok:=aFi (k:=k) T.B T.t g i F hps d;refine⟨dY.cons (T.t.mono (Nat.le_succ k)) (by decide) ⟨C,g,λj z s e=>?_⟩,T.u.mono (Nat.le_succ k),T.X,T.G,T.B⟩
 rw[List.lookup_cons]at e
 cases q:j==m with
 |true=>
  rw[q]at e;cases e
  cases eq_of_beq q
  exact⟨no,f,k+1,_,_,aj _,⟨m1,m2,kp⟩,ok,F.binds hb⟩
 |false=>
  rw[q]at e;obtain⟨b,y,r,p,a,v,o⟩:=i j z s e;exact⟨b,y,r,p,a,Nat.le_trans v (Nat.le_succ k),o⟩
end
def LPE(X:Cx)(P:Addr)(q:Str)(ps0:Array Value)(e:Expr)(t:TE):Prop:=
 ∀(ce:cg) (ps:Array Value) (cs:cg) (s:Shared) (σ:St) (H:Hp) (Q:VK),TbD P q ps0 ps cs (X.pn++ce)->Inv X (pnL P ps cs ce) σ H s->t σ H Q->
  wpAny (model X.prog X.w) X.A (eval e X.env) (EPL X P q ps0 ce σ Q) X.xe s
abbrev LMS(X:Cx)(P:Addr)(q:Str)(ps0:Array Value)(ad:Ad)(Z:(St->Nat->Hp->Prop)->Prop)(st:Stmt)(g:FS):Prop:=LPS X P q ps0 st (tS X ad Z g)
abbrev aIr(X:Cx)(P:Addr)(q:Str)(ps0:Array Value)(ad:Ad)(Z:(St->Nat->Hp->Prop)->Prop)(st:List Stmt)(g:FS):Prop:=qR X P q ps0 st (tS X ad Z g)
section
variable {X:Cx} {P:Addr} {q:Str} {ps0 ps:Array Value} {cs ce:cg} {ad:Ad} {Z:(St->Nat->Hp->Prop)->Prop} {a e:Expr} {f:SK.F} {g h:FS} {st:Stmt} {sts:List Stmt} {pos pos':Pos} {σ:St} {G H:Hp} {ρ:Rho} {s:Shared} {Q:VK} {E:Nat->Hp->Prop}
end
section
variable {X:Cx} {P:Addr} {q:Str} {ps0 ps:Array Value} {cs ce:cg} {ad:Ad} {Z:(St->Nat->Hp->Prop)->Prop} {a e it tg:Expr} {f:SK.F} {g h:FS} {st:Stmt} {sts body:List Stmt} {pos pos':Pos}
theorem zM(a:MS X ad Z st g):LMS X P q ps0 ad Z st g:=aNd a
theorem aDp:aIr X P q ps0 ad Z [] a9:=nQ rR
theorem zN(h1:LMS X P q ps0 ad Z st g)(h2:aIr X P q ps0 ad Z sts h):aIr X P q ps0 ad Z (st::sts) (bL g h):=by
 refine qR.imp (iK h1 h2) ?_;rintro o n H ⟨d,G,f,E,S,i,a⟩;refine⟨d,G,f,E,S,i,?_⟩;unfold bL at a
 cases e:g f with
 |nx b=>rw[e]at a;exact λl j p m=>⟨d,j,b,E,m,i,a⟩
 |bk b=>rw[e]at a;exact a
 |ct b=>rw[e]at a;exact a
 |ex c b=>rw[e]at a;exact a
 |rt r=>
  rw[e]at a
  cases r<;>exact a
theorem zO(hp:PassesOwn (model X.prog X.w) X.A X.env X.xe)(hc:X.calm=true)(hN:X.N.Nodup)(hi:MIG X ad tg it f)(ht:bZ tg=some (xs,k))(hn:NmsOk X xs is)(hb:aIr X P q ps0 ad Z body g)(hs: ∀x,foldedSetIterable it X.env x=pure x):LMS X P q ps0 ad Z (.For tg it body [] pos) (vH is (k==0) f g):=by
 obtain⟨s,hk⟩:=aHh hc hN ht hn;refine LPS.imp (aIc hp hc hi s hb hs) ?_;rintro p l H ⟨h,G,i,E,S,m,b⟩;refine⟨G,i,E l,S.st.gh,S.sl,m.1 l,?_⟩;unfold vH eY at b
 cases e:f i with
 |ok d=>
  rw[e]at b
  have a:OKo X ad h (match mB d with|some n=>fS (o8 is (k==0)) g n i|none=>.rt .bad) p E:=b
  cases j:mB d with
  |none=>rw[j]at a;exact a.elim
  |some n=>
   rw[j]at a;exact⟨n,j,λJ r u st it=>tW hk (S.step st) m it a⟩
 |ow xs=>
  rw[e]at b;exact λJ r u st it=>tW hk (S.step st) m it b
 |ex c=>rw[e]at b;exact λo t st=>b l o t (S.step st)
 |bad=>rw[e]at b;exact b
end
def TPL(X:Cx)(P:Addr)(q:Str)(ps0:Array Value)(ce:cg)(σ:St)(Q:Bool->Hp->Prop)(b:Bool)(s':Shared):Prop:=
 ∃ps cs,TbD P q ps0 ps cs (X.pn++ce)/\TP X (pnL P ps cs ce) σ Q b s'
def LPW(X:Cx)(P:Addr)(q:Str)(ps0:Array Value)(e:Expr)(t:TT):Prop:=
 ∀(whole:Sem Value) (ce:cg) (ps:Array Value) (cs:cg) (s:Shared) (σ:St) (H:Hp) (Q:Bool->Hp->Prop),TbD P q ps0 ps cs (X.pn++ce)->Inv X (pnL P ps cs ce) σ H s->t σ H Q->
  wpAny (model X.prog X.w) X.A (isTrue e X.env whole) (TPL X P q ps0 ce σ Q) X.xe s
def LPT(X:Cx)(P:Addr)(q:Str)(ps0:Array Value)(e:Expr)(t:TT):Prop:=
 ∀(ce:cg) (ps:Array Value) (cs:cg) (s:Shared) (σ:St) (H:Hp) (Q:Bool->Hp->Prop),TbD P q ps0 ps cs (X.pn++ce)->Inv X (pnL P ps cs ce) σ H s->t σ H Q->
  wpAny (model X.prog X.w) X.A (isTrue e X.env (eval e X.env)) (TPL X P q ps0 ce σ Q) X.xe s
section
variable {X:Cx} {P:Addr} {q:Str} {ps0:Array Value} {ad:Ad} {Z:(St->Nat->Hp->Prop)->Prop} {a b e:Expr} {f g:SK.F} {gs hs:FS} {sa sb:List Stmt} {pos:Pos} {t u:TS} {tc tA tB:TT}
theorem LPW.pt(h:LPW X P q ps0 e tc):LPT X P q ps0 e tc:=h _
theorem aNp(h:PT X e tc):LPT X P q ps0 e tc:=λg c d s a H Q T I w=>L2.thn (h _ s a H Q I w) λb i f=>⟨c,d,T,f⟩
theorem aIs(ha:LPT X P q ps0 a tA):LPW X P q ps0 (.BoolOp .Or [a] pos) tA:=by
 intro j d f g s b H Q T I h;refine isTrue_or (L2.thn (ha d f g s b H Q T I h) λc i e=>?_)
 cases c with
 |false=>exact isTrue_or_nil e
 |true=>exact e
theorem aNq(ha:LPT X P q ps0 a tA)(hb:LPW X P q ps0 (.BoolOp .Or (b::r) pos) tB):LPW X P q ps0 (.BoolOp .Or (a::b::r) pos) (tOr tA tB):=by
 intro t i n o s g H Q T I h;refine isTrue_or (L2.thn (ha i n o s g H _ T I h) λc p f=>?_)
 obtain⟨e,d,j,l,m,q1⟩:=f
 cases c with
 |true=>exact⟨e,d,j,l,m,q1⟩
 |false=>exact hb t i e d p g l Q j m q1
theorem aIt(hc:LPT X P q ps0 c tc)(ha:qR X P q ps0 sa t)(hb:qR X P q ps0 sb u):LPS X P q ps0 (.If c sa sb pos) (aPf tc t u):=by
 intro f n o s e H D T I h;refine wpAny_If (L2.thn (hc f n o s e H _ T I h) λd i g=>?_)
 obtain⟨b,a,j,l,m,q1⟩:=g
 cases d with
 |true=>exact ha f b a i e l D j m q1
 |false=>exact hb f b a i e l D j m q1
end
noncomputable def aDq(a:Arguments):Bool:=a.posonlyargs.isEmpty&&a.args.isEmpty&&a.vararg.isNone&&a.kwonlyargs.isEmpty&&a.kw_defaults.isEmpty&&a.kwarg.isNone&&a.defaults.isEmpty
theorem aDr(h:aDq a=true):a=⟨[],[],none,[],[],none,[]⟩:=by
 obtain⟨m,l,j,n,o,q,p⟩:=a;unfold aDq at h;simp only[aw,List.isEmpty_iff,Option.isNone_iff_eq_none]at h;obtain⟨⟨⟨⟨⟨⟨e,b⟩,g⟩,f⟩,c⟩,d⟩,i⟩:=h;subst e b g f c d i;rfl
def zP(sc:Scope):Bool:=sc.kind== .function&& !sc.isCoroutine&& !sc.isGenerator&&sc.names.all (λp=>p.2 != .cell&&p.2 != .local)&&decide (aP sc).Nodup&&(aP sc).all (λx=> !(x==("__debug__":Str))&& !(x==("__classdict__":Str)))
theorem p8(h:zP sc=true):LamSc (aP sc) sc/\(aP sc).Nodup/\∀x∈aP sc,(x==("__debug__":Str))=false/\(x==("__classdict__":Str))=false:=by
 unfold zP at h;simp only[aw]at h;obtain⟨⟨⟨⟨⟨e,b⟩,i⟩,f⟩,c⟩,d⟩:=h
 have all: ∀p∈sc.names,p.2≠ .cell/\p.2≠ .local:=λp g=>by
  have:=zAd f p g
  simpa using this
 refine⟨⟨by simpa using e,by simpa using b,by simpa using i,λx a=>(all x a).1,λx z=>(all _ (PySem.mem_of_lookup z)).2 rfl⟩,of_decide_eq_true c,λx a=>?_⟩
 have:=zAd d x a
 simpa using this
section
variable {P:Program} {w:World} {K:Frag} {mg:Str->Option Value} {base:Heap} {ad:Ad} {k:Nat} {tab:List (Str×SK.Gl)} {fns:List (Nat×Fn)} {sc:Scope} {q:Str} {a:Addr} {cd:Value} {cl:List (Str×Addr)} {A:Around} {outer:List PySem.Env} {s:Shared} {H:Hp} {E:XK}
theorem aS3(B:ExcK K ad)(TB:dY P w K mg base ad k tab)(FB:fM P w K mg base ad k fns)(hs:zP sc=true)(hr:Room k (A.deeper (aFc q sc s.heap.objs.size a cd cl))):
  CtxOk (cxL (CXe P w) P w K mg base (aP sc) q sc a cd cl A outer s H E) ad ⟨tab,fns,sc,aP sc,[]⟩:=by
 obtain⟨S,J,nm⟩:=p8 hs;refine⟨rfl,J,λx i e=>?_,λx e=>e,λx g e=>?_,λx i e=>(d7 e).2,rfl,?_,hr.hd,B.exc,B.kin,B.kve,λj m y e=>?_⟩
 ·obtain⟨v,I⟩:=kY e;have m:=kX v;exact⟨fI v,I,(nm x m).1,(nm x m).2⟩
 ·obtain⟨a,b⟩:=TB x g e;refine⟨a,?_⟩
  cases g with
  |fn j m y=>
   obtain⟨t,C,o,h,l,u,z⟩:=b;exact⟨t,C,⟨h,l,u⟩,hr.mono o,z⟩
  |exc c=>exact b
  |verr=>exact b
  |val d=>exact b
  |tbl G=>exact b
  |py p=>exact b
  |cls A N=>exact⟨b.1,b.2.1,λm n M L=>let ⟨no,f,r,fd,ps,o,h,l,u⟩:=b.2.2 m n M L;⟨no,f,r,fd,ps,h,l,hr.mono o,u⟩⟩
 ·exact Nat.lt_of_le_of_lt (Nat.add_le_add_left (by decide:62<=64) _) hr.units
 ·obtain⟨t,o,h,l⟩:=FB j m y e;exact⟨t,⟨h,l⟩,hr.mono o⟩
end
noncomputable def aQy:Expr->Option (Arguments×Expr×Scope)
 |.Lambda ps body sc _=>some (ps,body,sc)
 |_=>none
theorem aIu(h:aQy e=some (ps,body,sc)): ∃p,e= .Lambda ps body sc p:=by
 cases e<;>first|(cases h;exact⟨_,rfl⟩)|(cases h;done)
def zQ(tn:Str)(F:R->R)(C:SK.Ctx):Expr->Option SK.F
 |.Call (.Name x _) [l] [] _=>if x=tn/\C.sc.names.lookup x=some .globalImplicit then(aQy l).bind λ(ps,body,sc)=>if aDq ps&&zP sc then(dR (λx=>eO C x) (aP sc)).bind λcap=>(bN 50 ⟨C.tab,C.fns,sc,aP sc,[]⟩ body).map λf=>aQq F cap f else none else none
 |_=>none
theorem sD{α β:Type}{f:α->Option β}: ∀{l:List α} {r:List β},dR f l=some r->∀(i:Nat) (a:α),l[i]? =some a->∃b,r[i]? =some b/\f a=some b
 |[],_,_,i,a,h=>by cases h
 |x::l,r,h,i,a,ha=>by
  unfold dR at h
  cases e:f x with
  |none=>rw[e]at h;cases h
  |some y=>
   rw[e]at h;obtain⟨g,d,c⟩:=zMd h;subst c
   cases i with
   |zero=>cases ha;exact⟨y,rfl,e⟩
   |succ i=>exact sD d i a ha
section
variable {X:Cx} {ad:Ad} {C:SK.Ctx} {tn q:Str} {F:R->R} {P c:Addr} {k:Nat} {ps0:Array Value} {e:Expr} {f:SK.F}
end
def aQz(i j A:Nat)(e:F):FS:=λρ=>eY ρ (e ρ) λd=>.nx ((ρ.set i (.sh d)).set j (.rk A ⟨[],[],[]⟩))
section
variable {X:Cx} {ad:Ad} {Z:(St->Nat->Hp->Prop)->Prop} {C:SK.Ctx} {A:Addr}
end
structure MRd where
 A:Nat
 i:Nat
 M:FM
 fs:List F
def zR(C:SK.Ctx)(e:Expr):Option MRd:=(rkc C).bind λ(A,ms)=>(zI e).bind λc=>(cG c.o).bind λ(x,_)=>(loc C x).bind λi=>(ms.lookup c.m).bind λ(n,M)=>if c.as.length<20 then(dR (bN 50 C) c.as).bind λfs=>if fs.length=n then some ⟨A,i,M,fs⟩ else none else none
def aIv(C:SK.Ctx):Expr->Option (MRd×CmpOp×F)
 |.Compare a [op] [b] _=>(zR C a).bind λr=>(bN 50 C b).map λg=>(r,op,g)
 |_=>none
def cOf(z:MRd×CmpOp×F):FC:=g9 z.1.A z.1.i z.1.M z.1.fs z.2.1 z.2.2
def zS(C:SK.Ctx)(e:Expr):Option FC:=match aIv C e with
 |some z=>some (cOf z)
 |none=>(bN 50 C e).map aNm
def orX(C:SK.Ctx):List Expr->Option FC
 |[]=>none
 |[a]=>zS C a
 |a::b::r=>(zS C a).bind λc1=>(orX C (b::r)).map λc2=>cOr c1 c2
def ifX(C:SK.Ctx)(e:Expr):Option FC:=match aIv C e with
 |some z=>some (cOf z)
 |none=>(match e with
  |.BoolOp .Or (a::es) _=>(aIv C a).bind λ_=>orX C (a::es)
  |_=>none)
def aS4:Stmt->Option (Expr×Expr×List Expr×Pos)
 |.Return (some (.BoolOp .And (a::e::es) bp)) _=>some (a,e,es,bp)
 |_=>none
def mkX:Stmt->Option (Str×Str)
 |.Assign [.Name y _] (.Call (.Name x _) [] [] _) _=>some (y,x)
 |_=>none
structure PRd where
 x:Str
 y:Str
 a:Expr
 z:Str
def uP(e:Expr):Option Str:=match e with
 |.Call f as kws _=>if as.isEmpty&&kws.isEmpty then(cG f).map (·.1)else none
 |_=>none
theorem zT(h:uP e=some z): ∃np cp,e= .Call (.Name z np) [] [] cp:=by
 unfold uP at h;split at h
 ·split at h
  ·rename_i a;rw[aw]at a
   cases eA a.1
   cases eA a.2
   obtain⟨⟨x,p⟩,b,rfl⟩:=zMd h
   cases bC b
   exact⟨_,_,rfl⟩
  ·cases h
 ·cases h
def aO6(st:Stmt):Option (Expr×Expr):=match st with
 |.Assign ts e _=>(one ts).map λt=>(t,e)
 |_=>none
theorem aIw{st:Stmt}(h:aO6 st=some (t,e)): ∃p,st= .Assign [t] e p:=by
 unfold aO6 at h;split at h
 ·obtain⟨c,b,a⟩:=zMd h
  cases cE b
  cases a;exact⟨_,rfl⟩
 ·cases h
def aS5(st:Stmt):Option PRd:=(aO6 st).bind λ(t,e)=>(aGe t).bind λ(es,_)=>(aLl es e).bind λq=>(uP q.b).map λz=>⟨q.x,q.y,q.a,z⟩
def rkP(C:SK.Ctx)(q:PRd):Option FS:=if q.z=("Rack":Str)/\C.sc.names.lookup q.z=some .globalImplicit/\kH C q.x q.y=true then(rkc C).bind λ(A,_)=>(loc C q.x).bind λi=>(loc C q.y).bind λj=>(bN 50 C q.a).map λf=>aQz i j A f else none
def rkS(C:SK.Ctx)(st:Stmt):Option FS:=match aS5 st with
 |some q=>rkP C q
 |none=>match mkX st with
 |some (y,x)=>if x=("Rack":Str)/\C.sc.names.lookup x=some .globalImplicit then(rkc C).bind λ(A,_)=>(loc C y).map λi=>aQw i A else none
 |none=>(match aS4 st with
  |some (a,e,es,bp)=>(aIv C a).bind λz=>(bN 50 C (.BoolOp .And (e::es) bp)).map λf=>aQx (cOf z) f
  |none=>(match st with
   |.Expr e _=>(zR C e).map λr=>aS1 r.A r.i r.M r.fs
   |.If c a b _=>(ifX C c).bind λt=>(kJ 50 true C a).bind λg=>(kJ 50 true C b).map λh=>aFk t g h
   |_=>none))
theorem zU(h:rkc C=some (A,ms)):C.tab.lookup ("Rack":Str)=some (SK.Gl.cls A ms):=by
 unfold rkc at h;split at h
 ·rename_i e;cases h;exact e
 ·cases h
theorem aIx(h:aIv C e=some z): ∃a b p,e= .Compare a [z.2.1] [b] p/\zR C a=some z.1/\bN 50 C b=some z.2.2:=by
 unfold aIv at h;split at h
 ·obtain⟨r,d,h⟩:=zBd h;obtain⟨g,c,rfl⟩:=zMd h;exact⟨_,_,_,rfl,d,c⟩
 ·cases h
section
variable {X:Cx} {ad:Ad} {Z:(St->Nat->Hp->Prop)->Prop} {C:SK.Ctx} {e:Expr}
theorem aDs(O:StOk X ad C)(h:zR C e=some r):PE X e (lY X ad r.A r.i r.M r.fs)/\∃a b c d,e= .Call a b c d:=by
 unfold zR at h;have f:=zBd h;clear h;obtain⟨⟨A,Q⟩,I,h⟩:=f;have f:=zBd h;clear h;obtain⟨c,n,h⟩:=f;have f:=zBd h;clear h;obtain⟨⟨x,p⟩,K,h⟩:=f;obtain⟨rfl,v⟩:=p7 n;clear n;obtain⟨o,m,S,U,T⟩:=c
 have j:cG o=some (x,p):=K
 cases bC j
 have f:=zBd h;clear h;obtain⟨i,y,h⟩:=f;have f:=zBd h;clear h;obtain⟨⟨z,M⟩,t,h⟩:=f
 simp only at h
 split at h
 ·rename_i g;obtain⟨fs,q,h⟩:=zBd h;split at h
  ·rename_i G;cases h;obtain⟨_,N,J⟩:=(O.cx.gt _ _ (zU I)).2;obtain⟨s,H,E,B⟩:=O.cx.vis x i y;obtain⟨L,l⟩:=nN (dD (ad:=ad) 50).1 O.cx q
   exact⟨aFj N (J m z M t) s H E B L G (λa r e=>by
    subst e;exact⟨aK (l a (.head _)),gG λe u=>l e (.tail _ u)⟩) (eQ q).symm (nO l g) v,_,_,_,_,rfl⟩
  ·cases h
 ·cases h
theorem aIy(O:StOk X ad C)(h:aIv C e=some z):MTX X ad Z e (cOf z):=by
 obtain⟨a,b,p,rfl,d,c⟩:=aIx h;exact aIq O.cx.un (aDs O d).1 ((dD (ad:=ad) 50).1 X C _ _ O.cx c).1 (dI (aL c).2.1)
theorem aDt(O:StOk X ad C)(h:zS C e=some c):MTX X ad Z e c:=by
 unfold zS at h;split at h
 ·rename_i z a;cases h;exact aIy O a
 ·obtain⟨f,b,rfl⟩:=zMd h;exact aDo ((dD (ad:=ad) 50).1 X C _ _ O.cx b).2.1
end
def aNr(tn:Str)(F:R->R)(C:SK.Ctx):Expr->Option SK.F
 |.Compare a [op] [b] _=>(zQ tn F C a).bind λf=>(bN 50 C b).map λg=>aY op f g
 |_=>none
def orT(tn:Str)(F:R->R)(C:SK.Ctx):Expr->Option SK.F
 |.BoolOp .Or [a,b] _=>(bN 50 C a).bind λf=>(aNr tn F C b).map λg=>rOr f g
 |_=>none
def aS6(tn:Str)(F:R->R)(C:SK.Ctx)(e:Expr):Option SK.F:=match aNr tn F C e with
 |some f=>some f
 |none=>match orT tn F C e with
  |some f=>some f
  |none=>bN 50 C e
section
variable {X:Cx} {ad:Ad} {C:SK.Ctx} {tn q:Str} {F:R->R} {P c:Addr} {k:Nat} {ps0:Array Value} {e:Expr} {f:SK.F}
end
def aS7:Stmt->Option (Str×Expr)
 |.Assign [.Name x _] (.List [e] _) _=>some (x,e)
 |_=>none
def aS8:Stmt->Option (Str×Expr)
 |.Expr (.Call (.Attribute (.Name x _) m ap) [e] [] cp) _=>if m="append"/\(ap.endLine==cp.line)=true then some (x,e)else none
 |_=>none
def tdS(tn:Str)(F:R->R)(C:SK.Ctx)(st:Stmt):Option FS:=match aS7 st with
 |some (x,e)=>(zQ tn F C e).bind λf=>(loc C x).map λi=>sV i (iU [f])
 |none=>match aS8 st with
  |some (x,e)=>(zQ tn F C e).bind λf=>(loc C x).map λi=>aSr i f
  |none=>none
mutual
def lS:Nat->Str->(R->R)->SK.Ctx->Stmt->Option FS
 |0,_,_,_,_=>none
 |n+1,tn,F,C,st=>match tdS tn F C st with
  |some g=>some g
  |none=>match rkS C st with
  |some g=>some g
  |none=>match st with
   |.If c a b _=>(aS6 tn F C c).bind λf=>(lSs n tn F C a).bind λg=>(lSs n tn F C b).map λh=>sIf f g h
   |.For tg it b [] _=>(bZ tg).bind λ(xs,k)=>(aEl 50 C false it).bind λf=>(dR (λx=>loc C x) xs).bind λis=>if(cG it).isNone then(lSs n tn F C b).map λg=>vH is (k==0) f g else none
   |st=>aBk 50 true C st
def lSs:Nat->Str->(R->R)->SK.Ctx->List Stmt->Option FS
 |0,_,_,_,_=>none
 |n+1,tn,F,C,l=>match l with
  |[]=>some a9
  |st::r=>(lS n tn F C st).bind λg=>(lSs n tn F C r).map λh=>bL g h
end
section
variable {X:Cx} {ad:Ad} {C:SK.Ctx} {tn q:Str} {F:R->R} {P c:Addr} {k:Nat} {ps0:Array Value}
end
def cxP(P0:Addr)(X:Cx):Cx:={X with ex:=[P0]}
theorem aQ0(u:Un fs [] H H' h h'):Un fs ex H H' h h':=
 ⟨λb o e n f _=>u.keep b o e n f (by simp),λb o e n f _=>u.slot b o e n f (by simp),λb o e n _=>u.free b o e n (by simp),λb o e _=>u.there b o e (by simp),u.tups,u.frzs,u.tbls⟩
section
variable {X:Cx} {P0:Addr} {σ:St} {H:Hp} {s:Shared}
theorem aNs(I:Inv X [] σ H s)(hex:X.ex=[])(hP:P0<X.s₀.heap.objs.size)(hb:X.base.get? P0=none)(hfs:P0∉X.fs)(hcell: ∀x c,X.env.cells.lookup x=some c->X.s₀.heap.objs.size<=c):Inv (cxP P0 X) [] σ H s:=by
 refine⟨⟨I.ok.mod,I.ok.kind,I.ok.glob,I.ok.blt,I.ok.above,I.ok.inj,I.ok.has,I.ok.cab,I.ok.hd,I.ok.frames,I.ok.stk,λb a=>?_,I.ok.bs,I.ok.bsz,λb o e a=>?_,λb a=>?_,I.ok.funs,I.ok.frf⟩,I.os,I.bare,?_,I.loc,I.cell,I.free,I.freeC,I.pin,I.hok,I.len⟩
 ·have e:b=P0:=List.mem_singleton.mp a
  subst e;exact⟨bj (bh hP I.ok.above),λx c h z=>absurd (bh hP (hcell x c h)) (by rw[z];exact Nat.lt_irrefl _)⟩
 ·have f:b=P0:=List.mem_singleton.mp a
  subst f
  have d:X.base.get? b=some o:=e
  rw[hb]at d;cases d
 ·have e:b=P0:=List.mem_singleton.mp a
  subst e;exact hfs
 ·have u:=I.base;rw[hex]at u;exact aQ0 u
theorem aNt:Tb P0 q #[] []:=⟨trivial,(λa c h=>by cases h),(λp b=>by cases b)⟩
end
structure PinsOk(P0:Addr)(ps:Array Value)(cs:cg)(h:Heap)(H:Hp)(fs:List Addr):Prop where
 at_:h.get? P0=some (PySem.W.tabObj ps)
 no:H P0=none
 nf:P0∉fs
 cs: ∀p∈cs,h.get? p.1=some p.2/\H p.1=none/\p.1∉fs/\∀v,p.2.data≠ .cell v
section
variable {P:Program} {w:World} {K:Frag} {mg:Str->Option Value} {base:Heap} {fa P0 c:Addr} {name qual q:Str} {params:Arguments} {body:List Stmt} {scope:Scope} {dV kV doc pm ct oc:Value} {an od:Option Addr} {osl:Array (Option Value)} {N prs:List Str}
  {A:Around} {outer:List PySem.Env} {s:Shared} {H:Hp} {k:Nat} {Q:VK} {t:TS} {ps ps0:Array Value} {cs pl:cg} {args:Args} {us:List Value} {vs:List V}
theorem aDu(lk:K.lookup fa=some ⟨oc,od,.func (PySem.W.fnOf name qual params body scope dV kV doc pm an (.ref c) ct),osl⟩)(hcd:PySem.W.codeIn K (.ref c) qual=true)(S:FnScope N prs scope)
  (hr:Room (k+1) A) (e0:Env0 P w K mg base A outer s H) (hb:BindsTo s (PySem.W.fnOf name qual params body scope dV kV doc pm an (.ref c) ct) args (prs.zip us)) (hl:vs.length=prs.length) (rv:cN vs us) (pk:PinsOk P0 ps (cs++pl) s.heap H (frs outer)) (T0:TbD P0 q ps0 ps cs pl) (hbP:base.get? P0=none)
  (hbody:qR (cxP P0 (jP (CXe P w) P w K mg base N qual scope fa (.ref c) A outer s H λ_ _ _=>False)) P0 q ps0 body t) (ht:t ⟨λ_ _=>False,Q,λ_ _=>False,λ_ _=>False⟩ (start N vs) H):
  codeAny (model P w) A (.call (.ref fa) args) (λr s'=>∃u v H' ps' cs',r= .ok (.ret u)/\s'.os=s.os/\AllBare s'.gens/\Un (frs outer) [P0] H H' s.heap s'.heap/\HOk P w H' s'.heap/\bA v u/\Q v H'/\PinsOk P0 ps' (cs'++pl) s'.heap H' (frs outer)/\TbD P0 q ps0 ps' cs' pl) s:=by
 have G:K.In s.heap:=e0.mod.kin.keeps λb o e=>(e0.bs b o e).1
 have m:s.heap.NoLimit:=e0.mod.nolimit.keeps λb o e=>(e0.bs b o e).1
 have ab:us.length=prs.length:=by rw[<-hl];exact rv.length.symm
 have g: ∀y∈prs.zip us,scope.names.lookup y.1=some .local\/(scope.names.lookup y.1=some .cell/\((cellsFrom (s.heap.objs.size+1) scope.names []).lookup y.1).isSome=true):=λy hy=>by
  rcases S.par y.1 (List.of_mem_zip hy).1 with z|z
  ·exact .inl z
  ·exact .inr ⟨z,PySem.W.cellsFrom_some _ _ _ (.inl z)⟩
 let X:=jP (CXe P w) P w K mg base N qual scope fa (.ref c) A outer s H λ_ _ _=>False
 refine codeAny_call_function hr.depth (G _ _ lk) rfl S.co S.gen rfl (PySem.W.codeRec_of G hcd) (hb _ _ _ _ ?_);refine wpAny_newFunctionEnv_cells S.kind g λZ U l y=>?_
 subst U;refine⟨m.keeps y.toInCall.keep,codeAny_func ?_⟩;have hk:=y.toInCall.keep;have I0:Inv X [] (start N vs) H l:=fP S hr.hd e0 hl rv y;have i:P0<s.heap.objs.size:=ah pk.at_;have I:Inv (cxP P0 X) [] (start N vs) H l:=aNs I0 rfl i hbP pk.nf λz d h=>Nat.le_of_lt (y.above z d (PySem.mem_of_lookup h))
 have M:Inv (cxP P0 X) (pnL P0 ps cs pl) (start N vs) H l:=I.pins_of λp j=>by
  rcases av.mp j with rfl|j
  ·exact⟨hk _ _ pk.at_,pk.no,(I.ok.exf P0 (.head _)).1,pk.nf,λv z=>nomatch z⟩
  ·obtain⟨E,L,Y,a4⟩:=pk.cs p j;exact⟨hk _ _ E,L,bj (ah E),Y,a4⟩
 have TD:TbD P0 q ps0 ps cs ((cxP P0 X).pn++pl):=T0;refine wpAny_mono (hbody pl ps cs l _ H _ TD M ht) (λfl s' f=>?_) λe s' f=>?_
 ·obtain⟨ps',cs',T,f⟩:=f
  cases fl with
  |next=>obtain⟨_,_,_,z⟩:=f;exact z.elim
  |brk=>obtain⟨_,_,_,z⟩:=f;exact z.elim
  |cont=>obtain⟨_,_,_,z⟩:=f;exact z.elim
  |ret u=>
   obtain⟨v,O,H',J,n,qv⟩:=f;have x:=J.pin (P0,PySem.W.tabObj ps') (bu _ (.head _));refine⟨u,v,H',ps',cs',rfl,J.os,J.bare,J.base,J.hok,n,qv,⟨x.1,x.2.1,x.2.2.2.1,λp j=>?_⟩,T⟩
   have:=J.pin p (bu _ (.tail _ j))
   exact⟨this.1,this.2.1,this.2.2.2.1,this.2.2.2.2⟩
 ·have no: ∀(e:Value) (a:Shared),CXe P w outer H s (λ_ _ _=>False) e a->False:=λe a z=>by
   obtain⟨_,_,_,_,_,_,_,_,_,_,_,_,_,_,z⟩:=z;exact z
  have B:wpAny (model P w) (A.deeper (envOfC qual scope s.heap.objs.size fa (.ref c))) (leaving (envOfC qual scope s.heap.objs.size fa (.ref c)) e) (λ_ a=>CXe P w outer H s (λ_ _ _=>False) e a) (λC a=>CXe P w outer H s (λ_ _ _=>False) C a) s':=f
  exact wpAny_mono B (λ_ a z=>(no _ _ z).elim) λC a z=>(no _ _ z).elim
end
def aIz(X:Cx)(ad:Ad)(A n:Nat)(P0:Addr)(q:Str)(ps0:Array Value)(k:Nat)(fa:Addr)(fd:FuncData)(prs:List Str)(M:FM):Prop:=
 ∀(A':Around) (outer:List PySem.Env) (s:Shared) (G H:Hp) (p0 dx d l1 l2:Addr) (r:Rk) (ds:List D) (ws:List V) (us:List Value) (args:Args) (ps:Array Value) (cs pl:cg) (Q:VK),Room k A'->Env0 X.prog X.w X.K X.mg X.base A' outer s H->BindsTo s fd args (prs.zip us)->cN (V.ref p0::ws) us->Same G H->RackIn X.K ad A G H p0 r dx d l1 l2->aJ X.K ad G ds ws->ds.length=n->
  PinsOk P0 ps (cs++pl) s.heap H (frs outer)->TbD P0 q ps0 ps cs pl->RMK X.K ad A G H p0 dx d l1 l2 (M r ds) Q (λ_ _=>False)->
  codeAny (model X.prog X.w) A' (.call (.ref fa) args) (λr s'=>∃u v H' ps' cs',r= .ok (.ret u)/\s'.os=s.os/\AllBare s'.gens/\Un (frs outer) [P0] H H' s.heap s'.heap/\HOk X.prog X.w H' s'.heap/\bA v u/\Q v H'/\PinsOk P0 ps' (cs'++pl) s'.heap H' (frs outer)/\TbD P0 q ps0 ps' cs' pl) s
section
variable {X:Cx} {ad:Ad} {A i n k:Nat} {P0 fa:Addr} {q x tn:Str} {ps0:Array Value} {fd:FuncData} {prs:List Str} {M:FM} {fs:List F} {es:List Expr} {p px cp:Pos}
theorem aI0(hD:aIz X ad A n P0 q ps0 k fa fd prs M)(hr:Room k X.A)(hnx: ∀r ds c,M r ds≠ .pure (.ex c))(hg:L2.Gl X tn)(hm:X.mg tn=some (.ref fa))(hdb:(tn==("__debug__":Str))=false)(hk:PySem.W.keepIn X.K (.ref fa)=true)
  (hbd: ∀(s:Shared) (us:List Value),X.K.In s.heap->us.length=n+1->BindsTo s fd ⟨us,[]⟩ (prs.zip us)) (hx:P0∈X.ex) (hstk:X.stack=X.env::X.outer/\X.env.frame=some X.env.locals) (hN:X.N[i]? =some x) (hv:Vis X.env.scope x) (hd:(x==("__debug__":Str))=false) (hcd:(x==("__classdict__":Str))=false) (ha:MA X ad es fs) (hn:fs.length=n)
  (hst:starEach (.Name x px::es) X.env=(false,eval (.Name x px) X.env)::starEach es X.env) (hany:(backTo cp (starEach es X.env)).any (·.1)=false):
  LPE X P0 q ps0 (.Call (.Name tn p) (.Name x px::es) [] cp) (lY X ad A i M fs):=by
 rintro ce ps cs s σ H Q T I ⟨G,ρ,E,r,Z,dx,d,l1,l2,hG,hS,as,h1,hR,hA⟩;refine wpAny_Call_Name_kw (fD I hg hm ?_ hdb);refine PySem.W.callWith_K (h₀:=X.base) I.ok.mod.kin hk (L2.thn (bY (cP hN hv hd hcd) (ha) hst cp _ s σ H (λU H1=>∃ws ds j,U= .ref Z::ws/\Step G H j H1/\aJ X.K ad j ds ws/\ds.length=n/\RMK X.K ad A j H1 Z dx d l1 l2 (M r ds) Q E) I ?_) λus o hz=>?_) hst hany
 ·refine⟨.ref Z,h1,?_⟩;obtain⟨G',L,E',a1,a2,a3,B⟩:=hA;refine⟨G',L,E',a1,a2,a3,?_⟩
  cases e:args fs L with
  |ok a0=>
   rw[e]at B;intro U j H1 st rq;obtain⟨ds,G2,b1,b2,b3,b4⟩:=B U j H1 st rq;exact⟨U,ds,G2,rfl,b1,b2,b3.trans hn,b4⟩
  |ex c=>rw[e]at B;exact B
  |bad=>rw[e]at B;exact B
 ·obtain⟨U,H2,h,r2,ws,ds,j,e1,st,rq,hl,t⟩:=hz;subst e1;refine⟨h.kIn,?_⟩
  have J: ∀b,b≠X.env.locals->b∉X.fs->b∉frs X.stack:=λb n1 n2 z=>by
   rw[hstk.1]at z;unfold frs at z;rw[List.filterMap_cons,hstk.2]at z;rcases av.mp z with y|y
   ·exact n1 y
   ·exact n2 y
  have f:=h.pin (P0,PySem.W.tabObj ps) (bu _ (.head _))
  have pk:PinsOk P0 ps (cs++(X.pn++ce)) o.heap H2 (frs X.stack):=by
   refine⟨f.1,f.2.1,J _ f.2.2.1 f.2.2.2.1,λp a=>?_⟩
   have an:p∈X.pn++pnL P0 ps cs ce:=by
    rcases List.mem_append.mp a with z|z
    ·exact bu _ (.tail _ (List.mem_append_left _ z))
    ·rcases List.mem_append.mp z with z|z
     ·exact List.mem_append_left _ z
     ·exact bu _ (.tail _ (bu _ z))
   have:=h.pin p an
   exact⟨this.1,this.2.1,J _ this.2.2.1 this.2.2.2.1,this.2.2.2.2⟩
  have al:RMK X.K ad A j H2 Z dx d l1 l2 (M r ds) Q (λ_ _=>False):=by
   have:=hnx r ds
   cases em:M r ds with
   |chg y r'=>rw[em]at t;exact t
   |pure y=>
    rw[em]at t
    cases y with
    |ok y=>exact t
    |ow ys=>exact t
    |ex c=>exact absurd em (this c)
    |bad=>exact t
  have lu:us.length=n+1:=by rw[<-r2.length,bt,rq.length,hl]
  refine wpAny_call (codeAny_mono (hD X.A X.stack o j H2 Z dx d l1 l2 r ds ws us ⟨us,[]⟩ ps cs (X.pn++ce) Q hr h.env0 (hbd o us h.kIn lu) r2 st.gh (hR.step st) rq hl pk T al) λar s' ab=>?_)
  obtain⟨u,v,H',ac,C,rfl,os,Y,un,am,rv,qv,m,T'⟩:=ab;obtain⟨hh,g,dr,tk,ap⟩:=s';obtain rfl:ap=o.os:=os;have I3:Inv X [] σ H2 o:=h.pins_of λp a=>by cases a
  have I4:Inv X [] σ H' {o with heap:=hh,gens:=g,drawn:=dr,toks:=tk}:=I3.call (ch:=[P0]) un am Y λb l=>by
   rw[List.mem_singleton.mp l];refine⟨.inl hx,(h.ok.exf P0 hx).1,(h.ok.exf P0 hx).2,λp a=>?_⟩
   rw[List.append_nil]at a;exact T.nP p (List.mem_append_left _ a)
  have S: ∀b,b∉frs X.stack->b≠X.env.locals/\b∉X.fs:=λb l=>by
   rw[hstk.1]at l;unfold frs at l;rw[List.filterMap_cons,hstk.2]at l;exact⟨λz=>l (by rw[z];exact .head _),λz=>l (.tail _ z)⟩
  refine⟨ac,C,T',v,H',I4.pins_of λp a=>?_,rv,qv⟩
  have O: ∀p∈C++(X.pn++ce),hh.get? p.1=some p.2/\H' p.1=none/\p.1≠X.env.locals/\p.1∉X.fs/\∀v,p.2.data≠ .cell v:=λp a=>by
   obtain⟨b1,b2,b3,b4⟩:=m.cs p a;exact⟨b1,b2,(S _ b3).1,(S _ b3).2,b4⟩
  rcases av.mp a with rfl|a
  ·exact⟨m.at_,m.no,(h.ok.exf P0 hx).1,f.2.2.2.1,λv z=>nomatch z⟩
  ·rcases List.mem_append.mp a with z|z
   ·exact O p (List.mem_append_left _ z)
   ·exact O p (bu _ (bu _ z))
end
def aNu(H:Hp)(P0:Addr):Hp:=λb=>if b=P0 then some (.lst [])else H b
theorem p9(h:aNu H P0 b=none):H b=none/\b≠P0:=by
 unfold aNu at h
 by_cases e:b=P0
 ·rw[if_pos e]at h;cases h
 ·rw[if_neg e]at h;exact⟨h,e⟩
theorem aI1(h:H b=none)(n:b≠P0):aNu H P0 b=none:=by
 unfold aNu;rw[if_neg n];exact h
section
variable {P:Program} {w:World} {K:Frag} {mg mb:Str->Option Value} {ad:Ad} {fa a P0 c:Addr} {s₁:Shared} {name qual x:Str} {params:Arguments} {body:List Stmt} {scope:Scope} {dV kV doc pm ct oc:Value} {an od:Option Addr} {osl:Array (Option Value)} {N:List Str}
  {H:Hp} {tn q:Str} {F:R->R} {k n m:Nat} {C:SK.Ctx} {g:FS} {d:D}
end
structure Td where
 dn:Str
 en:Str
 x:Str
 cx:Str
def aQ1(t:Td)(sc:Scope):Bool:=bT (aC sc) [t.dn] sc&&aC sc==[t.dn,t.en]&&sc.names.lookup t.dn==some .local&&sc.names.lookup t.en==some .local&&sc.names.lookup t.x==some .globalImplicit&&sc.names.lookup t.cx==some .globalImplicit&&
 !(t.x==("__debug__":Str))&& !(t.cx==("__debug__":Str))
theorem uQ{F:Fn}: ∀(r:R) (c:Nat),pZ F r≠ .ex c:=λr c z=>by
 unfold pZ at z
 cases r with
 |ok d=>cases z
 |ow a=>cases z
 |bad=>cases z
 |ex b=>
  simp only at z
  split at z<;>cases z
section
variable {P:Program} {w:World} {K:Frag} {mg:Str->Option Value} {base:Heap} {ad:Ad} {k kf:Nat} {x0 qual q1:Str} {st:Stmt} {f fa:Addr} {fd fdx:FuncData} {t:Td} {F:Fn}
def defBody:Stmt->List Stmt
 |.FunctionDef _ _ b _ _ _ _ _ _ _=>b
 |_=>[]
def aQ2:Stmt->Option Scope
 |.FunctionDef _ _ _ _ _ _ sc _ _ _=>some sc
 |_=>none
end
abbrev FR:=Rho->RM
def aKd(A i:Nat)(M:FM)(fs:List F):FR:=λρ=>match(ρ[i]? :Option Slot)with
 |some (.rk C r)=>if C=A then(match args fs ρ with
  |.ok ds=>M r ds
  |.ex c=>.pure (.ex c)
  |.bad=>.pure .bad)else .pure .bad
 |_=>.pure .bad
def ifM(f:F)(g h:FR):FR:=λρ=>match f ρ with
 |.ok (.bl b)=>if b then g ρ else h ρ
 |.ex c=>.pure (.ex c)
 |_=>.pure .bad
def aNv(dE:Expr->Option F)(A:Nat)(ms:List (Str×Nat×FM))(C:SK.Ctx)(e:Expr):Option FR:=match e with
 |.Call f as kws cp=>if kws.isEmpty then(match f with
  |.Attribute o m ap=>if(ap.endLine==cp.line)=true then(cG o).bind λ(x,_)=>(loc C x).bind λi=>(ms.lookup m).bind λ(n,M)=>if as.length<20 then(dR dE as).bind λfs=>if fs.length=n then some (aKd A i M fs)else none else none else none
  |_=>none)else none
 |_=>none
noncomputable def vIf:Expr->Option (Expr×Expr×Expr)
 |.IfExp c a b _=>some (c,a,b)
 |_=>none
def aQ3(dE:Expr->Option F)(A:Nat)(ms:List (Str×Nat×FM))(C:SK.Ctx)(e:Expr):Option FR:=match vIf e with
 |some (c,a,b)=>(dE c).bind λf=>(aNv dE A ms C a).bind λg=>(aNv dE A ms C b).map λh=>ifM f g h
 |none=>aNv dE A ms C e
theorem RMK.step{K:Frag}{ad:Ad}(h:RMK K ad A G H p dx d l1 l2 m Q E)(st:Step G H G1 H1):RMK K ad A G1 H1 p dx d l1 l2 m Q E:=by
 cases m with
 |pure x=>exact RK.step h st
 |chg x r=>
  intro v i l a t f n s;refine h v i l a ⟨st.sg.trans t.sg,t.gh,λb o c e=>t.sh b o c (st.sh _ _ e),λb j g=>?_,λb c=>t.th b λz=>c (st.sh.free z)⟩ f (n.imp id λz=>st.sh.free z) s
  cases q:G1 b with
  |none=>exact st.sh.free (t.nw b q g)
  |some o=>exact st.nw b j (by rw[q];exact λz=>nomatch z)
def tFR(X:Cx)(ad:Ad)(A:Nat)(p0 dx d l1 l2:Addr)(g:FR):TE:=λσ H Q=>∃G ρ E r i,Same G H/\SL X.K ad G H ρ σ/\XP X ad σ E/\ρ[i]? =some (.rk A r)/\σ[i]? =some (some (.ref p0))/\RackIn X.K ad A G H p0 r dx d l1 l2/\(∀(j C:Nat) (r':Rk),ρ[j]? =some (.rk C r')->j=i)/\RMK X.K ad A G H p0 dx d l1 l2 (g ρ) Q E
section
variable {X:Cx} {ad:Ad} {A n:Nat} {ms:List (Str×Nat×FM)} {C:SK.Ctx} {e:Expr} {g:FR} {p0 dx d l1 l2:Addr}
theorem sE(hE:qP ad n)(O:CtxOk X ad C)(RC:RkC X.K A)(MO: ∀m n M,ms.lookup m=some (n,M)->MetOk X ad A m n M)(h:aNv (bN n C) A ms C e=some g):PE X e (tFR X ad A p0 dx d l1 l2 g):=by
 unfold aNv at h;split at h
 ·rename_i f as Y cp;split at h
  ·rename_i hk
   cases List.isEmpty_iff.mp hk
   split at h
   ·rename_i o m ap;split at h
    ·rename_i Z;have l:=zBd h;clear h;obtain⟨⟨x,p⟩,h0,h⟩:=l
     cases bC h0
     have l:=zBd h;clear h;obtain⟨i,h1,h⟩:=l;have l:=zBd h;clear h;obtain⟨⟨n0,M⟩,h2,h⟩:=l;obtain⟨S,v2,v3,v4⟩:=O.vis x i h1
     simp only at h
     split at h
     ·rename_i q;have l:=zBd h;clear h;obtain⟨fs,y,h⟩:=l;split at h
      ·rename_i hn;cases h;obtain⟨ma,v⟩:=nN hE O y
       refine PE.imp (aFj RC (MO m n0 M h2) S v2 v3 v4 ma hn (λa r e=>by
        subst e;exact⟨aK (v a (.head _)),gG λe U=>v e (.tail _ U)⟩) (eQ y).symm (nO v q) Z) λσ H Q hz=>?_
       obtain⟨G,u,E,r,j,L,B,l,N,W,hR,hu,b⟩:=hz;unfold aKd at b;split at b
       ·rename_i J r' t
        by_cases z:J=A
        ·rw[if_pos z]at b
         have T:i=j:=hu i J r' t
         subst T;rw[N]at t;cases t;refine⟨G,u,E,r,p0,dx,d,l1,l2,L,B,l,W,hR,G,u,E,L,B,l,?_⟩
         cases s:args fs u with
         |ok ds=>
          rw[s]at b;exact λvs G1 H1 I rq=>⟨ds,G1,I,rq,gC s,RMK.step b I⟩
         |ex c=>rw[s]at b;exact b
         |bad=>rw[s]at b;exact b
        ·rw[if_neg z]at b;exact b.elim
       ·exact b.elim
      ·cases h
     ·cases h
    ·cases h
   ·cases h
  ·cases h
 ·cases h
theorem aNw(h:vIf e=some (c,a,b)): ∃p,e= .IfExp c a b p:=by
 cases e<;>first|(cases h;exact⟨_,rfl⟩)|(cases h;done)
theorem aI2(hE:qP ad n)(O:CtxOk X ad C)(RC:RkC X.K A)(MO: ∀m n M,ms.lookup m=some (n,M)->MetOk X ad A m n M)(h:aQ3 (bN n C) A ms C e=some g):PE X e (tFR X ad A p0 dx d l1 l2 g):=by
 unfold aQ3 at h;split at h
 ·rename_i c a b W;obtain⟨N,rfl⟩:=aNw W;have o:=zBd h;clear h;obtain⟨f,U,h⟩:=o;have o:=zBd h;clear h;obtain⟨g1,Y,h⟩:=o;obtain⟨T,S,rfl⟩:=zMd h;refine PE.imp (aBn (hE X C _ f O U).2.1 (sE (p0:=p0) (dx:=dx) (d:=d) (l1:=l1) (l2:=l2) hE O RC MO Y) (sE (p0:=p0) (dx:=dx) (d:=d) (l1:=l1) (l2:=l2) hE O RC MO S)) λσ H Q Z=>?_
  obtain⟨G,s,E,r,i,L,t,o,u,x,z,J,j⟩:=Z;unfold ifM at j
  cases p:f s with
  |ok y=>
   rw[p]at j
   cases y<;>try exact ba j
   rename_i k;refine⟨G,s,E,L,t,o,.inl ⟨k,p⟩,?_⟩;rw[p];intro v I H1 q B;unfold Rep at B;subst B;refine⟨k,rfl,?_⟩
   have l:RMK X.K ad A G H p0 dx d l1 l2 (if k=true then g1 s else T s) Q E:=j
   cases k
   ·rw[if_neg bg]at l;exact aBf ⟨I,s,E,r,i,q.gh,t.step q,o,u,x,z.step q,J,RMK.step l q⟩
   ·rw[if_pos rfl]at l;exact wT ⟨I,s,E,r,i,q.gh,t.step q,o,u,x,z.step q,J,RMK.step l q⟩
  |ow ys=>rw[p]at j;exact j.elim
  |ex c=>
   rw[p]at j;refine⟨G,s,E,L,t,o,.inr ⟨c,p⟩,?_⟩;rw[p];exact j
  |bad=>rw[p]at j;exact j.elim
 ·exact sE hE O RC MO h
end
theorem zV{l:List Nat}(h:l.Nodup){i j x:Nat}(a:l[i]? =some x)(b:l[j]? =some x):i=j:=by
 obtain⟨c,a⟩:=ay.mp a;obtain⟨d,b⟩:=ay.mp b;exact(List.getElem_inj h).mp (a.trans b.symm)
structure DidX(X:Cx)(ad:Ad)(C:SK.Ctx)(tn:Str)(F:Fn)(A:Nat)(ms:List (Str×Nat×FM))(P c:Addr)(q:Str)(k:Nat):Prop where
 O:StOk X ad C
 B:ExcK X.K ad
 TB:dY X.prog X.w X.K X.mg X.base ad k C.tab
 FB:fM X.prog X.w X.K X.mg X.base ad k C.fns
 RC:RkC X.K A
 MO: ∀m n M,ms.lookup m=some (n,M)->(m≠"held"/\m≠"done"/\m≠"undone")/\∃f r fd ps,r<=k/\Meth X.K A m f/\FnOk X.prog X.w X.K X.mg X.base (CXe X.prog X.w) r f fd ps (spM X.K ad A n M)/\dW X.K fd ps []
 told: ∃ft fd dn,X.mg tn=some (.ref ft)/\PySem.W.keepIn X.K (.ref ft)=true/\nR X.prog X.w X.K X.mg X.base ad (k+1) ft fd dn F/\∀(s:Shared) (u:Value),X.K.In s.heap->BindsTo s fd ⟨[u],[]⟩ [(dn,u)]
 tdb:(tn==("__debug__":Str))=false
 room:Room (k+2) X.A
 ex:P∈X.ex
 ql:X.env.qual++"<lambda>"=q
 code:X.env.code= .ref c
 hC:PySem.W.CodeHd X.base c P
 hB:X.base.BuiltinsAt X.mg P
def sF(F:Fn)(cap:List Nat)(g:FR):FR:=λρ=>match aFe cap ρ with
 |some sl=>eI F (g sl)
 |none=>.pure .bad
def vY(tn:Str)(F:Fn)(A:Nat)(ms:List (Str×Nat×FM))(C:SK.Ctx):Expr->Option FR
 |.Call (.Name x _) [l] [] _=>if x=tn/\C.sc.names.lookup x=some .globalImplicit then(aQy l).bind λ(ps,body,sc)=>if aDq ps&&zP sc then(dR (λx=>eO C x) (aP sc)).bind λcap=>if cap.contains 0&&decide cap.Nodup then(aQ3 (bN 50 ⟨C.tab,C.fns,sc,aP sc,[]⟩) A ms ⟨C.tab,C.fns,sc,aP sc,[]⟩ body).map λg=>sF F cap g else none else none else none
 |_=>none
def tF0(X:Cx)(ad:Ad)(A:Nat)(p0 dx d l1 l2:Addr)(g:FR):TE:=λσ H Q=>∃G ρ E r,Same G H/\SL X.K ad G H ρ σ/\XP X ad σ E/\ρ[0]? =some (.rk A r)/\σ[0]? =some (some (.ref p0))/\RackIn X.K ad A G H p0 r dx d l1 l2/\(∀(j C:Nat) (r':Rk),ρ[j]? =some (.rk C r')->j=0)/\RMK X.K ad A G H p0 dx d l1 l2 (g ρ) Q E
theorem aI3{K:Frag}{ad:Ad}{F:Fn}(h:RMK K ad A G H p dx d l1 l2 (eI F m) Q E):RMK K ad A G H p dx d l1 l2 (eI F m) Q λ_ _=>False:=by
 cases m with
 |chg x r=>exact h
 |pure r=>
  have a:RK K ad G H (pZ F r) Q E:=h;show RK K ad G H (pZ F r) Q _
  cases e:pZ F r with
  |ok d=>rw[e]at a;exact a
  |ow b=>rw[e]at a;exact a
  |ex c=>exact absurd e (uQ r c)
  |bad=>rw[e]at a;exact a
theorem aNx: ∀{cs:List Nat} {sl:List SK.Slot},aFe cs ρ=some sl->∀(i:Nat) (s:SK.Slot),sl[i]? =some s->∃j,cs[i]? =some j/\ρ[j]? =some s:=by
 intro cs sl h i s e
 have b:dR (λi=>sC ρ[i]?) cs=some sl:=h
 induction cs generalizing sl i with
 |nil=>cases b;cases e
 |cons c cs m=>
  unfold dR at b
  cases a:sC ρ[c]? with
  |none=>rw[a]at b;cases b
  |some y=>
   rw[a]at b;obtain⟨l,d,g⟩:=zMd b;subst g
   cases i with
   |zero=>
    cases e;refine⟨c,rfl,?_⟩
    cases f:ρ[c]? with
    |none=>rw[f]at a;cases a
    |some z=>rw[f]at a;cases z<;>first|(cases a;rfl)|(cases a;done)
   |succ i=>exact m (sl:=l) (i:=i) d e d
theorem aNy: ∀{cs:List Nat} {sl:List SK.Slot},aFe cs ρ=some sl->∀(i j:Nat),cs[i]? =some j->∃s,sl[i]? =some s/\ρ[j]? =some s:=by
 intro cs sl h i j e;obtain⟨b,g,d⟩:=sD (f:=λi=>sC ρ[i]?) h i j e
 refine⟨b,g,?_⟩
 have a:sC ρ[j]? =some b:=d
 cases c:ρ[j]? with
 |none=>rw[c]at a;cases a
 |some z=>rw[c]at a;cases z<;>first|(cases a;rfl)|(cases a;done)
section
variable {X:Cx} {ad:Ad} {C:SK.Ctx} {tn q:Str} {F:Fn} {A:Nat} {ms:List (Str×Nat×FM)} {P c:Addr} {k:Nat} {ps0:Array Value} {e:Expr} {g:FR} {p0 dx d l1 l2:Addr}
theorem uR(L:DidX X ad C tn F A ms P c q k)(h:vY tn F A ms C e=some g):LPE X P q ps0 e (tF0 X ad A p0 dx d l1 l2 g):=by
 unfold vY at h;split at h
 ·rename_i x p l cp;split at h
  ·rename_i y;obtain⟨rfl,a0⟩:=y;have y:=zBd h;clear h;obtain⟨⟨ps,a4,sc⟩,h0,h⟩:=y;obtain⟨lp,rfl⟩:=aIu h0
   simp only at h
   split at h
   ·rename_i hp;rw[aw]at hp;obtain⟨ap,ac⟩:=hp
    cases aDr ap
    have y:=zBd h;clear h;obtain⟨cap,b,h⟩:=y;split at h
    ·rename_i z;rw[aw,decide_eq_true_eq]at z;obtain⟨fb,ar,rfl⟩:=zMd h;rintro ce ps cs s σ H Q T I ⟨G,ρ,E,r,hG,hS,y,er,es,hR,hu,u⟩;obtain⟨ft,fd,dn,t1,t2,t3,t4⟩:=L.told
     have hC:PySem.W.CodeHd s.heap c P:=by
      obtain⟨o,vs,U,tf,J,tg,a1,Z,tt,e1,r⟩:=L.hC;exact⟨o,vs,U,tf,J,tg,a1,Z,tt,(I.bs _ _ e1).1,r⟩
     have hB:s.heap.BuiltinsAt X.mg P:=by
      obtain⟨bm,o,b1,b2,b3,b4,b5,r⟩:=L.hB;exact⟨bm,o,b1,b2,b3,b4,(I.bs _ _ b5).1,r⟩
     unfold sF at u
     cases t:aFe cap ρ with
     |none=>rw[t]at u;exact u.elim
     |some S=>
      rw[t]at u;have a2:RMK X.K ad A G H p0 dx d l1 l2 (eI F (fb S)) Q E:=u
      obtain⟨v,ei⟩: ∃v,cap[v]? =some 0:=by
       have m0:0∈cap:=by simpa using z.1
       exact List.mem_iff_getElem?.mp m0
      refine aDf (k:=k) (F:=F) (cap:=cap) (dn:=dn) (fd:=fd) (ad:=ad) (ds:=S) (Φ:=λG H Q E=>RMK X.K ad A G H p0 dx d l1 l2 (fb S) Q E) (tb:=λY=>tFR Y ad A p0 dx d l1 l2 fb) L.O.fn (L.O.cx.gk _ a0) t1 L.tdb t2 t3 L.room t4 L.ex rfl L.ql (λx y=>?_) L.code hC hB (p8 ac).1 (λ_ _ _ _=>rfl) (eQ b) (λi x hi=>?_) (λa cd cl A' as s H E u=>?_) T I hG hS t (λY vs G1 H1 Q1 E1 yk al an st1 ak am a3=>?_) (aM7 (aI3 a2))
      ·obtain⟨j,e1⟩:=nE b x (nF y);exact L.O.cx.cap x j e1
      ·obtain⟨j,e1,e2⟩:=sD b i x hi;refine⟨j,e1,?_,L.O.cx.cap x j e2⟩;rw[L.O.cx.N];exact fI (d7 e2).1
      ·exact aI2 (dD (ad:=ad) 50).1 (aS3 L.B L.TB L.FB ac u) L.RC (λm n M hm=>let ⟨no,f,r,fd,ps,h1,h2,h3,h4⟩:=L.MO m n M hm;⟨no,f,r,fd,ps,h2,h3,u.mono h1,h4⟩) ar
      ·obtain⟨a5,z1,z2⟩:=aNy t v 0 ei;rw[er]at z2;cases z2
       have lv:(vs.map some).length=S.length:=ak.len.symm
       obtain⟨v0,ev⟩: ∃v0,vs[v]? =some v0:=by
        have ab:v<S.length:=(ay.mp z1).1;rw[<-lv,aq]at ab;exact⟨vs[v],bf ab⟩
       have e0:=am v 0 v0 ei ev;rw[es]at e0;cases e0;have Tx:=al;refine⟨G1,S,(λc H'=>E1 (.ref (ad.cls c)) none H'),r,v,an,by rw[yk];exact ak,yD al,z1,by rw[List.getElem?_map,ev];rfl,by rw[yk];exact hR.step st1,λj C' r' ej=>?_,by rw[yk];exact a3⟩
       obtain⟨j2,b1,b2⟩:=aNx t j _ ej
       have:=hu j2 C' r' b2
       subst this;exact zV z.2 b1 ei
    ·cases h
   ·cases h
  ·cases h
 ·cases h
end
theorem StOk.P{ad:Ad}(O:StOk X ad C):StOk (cxP P0 X) ad C:=by
 refine⟨⟨O.cx.N,O.cx.nd,O.cx.vis,O.cx.gk,λx g e=>⟨(O.cx.gt x g e).1,?_⟩,O.cx.cap,O.cx.calm,O.cx.un,O.cx.hd,O.cx.exc,O.cx.kin,O.cx.kve,λj n F e=>?_⟩,O.fn,O.sc,O.lc,O.exm,O.exi⟩
 ·have h:=(O.cx.gt x g e).2
  cases g with
  |fn k n f=>obtain⟨r,l,⟨i,a,b⟩,q⟩:=h;exact⟨r,l,⟨i,a,b⟩,q⟩
  |cls A t=>obtain⟨i,a,b⟩:=h;exact⟨i,a,λm n M s=>let ⟨no,f,r,fd,ps,z1,z2,z3,z4⟩:=b m n M s;⟨no,f,r,fd,ps,z1,z2,z3,z4⟩⟩
  |exc c=>exact h
  |verr=>exact h
  |val d=>exact h
  |tbl o=>exact h
  |py p=>exact h
 ·obtain⟨r,⟨i,a⟩,b⟩:=O.cx.fnv j n F e;exact⟨r,⟨i,a⟩,b⟩
section
variable {P:Program} {w:World} {K:Frag} {mg:Str->Option Value} {base:Heap} {ad:Ad} {k:Nat} {tab:List (Str×SK.Gl)} {fns:List (Nat×Fn)} {sc:Scope} {qual x tn:Str} {fa P0 c:Addr} {s₁:Shared} {H:Hp} {F:R->R} {bs:List Str}
end
def aNz:Stmt->Option Expr
 |.Return v _=>v
 |_=>none
noncomputable def aO7:Stmt->Option (Expr×List Stmt×List Stmt)
 |.If c a b _=>some (c,a,b)
 |_=>none
def dSs(tn:Str)(F:Fn)(A:Nat)(ms:List (Str×Nat×FM))(C:SK.Ctx):List Stmt->Option FR
 |[]=>none
 |s::dU=>match dU with
  |[]=>(aNz s).bind λe=>vY tn F A ms C e
  |_::_=>(aO7 s).bind λ(c,a,b)=>if b.isEmpty then(aLm a).bind λs1=>(aNz s1).bind λe=>(bN 50 C c).bind λf=>(vY tn F A ms C e).bind λg=>(dSs tn F A ms C dU).map λh=>ifM f g h else none
theorem zW(h:aNz s=some e): ∃p,s= .Return (some e) p:=by
 cases s<;>first|(cases h;exact⟨_,rfl⟩)|(cases h;done)
theorem zX(h:aO7 s=some (c,a,b)): ∃p,s= .If c a b p:=by
 cases s<;>first|(cases h;exact⟨_,rfl⟩)|(cases h;done)
section
variable {X:Cx} {ad:Ad} {C:SK.Ctx} {tn q:Str} {F:Fn} {A:Nat} {ms:List (Str×Nat×FM)} {P c:Addr} {k:Nat} {ps0:Array Value} {e:Expr} {g:FR} {p0 dx d l1 l2:Addr} {pos:Pos} {t:TE}
theorem zY(he:LPE X P q ps0 e t):LPS X P q ps0 (.Return (some e) pos) λD σ H=>t σ H D.rt:=by
 intro f c d s σ H D T I h;exact wpAny_Return_some (L2.thn (he f c d s σ H D.rt T I h) λu m ⟨b,a,g,v,i,j,l,q⟩=>⟨b,a,g,v,σ,i,j,l,q⟩)
theorem aFo(L:DidX X ad C tn F A ms P c q k): ∀{sts:List Stmt} {g:FR},dSs tn F A ms C sts=some g->qR X P q ps0 sts λD σ H=>tF0 X ad A p0 dx d l1 l2 g σ H D.rt
 |[],_,h=>by cases h
 |[s],g,h=>by
  have i:=zBd (show(aNz s).bind (λe=>vY tn F A ms C e)=some g from h)
  obtain⟨e,B,z⟩:=i;obtain⟨x,rfl⟩:=zW B;exact iK (u:=aBo) (zY (uR L z)) (nQ j4)
 |s::s2::dU,g,h=>by
  have i:=zBd (show(aO7 s).bind (λ(c,a,b)=>if b.isEmpty then(aLm a).bind λT=>(aNz T).bind λe=>(bN 50 C c).bind λf=>(vY tn F A ms C e).bind λg=>(dSs tn F A ms C (s2::dU)).map λh=>ifM f g h else none)=some g from h)
  clear h;obtain⟨⟨cd,a,b⟩,B,h⟩:=i;obtain⟨x,rfl⟩:=zX B
  simp only at h
  split at h
  ·rename_i hb
   cases List.isEmpty_iff.mp hb
   have i:=zBd h;clear h;obtain⟨T,z,h⟩:=i
   cases aDd z
   have i:=zBd h;clear h;obtain⟨e,Y,h⟩:=i;obtain⟨rp,rfl⟩:=zW Y;have i:=zBd h;clear h;obtain⟨f,W,h⟩:=i;have i:=zBd h;clear h;obtain⟨g1,h5,h⟩:=i;obtain⟨Z,h6,rfl⟩:=zMd h;have ih:=aFo L h6;refine qR.imp (iK (aNe ((dD (ad:=ad) 50).1 X C _ f L.O.cx W).2.1 (iK (u:=aBo) (zY (uR (p0:=p0) (dx:=dx) (d:=d) (l1:=l1) (l2:=l2) L h5)) (nQ j4)) (nQ j4)) ih) λD σ H hz=>?_
   obtain⟨G,o,E,r,U,p,i,M,N,Q,J,j⟩:=hz;unfold ifM at j
   cases m:f o with
   |ok y=>
    rw[m]at j
    cases y<;>try exact ba j
    rename_i t;refine⟨G,o,E,U,p,i,.inl ⟨t,m⟩,?_⟩;rw[m];intro v I H1 n S;unfold Rep at S;subst S;refine⟨t,rfl,?_⟩
    have l:RMK X.K ad A G H p0 dx d l1 l2 (if t=true then g1 o else Z o) D.rt E:=j
    cases t
    ·rw[if_neg bg]at l;exact aBf ⟨I,o,E,r,n.gh,p.step n,i,M,N,Q.step n,J,RMK.step l n⟩
    ·rw[if_pos rfl]at l;exact wT ⟨I,o,E,r,n.gh,p.step n,i,M,N,Q.step n,J,RMK.step l n⟩
   |ow ys=>rw[m]at j;exact j.elim
   |ex c=>
    rw[m]at j;refine⟨G,o,E,U,p,i,.inr ⟨c,m⟩,?_⟩;rw[m];exact j
   |bad=>rw[m]at j;exact j.elim
  ·cases h
end
def aI4(A N:Nat)(g:FR):FM:=λr ds=>g (.rk A r::(ds.map Slot.sh++ao (N-(ds.length+1)) .no))
section
variable {X:Cx} {ad:Ad} {tab:List (Str×SK.Gl)} {fns:List (Nat×Fn)} {sc:Scope} {qual name tn self:Str} {prs:List Str} {F:Fn} {A k:Nat} {ms:List (Str×Nat×FM)} {fa P0 c:Addr} {params:Arguments} {body:List Stmt} {dV kV doc pm ct oc:Value} {an od:Option Addr} {osl:Array (Option Value)} {ps0:Array Value} {g:FR}
theorem aN0(B:ExcK X.K ad)(TB:dY X.prog X.w X.K X.mg X.base ad k tab)(FB:fM X.prog X.w X.K X.mg X.base ad k fns)(RC:RkC X.K A)
  (MO: ∀m n M,ms.lookup m=some (n,M)->(m≠"held"/\m≠"done"/\m≠"undone")/\∃f r fd ps,r<=k/\Meth X.K A m f/\FnOk X.prog X.w X.K X.mg X.base (CXe X.prog X.w) r f fd ps (spM X.K ad A n M)/\dW X.K fd ps [])
  (told: ∃ft fd dn,X.mg tn=some (.ref ft)/\PySem.W.keepIn X.K (.ref ft)=true/\nR X.prog X.w X.K X.mg X.base ad (k+1) ft fd dn F/\∀(s:Shared) (u:Value),X.K.In s.heap->BindsTo s fd ⟨[u],[]⟩ [(dn,u)]) (tdb:(tn==("__debug__":Str))=false)
  (hC:PySem.W.CodeHd X.base c P0) (hB:X.base.BuiltinsAt X.mg P0) (hbP:X.base.get? P0=none)
  (lk:X.K.lookup fa=some ⟨oc,od,.func (PySem.W.fnOf name qual params body sc dV kV doc pm an (.ref c) ct),osl⟩) (hcd:PySem.W.codeIn X.K (.ref c) qual=true) (hs:bT (aC sc) (self::prs) sc=true)
  (hd:dSs tn F A ms ⟨tab,fns,sc,aC sc,[]⟩ body=some g):
  aIz X ad A prs.length P0 ((envOfC qual sc 0 fa (.ref c)).qual++"<lambda>") ps0 (k+3) fa (PySem.W.fnOf name qual params body sc dV kV doc pm an (.ref c) ct) (self::prs) (aI4 A (aC sc).length g):=by
 intro p a s G H p0 dx d l1 l2 r b i us args ps cs pl Q x N l O y v t E pk T hq;have S:=(cH hs).1;have h:Room (k+2) (p.deeper (envOfC qual sc s.heap.objs.size fa (.ref c))):=x.deeper _
 have L:DidX (cxP P0 (jP (CXe X.prog X.w) X.prog X.w X.K X.mg X.base (aC sc) qual sc fa (.ref c) p a s H λ_ _ _=>False)) ad ⟨tab,fns,sc,aC sc,[]⟩ tn F A ms P0 c ((envOfC qual sc 0 fa (.ref c)).qual++"<lambda>") k:=
  ⟨(sB B TB FB hs (h.mono (by lia))).P,B,TB,FB,RC,MO,told,tdb,h,.head _,rfl,rfl,hC,hB⟩
 have q:i.length=prs.length:=by rw[t.length,E]
 refine aDu (k:=k+2) lk hcd S x N l (by rw[bt,bt,q]) O pk T hbP (aFo (ps0:=ps0) (p0:=p0) (dx:=dx) (d:=d) (l1:=l1) (l2:=l2) L hd) ?_
 have U:=iJ (X:=cxP P0 (jP (CXe X.prog X.w) X.prog X.w X.K X.mg X.base (aC sc) qual sc fa (.ref c) p a s H λ_ _ _=>False)) (ad:=ad) (n:=(aC sc).length-(b.length+1)) y t
 have o:L2.start (aC sc) (V.ref p0::i)=some (V.ref p0)::(i.map some++ao ((aC sc).length-(b.length+1)) none):=by
  unfold L2.start;rw[bt,t.length];rfl
 rw[o];have Y:SL X.K ad G H (b.map SK.Slot.sh++ao ((aC sc).length-(b.length+1)) SK.Slot.no) (i.map some++ao ((aC sc).length-(b.length+1)) none):=U.sl;refine⟨G,SK.Slot.rk A r::(b.map SK.Slot.sh++ao ((aC sc).length-(b.length+1)) SK.Slot.no),λ_ _=>False,r,y,SL.cons (s:=.rk A r) (ov:=some (.ref p0)) Y ⟨p0,dx,d,l1,l2,rfl,v⟩,?_,rfl,rfl,v,λj C' Z C=>?_,hq⟩
 ·exact λce H s e s' _ J=>by
   obtain⟨_,_,_,_,_,_,_,_,_,_,_,_,_,_,_,_,z⟩:=J;exact z.elim
 ·cases j with
  |zero=>rfl
  |succ j=>
   have I:(b.map Slot.sh++ao ((aC sc).length-(b.length+1)) Slot.no)[j]? =some (.rk C' Z):=C
   have m:=List.mem_of_getElem? I;rcases List.mem_append.mp m with m|m
   ·obtain⟨d',_,z⟩:=au.mp m;cases z
   ·cases (List.mem_replicate.mp m).2
end
section
variable {P:Program} {w:World} {K:Frag} {mg:Str->Option Value} {base:Heap} {ad:Ad} {k kf:Nat} {x0 qual q1:Str} {st:Stmt} {f fa:Addr} {fd fdx:FuncData} {t:Td} {F:Fn}
theorem aDv(Fu:Fun K x0 qual st f fd)(hb: ∃cp xp ep ap hp' rq np dp rp tp,defBody st=[jW t.dn t.en t.x t.cx cp xp ep ap hp' rq np dp rp tp])(hs:(aQ2 st).map (aQ1 t)=some true)(hmx:mg t.x=some (.ref fa))(hkx:PySem.W.keepIn K (.ref fa)=true)
  (hfx:FnOkQ P w K mg base (CXe P w) kf fa fdx [q1] (vJ K ad 1 F)) (hbx:dW K fdx [q1] []) (hkf:kf<=k) (hmc:mg t.cx=some (.ref (ad.cls 0))) (B:ExcK K ad):nR P w K mg base ad k f fd t.dn F:=by
 obtain⟨oc,od,kV,Y,pm,an,u,ct,v,rfl,lk,n⟩:=Fu.ex
 cases st with
 |FunctionDef nm as b dl re tp i ts bi q=>
  obtain⟨cp,xp,ep,ap,hp',rq,np,dp,rp,C,hb⟩:=hb
  cases (show b=_ from hb)
  have h:aQ1 t i=true:=Option.some.inj hs
  unfold aQ1 at h;simp only[aw,Bool.not_eq_true']at h;obtain⟨⟨⟨⟨⟨⟨⟨L,r⟩,s3⟩,z⟩,J⟩,T⟩,O⟩,I⟩:=h
  have c:aC i=[t.dn,t.en]:=by simpa using r
  obtain⟨S,d⟩:=cH L;intro A m s G H a Φ Q E args M y j l _ _ g U Z;have p:t.dn∈aC i:=by rw[c];simp
  have o:t.en∈aC i:=by rw[c];simp
  exact zE (N:=aC i) lk n S (by rw[c];rfl) (by rw[c];rfl) (bX s3) (bX z) (d _ p).1 (d _ p).2 (d _ o).1 (d _ o).2 hmx O hkx hfx hbx hkf hmc I B.exm (λX e=>by show X.env.scope.names.lookup _=_;rw[e];exact bX J) (λX e=>by show X.env.scope.names.lookup _=_;rw[e];exact bX T) M y j l g U Z
 |_=>cases hs
end
section
variable {X:Cx} {P:Addr} {q:Str} {ps0:Array Value} {ad:Ad} {Z:(St->Nat->Hp->Prop)->Prop} {A i:Nat} {M:FM} {f g:F} {fs:List F} {gs hs:FS} {a b e:Expr} {sa sb:List Stmt} {pos:Pos} {c c1 c2:FC} {op:CmpOp}
theorem aDw(hu:X.A.units+62<cLine)(ha:LPE X P q ps0 a (lY X ad A i M fs))(hb:ME X ad b g)(hm:behindInMarks op b=false):LPT X P q ps0 (.Compare a [op] [b] pos) (tTx X ad Z (g9 A i M fs op g)):=by
 intro J p B s f H Q T I h;have d:=aFm h;unfold tOp at d
 refine wpAny_isTrue_Compare1 (L2.thn (ha J p B s f H _ T I d) λv C ⟨l,j,K,x,N,U,r,m⟩=>L2.thn (hb _ C f N _ U m) λu E ⟨y,S,o,n,L⟩=>
  L2.thn (zL hu _ E f S x y v u _ o r n L) λc Y ⟨z,O,t,W,k,e,G⟩=>?_) hm
 subst e;cases W;exact wpAny_truthy_bool ⟨l,j,K,O,t,G⟩
theorem aDx(h:LPT X P q ps0 e (tTx X ad Z c)):LPW X P q ps0 (.BoolOp .Or [e] pos) (tTx X ad Z c):=aIs h
theorem aI5(ha:LPT X P q ps0 a (tTx X ad Z c1))(hb:LPW X P q ps0 (.BoolOp .Or (b::r) pos) (tTx X ad Z c2)):LPW X P q ps0 (.BoolOp .Or (a::b::r) pos) (tTx X ad Z (cOr c1 c2)):=by
 rintro n t l m s p H Q T I ⟨d,G,j,g,E,k,S,h,o,i⟩;refine aNq ha hb n t l m s p H Q T I ?_;refine⟨d,G,j,g,E,λb c=>if b then k true c else c2 c k,S,h,o,λb c e u f ok=>?_⟩
 cases b
 ·exact aBf ⟨d,e,c,g,E,k,f,h,ok,i⟩
 ·exact wT (i true c e u f ok)
theorem aI6(hc:LPT X P q ps0 e (tTx X ad Z c))(ha:aIr X P q ps0 ad Z sa gs)(hb:aIr X P q ps0 ad Z sb hs):LMS X P q ps0 ad Z (.If e sa sb pos) (aFk c gs hs):=by
 refine LPS.imp (aIt hc ha hb) ?_;rintro j m H ⟨a,G,l,E,S,f,i⟩;refine⟨a,G,l,j,E,λb d=>if b then gs d else hs d,S,f,i,λb d g n h ok=>?_⟩
 cases b
 ·exact aBf ⟨a,g,d,E,h,f,ok⟩
 ·exact wT ⟨a,g,d,E,h,f,ok⟩
end
def uS(i j A:Nat)(e:F):FS:=λρ=>eY ρ (e ρ) λd=>.nx ((ρ.set i (.rk A ⟨[],[],[]⟩)).set j (.sh d))
section
variable {X:Cx} {ad:Ad} {Z:(St->Nat->Hp->Prop)->Prop} {C:SK.Ctx} {A:Addr}
theorem aDy{i j kt k2:Nat}(O:StOk X ad C)(MK:MkOk X ad A)(ha:ME X ad a fa)(sa:fL a)(hi:loc C x=some i)(hj:loc C y=some j)(hg:L2.Gl X z)(hm:X.mg z=some (.ref A))(hdb:(z==("__debug__":Str))=false)(hw:swappedStores [.Tuple [.Name x px,.Name y py] kt pt] (.Tuple [.Call (.Name z np) [] [] cp,a] k2 pt2) X.env=pure none):
  MS X ad Z (.Assign [.Tuple [.Name x px,.Name y py] kt pt] (.Tuple [.Call (.Name z np) [] [] cp,a] k2 pt2) pos) (uS i j A fa):=by
 obtain⟨f,k,fd,ps,M,F,B,hb⟩:=MK.ok
 have h:dR (λx=>loc C x) [x,y]=some [i,j]:=by simp[dR,hi,hj]
 obtain⟨P,_⟩:=aHh (tg:=.Tuple [.Name x px,.Name y py] kt pt) (xs:=[x,y]) (k:=2) O.cx.calm O.cx.nd rfl (O.nms h);refine PS.imp (wK (aEh (bY (λK s q H Q I hq=>aBt (E:=λ_ _ _=>False) M F B hg hm hb .nil (λK q H s e s' I l=>by obtain⟨_,_,_,_,_,_,_,_,_,_,_,_,_,_,z⟩:=l;exact z.elim) hdb K s q H Q I hq) (bY ha dZ (aK sa)) rfl)) P rfl hw rfl) ?_
 rintro D' q H ⟨J,G,ρ,E,S,hx,B⟩;intro p m np g u;refine⟨p,m,G,rfl,?_,S.st.gh.free np,S.st.gh.free g,u,aF,by rw[aB u,aF],λd0 l1 l2 L nd W T U hk=>⟨rfl,?_⟩⟩
 ·exact S.st.gh.trans ((Same.upd_new g).trans (Same.upd_new (by rw[aB (Ne.symm u)];exact np)))
 ·have back: ∀{c:Addr},upd (upd H m (.own p)) p (.ins A m []) c=none->H c=none:=λ{c} l=>by
   by_cases z:c=p
   ·rw[z];exact np
   ·by_cases N:c=m
    ·rw[N];exact g
    ·rw[aB z,aB N]at l;exact l
  have n:Same H L:=λb o e=>hk b o (aM e np) (by rw[aB (aM e np),aB (aM e g)];exact e)
  have st0:Step G H G L:=⟨Same.refl _,S.st.gh.trans n,n,λb Y h2=>absurd Y h2⟩
  have S2:=S.setR (i:=i) n U (λa ha=>by
   simp only[av,List.not_mem_nil,or_false]at ha;rcases ha with z|z|z|z|z
   ·rw[z];exact np
   ·rw[z];exact g
   ·rw[z];exact back nd
   ·rw[z];exact back W
   ·rw[z];exact back T) (S.st.gh.trans n)
  refine fU (S.step st0) hx B λv d G1 H1 st1 r kk=>?_
  refine⟨show 2<=sizeLine by decide,λt nt=>?_⟩
  refine⟨t,[.ref p,v],rfl,SqT.of aF,rfl,tV rfl ?_⟩;have S3:=(S2.step st1).step (Step.own (o:=.tup [.ref p,v]) st1.gh nt);exact kk _ G1 _ (S3.set r)
end
structure GCl where
 g:Str
 gp:Pos
 x:Str
 xp:Pos
 as:List Expr
 cp:Pos
def aQ4(e:Expr):Option GCl:=match e with
 |.Call f as kws cp=>if kws.isEmpty then(cG f).bind λ(g,gp)=>(match as with
  |[]=>none
  |a::r=>(cG a).map λ(x,xp)=>⟨g,gp,x,xp,r,cp⟩)else none
 |_=>none
theorem aI7(h:aQ4 e=some c):e= .Call (.Name c.g c.gp) (.Name c.x c.xp::c.as) [] c.cp:=by
 unfold aQ4 at h;split at h
 ·split at h
  ·rename_i hk
   cases List.isEmpty_iff.mp hk
   have d:=zBd h;clear h;obtain⟨⟨g,gp⟩,b,h⟩:=d
   cases bC b
   simp only at h
   split at h
   ·cases h
   ·obtain⟨⟨x,xp⟩,a,rfl⟩:=zMd h
    cases bC a
    rfl
  ·cases h
 ·cases h
abbrev GMs:=List (Str×Nat×FM)
def rdG(gms:GMs)(A:Nat)(C:SK.Ctx)(e:Expr):Option MRd:=(aQ4 e).bind λc=>(gms.lookup c.g).bind λ(n,M)=>if C.sc.names.lookup c.g=some .globalImplicit then(loc C c.x).bind λi=>(dR (bN 50 C) c.as).bind λfs=>if fs.length=n then some ⟨A,i,M,fs⟩ else none else none
def aR3(gms:GMs)(A:Nat)(C:SK.Ctx):Expr->Option (MRd×CmpOp×F)
 |.Compare a [op] [b] _=>(rdG gms A C a).bind λr=>(bN 50 C b).map λg=>(r,op,g)
 |_=>none
def uT(gms:GMs)(A:Nat)(C:SK.Ctx)(e:Expr):Option FC:=match aR3 gms A C e with
 |some z=>some (cOf z)
 |none=>zS C e
def orG(gms:GMs)(A:Nat)(C:SK.Ctx):List Expr->Option FC
 |[]=>none
 |[a]=>uT gms A C a
 |a::b::r=>(uT gms A C a).bind λc1=>(orG gms A C (b::r)).map λc2=>cOr c1 c2
def vOr:Expr->Option (List Expr)
 |.BoolOp op es _=>(match op with|.Or=>some es|_=>none)
 |_=>none
def aI8(st:Stmt):Option PRd:=(aO6 st).bind λ(t,e)=>(aGe t).bind λ(es,_)=>(aLl es e).bind λq=>(uP q.a).map λz=>⟨q.x,q.y,q.b,z⟩
theorem aDz{st:Stmt}(h:aI8 st=some q): ∃px py kt pt np cp k2 pt2 pos,st= .Assign [.Tuple [.Name q.x px,.Name q.y py] kt pt] (.Tuple [.Call (.Name q.z np) [] [] cp,q.a] k2 pt2) pos:=by
 unfold aI8 at h;obtain⟨⟨t,e⟩,i,h⟩:=zBd h;obtain⟨⟨j,k,l⟩,b,h⟩:=zBd h;obtain⟨r,d,h⟩:=zBd h;obtain⟨z,c,rfl⟩:=zMd h;obtain⟨pos,rfl⟩:=aIw i;obtain⟨np,cp,g⟩:=zT c
 cases yZ b
 obtain⟨k2,f,rfl,rfl⟩:=zB d;exact⟨_,_,_,_,np,cp,_,_,_,by rw[<-g]⟩
def aR4(C:SK.Ctx)(q:PRd):Option FS:=if q.z=("Rack":Str)/\C.sc.names.lookup q.z=some .globalImplicit/\kH C q.x q.y=true then(rkc C).bind λ(A,_)=>(loc C q.x).bind λi=>(loc C q.y).bind λj=>(bN 50 C q.a).map λf=>uS i j A f else none
mutual
def gS:Nat->GMs->Nat->SK.Ctx->Stmt->Option FS
 |0,_,_,_,_=>none
 |n+1,gms,A,C,st=>match aI8 st with
  |some q=>aR4 C q
  |none=>match aO7 st with
   |some (c,a,b)=>(match vOr c with
    |some es=>(orG gms A C es).bind λt=>(gSs n gms A C a).bind λg=>(gSs n gms A C b).map λh=>aFk t g h
    |none=>aBk 50 true C st)
   |none=>match st with
    |.For tg it b [] _=>(bZ tg).bind λ(xs,k)=>(aEl 50 C false it).bind λf=>(dR (λx=>loc C x) xs).bind λis=>if(cG it).isNone then(gSs n gms A C b).map λg=>vH is (k==0) f g else(bN 50 C it).bind λf=>(gSs n gms A C b).map λg=>vH is (k==0) f g
    |st=>aBk 50 true C st
def gSs:Nat->GMs->Nat->SK.Ctx->List Stmt->Option FS
 |0,_,_,_,_=>none
 |n+1,gms,A,C,l=>match l with
  |[]=>some a9
  |st::r=>(gS n gms A C st).bind λg=>(gSs n gms A C r).map λh=>bL g h
end
structure LawG(X:Cx)(ad:Ad)(C:SK.Ctx)(gms:GMs)(A:Nat)(P:Addr)(q:Str)(ps0:Array Value):Prop where
 O:StOk X ad C
 pass:PassesOwn (model X.prog X.w) X.A X.env X.xe
 made: ∀A ms,C.tab.lookup ("Rack":Str)=some (SK.Gl.cls A ms)->MkOk X ad A
 gm: ∀g n M,gms.lookup g=some (n,M)->C.sc.names.lookup g=some .globalImplicit->∀(i:Nat) (x:Str) (gp xp cp:Pos) (es:List Expr) (fs:List F),loc C x=some i->MA X ad es fs->fs.length=n->(∀e∈es,fL e)->LPE X P q ps0 (.Call (.Name g gp) (.Name x xp::es) [] cp) (lY X ad A i M fs)
section
variable {X:Cx} {ad:Ad} {C:SK.Ctx} {gms:GMs} {A:Nat} {q:Str} {P:Addr} {ps0:Array Value} {e:Expr} {Z:(St->Nat->Hp->Prop)->Prop}
theorem aN1(L:LawG X ad C gms A P q ps0)(h:rdG gms A C e=some r):LPE X P q ps0 e (lY X ad r.A r.i r.M r.fs):=by
 unfold rdG at h;have a:=zBd h;clear h;obtain⟨c,g,h⟩:=a;rw[aI7 g];have a:=zBd h;clear h;obtain⟨⟨n,M⟩,d,h⟩:=a
 simp only at h
 split at h
 ·rename_i b;have a:=zBd h;clear h;obtain⟨i,o,h⟩:=a;have a:=zBd h;clear h;obtain⟨fs,m,h⟩:=a;split at h
  ·rename_i j;cases h;obtain⟨l,f⟩:=nN (dD (ad:=ad) 50).1 L.O.cx m;exact L.gm _ _ _ d b i _ _ _ _ _ fs o l j f
  ·cases h
 ·cases h
theorem qA(L:LawG X ad C gms A P q ps0)(h:uT gms A C e=some c):LPT X P q ps0 e (tTx X ad Z c):=by
 unfold uT at h;split at h
 ·rename_i z a;cases h;unfold aR3 at a;split at a
  ·obtain⟨r,d,a⟩:=zBd a;obtain⟨g,b,rfl⟩:=zMd a;exact aDw L.O.cx.un (aN1 L d) ((dD (ad:=ad) 50).1 X C _ _ L.O.cx b).1 (dI (aL b).2.1)
  ·cases a
 ·exact aNp (aDt L.O h)
theorem aFp(L:LawG X ad C gms A P q ps0){pos:Pos}: ∀{es:List Expr} {c:FC},orG gms A C es=some c->LPW X P q ps0 (.BoolOp .Or es pos) (tTx X ad Z c)
 |[],c,h=>by cases h
 |[a],c,h=>aDx (qA L h)
 |a::b::r,c,h=>by
  unfold orG at h;obtain⟨g,e,h⟩:=zBd h;obtain⟨f,d,rfl⟩:=zMd h;exact aI5 (qA L e) (aFp L d)
theorem aN2(h:vOr e=some es): ∃p,e= .BoolOp .Or es p:=by
 unfold vOr at h;split at h
 ·split at h
  ·cases h;exact⟨_,rfl⟩
  ·cases h
 ·cases h
theorem aN3{E₀:XK}(L:LawG X ad C gms A P q ps0): ∀n:Nat,(∀st g,gS n gms A C st=some g->LMS X P q ps0 ad (Zt ad E₀ true) st g)/\∀l g,gSs n gms A C l=some g->aIr X P q ps0 ad (Zt ad E₀ true) l g
 |0=>⟨(λ_ _ h=>by cases h),(λ_ _ h=>by cases h)⟩
 |n+1=>by
  obtain⟨hS,d⟩:=aN3 (E₀:=E₀) L n;obtain⟨I,kL,Z⟩:=dD (ad:=ad) 50;refine⟨λst g h=>?_,λl g h=>?_⟩
  ·unfold gS at h;split at h
   ·rename_i q' T;obtain⟨px,py,kt,pt,np,cp,k2,ab,u,rfl⟩:=aDz T;unfold aR4 at h;split at h
    ·rename_i W;obtain⟨hz,J,y⟩:=W;have E:=zBd h;clear h;obtain⟨⟨U,Q⟩,K,h⟩:=E;obtain⟨i,e,h⟩:=zBd h;obtain⟨j,o,h⟩:=zBd h;obtain⟨f,r,rfl⟩:=zMd h;rw[hz]at J ⊢;obtain⟨hd,B,_,_⟩:=L.O.cx.gt _ _ (zU K);exact zM (aDy L.O (L.made U Q (zU K)) (I X C _ _ L.O.cx r).1 (aL r).1 e o (L.O.cx.gk _ J) B hd (jJ (by rw[L.O.sc];simpa[kH]using y)))
    ·cases h
   split at h
   ·rename_i c a b H;obtain⟨u,rfl⟩:=zX H;split at h
    ·rename_i es S;obtain⟨p,rfl⟩:=aN2 S;obtain⟨t,e,h⟩:=zBd h;obtain⟨G,o,h⟩:=zBd h;obtain⟨s,r,rfl⟩:=zMd h;exact aI6 (aFp L e).pt (d _ G o) (d _ s r)
    ·exact zM ((lF (ad:=ad) (E₀:=E₀) 50).1 X C true _ g L.O (λz=>nomatch z) h)
   ·split at h
    ·rename_i tg M b u _ _;have E:=zBd h;clear h;obtain⟨⟨xs,m⟩,e,h⟩:=E;obtain⟨f,o,h⟩:=zBd h;obtain⟨is,r,h⟩:=zBd h;have N: ∀a b c,M≠ .Set a b c:=λa b c z=>by subst z;exact pY o
     split at h
     ·rename_i H;obtain⟨s,v,rfl⟩:=zMd h;have Y: ∀x p,M≠ .Name x p:=aC9 (Option.isNone_iff_eq_none.mp H);exact zO L.pass L.O.cx.calm L.O.cx.nd ((Z X C tg _ false f L.O.cx (λz=>nomatch z) o).2 rfl Y) e (L.O.nms r) (d _ s v) (aCf N)
     ·obtain⟨f',h5,h⟩:=zBd h;obtain⟨s,v,rfl⟩:=zMd h;exact zO L.pass L.O.cx.calm L.O.cx.nd (nD (I X C _ _ L.O.cx h5).1) e (L.O.nms r) (d _ s v) (aCf N)
    ·exact zM ((lF (ad:=ad) (E₀:=E₀) 50).1 X C true _ g L.O (λz=>nomatch z) h)
  ·unfold gSs at h;split at h
   ·cases h;exact aDp
   ·obtain⟨G,e,h⟩:=zBd h;obtain⟨s,o,rfl⟩:=zMd h;exact zN (hS _ G e) (d _ s o)
end
section
variable {X:Cx} {P0:Addr} {σ:St} {H:Hp} {s:Shared}
theorem zZ{ad:Ad}(L:LawG (cxP P0 X) ad C gms A P0 q #[])(hg:gSs n gms A C b=some g)(I:Inv (cxP P0 X) [] (vs.map some++ao m none) H s)(hH:X.H₀=H)(hpn:X.pn=[])(ht:s.heap.get? P0=some (PySem.W.tabObj #[]))(hn:H P0=none)(hfs:P0∉X.fs)(hG:Same G H)(r:aJ X.K ad G ds vs)(hm:g (ds.map SK.Slot.sh++ao m .no)= .rt (.ok (.bl true))):
  wpAny (model X.prog X.w) X.A (execs b X.env) (λf s'=>f= .ret (.bool true)/\∃σ' H' ps,Inv (cxP P0 X) [] σ' H' s'/\s'.heap.get? P0=some (PySem.W.tabObj ps)) X.xe s:=by
 have l:Inv (cxP P0 X) (pnL P0 #[] [] []) (vs.map some++ao m none) H s:=I.pins_of λp c=>by
  have e:p=(P0,PySem.W.tabObj #[]):=List.mem_singleton.mp c
  subst e;exact⟨ht,hn,(I.ok.exf P0 (.head _)).1,hfs,λv z=>nomatch z⟩
 have t:TbD P0 q #[] #[] [] ((cxP P0 X).pn++[]):=by
  refine⟨aNt,⟨#[],by simp⟩,λr x=>?_,λp c=>by cases c⟩
  have e:r∈X.pn++[]:=x;rw[hpn]at e;cases e
 refine L2.thn ((aN3 (E₀:=λ_ _ _=>False) L n).2 b g hg [] #[] [] s _ H ⟨λ_ _=>False,λv _=>v= .bl true,λ_ _=>False,λ_ _=>False⟩ t l ⟨G,G,ds.map SK.Slot.sh++ao m .no,λ_ _ _=>False,?_,⟨λy B H s e s' _ i=>?_,λz=>nomatch z⟩,?_⟩) λf s' a=>?_
 ·have d:Same G (cxP P0 X).H₀:=by
   show Same G X.H₀;rw[hH];exact hG
  have:=iJ (X:=cxP P0 X) (ad:=ad) (n:=m) d r
  have e:(cxP P0 X).H₀=H:=hH
  rwa [e]at this
 ·obtain⟨_,_,_,_,_,_,_,_,_,_,_,_,_,_,_,_,z⟩:=i;exact z.elim
 ·rw[hm];intro v E H' N q;unfold Rep at q;exact q
 ·obtain⟨ps,M,T,a⟩:=a
  cases f with
  |next=>obtain⟨_,_,_,z⟩:=a;exact z.elim
  |brk=>obtain⟨_,_,_,z⟩:=a;exact z.elim
  |cont=>obtain⟨_,_,_,z⟩:=a;exact z.elim
  |ret u=>
   obtain⟨v,σ',H',J,o,j⟩:=a
   have h:v= .bl true:=j
   subst h;obtain rfl:u=Value.bool true:=o;refine⟨rfl,σ',H',ps,J.pins_of (λp c=>by cases c),(J.pin (P0,PySem.W.tabObj ps) ?_).1⟩
   exact bu _ (.head _)
end
section
variable {P:Program} {w:World} {K:Frag} {mg mb:Str->Option Value} {ad:Ad} {fa a P0 c:Addr} {s₁:Shared} {name qual x:Str} {params:Arguments} {body:List Stmt} {scope:Scope} {dV kV doc pm ct oc:Value} {an od:Option Addr} {osl:Array (Option Value)} {N:List Str}
  {H:Hp} {q:Str} {gms:GMs} {cL A:Nat} {k n m:Nat} {C:SK.Ctx} {g:FS} {d:D}
theorem qB(KX:K.In s₁.heap)(hns:s₁.heap.Ns mainGlobals mg)(hb:s₁.heap.Ns builtinsNs mb)(hbb: ∀x:Str,x≠"__name__"->mb x=bootBuiltins x)(hlim:s₁.heap.NoLimit)(hg:s₁.gens= #[])(lk:K.lookup fa=some ⟨oc,od,.func (PySem.W.fnOf name qual params body scope dV kV doc pm an (.ref cL) ct),osl⟩)(hcd:PySem.W.codeIn K (.ref cL) qual=true)(S:FnScope N [x] scope)(hbind: ∀(s:Shared) (u:Value),BindsTo s (PySem.W.fnOf name qual params body scope dV kV doc pm an (.ref cL) ct) ⟨[u],[]⟩ [(x,u)])(hr:Room (k+3) callerA)(hC:PySem.W.CodeHd s₁.heap c P0)(hB:s₁.heap.BuiltinsAt mg P0)(hT:s₁.heap.get? P0=some (PySem.W.tabObj #[]))(hKP:K.lookup P0=none)(hO:aPt H)(hok:HOk P w H s₁.heap)(nd: ∀b o es ep,s₁.heap.get? b=some o->o.data= .dict es ep->H b=none)(nK: ∀b o,K.lookup b=some o->H b=none)(hn:H P0=none)(hcn:H c=none)(hbn: ∀bm o,s₁.heap.get? bm=some o->o.data= .plain->H bm=none)(LX: ∀base:Heap,K.In base->base.Ns mainGlobals mg->PySem.W.CodeHd base c P0->base.BuiltinsAt mg P0->base.get? P0=none->LawG (cxP P0 (jP (CXe P w) P w K mg base N qual scope fa (.ref cL) callerA [] s₁ H λ_ _ _=>False)) ad C gms A P0 q #[])(hread:gSs n gms A C body=some g)(hG:Same G H)(rp:aJ K ad G [d] [.ref a])(hN:N.length=m+1)(hm:g ([d].map SK.Slot.sh++ao m .no)= .rt (.ok (.bl true))):
  codeAny (model P w) callerA (.call (.ref fa) ⟨[.ref a],[]⟩) (λr s'=>r= .ok (.ret (.bool true))/\OldK s₁.heap s'.heap/\s'.os=s₁.os/\AllBare s'.gens) s₁:=by
 let base:=aKk s₁.heap (aNu H P0)
 have f: ∀{b:Addr} {o:Obj},s₁.heap.get? b=some o->H b=none->b≠P0->base.get? b=some o:=λe n z=>aBm e (aI1 n z)
 have M: ∀{b:Addr} {o:Obj},s₁.heap.get? b=some o->o≠PySem.W.tabObj #[]->b≠P0:=λ{b o} e z y=>by
  rw[y,hT]at e;exact z (Option.some.inj e).symm
 have l: ∀{b:Addr} {mm:Str->Option Value},s₁.heap.Ns b mm->base.Ns b mm:=λ{b mm} ⟨o,es,ep,e,dd,r⟩=>⟨o,es,ep,f e (nd _ _ _ _ e dd) (M e λz=>by rw[z]at dd;cases dd),dd,r⟩
 have O:K.In base:=λb o e=>f (KX b o e) (nK b o e) λz=>by rw[z,hKP]at e;cases e
 have hM:Mod K mg base:=⟨O,l hns,⟨mb,l hb,hbb⟩,let ⟨mc,h1,h2⟩:=hlim;⟨mc,l h1,h2⟩⟩;have e0:Env0 P w K mg base callerA [] s₁ H:=⟨rfl,hM,λb o e=>⟨(qY e).1,(p9 (qY e).2).1⟩,Nat.le_of_eq (wG _ _),trivial,λb hb=>absurd (show b∈([]:List Addr) from hb) (by simp),hok,.of_eq hg⟩
 have Y:PySem.W.CodeHd base c P0:=by
  obtain⟨o,vs,E,tf,v,tg,U,I,tt,B,r⟩:=hC;exact⟨o,vs,E,tf,v,tg,U,I,tt,f B hcn (by obtain⟨_,_,_,_,_,_,_,_,z⟩:=r;exact z),r⟩
 have ak:base.BuiltinsAt mg P0:=by
  obtain⟨bm,o,b1,b2,b3,b4,b5,b6,b7,b8⟩:=hB;exact⟨bm,o,b1,b2,b3,b4,f b5 (hbn bm o b5 b8) b4,b6,b7,b8⟩
 have i:base.get? P0=none:=by
  cases e:base.get? P0 with
  |none=>rfl
  |some o=>exact absurd rfl (p9 (qY e).2).2
 have L:=LX base O (l hns) Y ak i;let X:=jP (CXe P w) P w K mg base N qual scope fa (.ref cL) callerA [] s₁ H λ_ _ _=>False
 have p: ∀y∈[(x,Value.ref a)],scope.names.lookup y.1=some .local\/(scope.names.lookup y.1=some .cell/\((cellsFrom (s₁.heap.objs.size+1) scope.names []).lookup y.1).isSome=true):=λy hy=>by
  rw[List.mem_singleton.mp hy];rcases S.par x (.head _)with z|z
  ·exact .inl z
  ·exact .inr ⟨z,PySem.W.cellsFrom_some _ _ _ (.inl z)⟩
 refine codeAny_call_function hr.depth (KX _ _ lk) rfl S.co S.gen rfl (PySem.W.codeRec_of KX hcd) (hbind _ _ _ _ _ _ ?_);refine wpAny_newFunctionEnv_cells S.kind p λam he s1 y=>?_
 subst he;refine⟨hlim.keeps y.toInCall.keep,codeAny_func ?_⟩;have I0:Inv X [] (start N [.ref a]) H s1:=fP (vs:=[.ref a]) (us:=[.ref a]) (ps:=[x]) S hr.hd e0 rfl (.cons rfl .nil) y;have Q:P0<s₁.heap.objs.size:=ah hT;have t: ∀b,b∉X.fs:=λb z=>absurd (show b∈([]:List Addr) from z) (by simp)
 have I1:Inv (cxP P0 X) [] (start N [.ref a]) H s1:=aNs I0 rfl Q i (t P0) λz d h=>Nat.le_of_lt (y.above z d (PySem.mem_of_lookup h))
 have ab:start N [V.ref a]=[V.ref a].map some++ao m none:=by
  unfold L2.start
  have e:N.length - [V.ref a].length=m:=by rw[hN];simp
  rw[e]
 rw[ab]at I1
 have ac:s1.heap.get? P0=some (PySem.W.tabObj #[]):=y.toInCall.keep _ _ hT
 refine wpAny_mono (zZ (X:=X) L hread I1 rfl rfl ac hn (t P0) hG rp hm) (λfl s' hs=>?_) λe s' hs=>?_
 ·obtain⟨rfl,al,H',ps,J,T⟩:=hs;refine⟨rfl,⟨λb o e=>?_,λb o e=>?_⟩,J.os,J.bare⟩
  ·by_cases i:b=P0
   ·subst i;rw[hT]at e;cases e;obtain⟨co,vs,_,_,_,_,_,_,_,B,e2,e3,e4,_⟩:=hC;exact .inr (.inl ⟨⟨c,co,vs,B,e2,e3,e4⟩,rfl, #[],ps,rfl,by rw[T];simp[PySem.W.tabObj]⟩)
   ·refine .inl ?_;have nx:b∉(cxP P0 X).ex:=λz=>i (List.mem_singleton.mp z)
    cases hh:H b with
    |none=>exact J.base.keep b o e hh (t b) nx
    |some u=>
     rcases hO b with z|⟨ob,xs,z⟩
     ·rw[hh]at z;cases z
     ·have z2:=J.base.frzs b ob _ z;obtain⟨B,_⟩:=hok b _ z;obtain⟨e2,_⟩:=J.hok b _ z2;rw[e]at B;cases B;exact e2
  ·by_cases i:b=P0
   ·subst i;exact⟨_,T⟩
   ·exact J.base.there b o e λz=>i (List.mem_singleton.mp z)
 ·have no: ∀(e:Value) (j:Shared),CXe P w [] H s₁ (λ_ _ _=>False) e j->False:=λe j z=>by
   obtain⟨_,_,_,_,_,_,_,_,_,_,_,_,_,_,z⟩:=z;exact z
  have Z:wpAny (model P w) (callerA.deeper (envOfC qual scope s₁.heap.objs.size fa (.ref cL))) (leaving (envOfC qual scope s₁.heap.objs.size fa (.ref cL)) e) (λ_ j=>CXe P w [] H s₁ (λ_ _ _=>False) e j) (λe' j=>CXe P w [] H s₁ (λ_ _ _=>False) e' j) s':=hs
  exact wpAny_mono Z (λ_ j z=>(no _ _ z).elim) λe' j z=>(no _ _ z).elim
end
noncomputable def without(K:Frag)(P0:Addr):Frag:=K.filter λp=>p.1 != P0
section
variable {P:Program} {w:World} {K:Frag} {mg mb:Str->Option Value} {ad:Ad} {fa a P0 c:Addr} {s₁:Shared} {name qual x:Str} {params:Arguments} {body:List Stmt} {scope:Scope} {dV kV doc pm ct oc:Value} {an od:Option Addr} {osl:Array (Option Value)} {N:List Str}
  {tn q:Str} {F:R->R} {k n m:Nat} {C:SK.Ctx} {g:FS} {d:D} {vs:List Value} {ns:List Int}
end
theorem aN4(T:Top p loose mean mg mb h)(hT:h.get? P0=some (PySem.W.tabObj #[])):h.BuiltinsAt mg P0:=by
 obtain⟨f,j,d,m,a,i,l,b⟩:=T.bmain;refine⟨f,j,d,m,λz=>?_,λz=>?_,a,i,l,b⟩
 ·obtain⟨o,n,q,e,c,_⟩:=T.g;rw[<-z,a]at e;cases e;rw[b]at c;cases c
 ·rw[z,hT]at a;cases a;cases b
theorem aI9{ad:Ad}(hF:FnOk X.prog X.w X.K X.mg X.base (CXe X.prog X.w) k fa fd prs (spM X.K ad A n M))(hr:Room k X.A)(hb:dW X.K fd prs [])(hg:L2.Gl X tn)(hm:X.mg tn=some (.ref fa))(hdb:(tn==("__debug__":Str))=false)(hk:PySem.W.keepIn X.K (.ref fa)=true)(hN:X.N[i]? =some x)(hv:Vis X.env.scope x)(hd:(x==("__debug__":Str))=false)(hcd:(x==("__classdict__":Str))=false)(ha:MA X ad es fs)(hn:fs.length=n)(hst:starEach (.Name x px::es) X.env=(false,eval (.Name x px) X.env)::starEach es X.env)(hany:(backTo cp (starEach es X.env)).any (·.1)=false):
  PE X (.Call (.Name tn p) (.Name x px::es) [] cp) (lY X ad A i M fs):=by
 rintro Z s U H Q I ⟨G,ρ,E,r,g,u,d,v,y,hG,hS,o,h1,T,J⟩;refine wpAny_Call_Name_kw (fD I hg hm ?_ hdb);refine PySem.W.callWith_K (h₀:=X.base) I.ok.mod.kin hk (L2.thn (bY (cP hN hv hd hcd) (ha) hst cp _ s U H (λvs m=>∃j a b,vs= .ref g::j/\Step G H b m/\aJ X.K ad b a j/\a.length=n/\RMK X.K ad A b m g u d v y (M r a) Q E) I ?_) λus O hz=>?_) hst hany
 ·refine⟨.ref g,h1,?_⟩;obtain⟨G',h,E',a1,C,S,f⟩:=J;refine⟨G',h,E',a1,C,S,?_⟩
  cases e:args fs h with
  |ok ab=>
   rw[e]at f;intro vs b m l t;obtain⟨a,G2,Y,b2,b3,b4⟩:=f vs b m l t;exact⟨vs,a,G2,rfl,Y,b2,b3.trans hn,b4⟩
  |ex c=>rw[e]at f;exact f
  |bad=>rw[e]at f;exact f
 ·obtain⟨vs,H2,q,r2,j,a,b,B,l,t,L,hq⟩:=hz;subst B;exact⟨q.kIn,rO (vs:=V.ref g::j) (E:=xk ad E) hF hr hb q r2 ⟨b,g,r,u,d,v,y,a,j,rfl,l.gh,T.step l,t,L,hq.impE λc H' e=>⟨c,rfl,e⟩⟩ λe z hc=>o Z H2 O e z q hc⟩
theorem aN5(h:PE X e t):LPE X P q ps0 e t:=λf b c s a H Q T I w=>L2.thn (h _ s a H Q I w) λu g d=>⟨b,c,T,d⟩
section
variable {P:Program} {w:World} {K:Frag} {mg mb:Str->Option Value} {ad:Ad} {fa a P0 c:Addr} {s₁:Shared} {name qual x:Str} {params:Arguments} {body:List Stmt} {scope:Scope} {dV kV doc pm ct oc:Value} {an od:Option Addr} {osl:Array (Option Value)} {N:List Str}
  {q:Str} {gms:GMs} {cL A:Nat} {k n m:Nat} {C:SK.Ctx} {g:FS} {d:D} {vs:List Value} {ns:List Int}
theorem z9(KX:K.In s₁.heap)(hns:s₁.heap.Ns mainGlobals mg)(hb:s₁.heap.Ns builtinsNs mb)(hbb: ∀x:Str,x≠"__name__"->mb x=bootBuiltins x)(hlim:s₁.heap.NoLimit)(hg:s₁.gens= #[])
  (ha:s₁.heap.get? a=some {cls:=.type "list",data:=.seq vs.toArray}) (hi:IntsAre vs ns) (hl:ns.length<=sizeLine)
  (lk:K.lookup fa=some ⟨oc,od,.func (PySem.W.fnOf name qual params body scope dV kV doc pm an (.ref cL) ct),osl⟩) (hcd:PySem.W.codeIn K (.ref cL) qual=true) (S:FnScope N [x] scope)
  (hbind: ∀(s:Shared) (u:Value),BindsTo s (PySem.W.fnOf name qual params body scope dV kV doc pm an (.ref cL) ct) ⟨[u],[]⟩ [(x,u)]) (hr:Room (k+3) callerA)
  (hC:PySem.W.CodeHd s₁.heap c P0) (hB:s₁.heap.BuiltinsAt mg P0) (hT:s₁.heap.get? P0=some (PySem.W.tabObj #[])) (hKP:K.lookup P0=none)
  (LX: ∀(base:Heap) (H:Hp),K.In base->base.Ns mainGlobals mg->PySem.W.CodeHd base c P0->base.BuiltinsAt mg P0->base.get? P0=none->LawG (cxP P0 (jP (CXe P w) P w K mg base N qual scope fa (.ref cL) callerA [] s₁ H λ_ _ _=>False)) ad C gms A P0 q #[])
  (hread:gSs n gms A C body=some g) (hrep: ∀H:Hp,aPt H->SqL K H a (ns.map V.int)->∃G,Same G H/\aJ K ad G [d] [.ref a]) (hN:N.length=m+1) (hm:g ([d].map SK.Slot.sh++ao m .no)= .rt (.ok (.bl true))):
  codeAny (model P w) callerA (.call (.ref fa) ⟨[.ref a],[]⟩) (λr s'=>r= .ok (.ret (.bool true))/\OldK s₁.heap s'.heap/\s'.os=s₁.os/\AllBare s'.gens) s₁:=by
 have B:=oY hi;have h:=hi.length
 cases hk:K.lookup a with
 |some o=>
  have e:=KX a o hk;rw[ha]at e;cases e;obtain⟨G,t,p⟩:=hrep (λ_=>none) (λ_=>.inl rfl) (.inr ⟨_,vs.toArray,_,hk,rfl,rfl,rfl,by rw[ax,h];exact hl,by simpa using B⟩)
  exact qB (H:=λ_=>none) KX hns hb hbb hlim hg lk hcd S hbind hr hC hB hT hKP (λ_=>.inl rfl) (λb u z=>by have i:(none:Option HO)=some u:=z;cases i) (λ_ _ _ _ _ _=>rfl) (λ_ _ _=>rfl) rfl rfl (λ_ _ _ _=>rfl) (λbase=>LX base _) hread t p hN hm
 |none=>
  have j: ∀{b:Addr} {o:Obj},s₁.heap.get? b=some o->o.data≠ .seq vs.toArray->b≠a:=λ{b o} e z y=>by
   rw[y,ha]at e;cases e;exact z rfl
  let H:Hp:=λb=>if b=a then some (.frz {cls:=.type "list",data:=.seq vs.toArray} (.lst (ns.map V.int)))else none
  have f: ∀{b:Addr},b≠a->H b=none:=λz=>if_neg z
  have v:aPt H:=λb=>by
   by_cases hb:b=a
   ·exact .inr ⟨_,_,if_pos hb⟩
   ·exact .inl (if_neg hb)
  have l:HOk P w H s₁.heap:=λb u z=>by
   by_cases hb:b=a
   ·have i:=(if_pos hb).symm.trans z;cases i;subst hb;exact⟨ha,by rw[aq];exact hl,vs,_,B,ha⟩
   ·have i:=(if_neg hb).symm.trans z;cases i
  obtain⟨G,t,p⟩:=hrep H v (.inl (.inr ⟨{cls:=.type "list",data:=.seq vs.toArray},if_pos rfl⟩));refine qB (H:=H) KX hns hb hbb hlim hg lk hcd S hbind hr hC hB hT hKP v l (λb o L M e z=>f (j e (by rw[z];exact λy=>nomatch y))) (λb o e=>f λy=>by rw[y,hk]at e;cases e) (f (j hT λy=>nomatch y)) ?_ (λJ o e z=>f (j e (by rw[z];exact λy=>nomatch y))) (λbase=>LX base _) hread t p hN hm
  obtain⟨o,O,_,_,_,_,_,_,_,E,_,I,_⟩:=hC;exact f (j E (by rw[I];exact λy=>nomatch y))
end
structure LawGT(P:Program)(w:World)(K:Frag)(mg:Str->Option Value)(fa:Addr)(name did q:Str)(ad:Ad)(C:SK.Ctx)(gms:GMs)(A:Nat)(g:FS)(k n m:Nat)(cL c P0:Addr)(params:Arguments)(body:List Stmt)(scope:Scope):Prop where
 lk: ∃oc od dV kV doc pm an ct osl,K.lookup fa=some ⟨oc,od,.func (PySem.W.fnOf name name params body scope dV kV doc pm an (.ref cL) ct),osl⟩/\∀(s:Shared) (u:Value),BindsTo s (PySem.W.fnOf name name params body scope dV kV doc pm an (.ref cL) ct) ⟨[u],[]⟩ [("_law_script",u)]
 cd:PySem.W.codeIn K (.ref cL) name=true
 sc:bT (aC scope) ["_law_script"] scope=true
 room:Room (k+3) callerA
 tab:tabIn K did=some (c,P0)
 out:K.lookup P0=none
 lx: ∀(s₁:Shared) (base:Heap) (H:Hp),K.In base->base.Ns mainGlobals mg->PySem.W.CodeHd base c P0->base.BuiltinsAt mg P0->base.get? P0=none->LawG (cxP P0 (jP (CXe P w) P w K mg base (aC scope) name scope fa (.ref cL) callerA [] s₁ H λ_ _ _=>False)) ad C gms A P0 q #[]
 read:gSs n gms A C body=some g
 len:(aC scope).length=m+1
 tru: ∀ns:List Int,g ([D.lst (ns.map D.int)].map SK.Slot.sh++ao m .no)= .rt (.ok (.bl true))
theorem walkG{l:PySem.W.OpenLaw}{XP:(Str->Option Value)->Heap->Prop}{K:Params->PySem.W.Frag}(hn:l.most=some 63)(hdf:d.params.defaults=[])(hY: ∀(w:World) (h:Heap),YP w h->(K w.params).In h)(hrec: ∃e,(recsOf q).find? (λe=>e.name==did)=some e)(F: ∀(w:World) (mg:Str->Option Value) (fa:Addr) (h:Heap),(K w.params).In h->h.Ns mainGlobals mg->mg d.name=some (.ref fa)->∃qq ad C gms A g k n m cL c P0 params body scope,LawGT l.prog w (K w.params) mg fa d.name did qq ad C gms A g k n m cL c P0 params body scope):
  PySem.W.WalkO q loose XP YP l.row.toRowW d [] (λf vs=>PySem.call f vs):=by
 refine Att.attach_call hn hdf λw x p mg U fa o X cd M a vs y G Y ho hd O u r i s J=>?_
 have t:=hY w _ Y;obtain⟨qq,ad,C,gms,A,g,k,n,m,cL,c,P0,params,body,scope,L⟩:=F w mg fa _ t G.T.g u;obtain⟨e,E⟩:=hrec;obtain⟨B,v⟩:=tab_of G.T t E L.tab;obtain⟨oc,od,dV,kV,z,S,an,Z,I,lk,Q⟩:=L.lk;refine z9 (d:=.lst (y.map D.int)) t G.T.g G.T.b G.T.builtins G.T.nolimit J r i (Nat.le_trans s (by decide)) lk L.cd (cH L.sc).1 Q L.room B (aN4 G.T v) v L.out (λj H=>L.lx p j H) L.read (λH _ N=>⟨H,Same.refl _,aJ.cons (by unfold Rep;exact⟨a,_,rfl,N,aJ.map_int⟩) aJ.nil⟩) L.len (L.tru y)
section
variable {P:Program} {w:World} {K:Frag} {mg:Str->Option Value} {base:Heap} {ad:Ad} {k:Nat} {tab:List (Str×SK.Gl)} {fns:List (Nat×Fn)} {sc:Scope} {qual x q dn an:Str} {fa fa1 fa2 P0 cL:Addr} {s₁:Shared} {H:Hp} {bs prs1 prs2:List Str} {fd1 fd2:FuncData} {nd na A r2:Nat} {Md Ma:FM}
theorem aJa(B:ExcK K ad)(TB:dY P w K mg base ad k tab)(FB:fM P w K mg base ad k fns)(hs:bT (aC sc) [x] sc=true)(hr:Room (k+4) callerA)
  (mk: ∀A ms,tab.lookup ("Rack":Str)=some (SK.Gl.cls A ms)->∃f r fd ps,r<=k/\Mk K A f/\FnOk P w K mg base (CXe P w) r f fd ps (spI K ad A)/\dW K fd ps [])
  (hD:aIz (cxP P0 (jP (CXe P w) P w K mg base (aC sc) qual sc fa (.ref cL) callerA [] s₁ H λ_ _ _=>False)) ad A nd P0 q #[] (k+3) fa1 fd1 prs1 Md) (nx: ∀r ds c,Md r ds≠ .pure (.ex c)) (hm1:mg dn=some (.ref fa1)) (hdb1:(dn==("__debug__":Str))=false) (hk1:PySem.W.keepIn K (.ref fa1)=true)
  (hb1: ∀(s:Shared) (us:List Value),K.In s.heap->us.length=nd+1->BindsTo s fd1 ⟨us,[]⟩ (prs1.zip us))
  (hA:FnOk P w K mg base (CXe P w) r2 fa2 fd2 prs2 (spM K ad A na Ma)) (h2:r2<=k+3) (hb2:dW K fd2 prs2 []) (hm2:mg an=some (.ref fa2)) (hdb2:(an==("__debug__":Str))=false) (hk2:PySem.W.keepIn K (.ref fa2)=true):
  LawG (cxP P0 (jP (CXe P w) P w K mg base (aC sc) qual sc fa (.ref cL) callerA [] s₁ H λ_ _ _=>False)) ad ⟨tab,fns,sc,aC sc,bs⟩ [(dn,nd,Md),(an,na,Ma)] A P0 q #[]:=by
 have a:Room (k+3) (callerA.deeper (envOfC qual sc s₁.heap.objs.size fa (.ref cL))):=hr.deeper _
 have O:StOk (cxP P0 (jP (CXe P w) P w K mg base (aC sc) qual sc fa (.ref cL) callerA [] s₁ H λ_ _ _=>False)) ad ⟨tab,fns,sc,aC sc,bs⟩:=(sB B TB FB hs (a.mono (by lia))).P
 refine⟨O,PassesOwn.leaving (Q₁:=λe d=>CXe P w [] H s₁ (λ_ _ _=>False) e d),λA ms e=>let ⟨f,r,fd,ps,h1,h2,h3,h4⟩:=mk A ms e;⟨f,r,fd,ps,h2,h3,a.mono (by lia),h4⟩,λg n M b z i y E G I C fs v l t m=>?_⟩
 obtain⟨j,u,p,o⟩:=O.cx.vis y i v;have gl:=O.cx.gk g z;rw[List.lookup_cons]at b
 cases e:g==dn with
 |true=>
  rw[e]at b;cases b
  cases eq_of_beq e
  exact aI0 hD a nx gl hm1 hdb1 hk1 hb1 (.head _) ⟨rfl,rfl⟩ j u p o l t rfl (gG m)
 |false=>
  rw[e,List.lookup_cons]at b
  cases h:g==an with
  |true=>
   rw[h]at b;cases b
   cases eq_of_beq h
   exact aN5 (aI9 hA (a.mono h2) hb2 gl hm2 hdb2 hk2 j u p o l t rfl (gG m))
  |false=>rw[h]at b;cases b
end
theorem aH(h:a ρ= .nx ρ'):bL a b ρ=b ρ':=by simp[bL,h]
theorem cI(h:a ρ= .rt r):bL a b ρ= .rt r:=by simp[bL,h]
theorem eV(h:e ρ= .ok d):g6 i e ρ= .nx (ρ.set i (.sh d)):=by simp[g6,h,eY]
theorem aAa(h:e ρ= .ow d):g6 i e ρ= .nx (ρ.set i (.sh (.lst d))):=by simp[g6,h,eY]
theorem nU(h:e ρ= .ow d):sV i e ρ= .nx (ρ.set i (.ow d)):=by simp[sV,h]
theorem lH(h:e ρ= .ok (.tup ds))(l:ds.length=is.length):fQ is e ρ= .nx (setN is ds ρ):=by simp[fQ,h,eY,l]
theorem eR(h:e ρ= .ok d):jN e ρ= .nx ρ:=by simp[jN,h,eY]
theorem nV(h:e ρ= .ex c):jN e ρ= .ex c ρ:=by simp[jN,h,eY]
theorem aQ(h:e ρ= .ok d):dG e ρ= .rt (.ok d):=by simp[dG,h]
theorem d6(h:c ρ= .ok (.bl true)):sIf c a b ρ=a ρ:=by simp[sIf,h]
theorem cU(h:c ρ= .ok (.bl false)):sIf c a b ρ=b ρ:=by simp[sIf,h]
theorem aS(h:b (ds.map Slot.sh++ao (n-ds.length) .no)= .rt (.ok d)):fnOf n b ds= .ok d:=by simp[fnOf,h]
theorem gY(h:b (ds.map Slot.sh++ao (n-ds.length) .no)= .ex c ρ):fnOf n b ds= .ex c:=by simp[fnOf,h]
theorem aAb(h:b (ds.map Slot.sh++ao (n-ds.length) .no)= .nx ρ):fnOf n b ds= .ok .non:=by simp[fnOf,h]
theorem qC:gT (xs.map D.int)=some xs:=by
 induction xs with
 |nil=>rfl
 |cons x r a=>simp[gT,a]
theorem vZ:eX (xs.map D.bl)=some xs:=by
 induction xs with
 |nil=>rfl
 |cons x r a=>simp[eX,a]
theorem bJ(h:a ρ= .ok x)(k:b ρ= .ok y):bF op a b ρ=kB op x y:=by simp[bF,h,k,R.bind]
theorem aR(h:a ρ= .ok x)(k:b ρ= .ok y):aY op a b ρ=eE op x y:=by simp[aY,h,k,R.bind]
theorem aD0(h:a ρ= .ow x)(k:b ρ= .ow y):aY op a b ρ=eE op (.lst x) (.lst y):=by simp[aY,h,k,R.bind]
theorem cJ(h:a ρ= .ok x)(k:b ρ= .ok y):rIx a b ρ=dIx x y:=by simp[rIx,h,k,R.bind]
theorem uU(h:a ρ= .ow x)(k:b ρ= .ok y):rIx a b ρ=dIx (.lst x) y:=by simp[rIx,h,k,R.bind]
theorem aAc(h:a ρ= .ok (.bl b)):o0 a ρ= .ok (.bl (!b)):=by simp[o0,h,R.bind]
theorem lI(h:a ρ= .ok (.bl true)):hX a b ρ=b ρ:=by simp[hX,h,R.bind]
theorem qD(h:a ρ= .ok (.bl false)):hX a b ρ= .ok (.bl false):=by simp[hX,h,R.bind]
theorem aJb(h:a ρ= .ok (.bl true)):rOr a b ρ= .ok (.bl true):=by simp[rOr,h,R.bind]
theorem v5(h:a ρ= .ok (.bl false)):rOr a b ρ=b ρ:=by simp[rOr,h,R.bind]
theorem cF(h:a ρ= .ok x):aG f [a] ρ=f [x]:=by simp[aG,l7,args,h,RA.cons,RA.then]
theorem dN(h:a ρ= .ow x):aG f [a] ρ=f [.lst x]:=by simp[aG,l7,args,h,RA.cons,RA.then]
theorem cV(h:a ρ= .ok x)(k:b ρ= .ok y):aG f [a,b] ρ=f [x,y]:=by simp[aG,l7,args,h,k,RA.cons,RA.then]
theorem dO(h:a ρ= .ok x)(k:b ρ= .ok y)(l:c ρ= .ok z):aG f [a,b,c] ρ=f [x,y,z]:=by simp[aG,l7,args,h,k,l,RA.cons,RA.then]
theorem eW(h:a ρ= .ok x)(k:b ρ= .ok y):eF [a,b] ρ= .ok (.tup [x,y]):=by simp[eF,l7,args,h,k,RA.cons,RA.then]
theorem aAd(h:a ρ= .ok (.int i))(h':b ρ= .ok (.int j))(h'':c ρ= .ok (.int k)):jG .LtE .Lt a b c ρ= .ok (.bl (decide (i<=j)&&decide (j<k))):=by
 by_cases e:i<=j<;>simp[jG,h,h',h'',R.bind,eE,e]
theorem aN6{ds:List D}:aJ5 [.lst (ds.map λd=>.bl (p d))]= .ok (.bl (ds.all p)):=by
 have e:(ds.map λd=>D.bl (p d))=(ds.map p).map D.bl:=by simp
 have k:(items (D.lst (ds.map λd=>D.bl (p d)))).bind eX=some (ds.map p):=by
  show eX _=_;rw[e];exact vZ
 simp only[aJ5,k];simp
theorem mR{f:D->Option (Option D)}{g:D->D}: ∀{ds:List D},(∀d∈ds,f d=some (some (g d)))->bG f ds=some (ds.map g)
 |[],_=>rfl
 |d::r,h=>by simp[bG,h d (.head _),mR (ds:=r) λx m=>h x (.tail _ m)]
theorem mT{f:D->Option (Option D)}{P:D->Prop}: ∀{ds:List D},(∀d∈ds, ∃x,f d=some (some x)/\P x)->∃xs,bG f ds=some xs/\xs.length=ds.length/\∀x∈xs,P x
 |[],_=>⟨[],rfl,rfl,nofun⟩
 |d::r,h=>by
  obtain⟨x,e,p⟩:=h d (.head _);obtain⟨xs,a,l,q⟩:=mT (ds:=r) λx m=>h x (.tail _ m)
  refine⟨x::xs,by simp[bG,e,a],by simp[l],?_⟩
  intro y m;cases m with
  |head=>exact p
  |tail _ m=>exact q y m
theorem iN(hi:it ρ= .ok (.lst ds)\/it ρ= .ok (.tup ds)\/it ρ= .ow ds)(h: ∀d∈ds,e (.sh d::iT cs ρ)= .ok (g d)):bB 0 cs it none e ρ= .ow (ds.map g):=by
 have k:bG (cR 0 (iT cs ρ) none e) ds=some (ds.map g):=mR λd m=>by simp[cR,tgt,h d m]
 rcases hi with hi|hi|hi<;>simp[bB,hi,R.bind,items,hW,k]
theorem eZ{P:D->Prop}(hi:it ρ= .ok (.lst ds)\/it ρ= .ok (.tup ds)\/it ρ= .ow ds)(h: ∀d∈ds, ∃ts x,tgt n d=some ts/\e (ts++iT cs ρ)= .ok x/\P x):
  ∃xs,bB n cs it none e ρ= .ow xs/\xs.length=ds.length/\∀x∈xs,P x:=by
 obtain⟨xs,k,l,q⟩:=mT (f:=cR n (iT cs ρ) none e) (P:=P) (ds:=ds) λd m=>by
  obtain⟨ts,x,a,b,c⟩:=h d m;exact⟨x,by simp[cR,a,b],c⟩
 refine⟨xs,?_,l,q⟩;rcases hi with hi|hi|hi<;>simp[bB,hi,R.bind,items,hW,k]
theorem jL(hi:it ρ= .ok (.lst ds)\/it ρ= .ok (.tup ds)\/it ρ= .ow ds)(hc: ∀d∈ds,c (.sh d::iT cs ρ)= .ok (.bl (p d)))(h: ∀d∈ds,e (.sh d::iT cs ρ)= .ok d):
  bB 0 cs it (some c) e ρ= .ow (ds.filter p):=by
 have k: ∀ds:List D,(∀d∈ds,c (.sh d::iT cs ρ)= .ok (.bl (p d)))->(∀d∈ds,e (.sh d::iT cs ρ)= .ok d)->bG (cR 0 (iT cs ρ) (some c) e) ds=some (ds.filter p):=by
  intro ds;induction ds with
  |nil=>intros;rfl
  |cons d r g=>
   intro f b
   have:=g (λx m=>f x (.tail _ m)) λx m=>b x (.tail _ m)
   have a:=f d (.head _)
   cases i:p d<;>simp[bG,cR,tgt,a,b d (.head _),i,this]
 have:=k ds hc h
 rcases hi with hi|hi|hi<;>simp[bB,hi,R.bind,items,hW,this]
theorem e9(h:a ρ= .ok (.int n))(l:n<=100000):cS a ρ= .ok (.lst (qO n)):=by
 have:(-100000:Int)<=(n:Int)/\(n:Int)<=100000:=by lia
 simp[cS,h,R.bind,aRm,this]
theorem iO(h:d∈qO n): ∃k:Nat,k<n/\d= .int k:=by
 simp only[qO,au,List.mem_range]at h;obtain⟨k,a,b⟩:=h;exact⟨k,a,b.symm⟩
theorem eJ:(qO n).length=n:=by simp[qO]
theorem fX{n:Nat}(h:xs[n]? =some x):dIx (.lst xs) (.int n)= .ok x:=by
 obtain⟨l,e⟩:=ay.1 h;simp[dIx,items,ixD,l,e]
theorem sH{n:Nat}(h:xs[n]? =some x):dIx (.tup xs) (.int n)= .ok x:=by
 obtain⟨l,e⟩:=ay.1 h;simp[dIx,items,ixD,l,e]
theorem aFq(h:sml j=true):kB .Mult (.int i) (.int j)= .ok (.int (i*j)):=by simp[kB,eN,h]
theorem aN7(h:sml i=true):kB .Mult (.int i) (.int j)= .ok (.int (i*j)):=by simp[kB,eN,h]
theorem nW(h:0<j):kB .Mod (.int i) (.int j)= .ok (.int (i % j)):=by simp[kB,eN,h]
theorem aAe(h:0<j)(l:j<1073741824):kB .FloorDiv (.int i) (.int j)= .ok (.int (i/j)):=by simp[kB,eN,h,l]
theorem aN8(a: -18446744073709551616<i)(b:i<18446744073709551616):sml i=true:=by simp[sml,a,b]
theorem qF{t:D->Rho->Option Rho}{b:FS}{I:Rho->Prop}: ∀{ds:List D} {ρ:Rho},(∀d∈ds, ∀ρ,I ρ->∃ρ1 ρ2,t d ρ=some ρ1/\b ρ1= .nx ρ2/\I ρ2)->I ρ->∃ρ',fS t b ds ρ= .nx ρ'/\I ρ'
 |[],ρ,_,i=>⟨ρ,rfl,i⟩
 |d::r,ρ,h,i=>by
  obtain⟨ρ1,ρ2,a,e,j⟩:=h d (.head _) ρ i;obtain⟨ρ',f,c⟩:=qF (ds:=r) (λx m=>h x (.tail _ m)) j
  exact⟨ρ',by simp[fS,a,e,f],c⟩
theorem aJc(hi:it ρ= .ok (.lst ds)\/it ρ= .ok (.tup ds)\/it ρ= .ow ds):vH is o it b ρ=fS (o8 is o) b ds ρ:=by
 rcases hi with hi|hi|hi<;>simp[vH,hi,eY,mB,items]
theorem gH:bP xs=true↔ ∀x∈xs,plain x=true:=by
 induction xs with
 |nil=>simp[bP]
 |cons x r a=>simp[bP,a]
theorem i5(a:plain x=true)(b:plain y=true)(c:dep y<=60):hV x y=true:=by
 have:min (dep x) (dep y)<=60:=Nat.le_trans (Nat.min_le_right ..) c
 simp[hV,a,b,this]
theorem i6(h:hV x y=true):eE .Eq x y= .ok (.bl (deq x y)):=by simp[eE,h]
theorem sI(h:hV x y=true):eE .NotEq x y= .ok (.bl (!deq x y)):=by simp[eE,h]
mutual
theorem nX: ∀d:D,plain d=true->deq d d=true
 |.non,_=>rfl
 |.bl b,_=>by simp[deq]
 |.int i,_=>by simp[deq]
 |.str x,_=>by simp[deq]
 |.tup xs,h=>by simp only[deq];exact lJ xs h
 |.lst xs,h=>by simp only[deq];exact lJ xs h
 |.exc _,h=>by simp[plain]at h
 |.fn _,h=>by simp[plain]at h
theorem lJ: ∀xs:List D,bP xs=true->vE xs xs=true
 |[],_=>rfl
 |x::r,h=>by
  simp only[bP,aw]at h;simp[vE,nX x h.1,lJ r h.2]
end
theorem qG(h: ∀x∈xs,dep x=0):wB xs=0:=by
 induction xs with
 |nil=>rfl
 |cons x r a=>simp[wB,h x (.head _),a λy m=>h y (.tail _ m)]
end SK
namespace SK.k71
open SK
def aT:Fn:=λds=>aNc (fnOf 3 (bL (g6 1 (iU [rIs (lW 9) (aA 0),rIs (lW 8) (aA 0),rIs (lW 3) (aA 0),rIs (lW 2) (aA 0)]))
 (bL (g6 1 (bF .Add (aA 1) (iU [rIs (lW 5) (aA 0),rIs (lW 1) (aA 0),rIs (lW 7) (aA 0)])))
 (bL (g6 1 (bF .Add (aA 1) (iU [rIs (lW 6) (aA 0),rIs (lW 4) (aA 0)])))
 (bL (sIf (rOr (aY .NotEq (rC wU (aD 1) (rK (.bl true))) (rK (.int 1))) (o0 (rIs (lW 100) (aA 0))))
 (bL (dG (rK (.str "wrong")))
  (a9))
 (a9))
 (bL (g6 2 (iU [rK (.str "no back"),rK (.str "no label"),rK (.str "no move"),rK (.str "no name"),rK (.str "no sums"),rK (.str "no switch"),rK (.str "no term"),rK (.str "no text"),rK (.str "unlike")]))
 (bL (dG (rIx (aD 2) (rC wV (aD 1) (rK (.bl true)))))
 (a9))))))) ds)
def gI:Fn:=fnOf 1 (dG (hX (rIs (aLn) (aA 0)) (o0 (rIs (aGm) (aA 0)))))
def bH:Fn:=fnOf 2 (dG (hX (aG gI [aA 0]) (jG .LtE .Lt (rK (.int 0)) (aA 0) (aA 1))))
def bU:Fn:=fnOf 2 (dG (aG aJ5 [bB 0 [1] (aD 0) none (aG bH [aA 0,aA 1])]))
def fA:Fn:=fnOf 1 (dG (aG bH [aA 0,bF .Add (rK (.int 4)) (rK (.int 1))]))
def iP:Fn:=fnOf 3 (dG (hX (rIs (m7) (aA 0)) (hX (aY .Eq (aG rD [aD 0]) (aA 1)) (aG bU [aA 0,aA 2]))))
def bM:Fn:=fnOf 1 (dG (bF .LShift (rK (.int 1)) (aA 0)))
def eK:Fn:=fnOf 1 (bL (sIf (rOr (o0 (rIs (m7) (aA 0))) (rOr (aY .NotEq (aG rD [aD 0]) (rK (.int 2))) (o0 (aG fA [rIx (aD 0) (rK (.int 0))]))))
 (dG (rK (.bl false)))
 (a9))
 (dG (aG iP [rIx (aD 0) (rK (.int 1)),aG bM [rIx (aD 0) (rK (.int 0))],rK (.int 2)])))
def bE:Fn:=fnOf 1 (sIf (o0 (aG eK [aA 0]))
 (l8 1)
 (a9))
def bK:Fn:=fnOf 2 (bL (jN (aG bE [aA 0]))
 (bL (jN (aG bE [aA 1]))
 (sIf (aY .NotEq (rIx (aD 0) (rK (.int 0))) (rIx (aD 1) (rK (.int 0))))
 (l8 4)
 (a9))))
def iQ:Fn:=fnOf 1 (bL (jN (aG bE [aA 0]))
 (dG (eF [rIx (aD 0) (rK (.int 0)),aG gN [bB 0 [] (rIx (aD 0) (rK (.int 1))) none (bF .Sub (rK (.int 1)) (aA 0))]])))
def mU:Fn:=fnOf 2 (bL (jN (aG bK [aA 0,aA 1]))
 (dG (eF [rIx (aD 0) (rK (.int 0)),aG gN [bB 2 [] (o7 (rIx (aD 0) (rK (.int 1))) (rIx (aD 1) (rK (.int 1)))) none (bF .BitAnd (aA 0) (aA 1))]])))
def gJ:Fn:=fnOf 2 (bL (jN (aG bK [aA 0,aA 1]))
 (dG (eF [rIx (aD 0) (rK (.int 0)),aG gN [bB 2 [] (o7 (rIx (aD 0) (rK (.int 1))) (rIx (aD 1) (rK (.int 1)))) none (bF .BitOr (aA 0) (aA 1))]])))
def gK:Fn:=fnOf 2 (bL (jN (aG bK [aA 0,aA 1]))
 (dG (eF [rIx (aD 0) (rK (.int 0)),aG gN [bB 2 [] (o7 (rIx (aD 0) (rK (.int 1))) (rIx (aD 1) (rK (.int 1)))) none (bF .BitXor (aA 0) (aA 1))]])))
def gL:Fn:=fnOf 1 (bL (sIf (rOr (o0 (rIs (aLo) (aA 0))) (o0 (jG .LtE .LtE (rK (.int 1)) (aG rD [aD 0]) (rK (.int 4)))))
 (dG (rK (.bl false)))
 (a9))
 (dG (aG aJ5 [bB 0 [] (aD 0) none (jG .LtE .LtE (rK (.str "a")) (aA 0) (rK (.str "z")))])))
def bV:Fn:=fnOf 1 (sIf (o0 (aG gL [aA 0]))
 (l8 8)
 (a9))
def dM:Fn:=fnOf 3 (bL (sIf (aY .Eq (aA 0) (rK (.str "both")))
 (dG (aG mU [aA 1,aA 2]))
 (a9))
 (bL (sIf (aY .Eq (aA 0) (rK (.str "either")))
 (dG (aG gJ [aA 1,aA 2]))
 (a9))
 (bL (sIf (aY .Eq (aA 0) (rK (.str "unlike")))
 (dG (aG gK [aA 1,aA 2]))
 (a9))
 (l8 8))))
def eB:Fn:=fnOf 2 (bL (sIf (aY .Lt (aA 1) (aG rD [aD 0]))
 (dG (rIx (aD 0) (aA 1)))
 (a9))
 (bL (sIf (aY .Eq (aA 0) (iU []))
 (dG (rK (.int 0)))
 (a9))
 (dG (bF .Add (bF .Mult (rIx (aD 0) (bF .Mod (aA 1) (aG rD [aD 0]))) (rK (.int 31))) (aA 1)))))
def aI:Fn:=fnOf 4 (bL (g6 3 (bF .Mod (bF .Mult (bF .Add (aG eB [aA 0,aA 1]) (bF .Mult (rK (.int 6151)) (bF .Add (aA 1) (rK (.int 1))))) (rK (.int 40692))) (rK (.int 2147483399))))
 (dG (bF .Mod (bF .Mod (bF .Add (bF .Mult (aA 3) (aA 3)) (bF .FloorDiv (aA 3) (rK (.int 31)))) (rK (.int 2147483629))) (aA 2))))
def aO:Fn:=fnOf 2 (dG (aG gN [bB 0 [1] (cS (aA 0)) none (bF .Mod (bF .FloorDiv (aA 1) (rIx (iU [rK (.int 1),rK (.int 2),rK (.int 4),rK (.int 8)]) (aA 0))) (rK (.int 2)))]))
def eL:Fn:=fnOf 2 (dG (bF .Mod (aG aBh [bB 2 [] (o7 (aG aO [rK (.int 4),aA 0]) (aG aO [rK (.int 4),aA 1])) none (bF .Mult (aA 0) (aA 1))]) (rK (.int 2))))
def cM:Fn:=fnOf 9 (bL (g6 3 (rIx (iU [rK (.int 1),rK (.int 2),rK (.int 4),rK (.int 8),rK (.int 16)]) (aA 2)))
 (bL (g6 4 (aG aI [aA 0,aA 1,rK (.int 6)]))
 (bL (sV 5 (bB 0 [1,0] (cS (aA 3)) none (aG aI [aA 2,bF .Add (bF .Add (aA 1) (rK (.int 1))) (aA 0),rK (.int 2)])))
 (bL (sIf (hX (aY .Eq (aA 4) (rK (.int 0))) (aY .Gt (aA 2) (rK (.int 0))))
 (bL (g6 6 (aG aI [aA 0,bF .Add (aA 1) (rK (.int 20)),aA 3]))
  (sV 5 (bB 0 [6] (cS (aA 3)) none (aG eL [aA 1,aA 0]))))
 (sIf (aY .Eq (aA 4) (rK (.int 1)))
  (sV 5 (bB 0 [1,2,0] (cS (aA 3)) none (aG aBg [aY .GtE (aG aBh [aG aO [aA 2,aA 0]]) (bF .Add (rK (.int 1)) (aG aI [aA 3,bF .Add (aA 1) (rK (.int 21)),rK (.int 3)]))])))
  (sIf (hX (aY .Eq (aA 4) (rK (.int 2))) (aY .Gt (aA 2) (rK (.int 0))))
   (bL (g6 7 (aG aI [aA 0,bF .Add (aA 1) (rK (.int 22)),aA 2]))
    (sV 5 (bB 0 [7,5] (cS (aA 3)) none (rIx (aD 2) (bF .Sub (aA 0) (bF .Mult (bF .Mod (bF .FloorDiv (aA 0) (rIx (iU [rK (.int 1),rK (.int 2),rK (.int 4),rK (.int 8)]) (aA 1))) (rK (.int 2))) (rIx (iU [rK (.int 1),rK (.int 2),rK (.int 4),rK (.int 8)]) (aA 1))))))))
   (a9))))
 (bL (sIf (hX (aY .Lt (aA 4) (rK (.int 3))) (aY .Eq (aG aI [aA 0,bF .Add (aA 1) (rK (.int 23)),rK (.int 3)]) (rK (.int 0))))
 (bL (g6 8 (aG aI [aA 0,bF .Add (aA 1) (rK (.int 24)),aA 3]))
  (wC 5 (aA 8) (bF .Sub (rK (.int 1)) (rIx (aD 5) (aA 8)))))
 (a9))
 (dG (eF [aA 2,aG gN [aD 5]])))))))
def eC:Fn:=fnOf 8 (bL (g6 3 (iU [rK (.str "a"),rK (.str "b"),rK (.str "gm"),rK (.str "xjqp")]))
 (bL (fQ [4,5] (eF [rIx (aD 3) (aG aI [aA 0,aA 1,rK (.int 4)]),aG aI [aA 0,bF .Add (aA 1) (rK (.int 1)),rK (.int 8)]]))
 (bL (sIf (rOr (aY .Lt (aA 5) (rK (.int 3))) (aY .Eq (aA 2) (kG)))
 (bL (g6 6 (rIx (iU [rK (.int 2),rK (.int 2),rK (.int 2),rK (.int 1),rK (.int 3),rK (.int 4),rK (.int 0)]) (aG aI [aA 0,bF .Add (aA 1) (rK (.int 2)),rK (.int 7)])))
  (dG (eF [rK (.str "put"),aA 4,aG cM [aA 0,bF .Add (aA 1) (rK (.int 10)),aA 6]])))
 (a9))
 (bL (sIf (aY .Eq (aA 5) (rK (.int 3)))
 (dG (eF [rK (.str "take"),aA 4]))
 (a9))
 (bL (sIf (aY .Eq (aA 5) (rK (.int 4)))
 (dG (eF [rK (.str "turn"),aA 4]))
 (a9))
 (bL (g6 7 (rIx (iU [rK (.str "both"),rK (.str "either"),rK (.str "unlike")]) (aG aI [aA 0,bF .Add (aA 1) (rK (.int 3)),rK (.int 3)])))
 (dG (eF [rK (.str "join"),aA 4,aA 7,rIx (aD 3) (aG aI [aA 0,bF .Add (aA 1) (rK (.int 4)),rK (.int 4)]),rIx (aD 3) (aG aI [aA 0,bF .Add (aA 1) (rK (.int 5)),rK (.int 4)])]))))))))
def aU:Fn:=fnOf 7 (bL (l9 2 (aA 0))
 (bL (sIf (aY .Eq (rIx (aD 1) (rK (.int 0))) (rK (.str "put")))
 (bL (wC 2 (rIx (aD 1) (rK (.int 1))) (rIx (aD 1) (rK (.int 2))))
  (aOy [2] (dG (eF [aA 2,aY .In (rIx (aD 1) (rK (.int 1))) (aA 0)]))))
 (a9))
 (bL (sIf (aY .Eq (rIx (aD 1) (rK (.int 0))) (rK (.str "join")))
 (bL (sIf (rOr (aY .NotIn (rIx (aD 1) (rK (.int 3))) (aA 0)) (aY .NotIn (rIx (aD 1) (rK (.int 4))) (aA 0)))
  (dG (eF [aA 0,rK (.str "no label")]))
  (a9))
  (bL (fQ [3,4] (eF [rIx (aD 0) (rIx (aD 1) (rK (.int 3))),rIx (aD 0) (rIx (aD 1) (rK (.int 4)))]))
  (bL (sIf (aY .NotEq (rIx (aD 3) (rK (.int 0))) (rIx (aD 4) (rK (.int 0))))
  (dG (eF [aA 0,rK (.str "unlike")]))
  (a9))
  (bL (g6 5 (aG vG [o7 (rIx (aD 3) (rK (.int 1))) (rIx (aD 4) (rK (.int 1)))]))
  (bL (g6 6 (sW "both" "either" (bB 2 [] (aD 5) none (bF .Mult (aA 0) (aA 1))) (bB 2 [] (aD 5) none (aG aBg [aY .Gt (bF .Add (aA 0) (aA 1)) (rK (.int 0))]))))
  (bL (wC 2 (rIx (aD 1) (rK (.int 1))) (eF [rIx (aD 3) (rK (.int 0)),aG gN [pA (aA 6) (rIx (aD 1) (rK (.int 2))) (bB 2 [] (aD 5) none (aG aBg [aY .Eq (bF .Add (aA 0) (aA 1)) (rK (.int 1))]))]]))
  (aOy [2] (dG (eF [aA 2,rIx (aD 2) (rIx (aD 1) (rK (.int 1)))])))))))))
 (a9))
 (bL (sIf (aY .NotIn (rIx (aD 1) (rK (.int 1))) (aA 0))
 (dG (eF [aA 0,rK (.str "no label")]))
 (a9))
 (bL (sIf (aY .Eq (rIx (aD 1) (rK (.int 0))) (rK (.str "turn")))
 (bL (wC 2 (rIx (aD 1) (rK (.int 1))) (eF [rIx (rIx (aD 0) (rIx (aD 1) (rK (.int 1)))) (rK (.int 0)),aG gN [bB 0 [] (rIx (rIx (aD 0) (rIx (aD 1) (rK (.int 1)))) (rK (.int 1))) none (bF .Sub (rK (.int 1)) (aA 0))]]))
  (aOy [2] (dG (eF [aA 2,rIx (aD 2) (rIx (aD 1) (rK (.int 1)))]))))
 (a9))
 (dG (eF [mD (bB 0 [1,0] (aD 0) (some (aY .NotEq (aA 0) (rIx (aD 1) (rK (.int 1))))) (eF [aA 0,rIx (aD 2) (aA 0)])),rIx (aD 0) (rIx (aD 1) (rK (.int 1)))])))))))
def a8:FM:=iM 348 3 (dJ (mIf (aY .Is (aA 2) (rK .non))
 (dJ (aIh 348 (aA 1))
  (fJ))
 (dJ (aIg 348 (aA 1) (aA 2))
  (fJ)))
 (fJ))
def jX:FM:=iM 348 4 (dJ (aQs 348 true (eF [aA 1,aA 2,aBx 348 0 (aA 2),aA 3]))
 (dJ (uO 348)
 (dJ (nT 348 a8 [aA 2,aA 3])
 (fJ))))
def fY:FM:=iM 348 4 (dJ (p5 (aG bE [aA 2]))
 (dJ (p5 (aG bV [aA 1]))
 (dJ (aBl 2 (aJ7 false 348 0 (aA 1)))
 (dJ (nT 348 jX [rK (.str "put"),aA 1,aA 2])
 (dJ (qU (aA 3))
 (fJ))))))
def aE:FM:=iM 348 2 (dJ (p5 (aG bV [aA 1]))
 (dJ (mIf (aJ7 true 348 0 (aA 1))
 (dJ (zH 8)
  (fJ))
 (fJ))
 (dJ (qU (vI 348 0 (aA 1)))
 (fJ))))
def dP:FM:=iM 348 3 (dJ (aBl 1 (dA 348 0 aE [aA 1]))
 (dJ (nT 348 jX [rK (.str "take"),aA 1,rK .non])
 (dJ (qU (aA 2))
 (fJ))))
def dQ:FM:=iM 348 6 (dJ (p5 (aG bV [aA 1]))
 (dJ (aBl 4 (aG dM [aA 2,dA 348 0 aE [aA 3],dA 348 0 aE [aA 4]]))
 (dJ (nT 348 jX [rK (.str "join"),aA 1,aA 5])
 (dJ (qU (aA 5))
 (fJ)))))
def eM:FM:=iM 348 3 (dJ (aBl 1 (aG iQ [dA 348 0 aE [aA 1]]))
 (dJ (nT 348 jX [rK (.str "turn"),aA 1,aA 2])
 (dJ (qU (aA 2))
 (fJ))))
def aV:FM:=iM 348 1 (dJ (qU (aGi 348 0))
 (fJ))
def fB:FM:=iM 348 3 (dJ (aBl 1 (dA 348 0 aE [aA 1]))
 (dJ (qU (bB 0 [1,0,2] (dA 348 0 aV []) (some (hX (aY .NotEq (aA 0) (aA 1)) (aY .Eq (vI 348 2 (aA 0)) (aA 3)))) (aA 0)))
 (fJ)))
def cZ:FM:=iM 348 1 (dJ (qU (eF [aG rD [aJ6 348 0 true],aG rD [aJ6 348 0 false]]))
 (fJ))
def lK:FR:=(ifM (aY .Eq (rIx (aD 1) (rK (.int 0))) (rK (.str "put"))) (sF aT [1,0] (aKd 348 1 fY [rIx (aD 0) (rK (.int 1)),rIx (aD 0) (rK (.int 2))])) (ifM (aY .Eq (rIx (aD 1) (rK (.int 0))) (rK (.str "join"))) (sF aT [1,0] (aKd 348 1 dQ [rIx (aD 0) (rK (.int 1)),rIx (aD 0) (rK (.int 2)),rIx (aD 0) (rK (.int 3)),rIx (aD 0) (rK (.int 4))])) (sF aT [1,0] (ifM (aY .Eq (rIx (aD 0) (rK (.int 0))) (rK (.str "turn"))) (aKd 348 1 eM [rIx (aD 0) (rK (.int 1))]) (aKd 348 1 dP [rIx (aD 0) (rK (.int 1))])))))
def aN:FM:=aI4 348 2 lK
def aX:FM:=iM 348 1 (dJ (qU (mD (bB 0 [0] (dA 348 0 aV []) none (eF [aA 0,dA 348 1 aE [aA 0]]))))
 (fJ))
def aJd:FS:=bL (uS 1 2 348 (kG))
 (bL (vH [3] true (cS (rK (.int 16)))
 (bL (g6 4 (aG eC [aA 0,bF .Add (rK (.int 100)) (bF .Mult (rK (.int 60)) (aA 3)),aA 2]))
  (bL (fQ [2,5] (aG aU [aA 2,aA 4]))
  (bL (aFk (cOr (g9 348 1 aN [aA 4] .NotEq (aA 5)) (cOr (g9 348 1 aX [] .NotEq (aA 2)) (g9 348 1 aV [] .NotEq (aG cD [aD 2]))))
  (bL (dG (rK (.bl false)))
   (a9))
  (a9))
  (bL (vH [6] true (aA 2)
  (bL (sIf (aY .NotEq (dA 348 1 fB [aA 6]) (bB 0 [2,6] (aG cD [aD 2]) (some (hX (aY .NotEq (aA 0) (aA 2)) (aY .Eq (rIx (aD 1) (aA 0)) (rIx (aD 1) (aA 2))))) (aA 0)))
   (dG (rK (.bl false)))
   (a9))
   (a9)))
  (a9))))))
 (bL (dG (aY .Eq (rIx (dA 348 1 cZ []) (rK (.int 1))) (rK (.int 0))))
 (a9)))
open PySem
abbrev Sc(ns:List Int):D:=.lst (ns.map D.int)
theorem aD1(ns:List Int):plain (Sc ns)=true:=by
 show bP (ns.map D.int)=true;rw[gH];intro x m;obtain⟨i,_,rfl⟩:=au.1 m;rfl
noncomputable def v6(ns:List Int)(k:Nat):Int:=if k<ns.length then ns.getD k 0 else if ns=[]then 0 else ns.getD (k % ns.length) 0*31+k
theorem aJe(ns:List Int)(k:Nat):eB [Sc ns,.int k]= .ok (.int (v6 ns k)):=by
 have b:rD [Sc ns]= .ok (.int ns.length):=by simp[rD,items]
 by_cases h:k<ns.length
 ·have e:(ns.map D.int)[k]? =some (D.int (v6 ns k)):=by simp[v6,h]
  refine aS (cI ((d6 ?_).trans (aQ ((cJ rfl rfl).trans (fX e)))));refine(aR rfl ((cF rfl).trans b)).trans ?_;simp[eE,h]
 ·refine aS ((aH ((cU ((aR rfl ((cF rfl).trans b)).trans ?_)).trans rfl)).trans ?_)
  ·simp[eE];lia
  have c:aY .Eq (aA 0) (iU []) [.sh (Sc ns),.sh (.int k)]= .ok (.bl (decide (ns=[]))):=by
   show eE .Eq (Sc ns) (.lst [])=_;rw[i6 (i5 (aD1 ns) rfl (by decide))]
   cases ns<;>simp[deq,vE]
  by_cases a:ns=[]
  ·subst a;exact cI ((d6 (c.trans rfl)).trans rfl)
  ·refine(aH ((cU (c.trans (by simp[a]))).trans rfl)).trans (aQ ?_)
   have l:0<ns.length:=List.length_pos_iff.2 a
   have e:(ns.map D.int)[k % ns.length]? =some (D.int (ns.getD (k % ns.length) 0)):=by simp[Nat.mod_lt _ l]
   have d:kB .Mod (.int k) (.int ns.length)= .ok (.int ((k % ns.length:Nat):Int)):=by
    have:(0:Int)<ns.length:=by lia
    simp[kB,eN,this];lia
   refine(bJ ((bJ ((cJ rfl ((bJ rfl ((cF rfl).trans b)).trans d)).trans (fX e)) rfl).trans (aFq rfl)) rfl).trans ?_;simp[kB,eN,v6,h,a]
def gR(ns:List Int)(k:Nat):Int:=(v6 ns k+6151*(k+1))*40692 % 2147483399
def aAf(ns:List Int)(k:Nat)(m:Int):Int:=(gR ns k*gR ns k+gR ns k/31) % 2147483629 % m
theorem aJf(ns:List Int)(k:Nat)(hm:0<m):aI [Sc ns,.int k,.int m]= .ok (.int (aAf ns k m)):=by
 have b:bF .Mod (bF .Mult (bF .Add (aG eB [aA 0,aA 1]) (bF .Mult (rK (.int 6151)) (bF .Add (aA 1) (rK (.int 1))))) (rK (.int 40692))) (rK (.int 2147483399)) [.sh (Sc ns),.sh (.int k),.sh (.int m),.no]= .ok (.int (gR ns k)):=by
  refine(bJ ((bJ ((bJ ((cV rfl rfl).trans (aJe ns k)) (y:=.int (6151*(k+1))) ?_).trans rfl) rfl).trans (?_:_=R.ok (.int ((v6 ns k+6151*(k+1))*40692)))) rfl).trans ?_
  ·refine(bJ rfl rfl).trans ?_;simp[kB,eN,sml]
  ·simp[kB,eN,sml]
  ·simp[kB,eN,gR]
 refine aS ((aH (eV b)).trans (aQ ?_));unfold aAf
 have c:sml (gR ns k)=true:=by
  have:0<=gR ns k/\gR ns k<2147483399:=by unfold gR;lia
  simp[sml];lia
 generalize gR ns k=x at *
 have a:bF .FloorDiv (aA 3) (rK (.int 31)) [.sh (Sc ns),.sh (.int k),.sh (.int m),.sh (.int (x))]= .ok (.int (x/31)):=by
  refine(bJ rfl rfl).trans ?_;simp[kB,eN]
 have d:bF .Mult (aA 3) (aA 3) [.sh (Sc ns),.sh (.int k),.sh (.int m),.sh (.int x)]= .ok (.int (x*x)):=by
  refine(bJ rfl rfl).trans ?_;simp[kB,eN,c]
 refine(bJ ((bJ ((bJ d a).trans rfl) rfl).trans (?_:_=R.ok (.int ((x*x+x/31) % 2147483629)))) rfl).trans ?_
 ·simp[kB,eN]
 ·exact nW hm
theorem sJ(ns:List Int)(k:Nat)(hm:0<m):0<=aAf ns k m/\aAf ns k m<m:=⟨Int.emod_nonneg _ (by lia),Int.emod_lt_of_pos _ hm⟩
def bit(d:D):Prop:=d= .int 0\/d= .int 1
theorem aAg(i:Int):bit (.int (i % 2)):=by
 unfold bit;rcases(show i % 2=0\/i % 2=1 by lia)with h|h<;>simp[h]
theorem ix4{j:Nat}(h:a ρ= .ok (.int j))(l:j<4):rIx (iU [rK (.int 1),rK (.int 2),rK (.int 4),rK (.int 8)]) a ρ= .ok (.int ((2^j:Nat):Int)):=by
 refine(uU rfl h).trans (fX ?_);rcases(show j=0\/j=1\/j=2\/j=3 by lia)with rfl|rfl|rfl|rfl<;>rfl
theorem ix5{j:Nat}(h:a ρ= .ok (.int j))(l:j<=4):rIx (iU [rK (.int 1),rK (.int 2),rK (.int 4),rK (.int 8),rK (.int 16)]) a ρ= .ok (.int ((2^j:Nat):Int)):=by
 refine(uU rfl h).trans (fX ?_);rcases(show j=0\/j=1\/j=2\/j=3\/j=4 by lia)with rfl|rfl|rfl|rfl|rfl<;>rfl
theorem aAh(h:m<=4):1<=2^m/\2^m<=16:=by
 rcases(show m=0\/m=1\/m=2\/m=3\/m=4 by lia)with rfl|rfl|rfl|rfl|rfl<;>decide
theorem i7{m:Nat}(hm:m<=4)(k:Int): ∃xs,aO [.int m,.int k]= .ok (.tup xs)/\xs.length=m/\∀x∈xs,bit x:=by
 obtain⟨xs,e,l,b⟩:=eZ (n:=0) (cs:=[1]) (it:=cS (aA 0)) (e:=bF .Mod (bF .FloorDiv (aA 1) (rIx (iU [rK (.int 1),rK (.int 2),rK (.int 4),rK (.int 8)]) (aA 0))) (rK (.int 2))) (ρ:=[.sh (.int m),.sh (.int k)]) (ds:=qO m) (P:=bit)
  (.inl (e9 rfl (by lia))) λd h=>by
   obtain⟨j,c,rfl⟩:=iO h;have f:=aAh (m:=j) (by lia)
   refine⟨[.sh (.int j)],_,rfl,(bJ ((bJ rfl (ix4 (a:=aA 0) (j:=j) rfl (by lia))).trans (aAe ?_ ?_)) rfl).trans (nW (by decide)),aAg _⟩<;>lia
 exact⟨xs,aS (aQ ((dN e).trans rfl)),l.trans eJ,b⟩
theorem aAi: ∀{xs:List D},(∀x∈xs, ∃i,x=D.int i)->∃is:List Int,xs=is.map D.int
 |[],_=>⟨[],rfl⟩
 |x::r,h=>by
  obtain⟨i,rfl⟩:=h x (.head _);obtain⟨is,rfl⟩:=aAi (xs:=r) λy m=>h y (.tail _ m)
  exact⟨i::is,rfl⟩
theorem aJg(h:bit d): ∃i,d= .int i:=by rcases h with rfl|rfl<;>exact⟨_,rfl⟩
theorem aD2(is:List Int):aBh [.lst (is.map D.int)]= .ok (.int is.sum):=by simp[aBh,items,qC]
theorem aJh(is:List Int):aBh [.tup (is.map D.int)]= .ok (.int is.sum):=by simp[aBh,items,qC]
theorem aN9(a b:Int): ∃r,eL [.int a,.int b]= .ok r/\bit r:=by
 obtain⟨f,o,H,v⟩:=i7 (m:=4) (by decide) a
 obtain⟨c,t,J,G⟩:=i7 (m:=4) (by decide) b
 have g:o7 (aG aO [rK (.int 4),aA 0]) (aG aO [rK (.int 4),aA 1]) [.sh (.int a),.sh (.int b)]= .ok (.lst ((f.zip c).map λp=>D.tup [p.1,p.2])):=by
  have z:aG aO [rK (.int 4),aA 0] [.sh (.int a),.sh (.int b)]= .ok (.tup f):=(cV rfl rfl).trans o
  have s:aG aO [rK (.int 4),aA 1] [.sh (.int a),.sh (.int b)]= .ok (.tup c):=(cV rfl rfl).trans t
  simp[o7,z,s,R.bind]
 obtain⟨I,e,l,q⟩:=eZ (n:=2) (cs:=[]) (e:=bF .Mult (aA 0) (aA 1)) (P:=λx=>∃i,x=D.int i) (.inl g) λd h=>by
  obtain⟨⟨x,y⟩,E,rfl⟩:=au.1 h;obtain⟨u,j⟩:=List.of_mem_zip E;have B:=v x u;have C:=G y j;refine⟨[.sh x,.sh y],?_⟩;rcases B with rfl|rfl<;>rcases C with rfl|rfl<;>exact⟨_,rfl,rfl,_,rfl⟩
 obtain⟨A,rfl⟩:=aAi q;exact⟨_,aS (aQ ((bJ ((dN e).trans (aD2 A)) rfl).trans (nW (by decide)))),aAg _⟩
theorem cO(ns:List Int)(k:Nat){m:Nat}(hm:0<m): ∃p:Nat,aI [Sc ns,.int k,.int m]= .ok (.int p)/\p<m:=by
 have h:(0:Int)<m:=by lia
 have r:=sJ ns k h;refine⟨(aAf ns k m).toNat,(aJf ns k h).trans ?_,by lia⟩
 rw[Int.toNat_of_nonneg r.1]
theorem aOa{p:Nat}(h:p<2):bit (.int p):=by
 rcases(show p=0\/p=1 by lia)with rfl|rfl
 ·exact .inl rfl
 ·exact .inr rfl
theorem aFr{ws:List D}(h: ∀w∈ws,bit w){p:Nat}(hp:p<ws.length): ∃w,dIx (.lst ws) (.int p)= .ok w/\bit w:=
 ⟨ws[p],fX (bf hp),h _ (List.getElem_mem hp)⟩
theorem aAj(ns:List Int)(at':Nat){m:Nat}(hm:m<=4): ∃ws,cM [Sc ns,.int at',.int m]= .ok (.tup [.int m,.tup ws])/\ws.length=2^m/\∀w∈ws,bit w:=by
 have S:=aAh hm;obtain⟨f,B,lw⟩:=cO ns at' (m:=6) (by decide)
 -- the drawn worths
 obtain⟨s,e0,Q,O⟩:=eZ (n:=0) (cs:=[1,0]) (it:=cS (aA 3)) (e:=aG aI [aA 2,bF .Add (bF .Add (aA 1) (rK (.int 1))) (aA 0),rK (.int 2)]) (P:=bit) (ds:=qO (2^m))
  (ρ:=[.sh (Sc ns),.sh (.int at'),.sh (.int m),.sh (.int (2^m:Nat)),.sh (.int f),.no,.no,.no,.no]) (.inl (e9 rfl (by lia))) λd h=>by
   obtain⟨j,H,rfl⟩:=iO h;obtain⟨p,S,lp⟩:=cO ns (at'+1+j) (m:=2) (by decide)
   exact⟨[.sh (.int j)],_,rfl,(dO (x:=Sc ns) (y:=.int ((at'+1+j:Nat):Int)) (z:=.int 2) rfl rfl rfl).trans S,aOa lp⟩
 rw[eJ]at Q
 -- the ways
 have h4: ∃ws a b,(sIf (hX (aY .Eq (aA 4) (rK (.int 0))) (aY .Gt (aA 2) (rK (.int 0))))
   (bL (g6 6 (aG aI [aA 0,bF .Add (aA 1) (rK (.int 20)),aA 3]))
    (sV 5 (bB 0 [6] (cS (aA 3)) none (aG eL [aA 1,aA 0]))))
   (sIf (aY .Eq (aA 4) (rK (.int 1)))
    (sV 5 (bB 0 [1,2,0] (cS (aA 3)) none (aG aBg [aY .GtE (aG aBh [aG aO [aA 2,aA 0]]) (bF .Add (rK (.int 1)) (aG aI [aA 3,bF .Add (aA 1) (rK (.int 21)),rK (.int 3)]))])))
    (sIf (hX (aY .Eq (aA 4) (rK (.int 2))) (aY .Gt (aA 2) (rK (.int 0))))
     (bL (g6 7 (aG aI [aA 0,bF .Add (aA 1) (rK (.int 22)),aA 2]))
      (sV 5 (bB 0 [7,5] (cS (aA 3)) none (rIx (aD 2) (bF .Sub (aA 0) (bF .Mult (bF .Mod (bF .FloorDiv (aA 0) (rIx (iU [rK (.int 1),rK (.int 2),rK (.int 4),rK (.int 8)]) (aA 1))) (rK (.int 2))) (rIx (iU [rK (.int 1),rK (.int 2),rK (.int 4),rK (.int 8)]) (aA 1))))))))
     (a9)))) [.sh (Sc ns),.sh (.int at'),.sh (.int m),.sh (.int (2^m:Nat)),.sh (.int f),.ow s,.no,.no,.no]
   = .nx [.sh (Sc ns),.sh (.int at'),.sh (.int m),.sh (.int (2^m:Nat)),.sh (.int f),.ow ws,a,b,.no]/\ws.length=2^m/\∀w∈ws,bit w:=by
  have K: ∀ρ:Rho,ρ[2]? =some (.sh (.int m))->aY .Gt (aA 2) (rK (.int 0)) ρ= .ok (.bl (decide (0<m))):=λρ h=>by
   refine(aR (x:=.int m) (by simp[aA,h]) rfl).trans ?_
   simp[eE]
  have o: ∀(c:Nat) (ρ:Rho),ρ[4]? =some (.sh (.int f))->aY .Eq (aA 4) (rK (.int c)) ρ= .ok (.bl (decide (f=c))):=λc ρ h=>by
   refine(aR (x:=.int f) (by simp[aA,h]) rfl).trans ?_
   rw[i6 rfl];show R.ok (.bl ((f:Int)==(c:Int)))=_
   congr 2;rw[Bool.eq_iff_iff];simp;lia
  have g: ∀c:Nat,hX (aY .Eq (aA 4) (rK (.int c))) (aY .Gt (aA 2) (rK (.int 0))) [.sh (Sc ns),.sh (.int at'),.sh (.int m),.sh (.int (2^m:Nat)),.sh (.int f),.ow s,.no,.no,.no]= .ok (.bl (decide (f=c/\0<m))):=λc=>by
   by_cases h:f=c
   ·refine(lI ((o c _ rfl).trans (by simp[h]))).trans ((K _ rfl).trans (by simp[h]))
   ·refine(qD ((o c _ rfl).trans (by simp[h]))).trans (by simp[h])
  by_cases C:f=0/\0<m
  ·obtain⟨u,hk,lk⟩:=cO ns (at'+20) (m:=2^m) (by lia)
   obtain⟨ws,e,l,b⟩:=eZ (n:=0) (cs:=[6]) (it:=cS (aA 3)) (e:=aG eL [aA 1,aA 0]) (P:=bit) (ds:=qO (2^m))
    (ρ:=[.sh (Sc ns),.sh (.int at'),.sh (.int m),.sh (.int (2^m:Nat)),.sh (.int f),.ow s,.sh (.int u),.no,.no]) (.inl (e9 rfl (by lia))) λd h=>by
     obtain⟨j,H,rfl⟩:=iO h;obtain⟨r,hr,br⟩:=aN9 u j;exact⟨[.sh (.int j)],_,rfl,(cV rfl rfl).trans hr,br⟩
   refine⟨ws,.sh (.int u),.no,(d6 ((g 0).trans (by simp[C]))).trans ((aH (eV ((dO rfl rfl rfl).trans hk))).trans (nU e)),l.trans eJ,b⟩
  by_cases L:f=1
  ·obtain⟨q,M,Z⟩:=cO ns (at'+21) (m:=3) (by lia)
   obtain⟨ws,e,l,b⟩:=eZ (n:=0) (cs:=[1,2,0]) (it:=cS (aA 3)) (e:=aG aBg [aY .GtE (aG aBh [aG aO [aA 2,aA 0]]) (bF .Add (rK (.int 1)) (aG aI [aA 3,bF .Add (aA 1) (rK (.int 21)),rK (.int 3)]))]) (P:=bit) (ds:=qO (2^m))
    (ρ:=[.sh (Sc ns),.sh (.int at'),.sh (.int m),.sh (.int (2^m:Nat)),.sh (.int f),.ow s,.no,.no,.no]) (.inl (e9 rfl (by lia))) λd h=>by
     obtain⟨j,H,rfl⟩:=iO h;obtain⟨xs,hs,ls,bs⟩:=i7 hm j;obtain⟨is,rfl⟩:=aAi λx m=>aJg (bs x m)
     refine⟨[.sh (.int j)],_,rfl,(cF ((aR ((cF ((cV rfl rfl).trans hs)).trans (aJh is)) ((bJ rfl ((dO rfl rfl rfl).trans M)).trans rfl)).trans rfl)).trans rfl,?_⟩;unfold b2i;split
     ·exact .inr rfl
     ·exact .inl rfl
   refine⟨ws,.no,.no,(cU ((g 0).trans (by simp[C]))).trans ((d6 ((o 1 _ rfl).trans (by simp[L]))).trans (nU e)),l.trans eJ,b⟩
  by_cases N:f=2/\0<m
  ·obtain⟨nm,hk,lk⟩:=cO ns (at'+22) (m:=m) (by lia)
   obtain⟨ws,e,l,b⟩:=eZ (n:=0) (cs:=[7,5]) (it:=cS (aA 3)) (e:=rIx (aD 2) (bF .Sub (aA 0) (bF .Mult (bF .Mod (bF .FloorDiv (aA 0) (rIx (iU [rK (.int 1),rK (.int 2),rK (.int 4),rK (.int 8)]) (aA 1))) (rK (.int 2))) (rIx (iU [rK (.int 1),rK (.int 2),rK (.int 4),rK (.int 8)]) (aA 1))))) (P:=bit) (ds:=qO (2^m))
    (ρ:=[.sh (Sc ns),.sh (.int at'),.sh (.int m),.sh (.int (2^m:Nat)),.sh (.int f),.ow s,.no,.sh (.int nm),.no]) (.inl (e9 rfl (by lia))) λd h=>by
     obtain⟨j,H,rfl⟩:=iO h;have ab:=aAh (m:=nm) (by lia)
     have E:j/2^nm % 2*2^nm<=j:=Nat.le_trans (Nat.mul_le_mul_right _ (Nat.mod_le _ _)) (Nat.div_mul_le_self ..)
     obtain⟨w,B,I⟩:=aFr O (p:=j-j/2^nm % 2*2^nm) (by lia)
     refine⟨[.sh (.int j)],w,rfl,(cJ (x:=.lst s) (y:=.int (j-j/2^nm % 2*2^nm:Nat)) rfl ?_).trans B,I⟩;refine(bJ rfl ((bJ ((bJ ((bJ rfl (ix4 (a:=aA 1) (j:=nm) rfl (by lia))).trans (aAe (by lia) (by lia))) rfl).trans (nW (by decide))) (ix4 (a:=aA 1) (j:=nm) rfl (by lia))).trans (aFq (aN8 (by lia) (by lia))))).trans ?_
     show R.ok (D.int ((j:Int)-(j:Int)/((2^nm:Nat):Int) % 2*((2^nm:Nat):Int)))=_;rw[Int.ofNat_sub E,Int.natCast_mul,Int.natCast_emod,Int.natCast_ediv];rfl
   refine⟨ws,.no,.sh (.int nm),(cU ((g 0).trans (by simp[C]))).trans ((cU ((o 1 _ rfl).trans (by simp[L]))).trans ((d6 ((g 2).trans (by simp[N]))).trans ((aH (eV ((dO rfl rfl rfl).trans hk))).trans (nU e)))),l.trans eJ,b⟩
  ·exact⟨s,.no,.no,(cU ((g 0).trans (by simp[C]))).trans ((cU ((o 1 _ rfl).trans (by simp[L]))).trans ((cU ((g 2).trans (by simp[N]))).trans rfl)),Q,O⟩
 obtain⟨i,a,b,Y,W,J⟩:=h4
 -- one worth turned
 have h5: ∃ws c,(sIf (hX (aY .Lt (aA 4) (rK (.int 3))) (aY .Eq (aG aI [aA 0,bF .Add (aA 1) (rK (.int 23)),rK (.int 3)]) (rK (.int 0))))
   (bL (g6 8 (aG aI [aA 0,bF .Add (aA 1) (rK (.int 24)),aA 3]))
    (wC 5 (aA 8) (bF .Sub (rK (.int 1)) (rIx (aD 5) (aA 8)))))
   (a9)) [.sh (Sc ns),.sh (.int at'),.sh (.int m),.sh (.int (2^m:Nat)),.sh (.int f),.ow i,a,b,.no]
   = .nx [.sh (Sc ns),.sh (.int at'),.sh (.int m),.sh (.int (2^m:Nat)),.sh (.int f),.ow ws,a,b,c]/\ws.length=2^m/\∀w∈ws,bit w:=by
  obtain⟨q,M,Z⟩:=cO ns (at'+23) (m:=3) (by lia)
  have hc: ∃t,hX (aY .Lt (aA 4) (rK (.int 3))) (aY .Eq (aG aI [aA 0,bF .Add (aA 1) (rK (.int 23)),rK (.int 3)]) (rK (.int 0))) [.sh (Sc ns),.sh (.int at'),.sh (.int m),.sh (.int (2^m:Nat)),.sh (.int f),.ow i,a,b,.no]= .ok (.bl t):=by
   have T:aY .Lt (aA 4) (rK (.int 3)) [.sh (Sc ns),.sh (.int at'),.sh (.int m),.sh (.int (2^m:Nat)),.sh (.int f),.ow i,a,b,.no]= .ok (.bl (decide ((f:Int)<3))):=rfl
   by_cases X:(f:Int)<3
   ·exact⟨_,(lI (T.trans (by simp[X]))).trans ((aR ((dO rfl rfl rfl).trans M) rfl).trans (i6 rfl))⟩
   ·exact⟨_,qD (T.trans (by simp[X]))⟩
  obtain⟨t,U⟩:=hc
  cases t with
  |false=>exact⟨i,.no,(cU U).trans rfl,W,J⟩
  |true=>
   obtain⟨A,hl,ll⟩:=cO ns (at'+24) (m:=2^m) (by lia)
   obtain⟨w,B,I⟩:=aFr J (p:=A) (by lia)
   have hb: ∃v,kB .Sub (.int 1) w= .ok v/\bit v:=by
    rcases I with rfl|rfl
    ·exact⟨_,rfl,.inr rfl⟩
    ·exact⟨_,rfl,.inl rfl⟩
   obtain⟨v,hv,bv⟩:=hb;refine⟨i.set A v,.sh (.int A),(d6 U).trans ((aH (eV ((dO rfl rfl rfl).trans hl))).trans ?_),by simp[W],λx mx=>?_⟩
   ·have hx:(bF .Sub (rK (.int 1)) (rIx (aD 5) (aA 8))) [.sh (Sc ns),.sh (.int at'),.sh (.int m),.sh (.int (2^m:Nat)),.sh (.int f),.ow i,a,b,.sh (.int A)]= .ok v:=(bJ rfl ((cJ rfl rfl).trans B)).trans hv
    have hi:ixD i.length (A:Int)=some A:=by simp[ixD];lia
    show wC 5 (aA 8) (bF .Sub (rK (.int 1)) (rIx (aD 5) (aA 8))) [.sh (Sc ns),.sh (.int at'),.sh (.int m),.sh (.int (2^m:Nat)),.sh (.int f),.ow i,a,b,.sh (.int A)]=_;unfold wC;rw[hx];simp[eY,aA,hi]
   ·rcases List.mem_or_eq_of_mem_set mx with h|rfl
    ·exact J x h
    ·exact bv
 obtain⟨G,c,e2,l2,b2⟩:=h5;refine⟨G,aS ((aH (eV (ix5 (a:=aA 2) (j:=m) rfl hm))).trans ((aH (eV ((dO rfl rfl rfl).trans B))).trans ((aH (nU e0)).trans ((aH Y).trans ((aH e2).trans (aQ (eW rfl ((cF rfl).trans rfl)))))))),l2,b2⟩
def wb(b:Int):D->Bool
 |.int i=>decide (0<=i)&&decide (i<b)
 |_=>false
theorem lL(b:Int)(h:plain x=true):bH [x,.int b]= .ok (.bl (wb b x)):=by
 cases x with
 |int i=>
  exact aS (aQ ((lI rfl).trans (aAd (i:=0) (j:=i) (k:=b) rfl rfl rfl)))
 |exc c=>exact absurd h (by simp[plain])
 |fn c=>exact absurd h (by simp[plain])
 |dct d a=>exact absurd h (by simp[plain])
 |_=>rfl
theorem aAk(b:Int)(hx:x= .tup ds\/x= .lst ds)(h:bP ds=true):bU [x,.int b]= .ok (.bl (ds.all (wb b))):=by
 have e:bB 0 [1] (aD 0) none (aG bH [aA 0,aA 1]) [.sh x,.sh (.int b)]= .ow (ds.map λd=>.bl (wb b d)):=
  iN (by rcases hx with rfl|rfl;exact .inr (.inl rfl);exact .inl rfl) λd m=>(cV rfl rfl).trans (lL b (gH.1 h d m))
 exact aS (aQ ((dN e).trans aN6))
def aO8(n b:Int):D->Bool
 |.tup ws=>decide ((ws.length:Int)=n)&&ws.all (wb b)
 |_=>false
theorem aJi(i j:Int):eE .Eq (.int i) (.int j)= .ok (.bl (decide (i=j))):=by
 rw[i6 (x:=.int i) (y:=.int j) rfl];show R.ok (.bl (i==j))=_
 congr 2
theorem aAl(i j:Int):eE .NotEq (.int i) (.int j)= .ok (.bl (!decide (i=j))):=by
 rw[sI (x:=.int i) (y:=.int j) rfl];show R.ok (.bl (!(i==j)))=_
 congr 2
theorem mV(n b:Int)(h:plain x=true):iP [x,.int n,.int b]= .ok (.bl (aO8 n b x)):=by
 cases x with
 |tup d=>
  refine aS (aQ ((lI rfl).trans ?_))
  have e:aY .Eq (aG rD [aD 0]) (aA 1) [.sh (.tup d),.sh (.int n),.sh (.int b)]= .ok (.bl (decide ((d.length:Int)=n))):=(aR rfl rfl).trans (aJi _ _)
  by_cases a:(d.length:Int)=n
  ·exact(lI (e.trans (by simp[a]))).trans ((cV rfl rfl).trans ((aAk b (.inl rfl) h).trans (by simp[aO8,a])))
  ·exact(qD (e.trans (by simp[a]))).trans (by simp[aO8,a])
 |exc c=>exact absurd h (by simp[plain])
 |fn c=>exact absurd h (by simp[plain])
 |dct f g=>exact absurd h (by simp[plain])
 |_=>rfl
theorem aD3{m:Nat}(h:m<=4):bM [.int m]= .ok (.int (2^m:Nat)):=by
 rcases(show m=0\/m=1\/m=2\/m=3\/m=4 by lia)with rfl|rfl|rfl|rfl|rfl<;>rfl
def aJj:D->Bool
 |.tup [a,b]=>wb 5 a&&(match a with|.int m=>aO8 (2^m.toNat:Nat) 2 b|_=>false)
 |_=>false
theorem aOb(h:wb b x=true): ∃m:Nat,x= .int m/\(m:Int)<b:=by
 cases x with
 |int i=>
  simp[wb]at h;exact⟨i.toNat,by rw[Int.toNat_of_nonneg h.1],by lia⟩
 |_=>simp[wb]at h
theorem fC(h:plain d=true):eK [d]= .ok (.bl (aJj d)):=by
 cases d with
 |tup e=>
  have i:aY .NotEq (aG rD [aD 0]) (rK (.int 2)) [.sh (.tup e)]= .ok (.bl (!decide ((e.length:Int)=2))):=(aR rfl rfl).trans (aAl _ _)
  by_cases j:e.length=2
  ·obtain⟨a,b,rfl⟩: ∃a b,e=[a,b]:=by
    match e,j with
    |[a,b],_=>exact⟨a,b,rfl⟩
   have g:plain a=true/\plain b=true:=by simpa[plain,bP]using h
   have n:aG fA [rIx (aD 0) (rK (.int 0))] [.sh (.tup [a,b])]= .ok (.bl (wb 5 a)):=(cF rfl).trans (aS (aQ ((cV rfl rfl).trans (lL 5 g.1))))
   have l:rOr (o0 (rIs (m7) (aA 0))) (rOr (aY .NotEq (aG rD [aD 0]) (rK (.int 2))) (o0 (aG fA [rIx (aD 0) (rK (.int 0))]))) [.sh (.tup [a,b])]= .ok (.bl (!wb 5 a)):=
    (v5 rfl).trans ((v5 (i.trans rfl)).trans (aAc n))
   cases f:wb 5 a with
   |false=>exact aS (cI ((d6 (l.trans (by rw[f];rfl))).trans (aQ (by simp[aJj,f,rK])))) 
   |true=>
    obtain⟨m,rfl,p⟩:=aOb f;refine aS ((aH ((cU (l.trans (by rw[f];rfl))).trans rfl)).trans (aQ ((dO rfl ((cF rfl).trans (aD3 (by lia))) rfl).trans ((mV _ _ g.2).trans ?_))))
    simp[aJj,f]
  ·refine aS (cI ((d6 ((v5 rfl).trans (aJb (i.trans ?_)))).trans (aQ ?_)))
   ·have: ¬(e.length:Int)=2:=by lia
    simp[this]
   ·match e,j with
    |[],_=>rfl
    |[_],_=>rfl
    |_::_::_::_,_=>rfl
    |[_,_],h=>exact absurd rfl h
 |exc c=>exact absurd h (by simp[plain])
 |fn c=>exact absurd h (by simp[plain])
 |dct q o=>exact absurd h (by simp[plain])
 |_=>rfl
theorem i8(h:plain d=true)(s:aJj d=true):bE [d]= .ok .non:=
 aAb (ρ:=[.sh d]) ((cU ((aAc ((cF rfl).trans (fC h))).trans (by rw[s];rfl))).trans rfl)
def tn:D->D
 |.int i=>.int (1-i)
 |d=>d
theorem mW(h:bit d):plain d=true/\dep d=0:=by rcases h with rfl|rfl<;>exact⟨rfl,rfl⟩
theorem v7(h: ∀w∈ws,bit w):bP ws=true:=gH.2 λx m=>(mW (h x m)).1
theorem aJk{m:Nat}(hm:m<=4)(l:ws.length=2^m)(h: ∀w∈ws,bit w):aJj (.tup [.int m,.tup ws])=true:=by
 have c:wb 5 (.int m)=true:=by simp[wb];lia
 have a:ws.all (wb 2)=true:=by
  rw[List.all_eq_true];intro w b;rcases h w b with rfl|rfl<;>rfl
 have d:aJj (.tup [.int m,.tup ws])=(wb 5 (.int m)&&(decide ((ws.length:Int)=(2^m:Nat))&&ws.all (wb 2))):=rfl
 rw[d,c,a,decide_eq_true (by rw[l])];rfl
theorem aD4{m:Nat}(h: ∀w∈ws,bit w):plain (.tup [.int m,.tup ws])=true:=by
 simp[plain,bP,v7 h]
end SK.k71
namespace SK
open PySem
theorem uV(hi:it ρ= .ok (.lst ds)\/it ρ= .ok (.tup ds)\/it ρ= .ow ds)(h:bG (cR n (iT cs ρ) c e) ds=some xs):bB n cs it c e ρ= .ow xs:=by
 rcases hi with hi|hi|hi<;>simp[bB,hi,R.bind,hW,items,h]
theorem aAm(h:a ρ= .ok (.tup xs))(k:b ρ= .ok (.tup ys)):o7 a b ρ= .ok (.lst ((xs.zip ys).map λp=>D.tup [p.1,p.2])):=by simp[o7,h,k,R.bind]
def bD(b:Bool):D:=.int (b2i b)
end SK
namespace SK.k71
open SK PySem
def sw(m:Nat)(bs:List Bool):D:=.tup [.int m,.tup (bs.map bD)]
def i9(m:Nat)(bs:List Bool):Prop:=m<=4/\bs.length=2^m
theorem aOc(b:Bool):bit (bD b):=by
 cases b
 ·exact .inl rfl
 ·exact .inr rfl
theorem aAn: ∀{ws:List D},(∀w∈ws,bit w)->∃bs:List Bool,ws=bs.map bD
 |[],_=>⟨[],rfl⟩
 |w::r,h=>by
  obtain⟨bs,rfl⟩:=aAn (ws:=r) λx m=>h x (.tail _ m)
  rcases h w (.head _)with rfl|rfl
  ·exact⟨false::bs,rfl⟩
  ·exact⟨true::bs,rfl⟩
theorem aAo(bs:List Bool): ∀w∈bs.map bD,bit w:=λw m=>by obtain⟨b,_,rfl⟩:=au.1 m;exact aOc b
theorem jA(g:i9 m bs):aJj (sw m bs)=true:=aJk g.1 (by simpa using g.2) (aAo bs)
theorem iR(m:Nat)(bs:List Bool):plain (sw m bs)=true:=aD4 (aAo bs)
theorem uW(m:Nat)(bs:List Bool):dep (sw m bs)<=60:=by
 have:=qG λx a=>(mW (aAo bs x a)).2
 simp[sw,dep,wB,this]
theorem aD5(ns:List Int)(at':Nat)(hm:m<=4): ∃bs,i9 m bs/\cM [Sc ns,.int at',.int m]= .ok (sw m bs):=by
 obtain⟨a,e,l,b⟩:=aAj ns at' hm;obtain⟨bs,rfl⟩:=aAn b;exact⟨bs,⟨hm,by simpa using l⟩,e⟩
theorem i9.zip(f:Bool->Bool->Bool)(g:i9 m a)(h:i9 m b):i9 m (List.zipWith f a b):=⟨g.1,by simp[g.2,h.2]⟩
theorem i9.not(g:i9 m a):i9 m (a.map (! ·)):=⟨g.1,by simp[g.2]⟩
theorem nY(g:i9 m a)(h:i9 m b):bK [sw m a,sw m b]= .ok .non:=by
 refine aAb (ρ:=[.sh (sw m a),.sh (sw m b)]) ((aH (eR ((cF rfl).trans (i8 (iR m a) (jA g))))).trans ((aH (eR ((cF rfl).trans (i8 (iR m b) (jA h))))).trans ((cU ((aR (x:=.int m) (y:=.int m) rfl rfl).trans ?_)).trans rfl)));rw[aAl];simp
theorem nZ(hop: ∀x y,kB op (bD x) (bD y)= .ok (bD (f x y))):
  bB 2 [] (o7 (rIx (aD 0) (rK (.int 1))) (rIx (aD 1) (rK (.int 1)))) none (bF op (aA 0) (aA 1)) [.sh (sw m a),.sh (sw m b)]= .ow ((List.zipWith f a b).map bD):=by
 refine uV (.inl (aAm rfl rfl)) ?_
 have: ∀(a b:List Bool),bG (cR 2 (iT [] [.sh (sw m a),.sh (sw m b)]) none (bF op (aA 0) (aA 1))) (((a.map bD).zip (b.map bD)).map λp=>D.tup [p.1,p.2])=some ((List.zipWith f a b).map bD):=by
  intro a
  induction a with
  |nil=>intro b;rfl
  |cons x a c=>
   intro b
   cases b with
   |nil=>rfl
   |cons y b=>
    have:=c b
    simp only[iT,List.map_nil]at this ⊢;simp only[List.map_cons,List.zip_cons_cons,List.zipWith_cons_cons,bG]
    rw[show cR 2 [] none (bF op (aA 0) (aA 1)) (D.tup [bD x,bD y])=some (some (bD (f x y))) from by
     have d:bF op (aA 0) (aA 1) [.sh (bD x),.sh (bD y)]= .ok (bD (f x y)):=(bJ rfl rfl).trans (hop x y)
     simp[cR,tgt,d]]
    simp[this]
 exact this a b
theorem aJl(g:i9 m a)(h:i9 m b):mU [sw m a,sw m b]= .ok (sw m (List.zipWith (· && ·) a b)):=
 aS ((aH (eR ((cV rfl rfl).trans (nY g h)))).trans (aQ (eW rfl ((dN (nZ λx y=>by cases x<;>cases y<;>rfl)).trans rfl))))
theorem aAp(g:i9 m a)(h:i9 m b):gJ [sw m a,sw m b]= .ok (sw m (List.zipWith (· || ·) a b)):=
 aS ((aH (eR ((cV rfl rfl).trans (nY g h)))).trans (aQ (eW rfl ((dN (nZ λx y=>by cases x<;>cases y<;>rfl)).trans rfl))))
theorem aAq(g:i9 m a)(h:i9 m b):gK [sw m a,sw m b]= .ok (sw m (List.zipWith (· ^^ ·) a b)):=
 aS ((aH (eR ((cV rfl rfl).trans (nY g h)))).trans (aQ (eW rfl ((dN (nZ λx y=>by cases x<;>cases y<;>rfl)).trans rfl))))
theorem aAr(g:i9 m a):iQ [sw m a]= .ok (sw m (a.map (! ·))):=by
 have e:bB 0 [] (rIx (aD 0) (rK (.int 1))) none (bF .Sub (rK (.int 1)) (aA 0)) [.sh (sw m a)]= .ow ((a.map (! ·)).map bD):=by
  have:=iN (cs:=[]) (it:=rIx (aD 0) (rK (.int 1))) (e:=bF .Sub (rK (.int 1)) (aA 0)) (ρ:=[.sh (sw m a)]) (ds:=a.map bD) (g:=tn) (.inr (.inl rfl)) λd c=>by
   obtain⟨b,_,rfl⟩:=au.1 c
   cases b<;>rfl
  rw[this,List.map_map,List.map_map]
  congr 1
  refine List.map_congr_left λb _=>?_
  cases b<;>rfl
 exact aS ((aH (eR ((cF rfl).trans (i8 (iR m a) (jA g))))).trans (aQ ((eW (x:=.int (m:Nat)) rfl ((dN e).trans rfl)).trans rfl)))
theorem jB(h:a ρ= .ex c ρ'):bL a b ρ= .ex c ρ':=by simp[bL,h]
section
variable {m m2:Nat} {a b:List Bool} {d:D}
theorem aD6(g:i9 m a)(h:i9 m2 b)(n:m≠m2):bK [sw m a,sw m2 b]= .ex 4:=by
 refine gY (ρ:=[.sh (sw m a),.sh (sw m2 b)]) ((aH (eR ((cF rfl).trans (i8 (iR m a) (jA g))))).trans ((aH (eR ((cF rfl).trans (i8 (iR m2 b) (jA h))))).trans ((d6 ((aR (x:=.int m) (y:=.int m2) rfl rfl).trans ?_)).trans rfl)));rw[aAl,decide_eq_false (by lia)];rfl
theorem aB1(x y:D)(h:bK [x,y]= .ex c):mU [x,y]= .ex c/\gJ [x,y]= .ex c/\gK [x,y]= .ex c:=
 ⟨gY (ρ:=[.sh x,.sh y]) (jB (nV ((cV rfl rfl).trans h))),gY (ρ:=[.sh x,.sh y]) (jB (nV ((cV rfl rfl).trans h))),gY (ρ:=[.sh x,.sh y]) (jB (nV ((cV rfl rfl).trans h)))⟩
end
section
variable {h:List (Str×D)} {x y:Str} {d:D}
theorem cW:bI (p::h) y=if p.1=y then some p.2 else bI h y:=by
 by_cases e:p.1=y<;>simp[bI,e]
theorem aAs(n:y∉h.map (·.1)):bI h y=none:=by
 induction h with
 |nil=>rfl
 |cons p r a=>
  rw[cW,if_neg (λe=>n (by simp[e])),a λm=>n (by simp[m])]
theorem n6(nd:(h.map (·.1)).Nodup)(m:p∈h):bI h p.1=some p.2:=by
 induction h with
 |nil=>cases m
 |cons q r a=>
  rw[List.map_cons,List.nodup_cons]at nd;rw[cW];rcases av.1 m with rfl|m
  ·simp
  ·have b: ¬q.1=p.1:=λe=>nd.1 (by rw[e];exact au.2 ⟨p,m,rfl⟩)
   rw[if_neg b,a nd.2 m]
theorem aAt(e:bI h y=some v):(y,v)∈h:=by
 induction h with
 |nil=>cases e
 |cons q r a=>
  rw[cW]at e;split at e
  ·rename_i z;cases e;subst z;exact .head _
  ·exact .tail _ (a e)
theorem lM:(bI h y).isSome=(h.map (·.1)).contains y:=by
 induction h with
 |nil=>rfl
 |cons q r a=>
  rw[cW,List.map_cons,List.contains_cons]
  by_cases e:q.1=y
  ·simp[e]
  ·rw[if_neg e,a,show(y==q.1)=false from by simpa using λz=>e z.symm];simp
theorem aAu:(h.any λp=>decide (p.1=x))=(bI h x).isSome:=by
 induction h with
 |nil=>rfl
 |cons q r a=>
  rw[List.any_cons,cW,a]
  by_cases e:q.1=x<;>simp[e]
theorem lN(n:(bI h x).isSome=false):fR h x d=h++[(x,d)]:=by unfold fR;rw[aAu,n];rfl
theorem n9(n:(bI h x).isSome=true):fR h x d=h.map λp=>if p.1=x then(p.1,d)else p:=by unfold fR;rw[aAu,n];rfl
theorem aD7:(h.map λp=>if p.1=x then(p.1,d)else p).map (·.1)=h.map (·.1):=by
 rw[List.map_map];refine List.map_congr_left λp _=>?_
 by_cases e:p.1=x<;>simp[e]
theorem uX(hn:(h.map (·.1)).Nodup):((fR h x d).map (·.1)).Nodup:=by
 cases n:(bI h x).isSome with
 |true=>rw[n9 n,aD7];exact hn
 |false=>
  rw[lN n,List.map_append];refine List.nodup_append.2 ⟨hn,by simp,λa f b c=>?_⟩
  rw[lM]at n
  simp at c
  subst c;intro e;subst e
  simp at n f
  obtain⟨v,g⟩:=f;exact n v g
theorem aJm(m:p∈fR h x d):p=(x,d)\/p∈h:=by
 cases n:(bI h x).isSome with
 |true=>
  rw[n9 n]at m;obtain⟨q,a,rfl⟩:=au.1 m
  by_cases e:q.1=x
  ·left;simp[e]
  ·right;simpa[e]using a
 |false=>
  rw[lN n]at m;rcases List.mem_append.1 m with m|m
  ·exact .inr m
  ·left;simpa using m
theorem sK:(fR h x d).length<=h.length+1:=by
 cases n:(bI h x).isSome with
 |true=>rw[n9 n];simp
 |false=>rw[lN n];simp
theorem aAv(hn:(h.map (·.1)).Nodup):bI (fR h x d) x=some d:=by
 refine n6 (uX hn) (p:=(x,d)) ?_
 cases n:(bI h x).isSome with
 |true=>
  rw[n9 n];obtain⟨v,e⟩:=Option.isSome_iff_exists.1 n;exact au.2 ⟨(x,v),aAt e,by simp⟩
 |false=>rw[lN n];simp
theorem qH(hn:(h.map (·.1)).Nodup):((iL h x).map (·.1)).Nodup:=hn.sublist (List.Sublist.map _ List.filter_sublist)
theorem aD8:(h.map (·.1)).zip (h.map (·.2))=h:=by
 induction h with
 |nil=>rfl
 |cons q r a=>simp[a]
theorem aOd: ∀(ps acc:List (Str×D)),((acc++ps).map (·.1)).Nodup->ps.foldl (λacc p=>fR acc p.1 p.2) acc=acc++ps
 |[],acc,_=>by simp
 |p::r,acc,hn=>by
  have n:(bI acc p.1).isSome=false:=by
   rw[aAs];rfl;rw[List.map_append,List.nodup_append]at hn;intro m;exact hn.2.2 p.1 m p.1 (by simp) rfl
  rw[List.foldl_cons,lN n,aOd r _ (by simpa using hn)]
  simp
theorem aJn(hn:(h.map (·.1)).Nodup):rF h=h:=by
 have:=aOd h [] (by simpa using hn)
 exact this
theorem v8:jH (h.map λp=>D.tup [.str p.1,p.2])=some h:=by
 induction h with
 |nil=>rfl
 |cons q r a=>simp[jH,a]
theorem aAw(hn:(h.map (·.1)).Nodup)(hl:h.length<=1000):mC (.lst (h.map λp=>D.tup [.str p.1,p.2]))= .ok (.dct (h.map (·.1)) (h.map (·.2))):=by
 simp[mC,v8,hl,aJn hn]
end
theorem uY(x:Str): ∀l:List Str,(aBy x l).Perm (x::l)
 |[]=>.refl _
 |y::l=>by
  unfold aBy;split
  ·exact((uY x l).cons y).trans (List.Perm.swap _ _ _)
  ·exact .refl _
theorem fZ: ∀l:List Str,(fE l).Perm l
 |[]=>.refl _
 |x::l=>(uY x _).trans ((fZ l).cons x)
section
variable {g h:FSM} {ρ ρ':Rho} {b b':Bool} {f f':F} {d d':D} {c i A:Nat} {x:R} {r r':Rk}
theorem bO(e:g ρ b= .nx ρ' b'):dJ g h ρ b=h ρ' b':=by simp[dJ,e]
theorem lO(e:g ρ b= .rt x ρ' b'):dJ g h ρ b= .rt x ρ' b':=by simp[dJ,e]
theorem oA(e:g ρ b= .ex c b'):dJ g h ρ b= .ex c b':=by simp[dJ,e]
theorem iS(e:f ρ= .ok d):p5 f ρ b= .nx ρ b:=by simp[p5,e,uN]
theorem lP(e:f ρ= .ok d):aBl i f ρ b= .nx (ρ.set (i+1) (.sh d)) b:=by simp[aBl,e,uN]
theorem sL(e:f ρ= .ex c):aBl i f ρ b= .ex c b:=by simp[aBl,e,uN]
theorem aOe(e:f ρ= .ok (.bl true)):mIf f g h ρ b=g ρ b:=by simp[mIf,e]
theorem aOf(e:f ρ= .ok (.bl false)):mIf f g h ρ b=h ρ b:=by simp[mIf,e]
theorem sM(e:f ρ= .ok d):qU f ρ b= .rt (.ok d) ρ b:=by simp[qU,e]
theorem aAx(e:f ρ= .ow xs):qU f ρ b= .rt (.ow xs) ρ b:=by simp[qU,e]
end
theorem sN(h:e ρ= .ex c):dG e ρ= .ex c ρ:=by simp[dG,h]
noncomputable def NM:List Str:=["a","b","gm","xjqp"]
noncomputable def WD:List Str:=["both","either","unlike"]
def Sw(d:D):Prop:= ∃m a,i9 m a/\d=sw m a
theorem jY(hx:x∈NM):bV [.str x]= .ok .non:=by
 simp only[NM,av,List.not_mem_nil,or_false]at hx;rcases hx with rfl|rfl|rfl|rfl<;>kernel_rfl
theorem aOg(h:Sw d):bE [d]= .ok .non:=by
 obtain⟨m,a,g,rfl⟩:=h;exact i8 (iR m a) (jA g)
def v9(r:Rk)(x:Str):R:=match bI r.held x with|some d=>.ok d|none=>.ex 8
theorem qI(r:Rk)(hx:x∈NM):aE r [.str x]= .pure (v9 r x):=by
 unfold aE iM v9;show fW 348 (dJ _ _ [.rk 348 r,.sh (.str x)] false)=_;rw[bO (iS ((cF (x:=.str x) rfl).trans (jY hx)))]
 cases e:bI r.held x with
 |none=>
  rw[oA (c:=8) (b':=false)]
  ·rfl
  ·rw[aOe]
   ·rfl
   ·show R.ok (.bl (true != (bI r.held x).isSome))=_;rw[e];rfl
 |some d=>
  rw[bO (ρ':=[.rk 348 r,.sh (.str x)]) (b':=false)]
  ·rw[lO (sM (d:=d) ?_)]
   ·rfl
   ·show(match bI r.held x with|some d=>R.ok d|none=>R.bad)=_
    rw[e]
  ·rw[aOf]
   ·rfl
   ·show R.ok (.bl (true != (bI r.held x).isSome))=_;rw[e];rfl
theorem aJo(r:Rk)(hv:oZ v=false)(hl:r.held.length<LIM):a8 r [.str x,v]= .chg .non {r with held:=fR r.held x v}:=by
 unfold a8 iM;show fW 348 (dJ _ _ [.rk 348 r,.sh (.str x),.sh v] false)=_;rw[bO (ρ':=[.rk 348 {r with held:=fR r.held x v},.sh (.str x),.sh v]) (b':=true)]
 ·rfl
 ·rw[aOf]
  ·rw[bO (ρ':=[.rk 348 {r with held:=fR r.held x v},.sh (.str x),.sh v]) (b':=true)]
   ·rfl
   ·show(if r.held.length<LIM then setR 348 [.rk 348 r,.sh (.str x),.sh v] {r with held:=fR r.held x v} else OutM.bad)=_
    rw[if_pos hl];rfl
  ·show R.ok (.bl (oZ v))=_;rw[hv]
theorem aD9(r:Rk)(hh:(bI r.held x).isSome=true):a8 r [.str x,.non]= .chg .non {r with held:=iL r.held x}:=by
 unfold a8 iM;show fW 348 (dJ _ _ [.rk 348 r,.sh (.str x),.sh .non] false)=_;rw[bO (ρ':=[.rk 348 {r with held:=iL r.held x},.sh (.str x),.sh .non]) (b':=true)]
 ·rfl
 ·rw[aOe]
  ·rw[bO (ρ':=[.rk 348 {r with held:=iL r.held x},.sh (.str x),.sh .non]) (b':=true)]
   ·rfl
   ·show(if(bI r.held x).isSome then setR 348 [.rk 348 r,.sh (.str x),.sh .non] {r with held:=iL r.held x} else OutM.bad)=_
    rw[if_pos hh];rfl
  ·rfl
def gZ(r:Rk)(w x:Str)(v:D):D:=.tup [.str w,.str x,(bI r.held x).getD .non,v]
theorem aOh(r:Rk)(hl:r.done.length<LIM)(hs:a8 ⟨r.held,r.done++[gZ r w x v],[]⟩ [.str x,v]= .chg .non ⟨k,r.done++[gZ r w x v],[]⟩):
  jX r [.str w,.str x,v]= .chg .non ⟨k,r.done++[gZ r w x v],[]⟩:=by
 unfold jX iM;show fW 348 (dJ _ _ [.rk 348 r,.sh (.str w),.sh (.str x),.sh v] false)=_;rw[bO (ρ':=[.rk 348 {r with done:=r.done++[gZ r w x v]},.sh (.str w),.sh (.str x),.sh v]) (b':=true)]
 ·rw[bO (g:=uO 348) (ρ':=[.rk 348 ⟨r.held,r.done++[gZ r w x v],[]⟩,.sh (.str w),.sh (.str x),.sh v]) (b':=true) (by rfl)]
  rw[bO (ρ':=[.rk 348 ⟨k,r.done++[gZ r w x v],[]⟩,.sh (.str w),.sh (.str x),.sh v]) (b':=true)]
  ·rfl
  ·show(match a8 ⟨r.held,r.done++[gZ r w x v],[]⟩ [.str x,v]with
    |.pure b=>uN true b λ_=>.nx [.rk 348 ⟨r.held,r.done++[gZ r w x v],[]⟩,.sh (.str w),.sh (.str x),.sh v] true
    |.chg _ a=>OutM.nx [.rk 348 a,.sh (.str w),.sh (.str x),.sh v] true)=_
   rw[hs]
 ·show(if r.done.length<LIM then setR 348 [.rk 348 r,.sh (.str w),.sh (.str x),.sh v] {r with done:=r.done++[gZ r w x v]} else OutM.bad)=_
  rw[if_pos hl];rfl
theorem aAy(r:Rk)(hv:oZ v=false)(hl:r.done.length<LIM)(hk:r.held.length<LIM):jX r [.str w,.str x,v]= .chg .non ⟨fR r.held x v,r.done++[gZ r w x v],[]⟩:=aOh r hl (aJo ⟨r.held,_,[]⟩ hv hk)
theorem aJp(r:Rk)(hl:r.done.length<LIM)(hh:(bI r.held x).isSome=true):jX r [.str w,.str x,.non]= .chg .non ⟨iL r.held x,r.done++[gZ r w x .non],[]⟩:=aOh r hl (aD9 ⟨r.held,_,[]⟩ hh)
theorem Sw.nn(h:Sw d):oZ d=false:=by obtain⟨m,a,_,rfl⟩:=h;rfl
theorem oB{ρ ρ':Rho}(e0:ρ[0]? =some (.rk 348 r))(ea:args fs ρ= .ok ds)(ed:jX r ds= .chg .non r')(eρ:ρ.set 0 (.rk 348 r')=ρ'):nT 348 jX fs ρ b= .nx ρ' true:=by
 simp[nT,mUp,e0,aQt,ea,ed,eρ]
section
variable (r:Rk) {x y z w:Str} {v v':D}
theorem aOi(hx:x∈NM)(hv:Sw v)(hl:r.done.length<LIM)(hk:r.held.length<LIM):fY r [.str x,v]= .chg (.bl (bI r.held x).isSome) ⟨fR r.held x v,r.done++[gZ r "put" x v],[]⟩:=by
 unfold fY iM;show fW 348 (dJ _ _ [.rk 348 r,.sh (.str x),.sh v,.no] false)=_;rw[bO (iS ((cF (x:=v) rfl).trans (aOg hv))),bO (iS ((cF (x:=.str x) rfl).trans (jY hx)))];rw[bO (ρ':=[.rk 348 r,.sh (.str x),.sh v,.sh (.bl (bI r.held x).isSome)]) (b':=false)]
 ·rw[bO (oB rfl (ds:=[.str "put",.str x,v]) rfl (aAy r hv.nn hl hk) rfl)];rfl
 ·refine(lP (d:=.bl (bI r.held x).isSome) ?_).trans rfl;show R.ok (.bl (false != (bI r.held x).isSome))=_;simp
theorem aJq(hx:x∈NM)(hl:r.done.length<LIM)(e:bI r.held x=some v):dP r [.str x]= .chg v ⟨iL r.held x,r.done++[gZ r "take" x .non],[]⟩:=by
 unfold dP iM;show fW 348 (dJ _ _ [.rk 348 r,.sh (.str x),.no] false)=_;rw[bO (ρ':=[.rk 348 r,.sh (.str x),.sh v]) (b':=false)]
 ·rw[bO (oB rfl (ds:=[.str "take",.str x,.non]) rfl (aJp r hl (by rw[e];rfl)) rfl)]
  rfl
 ·refine(lP (d:=v) ?_).trans rfl
  show(aE r [.str x]).told=_
  rw[qI r hx];unfold v9;rw[e];rfl
theorem aJr(hx:x∈NM)(e:bI r.held x=none):dP r [.str x]= .pure (.ex 8):=by
 unfold dP iM;show fW 348 (dJ _ _ [.rk 348 r,.sh (.str x),.no] false)=_;rw[oA (sL (c:=8) ?_)]
 ·rfl
 ·show(aE r [.str x]).told=_
  rw[qI r hx];unfold v9;rw[e];rfl
theorem aJs(g:i9 m a)(hx:x∈NM)(hl:r.done.length<LIM)(hk:r.held.length<LIM)(e:bI r.held x=some (sw m a)):eM r [.str x]= .chg (sw m (a.map (! ·))) ⟨fR r.held x (sw m (a.map (! ·))),r.done++[gZ r "turn" x (sw m (a.map (! ·)))],[]⟩:=by
 unfold eM iM;show fW 348 (dJ _ _ [.rk 348 r,.sh (.str x),.no] false)=_;rw[bO (ρ':=[.rk 348 r,.sh (.str x),.sh (sw m (a.map (! ·)))]) (b':=false)]
 ·rw[bO (oB rfl (ds:=[.str "turn",.str x,sw m (a.map (! ·))]) rfl (aAy r rfl hl hk) rfl)]
  rfl
 ·refine(lP (d:=sw m (a.map (! ·))) ((cF (x:=sw m a) ?_).trans (aAr g))).trans rfl
  show(aE r [.str x]).told=_
  rw[qI r hx];unfold v9;rw[e];rfl
theorem aJt(hx:x∈NM)(e:bI r.held x=none):eM r [.str x]= .pure (.ex 8):=by
 unfold eM iM;show fW 348 (dJ _ _ [.rk 348 r,.sh (.str x),.no] false)=_
 have h:dA 348 0 aE [aA 1] [.rk 348 r,.sh (.str x),.no]= .ex 8:=by
  show(aE r [.str x]).told=_
  rw[qI r hx];unfold v9;rw[e];rfl
 rw[oA (sL (c:=8) ?_)]
 ·rfl
 ·simp[aG,l7,args,h,RA.then]
theorem aJu(hx:x∈NM)(hl:r.done.length<LIM)(hk:r.held.length<LIM)(hv:oZ v=false)(e:aG dM [aA 2,dA 348 0 aE [aA 3],dA 348 0 aE [aA 4]] [.rk 348 r,.sh (.str x),.sh (.str w),.sh (.str y),.sh (.str z),.no]= .ok v):
  dQ r [.str x,.str w,.str y,.str z]= .chg v ⟨fR r.held x v,r.done++[gZ r "join" x v],[]⟩:=by
 unfold dQ iM;show fW 348 (dJ _ _ [.rk 348 r,.sh (.str x),.sh (.str w),.sh (.str y),.sh (.str z),.no] false)=_;rw[bO (iS ((cF (x:=.str x) rfl).trans (jY hx)))];rw[bO (ρ':=[.rk 348 r,.sh (.str x),.sh (.str w),.sh (.str y),.sh (.str z),.sh v]) (b':=false) ((lP e).trans rfl)];rw[bO (oB rfl (ds:=[.str "join",.str x,v]) rfl (aAy r hv hl hk) rfl)];rfl
theorem aAz(hx:x∈NM)(e:aG dM [aA 2,dA 348 0 aE [aA 3],dA 348 0 aE [aA 4]] [.rk 348 r,.sh (.str x),.sh (.str w),.sh (.str y),.sh (.str z),.no]= .ex c):
  dQ r [.str x,.str w,.str y,.str z]= .pure (.ex c):=by
 unfold dQ iM;show fW 348 (dJ _ _ [.rk 348 r,.sh (.str x),.sh (.str w),.sh (.str y),.sh (.str z),.no] false)=_;rw[bO (iS ((cF (x:=.str x) rfl).trans (jY hx))),oA (sL e)];rfl
theorem aFs(hy:y∈NM)(hz:z∈NM):(dA 348 0 aE [aA 3] [.rk 348 r,x',w',.sh (.str y),.sh (.str z),s]=v9 r y)/\(dA 348 0 aE [aA 4] [.rk 348 r,x',w',.sh (.str y),.sh (.str z),s]=v9 r z):=by
 constructor
 ·show(aE r [.str y]).told=_
  rw[qI r hy];rfl
 ·show(aE r [.str z]).told=_
  rw[qI r hz];rfl
theorem aA0(hx:x∈NM)(hy:y∈NM)(hz:z∈NM)(e:bI r.held y=none\/bI r.held z=none):dQ r [.str x,.str w,.str y,.str z]= .pure (.ex 8):=by
 refine aAz r hx ?_;obtain⟨b,a⟩:=aFs r (s:=.no) (x':=.sh (.str x)) (w':=.sh (.str w)) hy hz;simp only[aG,l7,args,b,a,RA.then,aA,List.getElem?_cons_zero,List.getElem?_cons_succ];unfold v9;rcases e with e|e
 ·simp[e,RA.cons]
 ·cases c:bI r.held y<;>simp[e,RA.cons]
noncomputable def opB(w:Str):Bool->Bool->Bool:=if w="both" then(· && ·)else if w="either" then(· || ·)else(· ^^ ·)
theorem aA1(g:i9 m a)(h:i9 m b)(hw:w∈WD):dM [.str w,sw m a,sw m b]= .ok (sw m (List.zipWith (opB w) a b)):=by
 simp only[WD,av,List.not_mem_nil,or_false]at hw;rcases hw with rfl|rfl|rfl
 ·exact aS (cI ((d6 (by kernel_rfl)).trans (aQ ((cV (x:=sw m a) (y:=sw m b) rfl rfl).trans (aJl g h)))))
 ·exact aS ((aH ((cU (by kernel_rfl)).trans rfl)).trans (cI ((d6 (by kernel_rfl)).trans (aQ ((cV (x:=sw m a) (y:=sw m b) rfl rfl).trans (aAp g h))))))
 ·exact aS ((aH ((cU (by kernel_rfl)).trans rfl)).trans ((aH ((cU (by kernel_rfl)).trans rfl)).trans (cI ((d6 (by kernel_rfl)).trans (aQ ((cV (x:=sw m a) (y:=sw m b) rfl rfl).trans (aAq g h)))))))
theorem aA2(g:i9 m a)(h:i9 m2 b)(n:m≠m2)(hw:w∈WD):dM [.str w,sw m a,sw m2 b]= .ex 4:=by
 obtain⟨d,c,e⟩:=aB1 _ _ (aD6 g h n);simp only[WD,av,List.not_mem_nil,or_false]at hw;rcases hw with rfl|rfl|rfl
 ·exact gY (jB ((d6 (by kernel_rfl)).trans (sN ((cV (x:=sw m a) (y:=sw m2 b) rfl rfl).trans d))))
 ·exact gY ((aH ((cU (by kernel_rfl)).trans rfl)).trans (jB ((d6 (by kernel_rfl)).trans (sN ((cV (x:=sw m a) (y:=sw m2 b) rfl rfl).trans c)))))
 ·exact gY ((aH ((cU (by kernel_rfl)).trans rfl)).trans ((aH ((cU (by kernel_rfl)).trans rfl)).trans (jB ((d6 (by kernel_rfl)).trans (sN ((cV (x:=sw m a) (y:=sw m2 b) rfl rfl).trans e))))))
theorem qJ(hy:y∈NM)(hz:z∈NM)(e1:bI r.held y=some v)(e2:bI r.held z=some v'):aG dM [aA 2,dA 348 0 aE [aA 3],dA 348 0 aE [aA 4]] [.rk 348 r,x',.sh (.str w),.sh (.str y),.sh (.str z),s]=dM [.str w,v,v']:=by
 obtain⟨b,a⟩:=aFs r (s:=s) (x':=x') (w':=.sh (.str w)) hy hz;refine dO rfl (b.trans ?_) (a.trans ?_)
 ·unfold v9;rw[e1]
 ·unfold v9;rw[e2]
end
theorem aS9:aT [.exc 8]= .ok (.str "no label"):=by kernel_rfl
theorem aTa:aT [.exc 4]= .ok (.str "unlike"):=by kernel_rfl
theorem aJv(e:f ρ= .ok (.bl true)):ifM f g h ρ=g ρ:=by simp[ifM,e]
theorem wA(e:f ρ= .ok (.bl false)):ifM f g h ρ=h ρ:=by simp[ifM,e]
section
variable (r:Rk) {x y z w:Str} {v:D} {ds:List D}
theorem aJw(h:eE .Eq (.str u) (.str u')= .ok (.bl b)):aY .Eq (rIx (aD 1) (rK (.int 0))) (rK (.str u')) [s,.sh (.tup (.str u::ds))]= .ok (.bl b):=(aR (x:=.str u) (y:=.str u') ((cJ (x:=.tup (.str u::ds)) (y:=.int ((0:Nat):Int)) rfl rfl).trans (sH rfl)) rfl).trans h
theorem aOj(h:eE .Eq (.str u) (.str u')= .ok (.bl b)):aY .Eq (rIx (aD 0) (rK (.int 0))) (rK (.str u')) [.sh (.tup (.str u::ds)),s]= .ok (.bl b):=(aR (x:=.str u) (y:=.str u') ((cJ (x:=.tup (.str u::ds)) (y:=.int ((0:Nat):Int)) rfl rfl).trans (sH rfl)) rfl).trans h
theorem aJx:aN r [.tup [.str "put",.str x,v]]=eI aT (fY r [.str x,v]):=by
 unfold aN aI4 lK;exact(aJv (ρ:=[.rk 348 r,.sh (.tup [.str "put",.str x,v])]) (aJw (by kernel_rfl))).trans rfl
theorem jZ:aN r [.tup [.str "join",.str x,.str w,.str y,.str z]]=eI aT (dQ r [.str x,.str w,.str y,.str z]):=by
 unfold aN aI4 lK;exact(wA (ρ:=[.rk 348 r,.sh (.tup [.str "join",.str x,.str w,.str y,.str z])]) (aJw (by kernel_rfl))).trans ((aJv (aJw (by kernel_rfl))).trans rfl)
theorem uZ:aN r [.tup [.str "turn",.str x]]=eI aT (eM r [.str x]):=by
 unfold aN aI4 lK;refine(wA (ρ:=[.rk 348 r,.sh (.tup [.str "turn",.str x])]) (aJw (by kernel_rfl))).trans ((wA (aJw (by kernel_rfl))).trans ?_)
 show eI aT (ifM _ _ _ [.sh (.tup [.str "turn",.str x]),.rk 348 r])=_;rw[aJv (aOj (by kernel_rfl))]
 rfl
theorem u6:aN r [.tup [.str "take",.str x]]=eI aT (dP r [.str x]):=by
 unfold aN aI4 lK;refine(wA (ρ:=[.rk 348 r,.sh (.tup [.str "take",.str x])]) (aJw (by kernel_rfl))).trans ((wA (aJw (by kernel_rfl))).trans ?_)
 show eI aT (ifM _ _ _ [.sh (.tup [.str "take",.str x]),.rk 348 r])=_;rw[wA (aOj (by kernel_rfl))]
 rfl
end
theorem aFt:aY .Eq (rIx (aD i) (rK (.int 0))) (rK (.str u)) ρ≠ .ex c:=by
 have d: ∀x y c,dIx x y≠ .ex c:=λx y c=>by
  unfold dIx ixS
  repeat' split
  all_goals exact λz=>nomatch z
 have b: ∀x y c,eE .Eq x y≠ .ex c:=λx y c=>by
  unfold eE mZ
  dsimp only
  repeat' split
  all_goals exact λz=>nomatch z
 have f: ∀c,aD i ρ≠ .ex c:=λc=>by
  unfold aD
  repeat' split
  all_goals exact λz=>nomatch z
 intro z;unfold aY rIx at z
 cases e:aD i ρ with
 |ok x=>
  rw[e]at z
  cases a:dIx x (.int 0)with
  |ok y=>simp only[R.bind,rK,a]at z;exact b _ _ _ z
  |ow y=>simp only[R.bind,rK,a]at z;exact b _ _ _ z
  |ex y=>exact d _ _ _ a
  |bad=>simp only[R.bind,rK,a]at z;cases z
 |ow x=>
  rw[e]at z
  cases a:dIx (.lst x) (.int 0)with
  |ok y=>simp only[R.bind,rK,a]at z;exact b _ _ _ z
  |ow y=>simp only[R.bind,rK,a]at z;exact b _ _ _ z
  |ex y=>exact d _ _ _ a
  |bad=>simp only[R.bind,rK,a]at z;cases z
 |ex c=>exact f _ e
 |bad=>rw[e]at z;cases z
theorem aFu(hf: ∀c,f ρ≠ .ex c)(hg: ∀c,g ρ≠ .pure (.ex c))(hh: ∀c,h ρ≠ .pure (.ex c))(c:Nat):ifM f g h ρ≠ .pure (.ex c):=by
 intro z;unfold ifM at z;split at z
 ·split at z
  ·exact hg c z
  ·exact hh c z
 ·rename_i e;exact hf _ e
 ·cases z
theorem oC{F:Fn}(c:Nat):sF F cap g ρ≠ .pure (.ex c):=by
 intro z;unfold sF at z;split at z
 ·rename_i a _
  cases e:g a with
  |pure r=>rw[e]at z;exact uQ r c (RM.pure.inj z)
  |chg x r=>rw[e]at z;cases z
 ·cases z
theorem aOk(r:Rk)(ds:List D)(c:Nat):aN r ds≠ .pure (.ex c):=by
 unfold aN aI4 lK;exact aFu (λ_=>aFt) oC (aFu (λ_=>aFt) oC oC) c
def aFv(d:D):Prop:=(∃x∈NM, ∃v,Sw v/\d= .tup [.str "put",.str x,v])\/(∃x∈NM,d= .tup [.str "take",.str x])\/(∃x∈NM,d= .tup [.str "turn",.str x])\/
 (∃x∈NM, ∃w∈WD, ∃y∈NM, ∃z∈NM,d= .tup [.str "join",.str x,.str w,.str y,.str z])
theorem aJy(h:p<4): ∃x∈NM,dIx (.lst (NM.map D.str)) (.int (p:Nat))= .ok (.str x):=
 ⟨NM[p]'h,List.getElem_mem _,fX (by rw[List.getElem?_map,bf (show p<NM.length from h)];rfl)⟩
theorem aQ5(h:p<3): ∃x∈WD,dIx (.lst (WD.map D.str)) (.int (p:Nat))= .ok (.str x):=
 ⟨WD[p]'h,List.getElem_mem _,fX (by rw[List.getElem?_map,bf (show p<WD.length from h)];rfl)⟩
noncomputable def MN:List Nat:=[2,2,2,1,3,4,0]
theorem aQ6(h:p<7): ∃m:Nat,m<=4/\dIx (.lst (MN.map λ(i:Nat)=>D.int (i:Int))) (.int (p:Nat))= .ok (.int (m:Nat)):=by
 refine⟨MN[p]'h,?_,fX (by rw[List.getElem?_map,bf (show p<MN.length from h)];rfl)⟩
 have: ∀m∈MN,m<=4:=by decide
 exact this _ (List.getElem_mem _)
theorem aQ7(h1:a ρ= .ok x)(h2:b ρ= .ok y)(h3:c ρ= .ok z)(h4:d ρ= .ok u)(h5:e ρ= .ok v):eF [a,b,c,d,e] ρ= .ok (.tup [x,y,z,u,v]):=by simp[eF,l7,args,h1,h2,h3,h4,h5,RA.cons,RA.then]
theorem aQ8(i j:Int):eE .Lt (.int i) (.int j)= .ok (.bl (decide (i<j))):=rfl
theorem aOl(ks:List Str)(vs:List D): ∃b,eE .Eq (.dct ks vs) (.dct [] [])= .ok (.bl b):=by
 have:(vs.all λd=>([]:List D).all λe=>hV d e)=true:=by simp
 refine⟨false != aEj (ks.zip vs) [],?_⟩;simp only[eE,show hV (.dct ks vs) (.dct [] [])=false from by simp[hV,plain],az,if_false,mZ,this,if_true,List.zip_nil_left]
set_option maxHeartbeats 4000000 in
theorem aJz(ns:List Int)(n:Nat)(ks:List Str)(vs:List D): ∃d,eC [Sc ns,.int (n:Nat),.dct ks vs]= .ok d/\aFv d:=by
 obtain⟨p,N,lp⟩:=cO ns n (m:=4) (by decide)
 obtain⟨q,Y,lq⟩:=cO ns (n+1) (m:=8) (by decide)
 obtain⟨x,r,Q⟩:=aJy lp;obtain⟨b0,C⟩:=aOl ks vs;let j:Rho:=[.sh (Sc ns),.sh (.int (n:Nat)),.sh (.dct ks vs),.sh (.lst (NM.map D.str)),.no,.no,.no,.no];let e:Rho:=[.sh (Sc ns),.sh (.int (n:Nat)),.sh (.dct ks vs),.sh (.lst (NM.map D.str)),.sh (.str x),.sh (.int (q:Nat)),.no,.no]
 have s1:g6 3 (iU [rK (.str "a"),rK (.str "b"),rK (.str "gm"),rK (.str "xjqp")]) [.sh (Sc ns),.sh (.int (n:Nat)),.sh (.dct ks vs),.no,.no,.no,.no,.no]= .nx j:=aAa rfl
 have O:fQ [4,5] (eF [rIx (aD 3) (aG aI [aA 0,aA 1,rK (.int 4)]),aG aI [aA 0,bF .Add (aA 1) (rK (.int 1)),rK (.int 8)]]) j= .nx e:=
  lH (eW ((cJ (x:=.lst (NM.map D.str)) rfl ((dO (x:=Sc ns) (y:=.int (n:Nat)) (z:=.int ((4:Nat):Int)) rfl rfl rfl).trans N)).trans Q) ((dO (x:=Sc ns) (y:=.int ((n+1:Nat):Int)) (z:=.int ((8:Nat):Int)) rfl rfl rfl).trans Y)) rfl
 have hc: ∃b,rOr (aY .Lt (aA 5) (rK (.int 3))) (aY .Eq (aA 2) (kG)) e= .ok (.bl b):=by
  have I:aY .Lt (aA 5) (rK (.int 3)) e= .ok (.bl (decide ((q:Int)<3))):=(aR (x:=.int (q:Nat)) (y:=.int 3) rfl rfl).trans (aQ8 _ _)
  cases K:decide ((q:Int)<3)with
  |true=>exact⟨true,aJb (I.trans (by rw[K]))⟩
  |false=>exact⟨b0,(v5 (I.trans (by rw[K]))).trans ((aR (x:=.dct ks vs) (y:=.dct [] []) rfl rfl).trans C)⟩
 obtain⟨b,H⟩:=hc
 have s: ∀{d:D} {dU:FS},dU e= .rt (.ok d)->bL (g6 3 (iU [rK (.str "a"),rK (.str "b"),rK (.str "gm"),rK (.str "xjqp")])) (bL (fQ [4,5] (eF [rIx (aD 3) (aG aI [aA 0,aA 1,rK (.int 4)]),aG aI [aA 0,bF .Add (aA 1) (rK (.int 1)),rK (.int 8)]])) dU) [.sh (Sc ns),.sh (.int (n:Nat)),.sh (.dct ks vs),.no,.no,.no,.no,.no]= .rt (.ok d):=λh=>(aH s1).trans ((aH O).trans h)
 cases b with
 |true=>
  obtain⟨t,B,lt⟩:=cO ns (n+2) (m:=7) (by decide)
  obtain⟨m,W,em⟩:=aQ6 lt;obtain⟨bs,gb,eb⟩:=aD5 ns (n+10) W;refine⟨.tup [.str "put",.str x,sw m bs],aS (s (cI ((d6 H).trans ?_))),.inl ⟨x,r,_,⟨m,bs,gb,rfl⟩,rfl⟩⟩
  have s3:g6 6 (rIx (iU [rK (.int 2),rK (.int 2),rK (.int 2),rK (.int 1),rK (.int 3),rK (.int 4),rK (.int 0)]) (aG aI [aA 0,bF .Add (aA 1) (rK (.int 2)),rK (.int 7)])) e= .nx [.sh (Sc ns),.sh (.int (n:Nat)),.sh (.dct ks vs),.sh (.lst (NM.map D.str)),.sh (.str x),.sh (.int (q:Nat)),.sh (.int (m:Nat)),.no]:=
   eV ((uU (x:=MN.map λ(i:Nat)=>D.int (i:Int)) rfl ((dO (x:=Sc ns) (y:=.int ((n+2:Nat):Int)) (z:=.int ((7:Nat):Int)) rfl rfl rfl).trans B)).trans em)
  refine(aH s3).trans (aQ ?_);have o:=(dO (f:=cM) (a:=aA 0) (b:=bF .Add (aA 1) (rK (.int 10))) (c:=aA 6) (ρ:=[.sh (Sc ns),.sh (.int (n:Nat)),.sh (.dct ks vs),.sh (.lst (NM.map D.str)),.sh (.str x),.sh (.int (q:Nat)),.sh (.int (m:Nat)),.no]) (x:=Sc ns) (y:=.int ((n+10:Nat):Int)) (z:=.int (m:Nat)) rfl rfl rfl).trans eb;simp[eF,l7,args,o,RA.cons,RA.then,rK,aA]
 |false=>
  have g: ∀{dU:FS} {a:FS} {d:D},dU e= .rt (.ok d)->bL (sIf (rOr (aY .Lt (aA 5) (rK (.int 3))) (aY .Eq (aA 2) (kG))) a a9) dU e= .rt (.ok d):=λh=>(aH ((cU H).trans rfl)).trans h
  have G:aY .Eq (aA 5) (rK (.int 3)) e= .ok (.bl (decide ((q:Int)=3))):=(aR (x:=.int (q:Nat)) (y:=.int 3) rfl rfl).trans (aJi _ _)
  have L:aY .Eq (aA 5) (rK (.int 4)) e= .ok (.bl (decide ((q:Int)=4))):=(aR (x:=.int (q:Nat)) (y:=.int 4) rfl rfl).trans (aJi _ _)
  by_cases o:(q:Int)=3
  ·exact⟨.tup [.str "take",.str x],aS (s (g (cI ((d6 (G.trans (by simp[o]))).trans (aQ (eW rfl rfl)))))),.inr (.inl ⟨x,r,rfl⟩)⟩
  ·have J:=G.trans (show _=R.ok (.bl false) from by simp[o])
   by_cases l:(q:Int)=4
   ·exact⟨.tup [.str "turn",.str x],aS (s (g ((aH ((cU J).trans rfl)).trans (cI ((d6 (L.trans (by simp[l]))).trans (aQ (eW rfl rfl))))))),.inr (.inr (.inl ⟨x,r,rfl⟩))⟩
   ·have k4:=L.trans (show _=R.ok (.bl false) from by simp[l])
    obtain⟨t,B,lt⟩:=cO ns (n+3) (m:=3) (by decide)
    obtain⟨w,M,S⟩:=aQ5 lt;obtain⟨t1,A,u⟩:=cO ns (n+4) (m:=4) (by decide)
    obtain⟨y,U,ey⟩:=aJy u;obtain⟨t2,E,v⟩:=cO ns (n+5) (m:=4) (by decide)
    obtain⟨z,X,Z⟩:=aJy v;refine⟨.tup [.str "join",.str x,.str w,.str y,.str z],aS (s (g ((aH ((cU J).trans rfl)).trans ((aH ((cU k4).trans rfl)).trans ((aH (eV (d:=.str w) ?_)).trans (aQ ?_)))))),.inr (.inr (.inr ⟨x,r,w,M,y,U,z,X,rfl⟩))⟩
    ·exact(uU (x:=WD.map D.str) rfl ((dO (x:=Sc ns) (y:=.int ((n+3:Nat):Int)) (z:=.int ((3:Nat):Int)) rfl rfl rfl).trans B)).trans S
    ·have hy:=(cJ (a:=aD 3) (b:=aG aI [aA 0,bF .Add (aA 1) (rK (.int 4)),rK (.int 4)]) (ρ:=e.set 7 (.sh (.str w))) (x:=.lst (NM.map D.str)) rfl ((dO (x:=Sc ns) (y:=.int ((n+4:Nat):Int)) (z:=.int ((4:Nat):Int)) rfl rfl rfl).trans A)).trans ey;have T:=(cJ (a:=aD 3) (b:=aG aI [aA 0,bF .Add (aA 1) (rK (.int 5)),rK (.int 4)]) (ρ:=e.set 7 (.sh (.str w))) (x:=.lst (NM.map D.str)) rfl ((dO (x:=Sc ns) (y:=.int ((n+5:Nat):Int)) (z:=.int ((4:Nat):Int)) rfl rfl rfl).trans E)).trans Z
     have l:aA 4 (e.set 7 (.sh (.str w)))= .ok (.str x):=rfl
     have h7:aA 7 (e.set 7 (.sh (.str w)))= .ok (.str w):=rfl
     exact aQ7 rfl l h7 hy T
noncomputable abbrev b9(h:List (Str×D)):D:=.dct (h.map (·.1)) (h.map (·.2))
def OkH(h:List (Str×D)):Prop:=(h.map (·.1)).Nodup/\∀p∈h,p.1∈NM/\Sw p.2
theorem oE(h:x∈NM):plain (.str x)=true:=by
 simp only[NM,av,List.not_mem_nil,or_false]at h;rcases h with rfl|rfl|rfl|rfl<;>kernel_rfl
theorem aQ9(hx:x∈NM)(hy:y∈NM):hV (.str x) (.str y)=true:=i5 (oE hx) (oE hy) (by simp[dep])
theorem aA3(hx:x∈NM)(hy:y∈NM):eE .NotEq (.str x) (.str y)= .ok (.bl (decide (x≠y))):=by
 rw[sI (aQ9 hx hy)]
 by_cases e:x=y<;>simp[deq,e]
theorem aOm(h:List (Str×D))(x:Str):eE .In (.str x) (b9 h)= .ok (.bl (bI h x).isSome):=by
 rw[lM];show R.ok (.bl (false != (h.map (·.1)).contains x))=_
 simp
theorem jC(h:List (Str×D))(x:Str):eE .NotIn (.str x) (b9 h)= .ok (.bl (!(bI h x).isSome)):=by
 rw[lM];show R.ok (.bl (true != (h.map (·.1)).contains x))=_
 simp
theorem fK(e:bI h x=some v):dIx (b9 h) (.str x)= .ok v:=by
 show(match bI ((h.map (·.1)).zip (h.map (·.2))) x with|some d=>R.ok d|none=>.bad)=_
 rw[aD8,e]
theorem u7{f:D->Option (Option D)}{c:Str×D->Bool}{e:Str×D->D}: ∀{h:List (Str×D)},(∀p∈h,f (.str p.1)=some (if c p then some (e p)else none))->bG f (h.map λp=>D.str p.1)=some ((h.filter c).map e)
 |[],_=>rfl
 |p::r,H=>by
  have a:=u7 (h:=r) λq m=>H q (.tail _ m)
  rw[List.map_cons];unfold bG;rw[H p (.head _),List.filter_cons]
  cases c p<;>simp[a]
section
variable {h:List (Str×D)} {x y z w:Str} {v v' d:D} {ds:List D}
abbrev st0(h:List (Str×D))(d:D):Rho:=[.sh (b9 h),.sh d,.no,.no,.no,.no,.no]
abbrev st1(h:List (Str×D))(d:D)(k:List (Str×D)):Rho:=[.sh (b9 h),.sh d,.dc k,.no,.no,.no,.no]
theorem oF:l9 2 (aA 0) (st0 h d)= .nx (st1 h d h):=by
 show Out.nx [.sh (b9 h),.sh d,.dc ((h.map (·.1)).zip (h.map (·.2))),.no,.no,.no,.no]=_
 rw[aD8]
theorem isw(h1:aD 1 ρ= .ok (.tup (.str u::ds)))(h:eE .Eq (.str u) (.str u')= .ok (.bl b)):aY .Eq (rIx (aD 1) (rK (.int 0))) (rK (.str u')) ρ= .ok (.bl b):=
 (aR (x:=.str u) (y:=.str u') ((cJ (x:=.tup (.str u::ds)) (y:=.int ((0:Nat):Int)) h1 rfl).trans (sH rfl)) rfl).trans h
theorem aA4(he:e ρ= .ok v)(hk:k ρ= .ok (.str x))(h2:ρ[2]? =some (.dc kvs))(hl:kvs.length<LIM):wC 2 k e ρ= .nx (ρ.set 2 (.dc (fR kvs x v))):=by
 simp[wC,he,hk,h2,eY,hl]
theorem aRa(hl:h.length<LIM):aU [b9 h,.tup [.str "put",.str x,v]]= .ok (.tup [b9 (fR h x v),.bl (bI h x).isSome]):=
 aS ((aH oF).trans (cI ((d6 (isw rfl (by kernel_rfl))).trans ((aH (aA4 rfl rfl rfl hl)).trans (aQ (ρ:=[.sh (b9 h),.sh (.tup [.str "put",.str x,v]),.sh (b9 (fR h x v)),.no,.no,.no,.no]) (eW rfl ((aR (x:=.str x) (y:=b9 h) rfl rfl).trans (aOm h x))))))))
theorem aR5(h1:eE .Eq (.str u) (.str "put")= .ok (.bl false))(h2:eE .Eq (.str u) (.str "join")= .ok (.bl false))(e:bI h x=none):aU [b9 h,.tup [.str u,.str x]]= .ok (.tup [b9 h,.str "no label"]):=
 aS ((aH oF).trans ((aH ((cU (isw rfl h1)).trans rfl)).trans ((aH ((cU (isw rfl h2)).trans rfl)).trans (cI ((d6 ((aR (x:=.str x) (y:=b9 h) rfl rfl).trans ((jC h x).trans (by rw[e];rfl)))).trans (aQ (eW rfl rfl)))))))
theorem aOn(h1:eE .Eq (.str u) (.str "put")= .ok (.bl false))(h2:eE .Eq (.str u) (.str "join")= .ok (.bl false))(e:bI h x=some v)(hr:dU (st1 h (.tup [.str u,.str x]) h)=r):
  bL (l9 2 (aA 0)) (bL (sIf (aY .Eq (rIx (aD 1) (rK (.int 0))) (rK (.str "put"))) a a9) (bL (sIf (aY .Eq (rIx (aD 1) (rK (.int 0))) (rK (.str "join"))) b a9) (bL (sIf (aY .NotIn (rIx (aD 1) (rK (.int 1))) (aA 0)) c a9) dU))) (st0 h (.tup [.str u,.str x]))=r:=
 ((aH oF).trans ((aH ((cU (isw rfl h1)).trans rfl)).trans ((aH ((cU (isw rfl h2)).trans rfl)).trans ((aH ((cU ((aR (x:=.str x) (y:=b9 h) rfl rfl).trans ((jC h x).trans (by rw[e];rfl)))).trans rfl)).trans hr))))
theorem aOo(hn:(h.map (·.1)).Nodup)(hl:h.length<LIM)(e:bI h x=some (sw m a)):aU [b9 h,.tup [.str "turn",.str x]]= .ok (.tup [b9 (fR h x (sw m (a.map (! ·)))),sw m (a.map (! ·))]):=by
 refine aS (aOn (by kernel_rfl) (by kernel_rfl) e (cI ((d6 (isw rfl (by kernel_rfl))).trans ((aH (aA4 (v:=sw m (a.map (! ·))) (eW (x:=.int (m:Nat)) ?_ ?_) rfl rfl hl)).trans ?_))))
 ·exact(cJ (x:=sw m a) (y:=.int 0) ((cJ (x:=b9 h) (y:=.str x) rfl rfl).trans (fK e)) rfl).trans rfl
 ·refine(dN (x:=(a.map (! ·)).map bD) ?_).trans rfl
  have:=iN (cs:=[]) (it:=rIx (rIx (aD 0) (rIx (aD 1) (rK (.int 1)))) (rK (.int 1))) (e:=bF .Sub (rK (.int 1)) (aA 0)) (ρ:=st1 h (.tup [.str "turn",.str x]) h) (ds:=a.map bD) (g:=tn) (.inr (.inl ((cJ (x:=sw m a) (y:=.int 1) ((cJ (x:=b9 h) (y:=.str x) rfl rfl).trans (fK e)) rfl).trans rfl))) λd c=>by
   obtain⟨b,_,rfl⟩:=au.1 c
   cases b<;>rfl
  rw[this,List.map_map,List.map_map]
  congr 1
  refine List.map_congr_left λb _=>?_
  cases b<;>rfl
 ·exact aQ (ρ:=[.sh (b9 h),.sh (.tup [.str "turn",.str x]),.sh (b9 (fR h x (sw m (a.map (! ·))))),.no,.no,.no,.no]) (eW rfl ((cJ (x:=b9 (fR h x (sw m (a.map (! ·))))) (y:=.str x) rfl rfl).trans (fK (aAv hn))))
theorem aOp(hh:OkH h)(hl:h.length<=1000)(hx:x∈NM)(e:bI h x=some v):aU [b9 h,.tup [.str "take",.str x]]= .ok (.tup [b9 (iL h x),v]):=by
 refine aS (aOn (by kernel_rfl) (by kernel_rfl) e ((aH ((cU (isw rfl (by kernel_rfl))).trans rfl)).trans (aQ (eW ?_ ((cJ (x:=b9 h) (y:=.str x) rfl rfl).trans (fK e))))))
 have i:bB 0 [1,0] (aD 0) (some (aY .NotEq (aA 0) (rIx (aD 1) (rK (.int 1))))) (eF [aA 0,rIx (aD 2) (aA 0)]) (st1 h (.tup [.str "take",.str x]) h)= .ow ((iL h x).map λp=>D.tup [.str p.1,p.2]):=by
  show(match(if(h.map (·.1)).length<=1000 then some ((h.map (·.1)).map D.str)else none)with
   |some b=>(match bG (cR 0 (iT [1,0] (st1 h (.tup [.str "take",.str x]) h)) (some (aY .NotEq (aA 0) (rIx (aD 1) (rK (.int 1))))) (eF [aA 0,rIx (aD 2) (aA 0)])) b with|some xs=>R.ow xs|none=>.bad)
   |none=>.bad)=_
  rw[if_pos (by simpa using hl),List.map_map]
  have:=u7 (h:=h) (f:=cR 0 (iT [1,0] (st1 h (.tup [.str "take",.str x]) h)) (some (aY .NotEq (aA 0) (rIx (aD 1) (rK (.int 1))))) (eF [aA 0,rIx (aD 2) (aA 0)])) (c:=λp=>decide (p.1≠x)) (e:=λp=>D.tup [.str p.1,p.2]) λp a=>by
   have j:aY .NotEq (aA 0) (rIx (aD 1) (rK (.int 1))) [.sh (.str p.1),.sh (.tup [.str "take",.str x]),.sh (b9 h)]= .ok (.bl (decide (p.1≠x))):=(aR (x:=.str p.1) (y:=.str x) rfl rfl).trans (aA3 (hh.2 p a).1 hx)
   have d:eF [aA 0,rIx (aD 2) (aA 0)] [.sh (.str p.1),.sh (.tup [.str "take",.str x]),.sh (b9 h)]= .ok (.tup [.str p.1,p.2]):=eW rfl ((cJ (x:=b9 h) (y:=.str p.1) rfl rfl).trans (fK (n6 hh.1 a)))
   show(match aY .NotEq (aA 0) (rIx (aD 1) (rK (.int 1))) [.sh (.str p.1),.sh (.tup [.str "take",.str x]),.sh (b9 h)]with
    |.ok (.bl true)=>(match eF [aA 0,rIx (aD 2) (aA 0)] [.sh (.str p.1),.sh (.tup [.str "take",.str x]),.sh (b9 h)]with|.ok x=>some (some x)|.ow xs=>some (some (.lst xs))|_=>none)
    |.ok (.bl false)=>some none
    |_=>none)=_
   rw[j,d]
   cases decide (p.1≠x)<;>rfl
  have g:(h.map (D.str ∘ λp=>p.1))=h.map λp=>D.str p.1:=rfl
  rw[g]
  dsimp only
  rw[this];rfl
 show(bB 0 [1,0] (aD 0) (some (aY .NotEq (aA 0) (rIx (aD 1) (rK (.int 1))))) (eF [aA 0,rIx (aD 2) (aA 0)]) (st1 h (.tup [.str "take",.str x]) h)).bind mC=_
 rw[i];exact aAw (qH hh.1) (Nat.le_trans (List.length_filter_le _ _) hl)
end
def prs(a b:List Bool):List D:=((a.map bD).zip (b.map bD)).map λp=>D.tup [p.1,p.2]
theorem oG(h5:aD 5 ρ= .ok (.lst (prs a b)))(he: ∀x y,e [.sh (bD x),.sh (bD y)]= .ok (bD (f x y))):
  bB 2 [] (aD 5) none e ρ= .ow ((List.zipWith f a b).map bD):=by
 refine uV (.inl h5) ?_
 have: ∀(a b:List Bool),bG (cR 2 [] none e) (prs a b)=some ((List.zipWith f a b).map bD):=by
  intro a
  induction a with
  |nil=>intro b;rfl
  |cons x a c=>
   intro b
   cases b with
   |nil=>rfl
   |cons y b=>
    have:=c b
    show bG (cR 2 [] none e) (D.tup [bD x,bD y]::prs a b)=some (bD (f x y)::(List.zipWith f a b).map bD);unfold bG
    rw[show cR 2 [] none e (D.tup [bD x,bD y])=some (some (bD (f x y))) from by
     have d:=he x y;simp[cR,tgt,d]]
    simp[this]
 exact this a b
section
variable {h:List (Str×D)} {x y z w:Str} {v v' d:D}
noncomputable abbrev jD(x w y z:Str):D:=.tup [.str "join",.str x,.str w,.str y,.str z]
theorem aA5{r:Out}(hr:dU (st1 h (jD x w y z) h)= .rt (.ok d)):
  bL (l9 2 (aA 0)) (bL (sIf (aY .Eq (rIx (aD 1) (rK (.int 0))) (rK (.str "put"))) a a9) (bL (sIf (aY .Eq (rIx (aD 1) (rK (.int 0))) (rK (.str "join"))) dU a9) b)) (st0 h (jD x w y z))= .rt (.ok d):=
 (aH oF).trans ((aH ((cU (isw rfl (by kernel_rfl))).trans rfl)).trans (cI ((d6 (isw rfl (by kernel_rfl))).trans hr)))
theorem aOq(e:bI h y=none\/bI h z=none):aU [b9 h,jD x w y z]= .ok (.tup [b9 h,.str "no label"]):=by
 refine aS (aA5 (r:=.rt .bad) (cI ((d6 ?_).trans (aQ (eW rfl rfl)))))
 have b:aY .NotIn (rIx (aD 1) (rK (.int 3))) (aA 0) (st1 h (jD x w y z) h)= .ok (.bl (!(bI h y).isSome)):=(aR (x:=.str y) (y:=b9 h) rfl rfl).trans (jC h y)
 have c:aY .NotIn (rIx (aD 1) (rK (.int 4))) (aA 0) (st1 h (jD x w y z) h)= .ok (.bl (!(bI h z).isSome)):=(aR (x:=.str z) (y:=b9 h) rfl rfl).trans (jC h z)
 cases a:bI h y with
 |none=>exact aJb (b.trans (by rw[a];rfl))
 |some v=>
  rcases e with e|e
  ·rw[a]at e;cases e
  ·exact(v5 (b.trans (by rw[a];rfl))).trans (c.trans (by rw[e];rfl))
abbrev st2(h:List (Str×D))(d v v':D):Rho:=[.sh (b9 h),.sh d,.dc h,.sh v,.sh v',.no,.no]
theorem aFw(e1:bI h y=some v)(e2:bI h z=some v')(hr:dU (st2 h (jD x w y z) v v')= .rt (.ok d)):
  bL (sIf (rOr (aY .NotIn (rIx (aD 1) (rK (.int 3))) (aA 0)) (aY .NotIn (rIx (aD 1) (rK (.int 4))) (aA 0))) a a9) (bL (fQ [3,4] (eF [rIx (aD 0) (rIx (aD 1) (rK (.int 3))),rIx (aD 0) (rIx (aD 1) (rK (.int 4)))])) dU) (st1 h (jD x w y z) h)= .rt (.ok d):=by
 have c:aY .NotIn (rIx (aD 1) (rK (.int 3))) (aA 0) (st1 h (jD x w y z) h)= .ok (.bl false):=(aR (x:=.str y) (y:=b9 h) rfl rfl).trans ((jC h y).trans (by rw[e1];rfl))
 have b:aY .NotIn (rIx (aD 1) (rK (.int 4))) (aA 0) (st1 h (jD x w y z) h)= .ok (.bl false):=(aR (x:=.str z) (y:=b9 h) rfl rfl).trans ((jC h z).trans (by rw[e2];rfl))
 refine(aH ((cU ((v5 c).trans b)).trans rfl)).trans ((aH (lH (ds:=[v,v']) (eW ?_ ?_) rfl)).trans hr)
 ·exact(cJ (x:=b9 h) (y:=.str y) rfl rfl).trans (fK e1)
 ·exact(cJ (x:=b9 h) (y:=.str z) rfl rfl).trans (fK e2)
theorem aOr(e1:bI h y=some (sw m a))(e2:bI h z=some (sw m2 b))(n:m≠m2):aU [b9 h,jD x w y z]= .ok (.tup [b9 h,.str "unlike"]):=
 aS (aA5 (r:=.rt .bad) (aFw e1 e2 (cI ((d6 ((aR (x:=.int (m:Nat)) (y:=.int (m2:Nat)) rfl rfl).trans (by rw[aAl,decide_eq_false (by lia)];rfl))).trans (aQ (eW rfl rfl))))))
theorem aRb(hn:(h.map (·.1)).Nodup)(hl:h.length<LIM)(hw:w∈WD)(e1:bI h y=some (sw m a))(e2:bI h z=some (sw m b)):
  aU [b9 h,jD x w y z]= .ok (.tup [b9 (fR h x (sw m (List.zipWith (opB w) a b))),sw m (List.zipWith (opB w) a b)]):=by
 let e:Rho:=[.sh (b9 h),.sh (jD x w y z),.dc h,.sh (sw m a),.sh (sw m b),.sh (.lst (prs a b)),.no]
 have o:bB 2 [] (aD 5) none (bF .Mult (aA 0) (aA 1)) e= .ow ((List.zipWith (· && ·) a b).map bD):=oG rfl λx y=>by cases x<;>cases y<;>rfl
 have g:bB 2 [] (aD 5) none (aG aBg [aY .Gt (bF .Add (aA 0) (aA 1)) (rK (.int 0))]) e= .ow ((List.zipWith (· || ·) a b).map bD):=oG rfl λx y=>by cases x<;>cases y<;>rfl
 let dd:D:=.dct ["both","either"] [.lst ((List.zipWith (· && ·) a b).map bD),.lst ((List.zipWith (· || ·) a b).map bD)]
 let c:Rho:=[.sh (b9 h),.sh (jD x w y z),.dc h,.sh (sw m a),.sh (sw m b),.sh (.lst (prs a b)),.sh dd]
 have i:bB 2 [] (aD 5) none (aG aBg [aY .Eq (bF .Add (aA 0) (aA 1)) (rK (.int 1))]) c= .ow ((List.zipWith (· ^^ ·) a b).map bD):=oG rfl λx y=>by cases x<;>cases y<;>rfl
 refine aS (aA5 (r:=.rt .bad) (aFw e1 e2 ((aH ((cU ((aR (x:=.int (m:Nat)) (y:=.int (m:Nat)) rfl rfl).trans (by rw[aAl];simp))).trans rfl)).trans ((aH (ρ':=e) ?_).trans ((aH (ρ':=c) ?_).trans ((aH (aA4 (x:=x) (v:=sw m (List.zipWith (opB w) a b)) (eW (x:=.int (m:Nat)) rfl ?_) rfl rfl hl)).trans ?_))))))
 ·exact aAa ((cF (aAm (xs:=a.map bD) (ys:=b.map bD) rfl rfl)).trans rfl)
 ·refine eV (d:=dd) ?_
  have l: ¬(("both":Str)="either"):=by decide
  simp only[sW,o,g,R.bind,if_neg l];rfl
 ·have n:pA (aA 6) (rIx (aD 1) (rK (.int 2))) (bB 2 [] (aD 5) none (aG aBg [aY .Eq (bF .Add (aA 0) (aA 1)) (rK (.int 1))])) c= .ok (.lst ((List.zipWith (opB w) a b).map bD)):=by
   have j:aA 6 c= .ok dd:=rfl
   have f:rIx (aD 1) (rK (.int 2)) c= .ok (.str w):=rfl
   simp only[pA,j,f,i,R.bind];show R.ok ((bI [("both",.lst ((List.zipWith (· && ·) a b).map bD)),("either",.lst ((List.zipWith (· || ·) a b).map bD))] w).getD (.lst ((List.zipWith (· ^^ ·) a b).map bD)))=_
   simp only[WD,av,List.not_mem_nil,or_false]at hw;rcases hw with rfl|rfl|rfl
   ·rw[cW,if_pos rfl];rfl
   ·rw[cW,if_neg (show ¬(("both":Str)="either") by decide),cW,if_pos rfl];rfl
   ·rw[cW,if_neg (show ¬(("both":Str)="unlike") by decide),cW,if_neg (show ¬(("either":Str)="unlike") by decide)];rfl
  exact(cF n).trans rfl
 ·exact aQ (ρ:=[.sh (b9 h),.sh (jD x w y z),.sh (b9 (fR h x (sw m (List.zipWith (opB w) a b)))),.sh (sw m a),.sh (sw m b),.sh (.lst (prs a b)),.sh dd]) (eW rfl ((cJ (x:=b9 (fR h x (sw m (List.zipWith (opB w) a b)))) (y:=.str x) rfl rfl).trans (fK (aAv hn))))
end
theorem OkH.put(o:OkH h)(hx:x∈NM)(hv:Sw v):OkH (fR h x v):=⟨uX o.1,λp m=>by
 rcases aJm m with rfl|m
 ·exact⟨hx,hv⟩
 ·exact o.2 p m⟩
theorem OkH.drop(o:OkH h):OkH (iL h x):=⟨qH o.1,λp m=>o.2 p (List.mem_filter.1 m).1⟩
theorem OkH.get(o:OkH h)(e:bI h x=some v): ∃m a,i9 m a/\v=sw m a:=(o.2 _ (aAt e)).2
def Due(d:D):Prop:=plain d=true/\dep d<=60
theorem aA6(m:Nat)(a:List Bool):Due (sw m a):=⟨iR m a,uW m a⟩
theorem aA7(h:plain (.str x)=true):Due (.str x):=⟨h,by simp[dep]⟩
def aR6(r:Rk)(d due:D)(h':List (Str×D)):Prop:=(aN r [d]= .pure (.ok due)/\h'=r.held)\/∃dn,aN r [d]= .chg due ⟨h',r.done++[dn],[]⟩
theorem aJ0(r:Rk)(o:OkH r.held)(ld:r.done.length<1000)(lh:r.held.length<1000)(hd:aFv d):
  ∃(h':List (Str×D)) (due:D),aU [b9 r.held,d]= .ok (.tup [b9 h',due])/\aR6 r d due h'/\Due due/\OkH h'/\h'.length<=r.held.length+1:=by
 have s:r.done.length<LIM:=by unfold LIM;lia
 have i:r.held.length<LIM:=by unfold LIM;lia
 have j:Due (.str "no label"):=aA7 (by kernel_rfl)
 have C:Due (.str "unlike"):=aA7 (by kernel_rfl)
 have q:eI aT (.pure (.ex 8))= .pure (.ok (.str "no label")):=by simp[eI,pZ,aS9]
 have E:eI aT (.pure (.ex 4))= .pure (.ok (.str "unlike")):=by simp[eI,pZ,aTa]
 rcases hd with ⟨x,c,v,A,rfl⟩|⟨x,c,rfl⟩|⟨x,c,rfl⟩|⟨x,c,w,u,y,l,z,p,rfl⟩
 ·exact⟨_,_,aRa i,.inr ⟨_,by rw[aJx,aOi r c A s i];rfl⟩,⟨rfl,by simp[dep]⟩,o.put c A,sK⟩
 ·cases e:bI r.held x with
  |none=>exact⟨_,_,aR5 (by kernel_rfl) (by kernel_rfl) e,.inl ⟨by rw[u6,aJr r c e,q],rfl⟩,j,o,Nat.le_succ _⟩
  |some v=>
   obtain⟨m,a,g,rfl⟩:=o.get e;exact⟨_,_,aOp o (by lia) c e,.inr ⟨_,by rw[u6,aJq r c s e];rfl⟩,aA6 m a,o.drop,Nat.le_trans (List.length_filter_le _ _) (Nat.le_succ _)⟩
 ·cases e:bI r.held x with
  |none=>exact⟨_,_,aR5 (by kernel_rfl) (by kernel_rfl) e,.inl ⟨by rw[uZ,aJt r c e,q],rfl⟩,j,o,Nat.le_succ _⟩
  |some v=>
   obtain⟨m,a,g,rfl⟩:=o.get e;exact⟨_,_,aOo o.1 i e,.inr ⟨_,by rw[uZ,aJs r g c s i e];rfl⟩,aA6 m _,o.put c ⟨m,_,g.not,rfl⟩,sK⟩
 ·cases f:bI r.held y with
  |none=>exact⟨_,_,aOq (.inl f),.inl ⟨by rw[jZ,aA0 r c l p (.inl f),q],rfl⟩,j,o,Nat.le_succ _⟩
  |some v=>
   cases h:bI r.held z with
   |none=>exact⟨_,_,aOq (.inr h),.inl ⟨by rw[jZ,aA0 r c l p (.inr h),q],rfl⟩,j,o,Nat.le_succ _⟩
   |some G=>
    obtain⟨m,a,g,rfl⟩:=o.get f;obtain⟨B,b,t,rfl⟩:=o.get h
    by_cases n:m=B
    ·subst n;exact⟨_,_,aRb o.1 i u f h,.inr ⟨_,by rw[jZ,aJu r c s i rfl ((qJ r l p f h).trans (aA1 g t u))];rfl⟩,aA6 m _,o.put c ⟨m,_,g.zip _ t,rfl⟩,sK⟩
    ·exact⟨_,_,aOr f h n,.inl ⟨by rw[jZ,aAz r c ((qJ r l p f h).trans (aA2 g t n u)),E],rfl⟩,C,o,Nat.le_succ _⟩
def jE(h:List (Str×D)):List D:=(fE (h.map (·.1))).map D.str
theorem jF{h:List (Str×D)}(m:k∈fE (h.map (·.1))):k∈h.map (·.1):=(fZ _).mem_iff.1 m
theorem g0(o:OkH h)(m:k∈h.map (·.1)): ∃v,bI h k=some v/\k∈NM/\Sw v:=by
 obtain⟨p,a,rfl⟩:=au.1 m;exact⟨p.2,n6 o.1 a,o.2 p a⟩
theorem aA8{l:List Str}(h: ∀x∈l,x∈NM):plain (.lst (l.map D.str))=true/\dep (.lst (l.map D.str))<=60:=by
 constructor
 ·show bP _=true;rw[gH];intro d m;obtain⟨x,a,rfl⟩:=au.1 m;exact oE (h x a)
 ·have:=qG (xs:=l.map D.str) λd m=>by
   obtain⟨x,a,rfl⟩:=au.1 m;simp[dep]
  simp[dep,this]
theorem oH(h1:plain d=true)(h2:dep d<=60):eE .NotEq d d= .ok (.bl false):=by
 rw[sI (i5 h1 h1 h2),nX _ h1];rfl
section
variable {r:Rk} {x:Str} {v:D}
theorem lQ(l:r.held.length<64):aV r []= .pure (.ow (jE r.held)):=by
 unfold aV iM;show fW 348 (dJ _ _ [.rk 348 r] false)=_;rw[lO (aAx (xs:=jE r.held) ?_)]
 ·rfl
 ·show(if r.held.length<64 then R.ow (jE r.held)else .bad)=_
  rw[if_pos l]
def srt(h:List (Str×D)):List (Str×D):=(fE (h.map (·.1))).map λk=>(k,(bI h k).getD .non)
theorem aEa(h:List (Str×D)):(srt h).map (·.1)=fE (h.map (·.1)):=by
 unfold srt;rw[List.map_map];exact(List.map_congr_left λ_ _=>rfl).trans (List.map_id _)
theorem aOs(o:OkH r.held)(l:r.held.length<64):aX r []= .pure (.ok (b9 (srt r.held))):=by
 unfold aX iM;show fW 348 (dJ _ _ [.rk 348 r] false)=_
 have c:bB 0 [0] (dA 348 0 aV []) none (eF [aA 0,dA 348 1 aE [aA 0]]) [.rk 348 r]= .ow ((srt r.held).map λp=>D.tup [.str p.1,p.2]):=by
  have:=iN (cs:=[0]) (it:=dA 348 0 aV []) (e:=eF [aA 0,dA 348 1 aE [aA 0]]) (ρ:=[.rk 348 r]) (ds:=jE r.held) (g:=λd=>match d with|.str k=>.tup [.str k,(bI r.held k).getD .non]|d=>d) (.inr (.inr (by
   show(aV r []).told=_
   rw[lQ l];rfl))) λd m=>by
    obtain⟨k,a,rfl⟩:=au.1 m;obtain⟨v,e,hk,_⟩:=g0 o (jF a);refine eW rfl ?_
    show(aE r [.str k]).told=_
    rw[qI r hk];unfold v9;rw[e];rfl
  rw[this];unfold jE srt;rw[List.map_map,List.map_map];rfl
 have b:mD (bB 0 [0] (dA 348 0 aV []) none (eF [aA 0,dA 348 1 aE [aA 0]])) [.rk 348 r]= .ok (b9 (srt r.held)):=by
  unfold mD;rw[c];refine aAw ?_ ?_
  ·rw[aEa];exact(fZ _).nodup_iff.2 o.1
  ·unfold srt;rw[aq,(fZ _).length_eq,aq];lia
 rw[lO (sM b)];rfl
theorem aOt(o:OkH h):eE .NotEq (b9 (srt h)) (b9 h)= .ok (.bl false):=by
 have u:hV (b9 (srt h)) (b9 h)=false:=by simp[hV,plain]
 have i: ∀p∈srt h,bI h p.1=some p.2/\Sw p.2:=λp m=>by
  obtain⟨k,l,rfl⟩:=au.1 m;obtain⟨v,e,_,s⟩:=g0 o (jF l);simp[e,s]
 have c:(((srt h).map (·.2)).all λd=>(h.map (·.2)).all λe=>hV d e)=true:=by
  rw[List.all_eq_true];intro d n;rw[List.all_eq_true];intro e r;obtain⟨p,f,rfl⟩:=au.1 n;obtain⟨q,t,rfl⟩:=au.1 r;obtain⟨m,a,_,c⟩:=(i p f).2;obtain⟨j,b,_,g⟩:=(o.2 q t).2;rw[c,g];exact i5 (iR m a) (iR j b) (uW j b)
 have g:aEj (srt h) h=true:=by
  unfold aEj;rw[aw];refine⟨?_,?_⟩
  ·unfold srt;rw[aq,(fZ _).length_eq,aq];simp
  ·rw[List.all_eq_true];intro p f;obtain⟨e,m,a,_,c⟩:=i p f;rw[e];show deq p.2 p.2=true;rw[c];exact nX _ (iR m a)
 show(if hV (b9 (srt h)) (b9 h)then R.ok (.bl (!deq (b9 (srt h)) (b9 h)))else mZ true (b9 (srt h)) (b9 h))=_
 rw[u,if_neg (by decide)]
 show(if(((srt h).map (·.2)).all λd=>(h.map (·.2)).all λe=>hV d e)=true then R.ok (.bl (true != aEj (((srt h).map (·.1)).zip ((srt h).map (·.2))) ((h.map (·.1)).zip (h.map (·.2)))))else .bad)=_
 rw[if_pos c,aD8,aD8,g];rfl
theorem qK(l:h.length<64):cD [b9 h]= .ow (jE h):=by
 show(if(h.map (·.1)).length<64 then R.ow (jE h)else .bad)=_
 rw[if_pos (by simpa using l)]
def qM(h:List (Str×D))(x:Str)(v:D):D->Bool
 |.str k=>decide (k≠x)&&deq ((bI h k).getD .non) v
 |_=>false
theorem aA9(eu:bI h k=some u):qM h x v (.str k)=(decide (k≠x)&&deq u v):=by
 show(decide (k≠x)&&deq ((bI h k).getD .non) v)=_
 rw[eu];rfl
theorem aJ1(o:OkH r.held)(l:r.held.length<64)(hx:x∈NM)(e:bI r.held x=some v):fB r [.str x]= .pure (.ow ((jE r.held).filter (qM r.held x v))):=by
 unfold fB iM;show fW 348 (dJ _ _ [.rk 348 r,.sh (.str x),.no] false)=_;obtain⟨m,a,g,ev⟩:=o.get e;rw[bO (ρ':=[.rk 348 r,.sh (.str x),.sh v]) (b':=false)]
 ·rw[lO (aAx (xs:=(jE r.held).filter (qM r.held x v)) ?_)]
  ·rfl
  ·refine jL (.inr (.inr (by
    show(aV r []).told=_
    rw[lQ l];rfl))) (λd h=>?_) λd h=>?_
   ·obtain⟨k,j,rfl⟩:=au.1 h;obtain⟨u,c,hk,p,b,s,q⟩:=g0 o (jF j)
    have i:aY .NotEq (aA 0) (aA 1) [.sh (.str k),.sh (.str x),.rk 348 r,.sh v]= .ok (.bl (decide (k≠x))):=(aR (x:=.str k) (y:=.str x) rfl rfl).trans (aA3 hk hx)
    have n:aY .Eq (vI 348 2 (aA 0)) (aA 3) [.sh (.str k),.sh (.str x),.rk 348 r,.sh v]= .ok (.bl (deq u v)):=by
     refine(aR (x:=u) (y:=v) ?_ rfl).trans ?_
     ·show(match bI r.held k with|some d=>R.ok d|none=>.bad)=_
      rw[c]
     ·subst ev;subst q;exact i6 (i5 (iR p b) (iR m a) (uW m a))
    show hX _ _ [.sh (.str k),.sh (.str x),.rk 348 r,.sh v]=_;rw[aA9 c]
    cases f:decide (k≠x)with
    |true=>exact(lI (i.trans (by rw[f]))).trans n
    |false=>exact qD (i.trans (by rw[f]))
   ·rfl
 ·refine(lP (d:=v) ?_).trans rfl
  show(aE r [.str x]).told=_
  rw[qI r hx];unfold v9;rw[e];rfl
theorem aOu(o:OkH h)(l:h.length<64)(hx:x∈NM)(e:bI h x=some v)(h2:ρ[2]? =some (.sh (b9 h)))(h6:ρ[6]? =some (.sh (.str x))):
  bB 0 [2,6] (aG cD [aD 2]) (some (hX (aY .NotEq (aA 0) (aA 2)) (aY .Eq (rIx (aD 1) (aA 0)) (rIx (aD 1) (aA 2))))) (aA 0) ρ= .ow ((jE h).filter (qM h x v)):=by
 obtain⟨m,a,g,ev⟩:=o.get e
 have c:iT [2,6] ρ=[.sh (b9 h),.sh (.str x)]:=by simp[iT,h2,h6]
 have t:aD 2 ρ= .ok (b9 h):=by simp[aD,h2]
 refine jL (.inr (.inr ((cF t).trans (qK l)))) (λd j=>?_) λd j=>by rw[c];rfl
 rw[c];obtain⟨k,p,rfl⟩:=au.1 j;obtain⟨u,f,hk,q,b,z,r⟩:=g0 o (jF p)
 have n:aY .NotEq (aA 0) (aA 2) [.sh (.str k),.sh (b9 h),.sh (.str x)]= .ok (.bl (decide (k≠x))):=(aR (x:=.str k) (y:=.str x) rfl rfl).trans (aA3 hk hx)
 have s:aY .Eq (rIx (aD 1) (aA 0)) (rIx (aD 1) (aA 2)) [.sh (.str k),.sh (b9 h),.sh (.str x)]= .ok (.bl (deq u v)):=by
  refine(aR (x:=u) (y:=v) ((cJ (x:=b9 h) (y:=.str k) rfl rfl).trans (fK f)) ((cJ (x:=b9 h) (y:=.str x) rfl rfl).trans (fK e))).trans ?_;subst ev;subst r;exact i6 (i5 (iR q b) (iR m a) (uW m a))
 rw[aA9 f]
 cases i:decide (k≠x)with
 |true=>exact(lI (n.trans (by rw[i]))).trans s
 |false=>exact qD (n.trans (by rw[i]))
theorem aBa(r:Rk):cZ r []= .pure (.ok (.tup [.int r.done.length,.int r.undone.length])):=by
 unfold cZ iM;show fW 348 (dJ _ _ [.rk 348 r] false)=_;rw[lO (sM (eW rfl rfl))];rfl
end
section
variable {ρ:Rho} {A i:Nat} {r r':Rk} {M:FM} {fs:List F} {ds:List D} {op:CmpOp} {g:F} {d d2:D} {xs ys:List D} {b:Bool} {k:Bool->Rho->Out}
theorem aBb(e0:ρ[i]? =some (.rk A r))(ea:args fs ρ= .ok ds)(em:M r ds= .pure (.ok d))(eg:g ρ= .ok d2)(ec:eE op d d2= .ok (.bl b)):g9 A i M fs op g ρ k=k b ρ:=by simp[g9,lG,e0,ea,em,eY,eg,ec,aKc]
theorem aJ2(e0:ρ[i]? =some (.rk A r))(ea:args fs ρ= .ok ds)(em:M r ds= .pure (.ow xs))(eg:g ρ= .ow ys)(ec:eE op (.lst xs) (.lst ys)= .ok (.bl b)):g9 A i M fs op g ρ k=k b ρ:=by simp[g9,lG,e0,ea,em,eY,eg,ec,aKc]
theorem aEb(e0:ρ[i]? =some (.rk A r))(ea:args fs ρ= .ok ds)(em:M r ds= .chg d r')(eg:g (ρ.set i (.rk A r'))= .ok d2)(ec:eE op d d2= .ok (.bl b)):g9 A i M fs op g ρ k=k b (ρ.set i (.rk A r')):=by simp[g9,lG,e0,ea,em,eY,eg,ec,aKc]
end
abbrev stL(ns:List Int)(r:Rk)(h:List (Str×D))(s3 s4 s5 s6:Slot):Rho:=[.sh (Sc ns),.rk 348 r,.sh (b9 h),s3,s4,s5,s6]
def aO9:FC:=cOr (g9 348 1 aN [aA 4] .NotEq (aA 5)) (cOr (g9 348 1 aX [] .NotEq (aA 2)) (g9 348 1 aV [] .NotEq (aG cD [aD 2])))
def lkB:FS:=bL (sIf (aY .NotEq (dA 348 1 fB [aA 6]) (bB 0 [2,6] (aG cD [aD 2]) (some (hX (aY .NotEq (aA 0) (aA 2)) (aY .Eq (rIx (aD 1) (aA 0)) (rIx (aD 1) (aA 2))))) (aA 0)))
   (dG (rK (.bl false)))
   (a9))
   (a9)
def aEc:FS:=bL (g6 4 (aG eC [aA 0,bF .Add (rK (.int 100)) (bF .Mult (rK (.int 60)) (aA 3)),aA 2]))
  (bL (fQ [2,5] (aG aU [aA 2,aA 4]))
  (bL (aFk aO9 (bL (dG (rK (.bl false))) (a9)) (a9))
  (bL (vH [6] true (aA 2) lkB)
  (a9))))
theorem aEd:aJd=bL (uS 1 2 348 (kG)) (bL (vH [3] true (cS (rK (.int 16))) aEc) (bL (dG (aY .Eq (rIx (dA 348 1 cZ []) (rK (.int 1))) (rK (.int 0)))) (a9))):=rfl
section
variable {ns:List Int} {r:Rk} {s3 s4 s5 s6:Slot}
theorem aOv(o:OkH r.held)(l:r.held.length<64)(hx:x∈NM)(e:bI r.held x=some v):lkB (stL ns r r.held s3 s4 s5 (.sh (.str x)))= .nx (stL ns r r.held s3 s4 s5 (.sh (.str x))):=by
 have d:dA 348 1 fB [aA 6] (stL ns r r.held s3 s4 s5 (.sh (.str x)))= .ow ((jE r.held).filter (qM r.held x v)):=by
  show(fB r [.str x]).told=_
  rw[aJ1 o l hx e];rfl
 have a:=aOu (ρ:=stL ns r r.held s3 s4 s5 (.sh (.str x))) o l hx e rfl rfl;refine(aH ((cU ((aD0 d a).trans ?_)).trans rfl)).trans rfl
 have hk:(jE r.held).filter (qM r.held x v)=((fE (r.held.map (·.1))).filter λk=>qM r.held x v (.str k)).map D.str:=by
  unfold jE;rw[List.filter_map];rfl
 rw[hk]
 obtain⟨c,f⟩:=aA8 (l:=(fE (r.held.map (·.1))).filter λk=>qM r.held x v (.str k)) λk b=>by
  obtain⟨_,_,hk,_⟩:=g0 o (jF (List.mem_filter.1 b).1);exact hk
 exact oH c f
theorem aEe(o:OkH r.held)(l:r.held.length<64): ∃s,vH [6] true (aA 2) lkB (stL ns r r.held s3 s4 s5 s6)= .nx (stL ns r r.held s3 s4 s5 s):=by
 have i:vH [6] true (aA 2) lkB (stL ns r r.held s3 s4 s5 s6)=fS (o8 [6] true) lkB ((r.held.map (·.1)).map D.str) (stL ns r r.held s3 s4 s5 s6):=by
  show(match(if(r.held.map (·.1)).length<=1000 then some ((r.held.map (·.1)).map D.str)else none)with|some ds=>fS (o8 [6] true) lkB ds (stL ns r r.held s3 s4 s5 s6)|none=>Out.rt .bad)=_
  rw[if_pos (by rw[aq];lia)]
 obtain⟨f,e,s,rfl⟩:=qF (t:=o8 [6] true) (b:=lkB) (I:=λρ=>∃s,ρ=stL ns r r.held s3 s4 s5 s) (ds:=(r.held.map (·.1)).map D.str) (ρ:=stL ns r r.held s3 s4 s5 s6) (λd g ρ ⟨s,a⟩=>by
  obtain⟨x,h,rfl⟩:=au.1 g;obtain⟨v,e,c,_⟩:=g0 o h;exact⟨stL ns r r.held s3 s4 s5 (.sh (.str x)),_,by rw[a];rfl,aOv o l c e,_,rfl⟩) ⟨s6,rfl⟩
 exact⟨s,i.trans e⟩
theorem aBc(o:OkH r.held)(l:r.held.length<64)(k:Bool->Rho->Out):cOr (g9 348 1 aX [] .NotEq (aA 2)) (g9 348 1 aV [] .NotEq (aG cD [aD 2])) (stL ns r r.held s3 s4 s5 s6) k=k false (stL ns r r.held s3 s4 s5 s6):=by
 unfold cOr;rw[aBb (r:=r) rfl rfl (aOs o l) rfl (aOt o),if_neg (by decide)]
 obtain⟨c,b⟩:=aA8 (l:=fE (r.held.map (·.1))) λk a=>by
  obtain⟨_,_,hk,_⟩:=g0 o (jF a);exact hk
 exact aJ2 (r:=r) rfl rfl (lQ l) ((cF (x:=b9 r.held) rfl).trans (qK l)) (oH c b)
end
section
variable {ns:List Int} {r:Rk} {s3 s4 s5 s6:Slot}
theorem aJ3(hu:r.undone=[])(t:aR6 r d due h')(du:Due due)(o:OkH h')(l:h'.length<64): ∃r',r'.held=h'/\r'.undone=[]/\r'.done.length<=r.done.length+1/\
  aFk aO9 (bL (dG (rK (.bl false))) (a9)) (a9) (stL ns r h' s3 (.sh d) (.sh due) s6)= .nx (stL ns r' h' s3 (.sh d) (.sh due) s6):=by
 rcases t with ⟨e,rfl⟩|⟨f,e⟩
 ·refine⟨r,rfl,hu,Nat.le_succ _,?_⟩;unfold aFk aO9;rw[show cOr (g9 348 1 aN [aA 4] .NotEq (aA 5)) (cOr (g9 348 1 aX [] .NotEq (aA 2)) (g9 348 1 aV [] .NotEq (aG cD [aD 2])))=λc k=>g9 348 1 aN [aA 4] .NotEq (aA 5) c λb a=>if b then k true a else(cOr (g9 348 1 aX [] .NotEq (aA 2)) (g9 348 1 aV [] .NotEq (aG cD [aD 2]))) a k from rfl]
  dsimp only
  rw[aBb (r:=r) (ds:=[d]) (d:=due) (d2:=due) (b:=false) rfl rfl e rfl (oH du.1 du.2),if_neg (by decide),aBc o l]
  rfl
 ·refine⟨⟨h',r.done++[f],[]⟩,rfl,rfl,by simp,?_⟩
  unfold aFk aO9;rw[show cOr (g9 348 1 aN [aA 4] .NotEq (aA 5)) (cOr (g9 348 1 aX [] .NotEq (aA 2)) (g9 348 1 aV [] .NotEq (aG cD [aD 2])))=λc k=>g9 348 1 aN [aA 4] .NotEq (aA 5) c λb a=>if b then k true a else(cOr (g9 348 1 aX [] .NotEq (aA 2)) (g9 348 1 aV [] .NotEq (aG cD [aD 2]))) a k from rfl]
  dsimp only
  rw[aEb (r:=r) (ds:=[d]) (d:=due) (d2:=due) (b:=false) rfl rfl e rfl (oH du.1 du.2),if_neg (by decide)]
  exact(aBc (r:=⟨h',r.done++[f],[]⟩) o l _).trans rfl
theorem aBd(k:Nat)(o:OkH r.held)(hu:r.undone=[])(ld:r.done.length<16)(lh:r.held.length<16):
  ∃r' s4' s5' s6',aEc (stL ns r r.held (.sh (.int (k:Nat))) s4 s5 s6)= .nx (stL ns r' r'.held (.sh (.int (k:Nat))) s4' s5' s6')/\OkH r'.held/\r'.undone=[]/\r'.done.length<=r.done.length+1/\r'.held.length<=r.held.length+1:=by
 obtain⟨d,j,m⟩:=aJz ns (100+60*k) (r.held.map (·.1)) (r.held.map (·.2))
 obtain⟨q,a,l,t,p,b,i⟩:=aJ0 r o (by lia) (by lia) m
 obtain⟨r',c,g,h,f⟩:=aJ3 (ns:=ns) (s3:=.sh (.int (k:Nat))) (s6:=s6) hu t p b (by lia)
 subst c;obtain⟨s,e⟩:=aEe (ns:=ns) (s3:=.sh (.int (k:Nat))) (s4:=.sh d) (s5:=.sh a) (s6:=s6) b (by lia)
 refine⟨r',.sh d,.sh a,s,?_,b,g,h,i⟩;unfold aEc
 have n:bF .Add (rK (.int 100)) (bF .Mult (rK (.int 60)) (aA 3)) (stL ns r r.held (.sh (.int (k:Nat))) s4 s5 s6)= .ok (.int ((100+60*k:Nat):Int)):=by
  refine(bJ (x:=.int 100) (y:=.int (60*(k:Nat))) rfl ((bJ (x:=.int 60) (y:=.int (k:Nat)) rfl rfl).trans (aN7 (by decide)))).trans ?_
  simp[kB,eN]
 refine(aH (eV ((dO (x:=Sc ns) (z:=b9 r.held) rfl n rfl).trans j))).trans ?_;refine(aH (ρ':=stL ns r r'.held (.sh (.int (k:Nat))) (.sh d) (.sh a) s6) (lH (ds:=[b9 r'.held,a]) ((cV (x:=b9 r.held) (y:=d) rfl rfl).trans l) rfl)).trans ?_;exact(aH f).trans ((aH e).trans rfl)
theorem aBe: ∀(l:List Nat) (r:Rk) (s3 s4 s5 s6:Slot),OkH r.held->r.undone=[]->r.done.length+l.length<=16->r.held.length+l.length<=16->
  ∃r' s3' s4' s5' s6',fS (o8 [3] true) aEc (l.map λ(i:Nat)=>D.int (i:Int)) (stL ns r r.held s3 s4 s5 s6)= .nx (stL ns r' r'.held s3' s4' s5' s6')/\r'.undone=[]
 |[],r,s3,s4,s5,s6,_,hu,_,_=>⟨r,s3,s4,s5,s6,rfl,hu⟩
 |k::l,r,s3,s4,s5,s6,o,hu,ld,lh=>by
  simp only[bt]at ld lh;obtain⟨j,d,g,m,e,h,p,t,u⟩:=aBd (ns:=ns) (s4:=s4) (s5:=s5) (s6:=s6) k o hu (by lia) (by lia)
  obtain⟨r',a,q,n,f,b,s⟩:=aBe l j (.sh (.int (k:Nat))) d g m h p (by lia) (by lia)
  refine⟨r',a,q,n,f,?_,s⟩
  have c:o8 [3] true (.int (k:Nat)) (stL ns r r.held s3 s4 s5 s6)=some (stL ns r r.held (.sh (.int (k:Nat))) s4 s5 s6):=rfl
  rw[List.map_cons];unfold fS;rw[c]
  dsimp only
  rw[e];exact b
end
theorem aRc(ns:List Int):aJd ([D.lst (ns.map D.int)].map SK.Slot.sh++ao 6 .no)= .rt (.ok (.bl true)):=by
 rw[aEd];show bL _ _ [.sh (Sc ns),.no,.no,.no,.no,.no,.no]=_;refine(aH (ρ':=stL ns ⟨[],[],[]⟩ [] .no .no .no .no) rfl).trans ?_;obtain⟨a,b,g,f,d,e,u⟩:=aBe (ns:=ns) (List.range 16) ⟨[],[],[]⟩ .no .no .no .no ⟨List.nodup_nil,λp m=>by cases m⟩ rfl (by decide) (by decide)
 refine(aH ((aJc (ds:=qO 16) (.inl (e9 (n:=16) rfl (by decide)))).trans e)).trans (cI (aQ ?_))
 have c:dA 348 1 cZ [] (stL ns a a.held b g f d)= .ok (.tup [.int a.done.length,.int a.undone.length]):=by
  show(cZ a []).told=_
  rw[aBa];rfl
 refine(aR (x:=.int 0) (y:=.int 0) ((cJ (x:=.tup [.int a.done.length,.int a.undone.length]) (y:=.int 1) c rfl).trans ?_) rfl).trans rfl;rw[u];rfl
open PySem.Spec PyProof.Rows L2 PySem.W
abbrev KK(w:World):PySem.W.Frag:=kK w.params
abbrev ge(x:Str)(g:SK.Gl):Str×SK.Gl:=(x,g)
def tbL:List (Str×SK.Gl):=[ge "Rack" (.cls 348 [("counts",0,cZ),("like",1,fB),("labels",0,aV),("turn",1,eM),("join",4,dQ),("take",1,dP),("switch_of",1,aE),("put",2,fY),("do",3,jX),("set_to",2,a8)]),ge "Rack" (.cls 348 [("like",1,fB),("labels",0,aV),("turn",1,eM),("join",4,dQ),("take",1,dP),("switch_of",1,aE),("put",2,fY),("do",3,jX),("set_to",2,a8)]),ge "Rack" (.cls 348 [("labels",0,aV),("turn",1,eM),("join",4,dQ),("take",1,dP),("switch_of",1,aE),("put",2,fY),("do",3,jX),("set_to",2,a8)]),ge "Rack" (.cls 348 [("turn",1,eM),("join",4,dQ),("take",1,dP),("switch_of",1,aE),("put",2,fY),("do",3,jX),("set_to",2,a8)]),ge "Rack" (.cls 348 [("join",4,dQ),("take",1,dP),("switch_of",1,aE),("put",2,fY),("do",3,jX),("set_to",2,a8)]),ge "Rack" (.cls 348 [("take",1,dP),("switch_of",1,aE),("put",2,fY),("do",3,jX),("set_to",2,a8)]),ge "Rack" (.cls 348 [("switch_of",1,aE),("put",2,fY),("do",3,jX),("set_to",2,a8)]),ge "Rack" (.cls 348 [("put",2,fY),("do",3,jX),("set_to",2,a8)]),ge "Rack" (.cls 348 [("do",3,jX),("set_to",2,a8)]),ge "Rack" (.cls 348 [("set_to",2,a8)]),ge "Rack" (.cls 348 []),ge "_law_behind" (.fn 22 2 aU),ge "_law_deed" (.fn 21 3 eC),ge "_law_switch" (.fn 20 3 cM),ge "_law_odd" (.fn 19 2 eL),ge "_law_setting" (.fn 18 2 aO),ge "_law_pick" (.fn 17 3 aI),ge "_law_cell" (.fn 16 2 eB),ge "joined" (.fn 15 3 dM),ge "check_label" (.fn 14 1 bV),ge "is_label" (.fn 13 1 gL),ge "unlike" (.fn 12 2 gK),ge "either" (.fn 11 2 gJ),ge "both" (.fn 10 2 mU),ge "turned" (.fn 9 1 iQ),ge "check_alike" (.fn 8 2 bK),ge "check_switch" (.fn 7 1 bE),ge "is_switch" (.fn 6 1 eK),ge "how_many_settings" (.fn 5 1 bM),ge "is_row" (.fn 4 3 iP),ge "is_many" (.fn 3 1 fA),ge "are_whole_below" (.fn 2 2 bU),ge "is_whole_below" (.fn 1 2 bH),ge "is_whole" (.fn 0 1 gI),ge (dF .dict) (.py .dict),ge (dF .sorted) (.py .sorted),ge (dF .all) (.py .all),ge (dF .sum) (.py .sum),ge (dF .list) (.py .list),ge (dF .tuple) (.py .tuple),ge (dF .str) (.py .str),ge (dF .bool) (.py .bool),ge (dF .int) (.py .int),ge (dF .isin) (.py .isin),ge (dF .zip) (.py .zip),ge (dF .range) (.py .range),ge (dF .len) (.py .len),ge "ValueError" .verr,ge "NoBack" (.exc 9),ge "NoLabel" (.exc 8),ge "NoTerm" (.exc 7),ge "NoText" (.exc 6),ge "NoSums" (.exc 5),ge "Unlike" (.exc 4),ge "NoMove" (.exc 3),ge "NoName" (.exc 2),ge "NoSwitch" (.exc 1),ge "SwitchError" (.exc 0),ge "LONGEST_LABEL" (.val (.int 4)),ge "MOST_NAMES" (.val (.int 4))]
def flL:List (Nat×Fn):=[(1,gI),(2,bH),(2,bU),(1,fA),(3,iP),(1,bM),(1,eK),(1,bE),(2,bK),(1,iQ),(2,mU),(2,gJ),(2,gK),(1,gL),(1,bV),(3,dM),(2,eB),(3,aI),(2,aO),(2,eL),(3,cM),(3,eC),(2,aU)]
set_option maxHeartbeats 0 in
theorem all_mk{l:PySem.W.OpenLaw}(X:(KK w).In h)(G:h.Ns mainGlobals mg)(hfa:mg "law"=some (.ref fa)):
  ∃qq ad C gms A g k n m cL c P0 params body scope,LawGT l.prog w (KK w) mg fa "law" "_law_did" qq ad C gms A g k n m cL c P0 params body scope:=by
 cases hfa.symm.trans (PySem.W.mg_of X G (n:="law") (v:=.ref 424) (by kernel_rfl))
 refine⟨((envOfC "_law_did" (defScope (top 44)) 0 414 (.ref 413)).qual++"<lambda>"),(aFb [31,44,56,68,80,92,104,116,128,140] 31 [149,156,161,168,175,182,189,196,203,208,213,218,223,228,235,242,359,366,376,381,371,402,407]),⟨tbL,flL,defScope (top 46),aC (defScope (top 46)),aBj 50 (defBody (top 46))⟩,[("_law_did",1,aN),("_law_all_of",0,aX)],348,aJd,34,100,6,423,413,409,defArgs (top 46),defBody (top 46),defScope (top 46),?_⟩;refine⟨⟨_,_,_,_,_,_,_,_,_,rfl,λs u=>.of_eq rfl⟩,by kernel_rfl,by kernel_rfl,⟨rfl,by decide,by decide⟩,by kernel_rfl,by kernel_rfl,λo b H j i Q hB q=>?_,by kernel_rfl,by kernel_rfl,aRc⟩
 have t:PQ l.prog w (KK w) mg b b (aFb [31,44,56,68,80,92,104,116,128,140] 31 [149,156,161,168,175,182,189,196,203,208,213,218,223,228,235,242,359,366,376,381,371,402,407]) 0 [] []:=.nil j i (aH8 (by kernel_rfl) (by kernel_rfl))
 have t:=t.int "MOST_NAMES" 4 360;have t:=t.int "LONGEST_LABEL" 4 456;have t:=t.exc "SwitchError" 0;have t:=t.exc "NoSwitch" 1;have t:=t.exc "NoName" 2;have t:=t.exc "NoMove" 3;have t:=t.exc "Unlike" 4;have t:=t.exc "NoSums" 5;have t:=t.exc "NoText" 6;have t:=t.exc "NoTerm" 7;have t:=t.exc "NoLabel" 8;have t:=t.exc "NoBack" 9;have t:=t.verr;have t:=t.py .len;have t:=t.py .range;have t:=t.py .zip;have t:=t.py .isin;have t:=t.py .int;have t:=t.py .bool;have t:=t.py .str;have t:=t.py .tuple;have t:=t.py .list;have t:=t.py .sum;have t:=t.py .all;have t:=t.py .sorted;have t:=t.py .dict;have t:=t.add "is_whole" (top 14) 149 ["thing"] 1 gI rfl;have t:=t.add "is_whole_below" (top 15) 156 ["thing","bound"] 2 bH rfl;have t:=t.add "are_whole_below" (top 16) 161 ["things","bound"] 2 bU rfl;have t:=t.add "is_many" (top 17) 168 ["thing"] 1 fA rfl;have t:=t.add "is_row" (top 18) 175 ["thing","length","bound"] 3 iP rfl;have t:=t.add "how_many_settings" (top 19) 182 ["many"] 1 bM rfl;have t:=t.add "is_switch" (top 21) 189 ["thing"] 1 eK rfl;have t:=t.add "check_switch" (top 22) 196 ["thing"] 1 bE rfl;have t:=t.add "check_alike" (top 23) 203 ["one","other"] 2 bK rfl;have t:=t.add "turned" (top 24) 208 ["switch"] 1 iQ rfl;have t:=t.add "both" (top 25) 213 ["one","other"] 2 mU rfl;have t:=t.add "either" (top 26) 218 ["one","other"] 2 gJ rfl;have t:=t.add "unlike" (top 27) 223 ["one","other"] 2 gK rfl;have t:=t.add "is_label" (top 30) 228 ["thing"] 1 gL rfl;have t:=t.add "check_label" (top 31) 235 ["thing"] 1 bV rfl;have t:=t.add "joined" (top 32) 242 ["word","one","other"] 3 dM rfl;have t:=t.add "_law_cell" (top 35) 359 ["_law_script","_law_k"] 2 eB rfl;have t:=t.add "_law_pick" (top 36) 366 ["_law_script","_law_k","_law_many"] 3 aI rfl;have t:=t.add "_law_setting" (top 38) 376 ["_law_many","_law_number"] 2 aO rfl;have t:=t.add "_law_odd" (top 39) 381 ["_law_one","_law_other"] 2 eL rfl;have t:=t.add "_law_switch" (top 37) 371 ["_law_script","_law_at","_law_many"] 3 cM rfl;have t:=t.add "_law_deed" (top 42) 402 ["_law_script","_law_at","_law_known"] 3 eC rfl;have t:=t.add "_law_behind" (top 43) 407 ["_law_known","_law_deed_here"] 2 aU rfl;have t:=t.rack 348 (aFn (by kernel_rfl) (by kernel_rfl) (by kernel_rfl) (by kernel_rfl) (by kernel_rfl) (by kernel_rfl) (by kernel_rfl))
 have t:=t.met "set_to" "Rack.set_to" (met 33 1) 263 "self" ["label","switch"] 2 a8 rfl rfl;have t:=t.met "do" "Rack.do" (met 33 2) 270 "self" ["word","label","switch"] 3 jX rfl rfl;have t:=t.met "put" "Rack.put" (met 33 3) 277 "self" ["label","switch"] 2 fY rfl rfl;have t:=t.met "switch_of" "Rack.switch_of" (met 33 4) 284 "self" ["label"] 1 aE rfl rfl;have t:=t.met "take" "Rack.take" (met 33 5) 291 "self" ["label"] 1 dP rfl rfl;have t:=t.met "join" "Rack.join" (met 33 6) 298 "self" ["label","word","one","other"] 4 dQ rfl rfl;have t:=t.met "turn" "Rack.turn" (met 33 7) 305 "self" ["label"] 1 eM rfl rfl;have t:=t.met "labels" "Rack.labels" (met 33 8) 312 "self" [] 0 aV rfl rfl;have t:=t.met "like" "Rack.like" (met 33 9) 317 "self" ["label"] 1 fB rfl rfl;have t:=t.met "counts" "Rack.counts" (met 33 12) 338 "self" [] 0 cZ rfl rfl;have O:=l6 (K:=KK w) (x:="__init__") (qual:="Rack.__init__") (st:=met 33 0) (f:=256) rfl (by kernel_rfl) (by kernel_rfl)
 have I:=O.binds (ps:=["self"]) (by intro _ _ _ _ _ _ a d;rcases a with _|⟨u0,_|⟨u1,a⟩⟩<;>first|rfl|(simp at d))
 have J:=l6 (K:=KK w) (x:="_law_class") (qual:="_law_class") (st:=top 40) (f:=388) rfl (by kernel_rfl) (by kernel_rfl)
 have Z:=l6 (K:=KK w) (x:="_law_told") (qual:="_law_told") (st:=top 41) (f:=395) rfl (by kernel_rfl) (by kernel_rfl)
 have Y:=aIb (ps:=["_law_kept"]) (n:=1) (F:=aT) t.B t.t J rfl (by kernel_rfl)
 have E:=J.binds (ps:=["_law_kept"]) (by intro _ _ _ _ _ _ a d;rcases a with _|⟨u0,_|⟨u1,a⟩⟩<;>first|rfl|(simp at d))
 have U:=aDv (k:=34) (t:=⟨"_law_deed_here","e","_law_class","SwitchError"⟩) (kf:=34) Z ⟨_,_,_,_,_,_,_,_,_,_,rfl⟩ (by kernel_rfl) (PySem.W.mg_of j i (by kernel_rfl)) (by kernel_rfl) Y E (aj _) (PySem.W.mg_of j i (by kernel_rfl)) t.B
 have y:=(t.t "Rack" (SK.Gl.cls 348 [("counts",0,cZ),("like",1,fB),("labels",0,aV),("turn",1,eM),("join",4,dQ),("take",1,dP),("switch_of",1,aE),("put",2,fY),("do",3,jX),("set_to",2,a8)]) rfl).2;have L:RkC (KK w) 348:=y.2.1
 have S:(aC (defScope (top 44))).length=2:=by kernel_rfl
 have hD:=aN0 (X:=cxP 409 (jP (CXe l.prog w) l.prog w (KK w) mg b (aC (defScope (top 46))) "law" (defScope (top 46)) 424 (.ref 423) callerA [] o H λ_ _ _=>False)) (tab:=tbL) (fns:=flL) (sc:=defScope (top 44)) (qual:="_law_did") (name:="_law_did") (tn:="_law_told") (self:="_law_rack") (prs:=["_law_deed_here"]) (F:=aT) (A:=348) (ms:=[("counts",0,cZ),("like",1,fB),("labels",0,aV),("turn",1,eM),("join",4,dQ),("take",1,dP),("switch_of",1,aE),("put",2,fY),("do",3,jX),("set_to",2,a8)]) (fa:=414) (params:=defArgs (top 44)) (body:=defBody (top 44)) (ps0:= #[]) (g:=lK) t.B t.t t.u L y.2.2 ⟨395,_,"_law_deed_here",PySem.W.mg_of j i (by kernel_rfl),by kernel_rfl,U,λs u _=>.of_eq rfl⟩ (by decide) Q hB q rfl (by kernel_rfl) (by kernel_rfl) (by kernel_rfl)
 rw[S]at hD;have N:=l6 (K:=KK w) (x:="_law_all_of") (qual:="_law_all_of") (st:=top 45) (f:=419) rfl (by kernel_rfl) (by kernel_rfl)
 have T:=aFi (k:=33) (A:=348) (ms:=[("counts",0,cZ),("like",1,fB),("labels",0,aV),("turn",1,eM),("join",4,dQ),("take",1,dP),("switch_of",1,aE),("put",2,fY),("do",3,jX),("set_to",2,a8)]) (n:=0) (M:=aX) (self:="_law_rack") (ps:=[]) t.B t.t L y.2.2 N rfl (by kernel_rfl)
 have r:=N.binds (ps:=["_law_rack"]) (by intro _ _ _ _ _ _ a d;rcases a with _|⟨u0,_|⟨u1,a⟩⟩<;>first|rfl|(simp at d))
 have z:PySem.W.keepIn (KK w) (.ref 414)=true:=by kernel_rfl
 have p:PySem.W.keepIn (KK w) (.ref 419)=true:=by kernel_rfl
 exact aJa (tab:=tbL) (fns:=flL) (x:="_law_script") (prs1:=["_law_rack","_law_deed_here"]) (nd:=1) (Md:=aN) t.B t.t t.u (by kernel_rfl) ⟨rfl,by decide,by decide⟩ (λA ms e=>by cases (show(some (SK.Gl.cls 348 [("counts",0,cZ),("like",1,fB),("labels",0,aV),("turn",1,eM),("join",4,dQ),("take",1,dP),("switch_of",1,aE),("put",2,fY),("do",3,jX),("set_to",2,a8)]):Option SK.Gl)=some (SK.Gl.cls A ms) from e);exact⟨256,1,_,_,by decide,⟨by kernel_rfl,by kernel_rfl,by kernel_rfl,by kernel_rfl⟩,aNo (k:=0) (self:="self") (aFn (by kernel_rfl) (by kernel_rfl) (by kernel_rfl) (by kernel_rfl) (by kernel_rfl) (by kernel_rfl) (by kernel_rfl)) O (by kernel_rfl) ⟨_,_,_,_,_,_,_,_,_,_,_,_,rfl⟩,I⟩) hD aOk (PySem.W.mg_of j i (by kernel_rfl)) (by decide) z (λs a _ d=>by rcases a with _|⟨u0,_|⟨u1,_|⟨u2,a⟩⟩⟩<;>first|exact .of_eq rfl|(simp at d)) T (by decide) r (PySem.W.mg_of j i (by kernel_rfl)) (by decide) p
end SK.k71
open PySem PySem.W PyProof.Rows
set_option maxRecDepth 100000 in
set_option maxHeartbeats 0 in
theorem PySem.Challenge.cw_switchkinds_k71_whole_racks_holds : PySem.Challenge.rw_switchkinds_k71_whole_racks.Holds := by
 w_on
 refine PySem.W.holds_law SK.k71.sd λb=>?_
 refine PySem.W.holds_open (q:=SK.k71.kq) (loose:=[]) (Xt:=λs=>PySem.W.xlAt SK.k71.kq [] s&&PySem.W.recOk (PySem.W.RowW.records (PySem.W.OpenRow.toRowW PySem.Challenge.rw_switchkinds_k71_whole_racks.row)) s) (XP:=PySem.W.XL SK.k71.kq []) (Yf:=PySem.W.Hook.obs (PySem.W.kHook SK.k71.kK SK.k71.kas (λ_=>by kernel_rfl))) (Ya:=PySem.W.Hook.val (PySem.W.kHook SK.k71.kK SK.k71.kas (λ_=>by kernel_rfl))) (YP:=PySem.W.Hook.says (PySem.W.kHook SK.k71.kK SK.k71.kas (λ_=>by kernel_rfl))) (N:=7398) SK.k71.left (PySem.W.Hook.of (PySem.W.kHook SK.k71.kK SK.k71.kas (λ_=>by kernel_rfl))) (PySem.W.Hook.keeps (PySem.W.kHook SK.k71.kK SK.k71.kas (λ_=>by kernel_rfl))) (λs e=>PySem.W.xl_of s (Bool.and_eq_true_iff.mp e).1) PySem.W.XL.keeps (by rfl) (by rfl) (by rfl) (λs e=>PySem.W.recFacts_of (Bool.and_eq_true_iff.mp e).2) (by rfl) (by first|assumption|decide+kernel) (by decide+kernel) ⟨rfl,rfl,rfl,rfl,rfl,by decide+kernel⟩ ?hw ?hc
 (case hw=>w_witness2)
 refine SK.walkG (l:=PySem.Challenge.rw_switchkinds_k71_whole_racks) rfl rfl (λw h Y=>PySem.W.kIn_of Y) (did:="_law_did") (Option.isSome_iff_exists.mp (by kernel_rfl)) ?F
 case F=>
  intro w f d h c G a;exact SK.k71.all_mk c G a
