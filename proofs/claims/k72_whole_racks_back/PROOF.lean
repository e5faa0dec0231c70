import PyProof.Rows.All
import Wide.All
import OpenK.AllK
import Wide.FinOn
import Lean
import PyProof.EqAt
import PyProof.EqKinds
import PyProof.TupleCall
import PySem.Syntax
import PySem.Builtin.Int.W1All
import PySem.Eval
import PyProof.StrBlockL
import PyProof.StrBlock2
import PyProof.P3Eq
import PyProof.NeData
import PyProof.Rows.IntBool
import KE.KxIndex
import KE.KEqDict
import PyProof.FString5
import KE.KIntText
import PyProof.StrWalks
import PyProof.DictWalks
import PyProof.ExcArgs
import PyProof.RulesAs
import PyProof.RulesDel
import KE.KTryMore
import PyProof.StrCalls2
import PyProof.StrLawsOcc
import PyProof.FitsReplace
import PyProof.DictKinds
import PyProof.MeetsDict
import PyProof.DictList
import PyProof.ZipIter
import PyProof.EnumStmt
import PyProof.ListRange
import PyProof.TupleOfSeq
import PyProof.ConsumeS
import PyProof.Rows.MinMaxGenD
import PyProof.Rows.RuleM_int
import KE.KRevSl
import PyProof.SetNew
import PyProof.Rows.SetFrom
import PyProof.TupleKey
import PyProof.FactsAll.NoneType
import KE.KSortTup
import PyProof.Rows.CallKwBuiltin
import KE.KDictList
import PyProof.Rows.SortStr
import PyProof.IsiH_list
import KE.KUnpack
import KE.KLam
import PySem.Challenge.RW_switchkinds_k72_whole_racks_back
noncomputable section
abbrev cc:=PySem.Value->PySem.Shared->Prop
abbrev ce:=List (PySem.Addr×PySem.Obj)
open PySem renaming wpAny_bind->aa,wpAny_pure->ac
open PySem.Heap renaming get?_push_of_some->ae,get?_push_size->af,lt_size->ag,size_push->ah
open Nat renaming le_refl->ai,lt_of_lt_of_le->bf,ne_of_lt->bg,zero_le->bt
open List renaming replicate->aj,length_map->ao,mem_map->aq,mem_cons->au,size_toArray->aw,getElem?_eq_some_iff->ax,getElem?_set_ne->ba,getElem?_eq_getElem->bc,getElem?_set_self->bh,getElem?_append_right->bj,length_append->bn,length_cons->bo,mem_append_right->bq,getElem?_append_left->bu,getD_eq_getElem?_getD->bx
open Bool renaming and_eq_true->av,false_eq_true->ay,false_ne_true->bd
open False renaming elim->az
theorem zBd{α β:Type}{o:Option α}{f:α->Option β}{b:β}(h:o.bind f=some b): ∃a,o=some a/\f a=some b:=Option.bind_eq_some_iff.mp h
theorem zMd{α β:Type}{o:Option α}{f:α->β}{b:β}(h:o.map f=some b): ∃a,o=some a/\f a=b:=Option.map_eq_some_iff.mp h
theorem zAd{α:Type}{l:List α}{p:α->Bool}(h:l.all p=true): ∀x,x∈l->p x=true:=List.all_eq_true.mp h
theorem zPd(h:m<n):m∈List.range n:=List.mem_range.mpr h
theorem zRd(h:m∈List.range n):m<n:=List.mem_range.mp h
set_option Elab.async false
set_option linter.all false
set_option maxRecDepth 100000
namespace SK
open PySem PySem.W PyProof.Rows PySem.Calls
noncomputable def KG(tb:String->Option Builtin)(p:Program)(w:World)(m:Nat)(ann:Option Value)(n:Nat):SharedT->Thread->Option SharedT:=
 Nat.rec (λ_ _=>none) (λ_ ih s t=>match through t with
  |true=>some s
  |false=>match stepOk m ann t with
   |false=>none
   |true=>match stepT (denote tb) p w s t with
    |some r=>ih r.1 r.2
    |none=>none) n
theorem o0{tb:String->Option Builtin}{p:Program}{w:World}{m:Nat}{ann:Option Value}: ∀(n:Nat) (s s':SharedT) (t:Thread),KG tb p w m ann n s t=some s'->topRun tb p w m ann n s.abs t=some s'.abs
 |0,_,_,_,h=>nomatch h
 |n+1,s,s',t,h=>by
  have h:(match through t with
   |true=>some s
   |false=>match stepOk m ann t with
    |false=>none
    |true=>match stepT (denote tb) p w s t with
     |some r=>KG tb p w m ann n r.1 r.2
     |none=>none)=some s':=h
  unfold topRun
  cases b:through t with
  |true=>rw[b]at h;cases h;rfl
  |false=>
   rw[b]at h
   cases hk:stepOk m ann t with
   |false=>rw[hk]at h;cases h
   |true=>
    rw[hk]at h
    cases a:stepT (denote tb) p w s t with
    |none=>rw[a]at h;cases h
    |some r=>obtain⟨d,c⟩:=r;rw[a]at h;rw[stepT_spec a];exact o0 n _ _ _ h
noncomputable def BTl:Nat->List Obj->BT
 |0,_=>.nil
 |n+1,l=>match l with
  |[]=>.nil
  |v::r=>.node v (BTl n (ev true r)) (BTl n (ev false r))
where
 ev:Bool->List Obj->List Obj
 |_,[]=>[]
 |true,v::r=>v::ev false r
 |false,_::r=>ev true r
def bt0(P:Params):BT:=BTl 12 (boot_heap P).objs.toList
def sT0(P:Params)(os:OsState):SharedT:=⟨bt0 P,(boot_heap P).objs.size,(boot_heap P).life, #[],boot_drawn,boot_toks,os⟩
theorem G6(P:Params):absHeap (bt0 P) (boot_heap P).objs.size (boot_heap P).life=boot_heap P:=by kernel_rfl
theorem DP(P:Params):(boot_heap P).isNs mainGlobals=true:=by kernel_rfl
def DQ(p q:Program)(loose:List Str)(Xt:Shared->Bool){α:Type}(Yf:Shared->α)(P:Params)(s:Shared):=
 (staticsOk (importedModules p.main.body) (boot_heap P) s.heap&&namesBound p s.heap&&gensDone s&&laidKept (boot_heap P) s.heap,openSeen q loose (importedModules p.main.body) Xt true s,Yf s)
def LV(p:Program)(N:Nat)(w:World)(os:OsState):Option SharedT:=KG treeTable p w (boot_heap w.params).objs.size ((boot_heap w.params).nsMap mainGlobals "__annotations__") N (sT0 w.params os) (topStub p)
theorem left_tree{Yf:Shared->α}{Ya:World->α}{N:Nat}(e:opening p=plainProg p.main.scope.names)(hN:Nat.ble 600 N=true)(f: ∀s,fenceModules? p s=some s)(hk: ∀w os,(LV p N w os).map (λs=>DQ p q loose Xt Yf w.params s.abs)=some (true,openGood q loose,Ya w)):LeftO p q loose Xt Yf Ya N:=λw=>by
 obtain⟨m,n,o⟩:=zMd (boot_open e hN f w);obtain⟨h,g,d,k,os⟩:=m;obtain⟨rfl,rfl,rfl,rfl⟩:h=boot_heap w.params/\g=Array.mk []/\d=boot_drawn/\k=boot_toks:=by simpa using o
 obtain⟨s,r,l⟩:=zMd (hk w os);obtain⟨b,c,i⟩:_/\_/\_:=by simpa only[DQ,Prod.mk.injEq]using l
 have a:=o0 _ _ _ _ r
 have j:(sT0 w.params os).abs=⟨boot_heap w.params,Array.mk [],boot_drawn,boot_toks,os⟩:=by
  show(⟨absHeap (bt0 w.params) (boot_heap w.params).objs.size (boot_heap w.params).life, #[],boot_drawn,boot_toks,os⟩:Shared)=_
  rw[G6]
 rw[j]at a
 have t:topFrom treeTable p w N ⟨boot_heap w.params,Array.mk [],boot_drawn,boot_toks,os⟩=some s.abs:=by
  unfold topFrom
  dsimp only
  rw[DP,a]
  show(match staticsOk (importedModules p.main.body) (boot_heap w.params) s.abs.heap&&namesBound p s.abs.heap&&gensDone s.abs&&laidKept (boot_heap w.params) s.abs.heap with|true=>_|false=>_)=_
  rw[b]
 unfold openEnds;rw[n]
 show(topFrom treeTable p w N _).map _=_
 rw[t];exact congrArg some (Prod.ext c i)
universe u
def kt{α:Sort u}(_:α):Bool:=true
def q1(p q:Program)(lo:List Str)(N:Nat)(c:WRecords)(a:List Addr)(w:World)(os:OsState):=(LV p N w os).map λs=>DQ p q lo (λs=>xlAt q [] s&&recOk c s) (λs=>a.map s.heap.get?) w.params s.abs
theorem tg:kt q1=true:=by k_qdec
end SK
set_option maxHeartbeats 0
namespace L2
open PySem
noncomputable def defArgs(s:Stmt):Arguments:=match s with
 |.FunctionDef _ a _ _ _ _ _ _ _ _=>a
 |_=>{posonlyargs:=[],args:=[],vararg:=none,kwonlyargs:=[],kw_defaults:=[],kwarg:=none,defaults:=[]}
def defBody(s:Stmt):List Stmt:=match s with
 |.FunctionDef _ _ b _ _ _ _ _ _ _=>b
 |_=>[]
def defScope(s:Stmt):Scope:=match s with
 |.FunctionDef _ _ _ _ _ _ sc _ _ _=>sc
 |_=>{kind:=.function,names:=[],isGenerator:=false,isCoroutine:=false}
end L2
namespace SK.k72
open PySem
noncomputable def top(i:Nat):Stmt:=PySem.Challenge.pw_switchkinds_k72_whole_racks_back.main.body.getD i (.Pass ⟨0,0,0,0⟩)
noncomputable def met(i j:Nat):Stmt:=(match top i with|.ClassDef _ _ _ b _ _ _ _ _ _ _=>b|_=>[]).getD j (.Pass ⟨0,0,0,0⟩)
abbrev fm(st:Stmt)(x q m:Str)(t c:Nat):Obj:={cls:=.type "function",data:=.func {name:=x,qualname:=q,params:=L2.defArgs st,body:=.stmts (L2.defBody st),scope:=L2.defScope st,globals:=3,closure:=[],defaults:=.none,kwdefaults:=.none,pyModule:=.str m t,code:=.ref c} }
noncomputable abbrev en(P:Params)(k:Str)(t:Nat)(v:Value):DictEntry:=⟨PyData.keyHash P k,.str k t,v⟩
abbrev fo(st:Stmt)(x m:Str)(t c:Nat):Obj:={cls:=.type "function",data:=.func {name:=x,qualname:=x,params:=L2.defArgs st,body:=.stmts (L2.defBody st),scope:=L2.defScope st,globals:=3,closure:=[],defaults:=.none,kwdefaults:=.none,pyModule:=.str m t,code:=.ref c} }
noncomputable abbrev co(vs:Array Value):Obj:={cls:=.type "code",data:=.fields vs}
abbrev cC(x:Str)(a l n r e:Nat)(u v w:Value):Obj:=co #[.str x a,.str x (a+1),.str "/claim/cut.py" (a+2),.int l 0,.int n 0,.int 0 0,.int 0 0,.int 3 0,.ref r,.bool true,.int 181 0,.ref (r+1),.none,u,v,w,.int e 0,.int l 0,.str "/claim/cut.py" (e+1)]
abbrev cA(x:Str)(a l n r e:Nat):Obj:=cC x a l n r e .none .none (.ref (r+2))
abbrev cB(x:Str)(a l n r e:Nat):Obj:=cC x a l n r e (.ref (r+2)) (.ref (r+3)) (.ref (r+4))
noncomputable abbrev cK(x:Str)(f c ns s a b:Nat):Obj:={cls:=.type "type",data:=.cls {name:=x,bases:=[.ref c],mro:=[.ref f,.ref c,.type "ValueError",.type "Exception",.type "BaseException",.type "object"],ns:=ns,qualname:=x},slots:= #[some (.ref s),none,some (.str x a),some (.str x b),some (.builtin "ValueError.__new__"),some (.bool true)]}
abbrev dK(P:Params)(m:Str)(q a l r:Nat):Obj:={cls:=.type "dict",data:=.dict #[en P "__module__" a (.str m q),en P "__firstlineno__" (a+4) (.int l (a+3)),en P "__static_attributes__" (a+5) (.ref r),en P "__doc__" (a+6) .none] 2}
def kK:Params->PySem.W.Frag:=λP=>[
(3,{cls:=.type "dict",data:=.dict #[en P "__name__" 165 (.str "law_switchkinds_k72_whole_racks_back" 622),en P "__doc__" 166 .none,en P "__package__" 167 .none,en P "__loader__" 168 (.builtin "__main__.__loader__#opaque"),en P "__spec__" 169 .none,en P "__annotations__" 170 (.ref 6),en P "__builtins__" 171 (.ref 4),en P "__file__" 173 (.str "/claim/cut.py" 172),en P "__cached__" 174 .none,en P "_wall" 193 (.ref 21),en P "SwitchError" 213 (.ref 31),en P "NoSwitch" 229 (.ref 44),en P "NoName" 245 (.ref 56),en P "NoMove" 261 (.ref 68),en P "Unlike" 277 (.ref 80),en P "NoSums" 293 (.ref 92),en P "NoText" 309 (.ref 104),en P "NoTerm" 325 (.ref 116),en P "NoLabel" 341 (.ref 128),en P "NoBack" 357 (.ref 140),en P "MOST_NAMES" 361 (.int 4 360),en P "is_whole" 368 (.ref 149),en P "is_whole_below" 376 (.ref 156),en P "are_whole_below" 382 (.ref 161),en P "is_many" 389 (.ref 168),en P "is_row" 398 (.ref 175),en P "how_many_settings" 405 (.ref 182),en P "is_switch" 414 (.ref 189),en P "check_switch" 421 (.ref 196),en P "check_alike" 429 (.ref 203),en P "turned" 435 (.ref 208),en P "both" 441 (.ref 213),en P "either" 447 (.ref 218),en P "unlike" 453 (.ref 223),en P "LONGEST_LABEL" 457 (.int 4 456),en P "is_label" 463 (.ref 228),en P "check_label" 470 (.ref 235),en P "joined" 479 (.ref 242),en P "Rack" 621 (.ref 350),en P "_law_cell" 631 (.ref 361),en P "_law_pick" 641 (.ref 368),en P "_law_switch" 647 (.ref 373),en P "_law_setting" 653 (.ref 378),en P "_law_odd" 659 (.ref 383),en P "_law_class" 668 (.ref 390),en P "_law_told" 676 (.ref 397),en P "_law_deed" 690 (.ref 404),en P "_law_behind" 696 (.ref 409),en P "_law_did" 706 (.ref 416),en P "_law_all_of" 712 (.ref 421),en P "law" 728 (.ref 428)] 51}),
(20,cB "_wall" 187 1 1 15 191),
(21,fo (top 0) "_wall" "__main__" 164 20),
(30,{cls:=.type "dict",data:=.dict #[en P "__module__" 203 (.str "switchkinds.errors" 194),en P "__firstlineno__" 207 (.int 5 206),en P "__static_attributes__" 208 (.ref 29),en P "__weakref__" 210 (.ref 32),en P "__doc__" 211 .none] 3}),
(31,{cls:=.type "type",data:=.cls {name:="SwitchError",bases:=[.type "ValueError"],mro:=[.ref 31,.type "ValueError",.type "Exception",.type "BaseException",.type "object"],ns:=30,qualname:="SwitchError",subclasses:=[.ref 44,.ref 56,.ref 68,.ref 80,.ref 92,.ref 104,.ref 116,.ref 128,.ref 140]},slots:= #[some (.ref 22),none,some (.str "SwitchError" 196),some (.str "SwitchError" 204),some (.builtin "ValueError.__new__"),some (.bool true)]}),
(32,{cls:=.type "getset_descriptor",data:=.fields #[.str "__weakref__" 209,.ref 31,.builtin "ExceptionGroup.__weakref__",.none]}),
(43,dK P "switchkinds.errors" 194 221 7 42),
(44,cK "NoSwitch" 44 31 43 35 214 222),
(55,dK P "switchkinds.errors" 194 237 9 54),
(56,cK "NoName" 56 31 55 47 230 238),
(67,dK P "switchkinds.errors" 194 253 11 66),
(68,cK "NoMove" 68 31 67 59 246 254),
(79,dK P "switchkinds.errors" 194 269 13 78),
(80,cK "Unlike" 80 31 79 71 262 270),
(91,dK P "switchkinds.errors" 194 285 15 90),
(92,cK "NoSums" 92 31 91 83 278 286),
(103,dK P "switchkinds.errors" 194 301 17 102),
(104,cK "NoText" 104 31 103 95 294 302),
(115,dK P "switchkinds.errors" 194 317 19 114),
(116,cK "NoTerm" 116 31 115 107 310 318),
(127,dK P "switchkinds.errors" 194 333 21 126),
(128,cK "NoLabel" 128 31 127 119 326 334),
(139,dK P "switchkinds.errors" 194 349 23 138),
(140,cK "NoBack" 140 31 139 131 342 350),
(148,cB "is_whole" 362 27 1 143 366),
(149,fo (top 14) "is_whole" "switchkinds.wholes" 358 148),
(155,cB "is_whole_below" 369 29 2 150 374),
(156,fo (top 15) "is_whole_below" "switchkinds.wholes" 358 155),
(160,cA "are_whole_below" 377 31 2 157 380),
(161,fo (top 16) "are_whole_below" "switchkinds.wholes" 358 160),
(167,cB "is_many" 383 33 1 162 387),
(168,fo (top 17) "is_many" "switchkinds.wholes" 358 167),
(174,cB "is_row" 390 35 3 169 396),
(175,fo (top 18) "is_row" "switchkinds.wholes" 358 174),
(181,cB "how_many_settings" 399 37 1 176 403),
(182,fo (top 19) "how_many_settings" "switchkinds.wholes" 358 181),
(188,cB "is_switch" 408 40 1 183 412),
(189,fo (top 21) "is_switch" "switchkinds.switches" 406 188),
(195,cB "check_switch" 415 44 1 190 419),
(196,fo (top 22) "check_switch" "switchkinds.switches" 406 195),
(202,cB "check_alike" 422 47 2 197 427),
(203,fo (top 23) "check_alike" "switchkinds.switches" 406 202),
(207,cA "turned" 430 52 1 204 433),
(208,fo (top 24) "turned" "switchkinds.switches" 406 207),
(212,cA "both" 436 55 2 209 439),
(213,fo (top 25) "both" "switchkinds.switches" 406 212),
(217,cA "either" 442 58 2 214 445),
(218,fo (top 26) "either" "switchkinds.switches" 406 217),
(222,cA "unlike" 448 61 2 219 451),
(223,fo (top 27) "unlike" "switchkinds.switches" 406 222),
(227,cA "is_label" 458 66 1 224 461),
(228,fo (top 30) "is_label" "switchkinds.racks" 454 227),
(234,cB "check_label" 464 70 1 229 468),
(235,fo (top 31) "check_label" "switchkinds.racks" 454 234),
(241,cB "joined" 471 73 3 236 477),
(242,fo (top 32) "joined" "switchkinds.racks" 454 241),
(255,co #[.str "__init__" 492,.str "Rack.__init__" 493,.str "/claim/cut.py" 494,.int 83 0,.int 1 0,.int 0 0,.int 0 0,.int 3 0,.ref 250,.bool true,.int 181 0,.ref 251,.none,.ref 252,.ref 253,.ref 254,.int 496 0,.int 83 0,.str "/claim/cut.py" 497]),
(256,fm (met 33 0) "__init__" "Rack.__init__" "switchkinds.racks" 454 255),
(262,co #[.str "set_to" 499,.str "Rack.set_to" 500,.str "/claim/cut.py" 501,.int 88 0,.int 3 0,.int 0 0,.int 0 0,.int 3 0,.ref 257,.bool true,.int 181 0,.ref 258,.none,.ref 259,.ref 260,.ref 261,.int 505 0,.int 88 0,.str "/claim/cut.py" 506]),
(263,fm (met 33 1) "set_to" "Rack.set_to" "switchkinds.racks" 454 262),
(269,co #[.str "do" 508,.str "Rack.do" 509,.str "/claim/cut.py" 510,.int 94 0,.int 4 0,.int 0 0,.int 0 0,.int 3 0,.ref 264,.bool true,.int 181 0,.ref 265,.none,.ref 266,.ref 267,.ref 268,.int 515 0,.int 94 0,.str "/claim/cut.py" 516]),
(270,fm (met 33 2) "do" "Rack.do" "switchkinds.racks" 454 269),
(276,co #[.str "put" 518,.str "Rack.put" 519,.str "/claim/cut.py" 520,.int 99 0,.int 3 0,.int 0 0,.int 0 0,.int 3 0,.ref 271,.bool true,.int 181 0,.ref 272,.none,.ref 273,.ref 274,.ref 275,.int 525 0,.int 99 0,.str "/claim/cut.py" 526]),
(277,fm (met 33 3) "put" "Rack.put" "switchkinds.racks" 454 276),
(283,co #[.str "switch_of" 528,.str "Rack.switch_of" 529,.str "/claim/cut.py" 530,.int 106 0,.int 2 0,.int 0 0,.int 0 0,.int 3 0,.ref 278,.bool true,.int 181 0,.ref 279,.none,.ref 280,.ref 281,.ref 282,.int 533 0,.int 106 0,.str "/claim/cut.py" 534]),
(284,fm (met 33 4) "switch_of" "Rack.switch_of" "switchkinds.racks" 454 283),
(290,co #[.str "take" 536,.str "Rack.take" 537,.str "/claim/cut.py" 538,.int 112 0,.int 2 0,.int 0 0,.int 0 0,.int 3 0,.ref 285,.bool true,.int 181 0,.ref 286,.none,.ref 287,.ref 288,.ref 289,.int 542 0,.int 112 0,.str "/claim/cut.py" 543]),
(291,fm (met 33 5) "take" "Rack.take" "switchkinds.racks" 454 290),
(297,co #[.str "join" 545,.str "Rack.join" 546,.str "/claim/cut.py" 547,.int 117 0,.int 5 0,.int 0 0,.int 0 0,.int 3 0,.ref 292,.bool true,.int 181 0,.ref 293,.none,.ref 294,.ref 295,.ref 296,.int 554 0,.int 117 0,.str "/claim/cut.py" 555]),
(298,fm (met 33 6) "join" "Rack.join" "switchkinds.racks" 454 297),
(304,co #[.str "turn" 557,.str "Rack.turn" 558,.str "/claim/cut.py" 559,.int 123 0,.int 2 0,.int 0 0,.int 0 0,.int 3 0,.ref 299,.bool true,.int 181 0,.ref 300,.none,.ref 301,.ref 302,.ref 303,.int 563 0,.int 123 0,.str "/claim/cut.py" 564]),
(305,fm (met 33 7) "turn" "Rack.turn" "switchkinds.racks" 454 304),
(311,co #[.str "labels" 566,.str "Rack.labels" 567,.str "/claim/cut.py" 568,.int 128 0,.int 1 0,.int 0 0,.int 0 0,.int 3 0,.ref 306,.bool true,.int 181 0,.ref 307,.none,.ref 308,.ref 309,.ref 310,.int 570 0,.int 128 0,.str "/claim/cut.py" 571]),
(312,fm (met 33 8) "labels" "Rack.labels" "switchkinds.racks" 454 311),
(318,co #[.str "like" 573,.str "Rack.like" 574,.str "/claim/cut.py" 575,.int 131 0,.int 2 0,.int 0 0,.int 0 0,.int 3 0,.ref 313,.bool true,.int 181 0,.ref 314,.none,.ref 315,.ref 316,.ref 317,.int 578 0,.int 131 0,.str "/claim/cut.py" 579]),
(319,fm (met 33 9) "like" "Rack.like" "switchkinds.racks" 454 318),
(325,co #[.str "back" 581,.str "Rack.back" 582,.str "/claim/cut.py" 583,.int 134 0,.int 1 0,.int 0 0,.int 0 0,.int 3 0,.ref 320,.bool true,.int 181 0,.ref 321,.none,.ref 322,.ref 323,.ref 324,.int 586 0,.int 134 0,.str "/claim/cut.py" 587]),
(326,fm (met 33 10) "back" "Rack.back" "switchkinds.racks" 454 325),
(332,co #[.str "forth" 589,.str "Rack.forth" 590,.str "/claim/cut.py" 591,.int 142 0,.int 1 0,.int 0 0,.int 0 0,.int 3 0,.ref 327,.bool true,.int 181 0,.ref 328,.none,.ref 329,.ref 330,.ref 331,.int 594 0,.int 142 0,.str "/claim/cut.py" 595]),
(333,fm (met 33 11) "forth" "Rack.forth" "switchkinds.racks" 454 332),
(339,co #[.str "counts" 597,.str "Rack.counts" 598,.str "/claim/cut.py" 599,.int 150 0,.int 1 0,.int 0 0,.int 0 0,.int 3 0,.ref 334,.bool true,.int 181 0,.ref 335,.none,.ref 336,.ref 337,.ref 338,.int 601 0,.int 150 0,.str "/claim/cut.py" 602]),
(340,fm (met 33 12) "counts" "Rack.counts" "switchkinds.racks" 454 339),
(346,co #[.str "twin" 604,.str "Rack.twin" 605,.str "/claim/cut.py" 606,.int 153 0,.int 1 0,.int 0 0,.int 0 0,.int 3 0,.ref 341,.bool true,.int 181 0,.ref 342,.none,.ref 343,.ref 344,.ref 345,.int 608 0,.int 153 0,.str "/claim/cut.py" 609]),
(347,fm (met 33 13) "twin" "Rack.twin" "switchkinds.racks" 454 346),
(349,{cls:=.type "dict",data:=.dict #[en P "__module__" 487 (.str "switchkinds.racks" 454),en P "__firstlineno__" 491 (.int 81 490),en P "__init__" 498 (.ref 256),en P "set_to" 507 (.ref 263),en P "do" 517 (.ref 270),en P "put" 527 (.ref 277),en P "switch_of" 535 (.ref 284),en P "take" 544 (.ref 291),en P "join" 556 (.ref 298),en P "turn" 565 (.ref 305),en P "labels" 572 (.ref 312),en P "like" 580 (.ref 319),en P "back" 588 (.ref 326),en P "forth" 596 (.ref 333),en P "counts" 603 (.ref 340),en P "twin" 610 (.ref 347),en P "__static_attributes__" 614 (.ref 348),en P "__dict__" 616 (.ref 351),en P "__weakref__" 618 (.ref 352),en P "__doc__" 619 .none] 4}),
(350,{cls:=.type "type",data:=.cls {name:="Rack",bases:=[.type "object"],mro:=[.ref 350,.type "object"],ns:=349,qualname:="Rack" },slots:= #[none,none,some (.str "Rack" 480),some (.str "Rack" 488),some (.builtin "object.__new__"),some (.bool true)]}),
(351,{cls:=.type "getset_descriptor",data:=.fields #[.str "__dict__" 615,.ref 350,.builtin "function.__dict__",.builtin "function.__dict__#set"]}),
(352,{cls:=.type "getset_descriptor",data:=.fields #[.str "__weakref__" 617,.ref 350,.builtin "ExceptionGroup.__weakref__",.none]}),
(360,cB "_law_cell" 624 156 2 355 629),
(361,fo (top 35) "_law_cell" "law_switchkinds_k72_whole_racks_back" 622 360),
(367,cB "_law_pick" 632 162 3 362 639),
(368,fo (top 36) "_law_pick" "law_switchkinds_k72_whole_racks_back" 622 367),
(372,cA "_law_switch" 642 165 3 369 645),
(373,fo (top 37) "_law_switch" "law_switchkinds_k72_whole_racks_back" 622 372),
(377,cA "_law_setting" 648 181 2 374 651),
(378,fo (top 38) "_law_setting" "law_switchkinds_k72_whole_racks_back" 622 377),
(382,cA "_law_odd" 654 183 2 379 657),
(383,fo (top 39) "_law_odd" "law_switchkinds_k72_whole_racks_back" 622 382),
(389,cB "_law_class" 660 185 1 384 666),
(390,fo (top 40) "_law_class" "law_switchkinds_k72_whole_racks_back" 622 389),
(396,cB "_law_told" 669 193 1 391 674),
(397,fo (top 41) "_law_told" "law_switchkinds_k72_whole_racks_back" 622 396),
(403,cB "_law_deed" 677 198 3 398 688),
(404,fo (top 42) "_law_deed" "law_switchkinds_k72_whole_racks_back" 622 403),
(408,cA "_law_behind" 691 210 2 405 694),
(409,fo (top 43) "_law_behind" "law_switchkinds_k72_whole_racks_back" 622 408),
(415,cB "_law_did" 697 231 2 410 704),
(416,fo (top 44) "_law_did" "law_switchkinds_k72_whole_racks_back" 622 415),
(420,cA "_law_all_of" 707 237 1 417 710),
(421,fo (top 45) "_law_all_of" "law_switchkinds_k72_whole_racks_back" 622 420),
(427,cB "law" 713 239 1 422 726),
(428,fo (top 46) "law" "law_switchkinds_k72_whole_racks_back" 622 427)]
noncomputable def kas:List Addr:=[3,20,21,30,31,32,43,44,55,56,67,68,79,80,91,92,103,104,115,116,127,128,139,140,148,149,155,156,160,161,167,168,174,175,181,182,188,189,195,196,202,203,207,208,212,213,217,218,222,223,227,228,234,235,241,242,255,256,262,263,269,270,276,277,283,284,290,291,297,298,304,305,311,312,318,319,325,326,332,333,339,340,346,347,349,350,351,352,360,361,367,368,372,373,377,378,382,383,389,390,396,397,403,404,408,409,415,416,420,421,427,428]
def kq:Program:={PySem.Challenge.pw_switchkinds_k72_whole_racks_back with main:={PySem.Challenge.pw_switchkinds_k72_whole_racks_back.main with body:=[top 0,top 2,top 3,top 4,top 5,top 6,top 7,top 8,top 9,top 10,top 11,top 13,top 14,top 15,top 16,top 17,top 18,top 19,top 21,top 22,top 23,top 24,top 25,top 26,top 27,top 29,top 30,top 31,top 32,top 33,top 35,top 36,top 37,top 38,top 39,top 40,top 41,top 42,top 43,top 44,top 45,top 46]} }
theorem sd:PySem.Challenge.rw_switchkinds_k72_whole_racks_back.wellSaid=true:=by kernel_rfl
theorem lk(w:World)(os:OsState):SK.q1 PySem.Challenge.rw_switchkinds_k72_whole_racks_back.row.prog kq [] 7432 (PySem.W.RowW.records (PySem.W.OpenRow.toRowW PySem.Challenge.rw_switchkinds_k72_whole_racks_back.row)) kas w os=some (true,PySem.W.openGood kq [],(kK w.params).map λp=>some p.2):=by
 have _:=SK.tg;rw[PySem.W.Fast.te11324695928718235439]
 kernel_rfl
theorem left:PySem.W.LeftO PySem.Challenge.rw_switchkinds_k72_whole_racks_back.row.prog kq [] (λs=>PySem.W.xlAt kq [] s&&PySem.W.recOk (PySem.W.RowW.records (PySem.W.OpenRow.toRowW PySem.Challenge.rw_switchkinds_k72_whole_racks_back.row)) s) (PySem.W.Hook.obs (PySem.W.kHook kK kas (λ_=>by kernel_rfl))) (PySem.W.Hook.val (PySem.W.kHook kK kas (λ_=>by kernel_rfl))) 7432:=SK.left_tree (by kernel_rfl) (by kernel_rfl) (λ_=>by kernel_rfl) lk
end SK.k72
namespace L2
open PySem PySem.Spec PyProof.Rows
noncomputable abbrev Key:=Sum Int Str
def rM:Key->Value->Bool
 |.inl k,v=>Value.isInt k v
 |.inr x,v=>Value.isStrOf x v
def Mw(w:World):Key->Int
 |.inl k=>hashInt k
 |.inr x=>hashStr w x
theorem bO: ∀{k:Key} {v:Value},rM k v=true->(∃i t,k=Sum.inl i/\v=Value.int i t)\/(∃x t,k=Sum.inr x/\v=Value.str x t)
 |.inl i,v,h=>by
  obtain⟨t,e⟩:=Value.isInt_shape (k:=i) (v:=v) h;exact .inl ⟨i,t,rfl,e⟩
 |.inr x,v,h=>by
  obtain⟨t,e⟩:=Value.isStrOf_shape (x:=x) (v:=v) h;exact .inr ⟨x,t,rfl,e⟩
theorem wO(i:Int)(t:Tok):rM (.inl i) (.int i t)=true:=by simp[rM,Value.isInt]
theorem wP(x:Str)(t:Tok):rM (.inr x) (.str x t)=true:=by simp[rM,Value.isStrOf]
theorem G8(a b:Int):decide ((Sum.inl a:Key)=Sum.inl b)=(a==b):=by
 by_cases e:a=b
 ·subst e;simp
 ·have h: ¬(Sum.inl a:Key)=Sum.inl b:=λq=>e (Sum.inl.inj q)
  rw[decide_eq_false h];exact(beq_eq_false_iff_ne.mpr e).symm
theorem Ha(a b:Str):decide ((Sum.inr a:Key)=Sum.inr b)=decide (a=b):=by
 by_cases e:a=b
 ·subst e;simp
 ·have h: ¬(Sum.inr a:Key)=Sum.inr b:=λq=>e (Sum.inr.inj q)
  rw[decide_eq_false h,decide_eq_false e]
theorem Hb(a:Int)(b:Str):decide ((Sum.inl a:Key)=Sum.inr b)=false:=decide_eq_false (λq=>nomatch q)
theorem Hc(a:Str)(b:Int):decide ((Sum.inr a:Key)=Sum.inl b)=false:=decide_eq_false (λq=>nomatch q)
def bE(prog:Program)(w:World):PySem.KeyKind prog w Key where
 is:=rM
 hash:=Mw w
 inj:=λv a b ha hb=>by
  rcases bO ha with ⟨i,t,rfl,rfl⟩|⟨x,t,rfl,rfl⟩
  ·rcases bO hb with ⟨j,u,rfl,e⟩|⟨y,u,rfl,e⟩
   ·injection e with e1 _;rw[e1]
   ·exact nomatch e
  ·rcases bO hb with ⟨j,u,rfl,e⟩|⟨y,u,rfl,e⟩
   ·exact nomatch e
   ·injection e with e1 _;rw[e1]
 byValue:=λk v h=>by
  rcases bO h with ⟨i,t,rfl,rfl⟩|⟨x,t,rfl,rfl⟩<;>rfl
 pyHash:=λhv h=>by
  rcases bO hv with ⟨i,t,rfl,rfl⟩|⟨x,t,rfl,rfl⟩
  ·exact wpAny_pyHash_int h
  ·exact wpAny_pyHash_str h
 eqBool:=λhu hv h=>by
  rcases bO hu with ⟨i,t,rfl,rfl⟩|⟨x,t,rfl,rfl⟩
  ·rcases bO hv with ⟨j,u,rfl,rfl⟩|⟨y,u,rfl,rfl⟩
   ·rw[G8]at h;exact wpAny_eqBool_int h
   ·rw[Hb]at h;exact SeqAt.EqAt.int_str i t y u _ _ _ _ h
  ·rcases bO hv with ⟨j,u,rfl,rfl⟩|⟨y,u,rfl,rfl⟩
   ·rw[Hc]at h;exact SeqAt.EqAt.str_int x t j u _ _ _ _ h
   ·rw[Ha]at h;exact wpAny_eqBool_str h
 «strs»:=λk x t v h=>by
  rcases bO h with ⟨i,u,rfl,e⟩|⟨y,u,rfl,e⟩
  ·exact nomatch e
  ·injection e with e1 _
   subst e1
   cases v<;>rfl
theorem rN(prog:Program)(w:World)(i:Int)(t:Tok):(bE prog w).is (.inl i) (.int i t)=true:=wO i t
theorem kF(prog:Program)(w:World)(x:Str)(t:Tok):(bE prog w).is (.inr x) (.str x t)=true:=wP x t
inductive V where
 |non|bl (b:Bool)|int (i:Int)|str (x:Str)|byt (b:Array UInt8)|flt (b:UInt64)|ref (a:Addr)|ty (n:String)
 deriving DecidableEq
def bG:V->Value->Prop
 |.non,u=>u=Value.none
 |.bl b,u=>u=Value.bool b
 |.int i,u=>∃t,u=Value.int i t
 |.str x,u=>∃t,u=Value.str x t
 |.byt b,u=>∃t,u=Value.bytes b t
 |.flt b,u=>∃t,u=Value.float b t
 |.ref a,u=>u=Value.ref a
 |.ty n,u=>u=Value.type n
abbrev bS:List V->List Value->Prop:=Paired bG
theorem bS.length(r:bS xs us):xs.length=us.length:=Paired.length r
theorem bS.get: ∀{xs:List V} {us:List Value} {i:Nat} {x:V},bS xs us->xs[i]? =some x->∃u,us[i]? =some u/\bG x u
 |_,_,_,_,.nil,e=>by simp at e
 |_,_,0,_,.cons r _,e=>by simp at e;subst e;exact⟨_,rfl,r⟩
 |_,_,i+1,x,.cons _ t,e=>by
  obtain⟨u,a,b⟩:=bS.get (i:=i) (x:=x) t (by simpa using e)
  exact⟨u,by simpa using a,b⟩
theorem bS.set{x:V}{u:Value}(r:bG x u): ∀{xs:List V} {us:List Value} (i:Nat),bS xs us->bS (xs.set i x) (us.set i u)
 |_,_,_,.nil=>.nil
 |_,_,0,.cons _ t=>.cons r t
 |_,_,i+1,.cons q t=>.cons q (bS.set r i t)
theorem bS.append: ∀{xs ys:List V} {us ws:List Value},bS xs us->bS ys ws->bS (xs++ys) (us++ws)
 |_,_,_,_,.nil,s=>s
 |_,_,_,_,.cons r t,s=>.cons r (bS.append t s)
theorem bS.take: ∀{xs:List V} {us:List Value} (n:Nat),bS xs us->bS (xs.take n) (us.take n)
 |_,_,0,_=>.nil
 |_,_,_+1,.nil=>.nil
 |_,_,n+1,.cons r t=>.cons r (bS.take n t)
theorem bS.drop: ∀{xs:List V} {us:List Value} (n:Nat),bS xs us->bS (xs.drop n) (us.drop n)
 |_,_,0,r=>r
 |_,_,_+1,.nil=>.nil
 |_,_,n+1,.cons _ t=>bS.drop n t
noncomputable def lW:Option V->Option Value->Prop
 |some v,some u=>bG v u
 |none,none=>True
 |_,_=>False
def KV{κ:Type}:List (κ×V)->List (κ×Value)->Prop:=Paired λ(p:κ×V) (q:κ×Value)=>p.1=q.1/\bG p.2 q.2
def kV:Key->V
 |.inl i=>.int i
 |.inr x=>.str x
inductive HO where
 /-- a list -/
 |lst (xs:List V)
 /-- a tuple (never changes) -/
 |tup (xs:List V)
 /-- a dict whose keys are ints and texts;one whose keys are tuples of ints and texts (the empty one is both) -/
 |dK (kvs:List (Key×V))|dT (kvs:List (List Key×V))
 /-- a set of ints:its members,its size -/
 |set (S:Int->Bool) (n:Nat)
 /-- an instance of the class at C,its dict at dx,its attributes -/
 |ins (C dx:Addr) (fs:List (Str×V))
 /-- the dict of the instance at x -/
 |own (x:Addr)
 /-- the dict of an exception -/
 |xd (fs:List (Str×V))
 /-- a bound method,f of x -/
 |met (f x:Addr)
 /-- a range object lo,lo+1,.. below hi -/
 |rng (lo hi:Int)
 /-- a thing that is known to the object (the script;a dict while a loop walks it):read,never written while it is so -/
 |frz (o:Obj) (u:HO)
 /-- a code object's table -/
 |tbl (ps:Array Value)
 /-- any other thing,by what is true of its one object (a def of one's own:SetO a S n:=HO.ext λh=>..) -/
 |ext (φ:Heap->Prop)
abbrev Hp:=Addr->Option HO
def upd(H:Hp)(a:Addr)(o:HO):Hp:=λb=>if b=a then some o else H b
theorem aH:upd H a o a=some o:=by unfold upd;rw[if_pos rfl]
theorem aC(h:b≠a):upd H a o b=H b:=by unfold upd;rw[if_neg h]
theorem wQ:upd (upd H a o) a u=upd H a u:=by
 funext b;unfold upd;split<;>rfl
theorem KH{H:Hp}(h:H a=some o)(h':H b=some u)(d:o≠u):a≠b:=by
 intro e;subst e;rw[h]at h';exact d (Option.some.inj h')
theorem aN{H:Hp}(h:H a=some o)(h':H b=none):a≠b:=by
 intro e;subst e;rw[h]at h';cases h'
def Hd(h:Heap)(a:Addr):Prop:= ∃o,h.get? a=some o/\o.dict=none
section
variable (P:Program) (w:World)
def ObjOk(H:Hp)(h:Heap)(a:Addr):HO->Prop
 |.lst xs=>xs.length<=sizeLine/\∃(its:List Value) (n:Nat),bS xs its/\h.get? a=some {cls:=.type "list",data:=.seq its.toArray n}
 |.tup xs=>xs.length<=sizeLine/\∃its:List Value,bS xs its/\IsTup h a its.toArray/\Hd h a
 |.dK kvs=>kvs.length<=sizeLine/\(a==sysModules)=false/\∃vs,KV kvs vs/\h.DictOf (bE P w) a vs
 |.dT kvs=>kvs.length<=sizeLine/\(a==sysModules)=false/\∃xs:List (List Key×Addr×Value),
   Paired (λ(p:List Key×V) (q:List Key×Addr×Value)=>p.1=q.1/\H q.2.1=some (.tup (p.1.map kV))/\bG p.2 q.2.2) kvs xs/\
   ∃o es ep,h.get? a=some o/\o.ExactDict/\o.data= .dict es ep/\es.toList=xs.map (entryOfKey (tupleKind (bE P w)))/\(xs.map (·.1)).Nodup
 |.set S n=>h.SetOf (intKind P w) a S n
 |.ins C dx fs=>H dx=some (.own a)/\fs.length<=1000/\dx≠a/\h.get? a=some (PySem.W.instObj C dx)/\
   ∃mA,h.Ns1 dx mA/\(∀f,lW (fs.lookup f) (mA f))/\PySem.Within mA (fs.map (·.1))
 |.own _=>∃o,h.get? a=some o
 |.xd fs=>∃mA,h.Ns1 a mA/\∀f,lW (fs.lookup f) (mA f)
 |.rng lo hi=>∃t u v,h.get? a=some {cls:=.type "range",data:=.fields #[.int lo t,.int hi u,.int 1 v]}
 |.frz o u=>h.get? a=some o/\ObjOk H h a u
 |.tbl ps=>h.get? a=some {cls:=.none,data:=.fields ps}
 |.met f x=>h.get? a=some (PySem.W.methodObj (.ref f) (.ref x))
 |.ext φ=>φ h/\(∃o,h.get? a=some o)/\∀h1 h2:Heap,φ h1->(∀o,h1.get? a=some o->h2.get? a=some o)->φ h2
def HOk(H:Hp)(h:Heap):Prop:= ∀a o,H a=some o->ObjOk P w H h a o
end
section
variable{a:Addr}
theorem ObjOk.lt(x:ObjOk P w H h a o):a<h.objs.size:=by
 cases o with
 |lst c=>obtain⟨_,_,_,_,e⟩:=x;exact ag e
 |tup c=>obtain⟨_,_,_,p,_⟩:=x;exact p.lt
 |dK b=>obtain⟨_,_,_,_,o,_,_,e,_⟩:=x;exact ag e
 |dT b=>obtain⟨_,_,_,_,o,_,_,e,_⟩:=x;exact ag e
 |set S n=>obtain⟨o,_,_,_,e,_⟩:=x;exact ag e
 |ins C g fs=>obtain⟨_,_,_,e,_⟩:=x;exact ag e
 |own y=>obtain⟨_,e⟩:=x;exact ag e
 |xd fs=>obtain⟨_,⟨_,_,_,e,_⟩,_⟩:=x;exact ag e
 |rng j i=>obtain⟨_,_,_,e⟩:=x;exact ag e
 |frz d u=>obtain⟨e,_⟩:=x;exact ag e
 |tbl l=>exact ag (show h.get? a=some _ from x)
 |met f y=>exact ag (show h.get? a=some _ from x)
 |ext m=>obtain⟨_,⟨_,e⟩,_⟩:=x;exact ag e
theorem Paired.mapP{α β:Type}{F G:α->β->Prop}: ∀{l₁:List α} {l₂:List β},Paired F l₁ l₂->(∀a b,F a b->G a b)->Paired G l₁ l₂
 |_,_,.nil,_=>.nil
 |_,_,.cons r t,f=>.cons (f _ _ r) (Paired.mapP t f)
theorem ObjOk.stay(x:ObjOk P w H h a o)(k: ∀b u,(b=a\/H b=some (.own a))->h.get? b=some u->h'.get? b=some u)(ho: ∀b,H b=some (.own a)->H' b=some (.own a))(ht: ∀b xs,H b=some (.tup xs)->H' b=some (.tup xs)):ObjOk P w H' h' a o:=by
 induction o with
 |lst xs=>obtain⟨z,l,n,r,e⟩:=x;exact⟨z,l,n,r,k _ _ (.inl rfl) e⟩
 |tup xs=>obtain⟨z,l,r,⟨g,e,c⟩,m,L,d⟩:=x;exact⟨z,l,r,⟨g,k _ _ (.inl rfl) e,c⟩,m,k _ _ (.inl rfl) L,d⟩
 |dK A=>obtain⟨z,y,K,r,g,i,j,e,c⟩:=x;exact⟨z,y,K,r,g,i,j,k _ _ (.inl rfl) e,c⟩
 |dT A=>
  obtain⟨z,y,xs,r,g,i,j,e,c⟩:=x;exact⟨z,y,xs,Paired.mapP r λp q z=>⟨z.1,ht _ _ z.2.1,z.2.2⟩,g,i,j,k _ _ (.inl rfl) e,c⟩
 |set S n=>obtain⟨g,i,j,t,e,c⟩:=x;exact⟨g,i,j,t,k _ _ (.inl rfl) e,c⟩
 |ins C M fs=>
  obtain⟨d,z,J,e,s,⟨m,i,j,G,c⟩,r⟩:=x;exact⟨ho _ d,z,J,k _ _ (.inl rfl) e,s,⟨m,i,j,k _ _ (.inr d) G,c⟩,r⟩
 |own y=>obtain⟨g,e⟩:=x;exact⟨g,k _ _ (.inl rfl) e⟩
 |xd fs=>obtain⟨s,⟨m,i,j,e,c⟩,r⟩:=x;exact⟨s,⟨m,i,j,k _ _ (.inl rfl) e,c⟩,r⟩
 |rng O N=>obtain⟨t,u,v,e⟩:=x;exact⟨t,u,v,k _ _ (.inl rfl) e⟩
 |frz g u I=>obtain⟨e,q⟩:=x;exact⟨k _ _ (.inl rfl) e,I q⟩
 |tbl E=>
  have e:h.get? a=some {cls:=.none,data:=.fields E}:=x
  show h'.get? a=some {cls:=.none,data:=.fields E};exact k a _ (.inl rfl) e
 |met f y=>
  have e:h.get? a=some (PySem.W.methodObj (.ref f) (.ref y)):=x
  show h'.get? a=some (PySem.W.methodObj (.ref f) (.ref y));exact k a _ (.inl rfl) e
 |ext Q=>obtain⟨p,⟨o,e⟩,B⟩:=x;exact⟨B _ _ p λo q=>k _ _ (.inl rfl) q,⟨o,k _ _ (.inl rfl) e⟩,B⟩
theorem HOk.lt(x:HOk P w H h)(e:H a=some o):a<h.objs.size:=(x a o e).lt
theorem HOk.fresh(x:HOk P w H h)(e:h.objs.size<=a):H a=none:=by
 cases q:H a with
 |none=>rfl
 |some u=>exact absurd (bf (x.lt q) e) (Nat.lt_irrefl _)
theorem HOk.kept(x:HOk P w H h)(k: ∀b u,h.get? b=some u->h'.get? b=some u):HOk P w H h':=λa o e=>
 (x a o e).stay (λb u _ q=>k b u q) (λ_ q=>q) λ_ _ q=>q
theorem HOk.laid(x:HOk P w H h)(k: ∀b u,h.get? b=some u->h'.get? b=some u)(hp:h.objs.size<=a)(new:ObjOk P w (upd H a o) h' a o):HOk P w (upd H a o) h':=λb u e=>by
 have d:=x.fresh hp
 by_cases f:b=a
 ·subst f;rw[aH]at e;cases e;exact new
 ·rw[aC f]at e;exact(x b u e).stay (λc v _ q=>k c v q) (λc q=>by rw[aC (aN q d)];exact q) λc g q=>by rw[aC (aN q d)];exact q
end
def Rd(H:Hp)(a:Addr)(u:HO):Prop:=H a=some u\/∃o,H a=some (.frz o u)
theorem Rd.ok(r:Rd H a u)(x:HOk P w H h):ObjOk P w H h a u:=by
 rcases r with r|⟨o,r⟩
 ·exact x a u r
 ·obtain⟨_,q⟩:=x a _ r;exact q
def Mut:Option HO->Prop
 |some (.lst _)=>True
 |some (.dK _)=>True
 |some (.dT _)=>True
 |some (.set _ _)=>True
 |some (.ins _ _ _)=>True
 |some (.ext _)=>True
 |_=>False
theorem HOk.write(ok:HOk P w H h)(mu:Mut (H x))(he:e=x\/H e=some (.own x))(k: ∀b u,b≠e->h.get? b=some u->h'.get? b=some u)(heo: ∃u,h'.get? e=some u)(new:ObjOk P w (upd H x o') h' x o'):HOk P w (upd H x o') h':=λb u q=>by
 have d: ∀c y,H c=some (.own y)->c≠x:=λc y r z=>by subst z;rw[r]at mu;exact mu
 have f: ∀c j,H c=some (.tup j)->c≠x:=λc j r z=>by subst z;rw[r]at mu;exact mu
 by_cases i:b=x
 ·subst i;rw[aH]at q;cases q;exact new
 ·rw[aC i]at q
  by_cases a:b=e
  ·have l:H b=some (.own x):=by
    rcases he with z|z
    ·exact absurd (a.trans z) i
    ·rw[a];exact z
   rw[q]at l;cases l;obtain⟨v,m⟩:=heo;exact⟨v,by rw[a];exact m⟩
  ·refine(ok b u q).stay (λc v g r=>k c v ?_ r) (λc r=>by rw[aC (d c b r)];exact r) λc j r=>by rw[aC (f c j r)];exact r
   rcases g with rfl|g
   ·exact a
   ·rintro rfl;rcases he with z|z
    ·exact d c b g z
    ·rw[g]at z;cases z;exact i rfl
structure Un(fs ex:List Addr)(H H':Hp)(h h':Heap):Prop where
 keep: ∀b o,h.get? b=some o->H b=none->b∉fs->b∉ex->h'.get? b=some o
 slot: ∀b o,h.get? b=some o->H b=none->b∈fs->b∉ex->∃sl,h'.get? b=some {o with slots:=sl}
 free: ∀b o,h.get? b=some o->H b=none->b∉ex->H' b=none
 there: ∀b o,h.get? b=some o->b∉ex->∃o',h'.get? b=some o'
 tups: ∀b xs,H b=some (.tup xs)->H' b=some (.tup xs)
 frzs: ∀b o u,H b=some (.frz o u)->H' b=some (.frz o u)
 tbls: ∀b ps,H b=some (.tbl ps)->∃more,H' b=some (.tbl (ps++more))
section
variable{h:Heap}{a:Addr}
theorem Un.any(u:Un fs ex H H1 h h1)(q:h.get? b=some ob)(n:H b=none)(hx:b∉ex): ∃sl,h1.get? b=some {ob with slots:=sl}:=by
 by_cases a:b∈fs
 ·exact u.slot b ob q n a hx
 ·exact⟨ob.slots,u.keep b ob q n a hx⟩
theorem Un.kept(k: ∀b u,h.get? b=some u->h'.get? b=some u):Un fs ex H H h h':=
 ⟨λb a q _ _ _=>k b a q,λb a q _ _ _=>⟨a.slots,k b a q⟩,λ_ _ _ n _=>n,λb a q _=>⟨a,k b a q⟩,λ_ _ q=>q,λ_ _ _ q=>q,λ_ c q=>⟨#[],by rw[q];simp⟩⟩
theorem Un.refl:Un fs ex H H h h:=Un.kept λ_ _ q=>q
theorem Un.laid(k: ∀b u,h.get? b=some u->h'.get? b=some u)(hp:h.objs.size<=a)(hn:H a=none):Un fs ex H (upd H a o) h h' where
 keep:=λb u q _ _ _=>k b u q
 slot:=λb u q _ _ _=>⟨u.slots,k b u q⟩
 free:=λb u q n _=>by rw[aC (bg (bf (ag q) hp))];exact n
 there:=λb u q _=>⟨u,k b u q⟩
 tups:=λb c q=>by rw[aC (aN q hn)];exact q
 frzs:=λb u c q=>by rw[aC (aN q hn)];exact q
 tbls:=λb d q=>⟨#[],by rw[aC (aN q hn),q];simp⟩
theorem Un.write(mu:Mut (H x))(he:e=x\/H e=some (.own x))(k: ∀b u,b≠e->h.get? b=some u->h'.get? b=some u)(heo: ∃u,h'.get? e=some u):Un fs ex H (upd H x o) h h':=by
 have d: ∀b,H b=none->b≠x:=λb n z=>by subst z;rw[n]at mu;exact mu
 have f: ∀b,H b=none->b≠e:=λb n z=>by
  subst z;rcases he with r|r
  ·exact d b n r
  ·rw[n]at r;cases r
 have c: ∀b u,H b=some u->¬Mut (some u)->b≠x:=λb u q nm z=>by subst z;rw[q]at mu;exact nm mu
 refine⟨λb u q n _ _=>k b u (f b n) q,λb u q n _ _=>⟨u.slots,k b u (f b n) q⟩,λb u q n _=>by rw[aC (d b n)];exact n,λb u q _=>?_,
  λb g q=>by rw[aC (c b _ q λz=>z)];exact q,λb u g q=>by rw[aC (c b _ q λz=>z)];exact q,λb i q=>⟨#[],by rw[aC (c b _ q λz=>z),q];simp⟩⟩
 by_cases a:b=e
 ·subst a;exact heo
 ·exact⟨u,k b u a q⟩
end
def trk(h:Heap)(H:Hp):List Addr:=(List.range h.objs.size).filter λa=>(H a).isSome
def He(h:Heap)(H:Hp):Heap:=PySem.W.hideAll h (trk h H)
theorem wR(h:Heap)(H:Hp):(He h H).objs.size=h.objs.size:=PySem.W.hideAll_size _ _
theorem A0(e:h.get? b=some o)(n:H b=none):(He h H).get? b=some o:=
 PySem.W.hideAll_get _ e λa=>by
  have q:(H b).isSome=true:=(List.mem_filter.mp a).2
  rw[n]at q;simp at q
theorem rO(e:(He h H).get? b=some o):h.get? b=some o/\H b=none:=by
 have a:h.get? b=some o:=PySem.W.of_hideAll (trk h H) e
 refine⟨a,?_⟩
 cases q:H b with
 |none=>rfl
 |some x=>
  have c:b∈trk h H:=List.mem_filter.mpr ⟨zPd (ag a),by simp[q]⟩
  have z:(He h H).get? b=none:=PySem.W.hideAll_none (trk h H) c
  rw[z]at e;cases e
noncomputable def DS(g h:Heap)(L:Addr):ce:=(List.range h.objs.size).filterMap λa=>if a=L\/(g.get? a).isSome=true then none else(h.get? a).map λo=>(a,o)
def dZ(g h:Heap)(L d:Addr):ce:=(DS g h L).filter λp=>decide (p.1≠d)
structure Mod(K:PySem.W.Frag)(mg:Str->Option Value)(base:Heap):Prop where
 kin:K.In base
 glob:base.Ns mainGlobals mg
 blt: ∃mb,base.Ns builtinsNs mb/\∀x:Str,x≠"__name__"->mb x=bootBuiltins x
 nolimit:base.NoLimit
structure Cx where
 prog:Program
 w:World
 K:PySem.W.Frag
 mg:Str->Option Value
 base:Heap
 A:Around
 N:List Str
 s₀:Shared
 H₀:Hp
 env:Env
 outer:List Env
 stack:List Env
 ex:List Addr
 fn:Str->Bool
 calm:Bool
 pn:ce
 xe:Value->Shared->Prop
noncomputable def frs(l:List Env):List Addr:=l.filterMap (·.frame)
abbrev Cx.fs(X:Cx):List Addr:=frs X.outer
def Vis(sc:Scope)(x:Str):Prop:=sc.names.lookup x=some .local\/sc.names.lookup x=some .cell\/sc.names.lookup x=some .free
def Loc(sc:Scope)(x:Str):Prop:=sc.names.lookup x=some .local\/sc.names.lookup x=some .cell
def Mx(env:Env)(h:Heap)(m:Str->Option Value)(x:Str)(u:Value):Prop:=
 (env.kindOf x=some .local/\m x=some u)\/((env.kindOf x=some .cell\/env.kindOf x=some .free)/\∃c,env.cells.lookup x=some c/\h.IsCell c (some u))
structure Cx.Ok(X:Cx):Prop where
 mod:Mod X.K X.mg X.base
 kind:X.env.scope.kind= .function
 glob:X.env.globals=mainGlobals
 blt:X.env.builtins=builtinsNs
 above:X.s₀.heap.objs.size<=X.env.locals
 inj: ∀x y c,X.env.cells.lookup x=some c->X.env.cells.lookup y=some c->x=y
 has: ∀x,(X.env.kindOf x=some .cell\/X.env.kindOf x=some .free)->∃c,X.env.cells.lookup x=some c
 cab: ∀x c,X.fn x=true->X.env.cells.lookup x=some c->X.s₀.heap.objs.size<=c
 hd:X.calm=true->X.A.handled=none
 frames:X.A.frames=some X.stack
 stk:X.stack=X.outer\/(X.stack=X.env::X.outer/\X.env.frame=some X.env.locals)
 exf: ∀b∈X.ex,b≠X.env.locals/\∀x c,X.env.cells.lookup x=some c->c≠b
 bs: ∀b o,X.base.get? b=some o->X.s₀.heap.get? b=some o/\X.H₀ b=none
 bsz:X.base.objs.size<=X.s₀.heap.objs.size
 noex: ∀b o,X.base.get? b=some o->b∉X.ex
 exfs: ∀b∈X.ex,b∉X.fs
 funs:X.s₀.heap.FunFrames X.base X.outer
 frf: ∀b∈X.fs,X.H₀ b=none
structure Inv(X:Cx)(cb:ce)(σ:List (Option V))(H:Hp)(s:Shared):Prop where
 ok:X.Ok
 os:s.os=X.s₀.os
 bare:AllBare s.gens
 base:Un X.fs X.ex X.H₀ H X.s₀.heap s.heap
 loc: ∃m,s.heap.Ns X.env.locals m/\∀(i:Nat) (x:Str) (v:V),X.N[i]? =some x->σ[i]? =some (some v)->Vis X.env.scope x->∃u,bG v u/\Mx X.env s.heap m x u
 cell: ∀x c,X.env.cells.lookup x=some c->∃v,s.heap.IsCell c v
 free:H X.env.locals=none
 freeC: ∀x c,X.env.cells.lookup x=some c->H c=none
 pin: ∀p∈X.pn++cb,s.heap.get? p.1=some p.2/\H p.1=none/\p.1≠X.env.locals/\p.1∉X.fs/\∀v,p.2.data≠ .cell v
 hok:HOk X.prog X.w H s.heap
 len:σ.length=X.N.length
section
variable{X:Cx}{cb:ce}{σ:List (Option V)}{H:Hp}{s:Shared}
theorem Cx.Ok.nofr(ok:X.Ok)(e:X.base.get? b=some o):b∉X.fs:=λa=>by
 have:=(ok.funs.mem a).1
 rw[e]at this;cases this
theorem Inv.bs(I:Inv X cb σ H s): ∀b o,X.base.get? b=some o->s.heap.get? b=some o/\H b=none:=λb o e=>
 ⟨I.base.keep b o (I.ok.bs b o e).1 (I.ok.bs b o e).2 (I.ok.nofr e) (I.ok.noex b o e),I.base.free b o (I.ok.bs b o e).1 (I.ok.bs b o e).2 (I.ok.noex b o e)⟩
theorem Inv.bk(I:Inv X cb σ H s): ∀b o,X.base.get? b=some o->s.heap.get? b=some o:=λb o e=>(I.bs b o e).1
theorem Inv.mod(I:Inv X cb σ H s):Mod X.K X.mg X.base:=I.ok.mod
theorem Inv.kIn(I:Inv X cb σ H s):X.K.In s.heap:=I.ok.mod.kin.keeps I.bk
theorem Inv.lt(I:Inv X cb σ H s):X.env.locals<s.heap.objs.size:=let ⟨_,hn,_⟩:=I.loc;hn.lt
theorem Inv.sz(I:Inv X cb σ H s):X.s₀.heap.objs.size<=s.heap.objs.size:=Nat.le_trans I.ok.above (Nat.le_of_lt I.lt)
theorem Inv.nofs(I:Inv X cb σ H s){a:Addr}(h:s.heap.objs.size<=a):a∉X.fs:=λc=>by
 obtain⟨_,o,b,_⟩:=I.ok.funs.mem c;exact absurd (bf (ag b) (Nat.le_trans I.sz h)) (Nat.lt_irrefl _)
theorem Inv.cne(I:Inv X cb σ H s): ∀x c,X.env.cells.lookup x=some c->c≠X.env.locals:=λx c e z=>by
 obtain⟨v,o,f,d⟩:=I.cell x c e;obtain⟨m,⟨i,g,h,a,b,_⟩,_⟩:=I.loc;rw[z,a]at f;cases f;rw[b]at d;cases d
theorem Inv.funs(I:Inv X cb σ H s):s.heap.FunFrames X.base X.outer:=by
 have all: ∀(l:List Env),(∀b∈frs l,b∈X.fs)->X.s₀.heap.FunFrames X.base l->s.heap.FunFrames X.base l:=by
  intro l
  induction l with
  |nil=>intro _ _;trivial
  |cons n r i=>
   intro f p;obtain⟨hk,⟨L,o,d,j,h,m⟩,g⟩:=p;have c:L∈X.fs:=f L (by unfold frs;rw[List.filterMap_cons,d];exact List.mem_cons_self)
   obtain⟨q,e⟩:=I.base.slot L o h (I.ok.frf L c) c λz=>I.ok.exfs L z c
   exact⟨hk,⟨L,_,d,j,e,m⟩,i (λb a=>f b (by unfold frs;rw[List.filterMap_cons,d];exact List.mem_cons_of_mem _ a)) g⟩
 exact all X.outer (λ_ a=>a) I.ok.funs
theorem Inv.stack(I:Inv X cb σ H s):s.heap.FunFrames X.base X.stack:=by
 rcases I.ok.stk with e|⟨e,hf⟩
 ·rw[e];exact I.funs
 ·rw[e];obtain⟨m,a,_⟩:=I.loc;refine .cons (by rw[I.ok.kind];decide) hf a ?_ I.funs
  exact Heap.get?_none_of_le (Nat.le_trans I.ok.bsz I.ok.above)
theorem Inv.stkSub(I:Inv X cb σ H s): ∀b∈frs X.stack,b∈X.env.locals::X.fs:=λb a=>by
 rcases I.ok.stk with e|⟨e,hf⟩
 ·rw[e]at a;exact List.mem_cons_of_mem _ a
 ·rw[e]at a;unfold frs at a;rw[List.filterMap_cons,hf]at a;exact a
theorem Inv.stkFree(I:Inv X cb σ H s): ∀b∈frs X.stack,H b=none:=λb a=>by
 rcases au.mp (I.stkSub b a)with e|a
 ·rw[e];exact I.free
 ·obtain⟨_,o,c,_⟩:=I.ok.funs.mem a;exact I.base.free b o c (I.ok.frf b a) λz=>I.ok.exfs b z a
theorem Inv.step{ch:List Addr}(I:Inv X cb σ H s)(hch: ∀b∈ch,(b∈X.ex\/X.s₀.heap.objs.size<=b)/\b≠X.env.locals/\(∀x c,X.env.cells.lookup x=some c->c≠b)/\∀p∈X.pn++cb,p.1≠b)(keep: ∀b o,b≠X.env.locals->b∉X.fs->b∉ch->s.heap.get? b=some o->H b=none->h'.get? b=some o)(slot: ∀b o,b≠X.env.locals->b∈X.fs->b∉ch->s.heap.get? b=some o->H b=none->∃sl,h'.get? b=some {o with slots:=sl})(free: ∀b o,b∉ch->s.heap.get? b=some o->H b=none->H' b=none)(there: ∀b o,b∉ch->s.heap.get? b=some o->∃o',h'.get? b=some o')(tups: ∀b xs,H b=some (.tup xs)->H' b=some (.tup xs))(frzs: ∀b o u,H b=some (.frz o u)->H' b=some (.frz o u))(tbls: ∀b ps,H b=some (.tbl ps)->∃more,H' b=some (.tbl (ps++more)))(ns: ∀m,s.heap.Ns X.env.locals m->h'.Ns X.env.locals m)(hok:HOk X.prog X.w H' h')(hg:AllBare g'):
  Inv X cb σ H' {s with heap:=h',gens:=g',drawn:=d',toks:=t'}:=by
 have A: ∀b o,X.s₀.heap.get? b=some o->b≠X.env.locals:=λb o e=>bg (bf (ag e) I.ok.above)
 have j: ∀b o,X.s₀.heap.get? b=some o->b∉X.ex->b∉ch:=λb o e a t=>by
  rcases(hch b t).1 with z|z
  ·exact a z
  ·exact absurd (bf (ag e) z) (Nat.lt_irrefl _)
 have g: ∀x c,X.env.cells.lookup x=some c->∀v,s.heap.IsCell c v->h'.IsCell c v:=λx c e v ⟨o,y,C⟩=>by
  have f:c∉ch:=λz=>(hch c z).2.2.1 x c e rfl
  by_cases K:c∈X.fs
  ·obtain⟨sl,q⟩:=slot c o (I.cne x c e) K f y (I.freeC x c e);exact⟨_,q,C⟩
  ·exact⟨o,keep c o (I.cne x c e) K f y (I.freeC x c e),C⟩
 refine⟨I.ok,I.os,hg,⟨λb o e n t a=>?_,λb o e n t a=>?_,λb o e n a=>?_,λb o e a=>?_,λb xs e=>tups b xs (I.base.tups b xs e),λb o xs e=>frzs b o xs (I.base.frzs b o xs e),λb ps e=>?_⟩,?_,λx c e=>?_,?_,λx c e=>?_,λp J=>?_,hok,I.len⟩
 ·exact keep b o (A b o e) t (j b o e a) (I.base.keep b o e n t a) (I.base.free b o e n a)
 ·obtain⟨sl,h⟩:=I.base.slot b o e n t a;obtain⟨E,B⟩:=slot b _ (A b o e) t (j b o e a) h (I.base.free b o e n a);exact⟨E,B⟩
 ·obtain⟨o',h⟩:=I.base.there b o e a;exact free b o' (j b o e a) h (I.base.free b o e n a)
 ·obtain⟨o',h⟩:=I.base.there b o e a;exact there b o' (j b o e a) h
 ·obtain⟨Q,h⟩:=I.base.tbls b ps e;obtain⟨M,B⟩:=tbls b _ h;exact⟨Q++M,by rw[B,Array.append_assoc]⟩
 ·obtain⟨m,N,O⟩:=I.loc;refine⟨m,ns m N,λi x v h B S=>?_⟩
  obtain⟨u,r,l⟩:=O i x v h B S;refine⟨u,r,?_⟩;rcases l with l|⟨k,c,e,z⟩
  ·exact .inl l
  ·exact .inr ⟨k,c,e,g x c e _ z⟩
 ·obtain⟨v,z⟩:=I.cell x c e;exact⟨v,g x c e v z⟩
 ·obtain⟨m,⟨o,_,_,y,_⟩,_⟩:=I.loc;exact free _ o (λz=>(hch _ z).2.1 rfl) y I.free
 ·obtain⟨v,o,y,C⟩:=I.cell x c e;exact free c o (λz=>(hch c z).2.2.1 x c e rfl) y (I.freeC x c e)
 ·obtain⟨e,n,L,G,d⟩:=I.pin p J;have f:p.1∉ch:=λz=>(hch p.1 z).2.2.2 p J rfl
  exact⟨keep p.1 p.2 L G f e n,free p.1 p.2 f e n,L,G,d⟩
theorem Inv.un(I:Inv X cb σ H s)(u:Un X.fs [] H H' s.heap h')(hok:HOk X.prog X.w H' h'):Inv X cb σ H' {s with heap:=h',toks:=t'}:=by
 obtain⟨m,⟨o,l,p,g,r⟩,_⟩:=id I.loc;obtain⟨t,j⟩:=u.any g I.free (by simp)
 exact I.step (g':=s.gens) (d':=s.drawn) (ch:=[]) (λ_ z=>nomatch z) (λb o _ d _ e n=>u.keep b o e n d (by simp)) (λb o _ d _ e n=>u.slot b o e n d (by simp)) (λb o _ e n=>u.free b o e n (by simp)) (λb o _ e=>u.there b o e (by simp)) u.tups u.frzs u.tbls (λq i=>by
  obtain⟨v,c,f,a,h⟩:=i;rw[g]at a;cases a;exact⟨_,c,f,j,h⟩) hok I.bare
theorem Inv.call(I:Inv X cb σ H s)(u:Un (frs X.stack) ch H H' s.heap h')(hok:HOk X.prog X.w H' h')(hg:AllBare g')(hch: ∀b∈ch,(b∈X.ex\/X.s₀.heap.objs.size<=b)/\b≠X.env.locals/\(∀x c,X.env.cells.lookup x=some c->c≠b)/\∀p∈X.pn++cb,p.1≠b):
  Inv X cb σ H' {s with heap:=h',gens:=g',drawn:=d',toks:=t'}:=by
 obtain⟨m,⟨o,t,v,i,r⟩,_⟩:=id I.loc;obtain⟨A,g⟩:=u.any i I.free λz=>(hch _ z).2.1 rfl
 exact I.step (ch:=ch) hch (λb o g l a e n=>u.keep b o e n (λz=>(au.mp (I.stkSub b z)).elim g l) a) (λb o _ _ a e n=>u.any e n a) (λb o a e n=>u.free b o e n a) (λb o a e=>u.there b o e a) u.tups u.frzs u.tbls (λy q=>by
  obtain⟨B,f,h,d,j⟩:=q;rw[i]at d;cases d;exact⟨_,f,h,g,j⟩) hok hg
theorem Inv.turned(I:Inv X cb σ H s)(k: ∀b o,b≠it->s.heap.get? b=some o->h'.get? b=some o)(hn:H it=none)(hL:it≠X.env.locals)(h1:it∈X.ex\/X.s₀.heap.objs.size<=it)(h2: ∀x c,X.env.cells.lookup x=some c->c≠it)(h3: ∀p∈X.pn++cb,p.1≠it):Inv X cb σ H {s with heap:=h',toks:=t'}:=by
 have d: ∀b u,H b=some u->b≠it:=λb u e z=>by rw[z,hn]at e;cases e
 refine I.step (g':=s.gens) (d':=s.drawn) (ch:=[it]) (λb i=>?_) (λb o _ _ a e _=>k b o (λz=>a (by simp[z])) e) (λb o _ _ a e _=>⟨o.slots,k b o (λz=>a (by simp[z])) e⟩) (λ_ _ _ _ n=>n)
  (λb o a e=>⟨o,k b o (λz=>a (by simp[z])) e⟩) (λ_ _ e=>e) (λ_ _ _ e=>e) (λb l e=>⟨#[],by rw[e];simp⟩) (λm j=>?_) (λb u e=>?_) I.bare
 ·have e:b=it:=by simpa using i
  subst e;exact⟨h1,hL,h2,h3⟩
 ·obtain⟨o,f,g,h,r⟩:=j;exact⟨o,f,g,k _ o (Ne.symm hL) h,r⟩
 ·refine(I.hok b u e).stay (λc v a q=>k c v ?_ q) (λ_ q=>q) λ_ _ q=>q
  rcases a with z|z
  ·rw[z];exact d b u e
  ·exact d c _ z
theorem Inv.tok(I:Inv X cb σ H s)(t:Nat):Inv X cb σ H {s with toks:=t}:=I.un (h':=s.heap) (t':=t) Un.refl I.hok
theorem Inv.kept(I:Inv X cb σ H s)(k: ∀b u,s.heap.get? b=some u->h'.get? b=some u):Inv X cb σ H {s with heap:=h',toks:=t'}:=I.un (Un.kept k) (I.hok.kept k)
theorem Inv.laid{a:Addr}(I:Inv X cb σ H s)(k: ∀b u,s.heap.get? b=some u->h'.get? b=some u)(hp:s.heap.objs.size<=a)(new:ObjOk X.prog X.w (upd H a o) h' a o):
  Inv X cb σ (upd H a o) {s with heap:=h',toks:=t'}:=I.un (Un.laid k hp (I.hok.fresh hp)) (I.hok.laid k hp new)
theorem Inv.write(I:Inv X cb σ H s)(mu:Mut (H x))(he:e=x\/H e=some (.own x))(k: ∀b u,b≠e->s.heap.get? b=some u->h'.get? b=some u)(heo: ∃u,h'.get? e=some u)(new:ObjOk X.prog X.w (upd H x o) h' x o):Inv X cb σ (upd H x o) {s with heap:=h',toks:=t'}:=I.un (Un.write mu he k heo) (I.hok.write mu he k heo new)
theorem Inv.pins_of(I:Inv X cb σ H s)(h: ∀p∈pins',s.heap.get? p.1=some p.2/\H p.1=none/\p.1≠X.env.locals/\p.1∉X.fs/\∀v,p.2.data≠ .cell v):Inv X pins' σ H s:=
 ⟨I.ok,I.os,I.bare,I.base,I.loc,I.cell,I.free,I.freeC,λp a=>(List.mem_append.mp a).elim (λz=>I.pin p (List.mem_append_left _ z)) (h p),I.hok,I.len⟩
theorem nD{N:List Str}(hN:N.Nodup){i j:Nat}(a:N[i]? =some x)(b:N[j]? =some x):i=j:=by
 obtain⟨f,d⟩:=ax.mp a;obtain⟨e,c⟩:=ax.mp b;exact(List.getElem_inj hN).mp (d.trans c.symm)
theorem o7{M:Model}{A:Around}{E:cc}{i:Nat}{x:Str}{v:V}{u:Value}{Q:Unit->Shared->Prop}(I:Inv X cb σ H s)(hN:X.N.Nodup)(hi:X.N[i]? =some x)(hx:Loc X.env.scope x)(r:bG v u)
  (h: ∀s',Inv X cb (σ.set i (some v)) H s'->(∃a,Heap.SameBut a s.heap s'.heap/\(a=X.env.locals\/X.env.cells.lookup x=some a))->Q () s') (hf:X.fn x=true\/X.env.scope.names.lookup x=some .local:=by first|exact .inl rfl|exact .inr rfl|assumption):wpAny M A (storeName X.env x u) Q E s:=by
 obtain⟨m,hn,hl⟩:=id I.loc
 have Y:(X.env.scope.kind== .class||(X.env.scope.kind== .module&&X.env.locals != X.env.globals))=false:=by rw[I.ok.kind];rfl
 have G:i<σ.length:=by rw[I.len];exact(ax.mp hi).1
 have cne:=I.cne
 have l: ∀{a:Addr} {O:Heap},(∃o,s.heap.get? a=some o/\H a=none)->Heap.SameBut a s.heap O->HOk X.prog X.w H O:=λ{a O} ha f b ob e=>by
  obtain⟨_,_,B⟩:=ha;refine(I.hok b ob e).stay (λc Z t q=>(f.2 c ?_).trans q) (λ_ q=>q) λ_ _ q=>q
  rintro rfl;rcases t with rfl|t
  ·rw[B]at e;cases e
  ·rw[B]at t;cases t
 rcases hx with hk|hk
 ·refine wpAny_storeName_local hk hn (λO ad f=>?_) Y
  obtain⟨oL,_,_,ab,_⟩:=id hn;refine h _ ⟨I.ok,I.os,I.bare,⟨λb o e n L hx=>?_,λb o e n L hx=>?_,I.base.free,λb o e hx=>?_,I.base.tups,I.base.frzs,I.base.tbls⟩,⟨_,ad,λj y v' g C e3=>?_⟩,λy c e=>?_,I.free,I.freeC,λp hp=>?_,l ⟨oL,ab,I.free⟩ f,by simpa using I.len⟩ ⟨_,f,.inl rfl⟩
  ·exact(f.2 b (bg (bf (ag e) I.ok.above))).trans (I.base.keep b o e n L hx)
  ·obtain⟨sl,g⟩:=I.base.slot b o e n L hx;exact⟨sl,(f.2 b (bg (bf (ag e) I.ok.above))).trans g⟩
  ·obtain⟨o',g⟩:=I.base.there b o e hx;exact⟨o',(f.2 b (bg (bf (ag e) I.ok.above))).trans g⟩
  ·by_cases K:j=i
   ·subst K;rw[hi]at g;cases g;rw[bh G]at C;cases C;exact⟨u,r,.inl ⟨hk,by simp⟩⟩
   ·rw[ba (Ne.symm K)]at C;obtain⟨u',r',q⟩:=hl j y v' g C e3;refine⟨u',r',?_⟩;rcases q with ⟨k,e⟩|⟨k,c,e,z⟩
    ·refine .inl ⟨k,?_⟩
     have:y≠x:=λe=>K (nD hN g (e▸hi))
     simp[this,e]
    ·exact .inr ⟨k,c,e,z.sameBut f (cne y c e)⟩
  ·obtain⟨Z,z⟩:=I.cell y c e;exact⟨Z,z.sameBut f (cne y c e)⟩
  ·obtain⟨e,n,ne,nf,d⟩:=I.pin p hp;exact⟨(f.2 p.1 ne).trans e,n,ne,nf,d⟩
 ·have J:X.fn x=true:=by
   rcases hf with z|z
   ·exact z
   ·rw[z]at hk;cases hk
  obtain⟨c,t⟩:=I.ok.has x (.inl hk);obtain⟨Z,z⟩:=I.cell x c t;refine wpAny_storeName_cell I.ok.kind hk t z (λO W f=>?_)
  obtain⟨oc,S,T⟩:=id z;refine h {s with heap:=O} ⟨I.ok,I.os,I.bare,⟨λb o e n L hx=>?_,λb o e n L hx=>?_,I.base.free,λb o e hx=>?_,I.base.tups,I.base.frzs,I.base.tbls⟩,⟨m,hn.sameBut f (Ne.symm (cne x c t)),λj y v' g C e3=>?_⟩,λy c' e=>?_,I.free,I.freeC,λp hp=>?_,l ⟨oc,S,I.freeC x c t⟩ f,by simpa using I.len⟩ ⟨c,f,.inr t⟩
  ·exact(f.2 b (bg (bf (ag e) (I.ok.cab x c J t)))).trans (I.base.keep b o e n L hx)
  ·obtain⟨sl,g⟩:=I.base.slot b o e n L hx;exact⟨sl,(f.2 b (bg (bf (ag e) (I.ok.cab x c J t)))).trans g⟩
  ·obtain⟨o',g⟩:=I.base.there b o e hx;exact⟨o',(f.2 b (bg (bf (ag e) (I.ok.cab x c J t)))).trans g⟩
  ·by_cases K:j=i
   ·subst K;rw[hi]at g;cases g;rw[bh G]at C;cases C;exact⟨u,r,.inr ⟨.inl hk,c,t,W⟩⟩
   ·rw[ba (Ne.symm K)]at C;obtain⟨u',r',q⟩:=hl j y v' g C e3;refine⟨u',r',?_⟩;rcases q with q|⟨k,c',e,z'⟩
    ·exact .inl q
    ·refine .inr ⟨k,c',e,z'.sameBut f ?_⟩;rintro rfl;exact K (nD hN g (I.ok.inj _ _ _ e t▸hi))
  ·by_cases U:c'=c
   ·subst U;exact⟨_,W⟩
   ·obtain⟨w2,z2⟩:=I.cell y c' e;exact⟨w2,z2.sameBut f U⟩
  ·obtain⟨e,n,ne,nf,d⟩:=I.pin p hp;refine⟨(f.2 p.1 ?_).trans e,n,ne,nf,d⟩;intro q;rw[q,S]at e
   have q':oc=p.2:=Option.some.inj e
   exact d Z (by rw[<-q'];exact T)
theorem gE{M:Model}{A:Around}{E:cc}{i:Nat}{x:Str}{v:V}{u:Value}{Q:Unit->Shared->Prop}(I:Inv X cb σ H s)(hN:X.N.Nodup)(hi:X.N[i]? =some x)(hx:Loc X.env.scope x)(r:bG v u)
  (h: ∀s',Inv X cb (σ.set i (some v)) H s'->Q () s') (hf:X.fn x=true\/X.env.scope.names.lookup x=some .local:=by first|exact .inl rfl|exact .inr rfl|assumption):wpAny M A (storeName X.env x u) Q E s:=
 o7 I hN hi hx r (λs' a _=>h s' a) hf
theorem Inv.call'(I:Inv X cb σ H s)(ho:s'.os=s.os)(u:Un (frs X.stack) ch H H' s.heap s'.heap)(hok:HOk X.prog X.w H' s'.heap)(hg:AllBare s'.gens)(hch: ∀b∈ch,(b∈X.ex\/X.s₀.heap.objs.size<=b)/\b≠X.env.locals/\(∀x c,X.env.cells.lookup x=some c->c≠b)/\∀p∈X.pn++cb,p.1≠b):Inv X cb σ H' s':=by
 obtain⟨d,g',d',t',a⟩:=s'
 have e:a=s.os:=ho
 subst e;exact I.call (g':=g') (t':=t') (d':=d') u hok hg hch
end
abbrev XK:=Value->Option Addr->Hp->Prop
noncomputable abbrev St:=List (Option V)
abbrev VK:=V->Hp->Prop
abbrev TE:=St->Hp->VK->Prop
abbrev TT:=St->Hp->(Bool->Hp->Prop)->Prop
abbrev TA:=St->Hp->(List V->Hp->Prop)->Prop
structure Ends where
 nx:St->Hp->Prop
 rt:VK
 bk:St->Hp->Prop:=λ_ _=>False
 ct:St->Hp->Prop:=λ_ _=>False
abbrev TS:=Ends->St->Hp->Prop
def EP(X:Cx)(cb:ce)(σ:St)(Q:VK)(u:Value)(s':Shared):Prop:= ∃v H',Inv X cb σ H' s'/\bG v u/\Q v H'
def TP(X:Cx)(cb:ce)(σ:St)(Q:Bool->Hp->Prop)(b:Bool)(s':Shared):Prop:= ∃H',Inv X cb σ H' s'/\Q b H'
def AP(X:Cx)(cb:ce)(σ:St)(Q:List V->Hp->Prop)(us:List Value)(s':Shared):Prop:= ∃vs H',Inv X cb σ H' s'/\bS vs us/\Q vs H'
def SP(X:Cx)(cb:ce)(D:Ends)(f:Flow)(s':Shared):Prop:=
 match f with
 |.next=>∃σ' H',Inv X cb σ' H' s'/\D.nx σ' H'
 |.brk=>∃σ' H',Inv X cb σ' H' s'/\D.bk σ' H'
 |.cont=>∃σ' H',Inv X cb σ' H' s'/\D.ct σ' H'
 |.ret u=>∃v σ' H',Inv X cb σ' H' s'/\bG v u/\D.rt v H'
def PE(X:Cx)(e:Expr)(t:TE):Prop:=
 ∀(cb:ce) (s:Shared) (σ:St) (H:Hp) (Q:VK),Inv X cb σ H s->t σ H Q->wpAny (model X.prog X.w) X.A (eval e X.env) (EP X cb σ Q) X.xe s
def PT(X:Cx)(e:Expr)(t:TT):Prop:=
 ∀(cb:ce) (s:Shared) (σ:St) (H:Hp) (Q:Bool->Hp->Prop),Inv X cb σ H s->t σ H Q->wpAny (model X.prog X.w) X.A (isTrue e X.env (eval e X.env)) (TP X cb σ Q) X.xe s
def PW(X:Cx)(e:Expr)(t:TT):Prop:=
 ∀(whole:Sem Value) (cb:ce) (s:Shared) (σ:St) (H:Hp) (Q:Bool->Hp->Prop),Inv X cb σ H s->t σ H Q->wpAny (model X.prog X.w) X.A (isTrue e X.env whole) (TP X cb σ Q) X.xe s
def PA(X:Cx)(es:List Expr)(t:TA):Prop:=
 ∀(pos:Pos) (cb:ce) (s:Shared) (σ:St) (H:Hp) (Q:List V->Hp->Prop),Inv X cb σ H s->t σ H Q->wpAny (model X.prog X.w) X.A (spliced (backTo pos (starEach es X.env))) (AP X cb σ Q) X.xe s
def PS(X:Cx)(st:Stmt)(t:TS):Prop:=
 ∀(cb:ce) (s:Shared) (σ:St) (H:Hp) (D:Ends),Inv X cb σ H s->t D σ H->wpAny (model X.prog X.w) X.A (exec st X.env) (SP X cb D) X.xe s
def PSs(X:Cx)(st:List Stmt)(t:TS):Prop:=
 ∀(cb:ce) (s:Shared) (σ:St) (H:Hp) (D:Ends),Inv X cb σ H s->t D σ H->wpAny (model X.prog X.w) X.A (execs st X.env) (SP X cb D) X.xe s
theorem thn{t:Sem α}{Q Q':α->Shared->Prop}{E:cc}(h:wpAny M A t Q E s)(hQ: ∀a s,Q a s->Q' a s):wpAny M A t Q' E s:=wpAny_mono h hQ λ_ _ x=>x
section
variable{X:Cx}{a b:Expr}{ta tb:TE}{pos:Pos}{dZ:List Expr}
def Hf(i:Nat):TE:=λσ H Q=>∃v,σ[i]? =some (some v)/\Q v H
def tC(v:V):TE:=λ_ H Q=>Q v H
theorem cM{i:Nat}{x:Str}{pos:Pos}(hN:X.N[i]? =some x)(hv:Vis X.env.scope x)(hd:(x==("__debug__":Str))=false:=by decide)(hcd:(x==("__classdict__":Str))=false:=by decide):PE X (.Name x pos) (Hf i):=by
 intro j s f H Q I h;obtain⟨v,e,h⟩:=h;obtain⟨m,n,o⟩:=I.loc;obtain⟨u,r,l⟩:=o i x v hN e hv;have b:EP X j f Q u s:=⟨v,H,I,r,h⟩;rcases l with ⟨hk,g⟩|⟨hk,c,d,a⟩
 ·exact wpAny_Name (wpAny_loadName_local I.ok.kind hk n g b) hd
 ·rcases hk with hk|hk
  ·exact wpAny_Name (wpAny_loadName_cell I.ok.kind hk d a b) hd
  ·exact wpAny_Name (wpAny_loadName_free I.ok.kind hk d a b hcd) hd
theorem Hg{i j pos}:PE X (.Constant (.int i) j pos) (tC (.int i)):=λ_ _ _ H _ I h=>wpAny_Constant_int ⟨.int i,H,I.tok _,⟨_,rfl⟩,h⟩
theorem KI{b j pos}:PE X (.Constant (.bool b) j pos) (tC (.bl b)):=λ_ _ _ H _ I h=>Constant_bool ⟨.bl b,H,I,rfl,h⟩
theorem Hh{j pos}:PE X (.Constant .none j pos) (tC .non):=λ_ _ _ H _ I h=>Constant_none ⟨.non,H,I,rfl,h⟩
theorem Hi{x j pos}:PE X (.Constant (.str x) j pos) (tC (.str x)):=λ_ _ _ H _ I h=>Calls.Constant_str ⟨.str x,H,I.tok _,⟨_,rfl⟩,h⟩
noncomputable def Gl(X:Cx)(x:Str):Prop:=X.env.kindOf x=some .globalImplicit
theorem fI{E:cc}{cb:ce}{s:Shared}{σ:St}{H:Hp}{x:Str}{u:Value}{pos:Pos}{Q:cc}(I:Inv X cb σ H s)(hg:Gl X x)(hm:X.mg x=some u)(h:Q u s)
  (hd:(x==("__debug__":Str))=false:=by decide):wpAny (model X.prog X.w) X.A (eval (.Name x pos) X.env) Q E s:=
 Calls.Name_function_global I.ok.kind hg (Calls.loadGlobal_global (by rw[I.ok.glob];exact I.mod.glob.keeps I.bk) hm h) hd
theorem fX{E:cc}{cb:ce}{s:Shared}{σ:St}{H:Hp}{x:Str}{u:Value}{pos:Pos}{Q:cc}(I:Inv X cb σ H s)(hg:Gl X x)(hm:X.mg x=none)(hv:bootBuiltins x=some u)(h:Q u s)
  (hn:x≠"__name__":=by decide) (hd:(x==("__debug__":Str))=false:=by decide):wpAny (model X.prog X.w) X.A (eval (.Name x pos) X.env) Q E s:=by
 obtain⟨c,b,a⟩:=I.mod.blt;exact Calls.Name_function_global I.ok.kind hg (Calls.loadGlobal_builtin (by rw[I.ok.glob];exact I.mod.glob.keeps I.bk) hm (by rw[I.ok.blt];exact b.keeps I.bk) ((a x hn).trans hv) h) hd
theorem DT{x:Str}{v:V}{u:Value}{pos:Pos}(hg:Gl X x)(hm:X.mg x=some u)(r:bG v u)(hd:(x==("__debug__":Str))=false:=by decide):PE X (.Name x pos) (tC v):=
 λ_ _ _ H _ I h=>fI I hg hm ⟨v,H,I,r,h⟩ hd
def PC(X:Cx)(op:CmpOp)(a b:Expr)(t:TE):Prop:=
 ∀(cb:ce) (s:Shared) (σ:St) (H:Hp) (Q:VK),Inv X cb σ H s->t σ H Q->
  wpAny (model X.prog X.w) X.A (eval a X.env) (λv s₁=>wpAny (model X.prog X.w) X.A (eval b X.env) (λu s₂=>wpAny (model X.prog X.w) X.A (compareOp op v u) (EP X cb σ Q) X.xe s₂) X.xe s₁) X.xe s
def tB(t:TE):TT:=λσ H Q=>t σ H λx H1=>∃c,x= .bl c/\Q c H1
theorem Hj{op:CmpOp}{t:TE}(h:PC X op a b t)(h1:behindInMarks op b=false:=by first|exact nobehind _ (by decide) (by decide)|rfl):PE X (.Compare a [op] [b] pos) t:=λc s e H Q I d=>wpAny_Compare1 (h c s e H Q I d) h1
theorem Hk{e:Expr}{t:TE}(h:PE X e t)(he: ∀whole,isTrue e X.env whole=(do let v<-whole;standAt e.pos;holding [v] (truthy v)):=by intro _;rfl):PT X e (tB t):=by
 intro f s c H Q I i;refine isTrue_plain (thn (h f s c H _ I i) λv l a=>?_) (he _)
 obtain⟨x,g,b,j,q1⟩:=a;obtain⟨d,rfl,q⟩:=q1;cases j;exact wpAny_truthy_bool ⟨g,b,q⟩
def LW(t u:TT):TT:=λσ H Q=>t σ H λc H1=>if c=true then u σ H1 Q else Q false H1
def tOr(t u:TT):TT:=λσ H Q=>t σ H λc H1=>if c=true then Q true H1 else u σ H1 Q
def LY(t:TT):TT:=λσ H Q=>t σ H λc H1=>Q (!c) H1
theorem pw_and1(ha:PT X a tA):PW X (.BoolOp .And [a] pos) tA:=by
 intro f d s b H Q I h;refine isTrue_and (thn (ha d s b H Q I h) λc g e=>?_)
 cases c with
 |true=>exact isTrue_and_nil e
 |false=>exact e
theorem pw_or1(ha:PT X a tA):PW X (.BoolOp .Or [a] pos) tA:=by
 intro f d s b H Q I h;refine isTrue_or (thn (ha d s b H Q I h) λc g e=>?_)
 cases c with
 |false=>exact isTrue_or_nil e
 |true=>exact e
theorem pw_and(ha:PT X a tA)(hb:PW X (.BoolOp .And (b::dZ) pos) tB'):PW X (.BoolOp .And (a::b::dZ) pos) (LW tA tB'):=by
 intro j g s f H Q I h;refine isTrue_and (thn (ha g s f H _ I h) λc l d=>?_)
 obtain⟨i,e,q1⟩:=d
 cases c with
 |true=>exact hb j g l f i Q e q1
 |false=>exact⟨i,e,q1⟩
theorem pw_or(ha:PT X a tA)(hb:PW X (.BoolOp .Or (b::dZ) pos) tB'):PW X (.BoolOp .Or (a::b::dZ) pos) (tOr tA tB'):=by
 intro j g s f H Q I h;refine isTrue_or (thn (ha g s f H _ I h) λc l d=>?_)
 obtain⟨i,e,q1⟩:=d
 cases c with
 |true=>exact⟨i,e,q1⟩
 |false=>exact hb j g l f i Q e q1
theorem Hl(ha:PT X a tA):PT X (.UnaryOp .Not a pos) (LY tA):=by
 intro d s b H Q I h;exact isTrue_not (ha d s b H (λc e=>Q (!c) e) I h)
def Hm(ta tb:TE):TE:=λσ H Q=>ta σ H λx H1=>∃c,x= .bl c/\if c=true then tb σ H1 Q else Q (.bl false) H1
def LZ(ta tb:TE):TE:=λσ H Q=>ta σ H λx H1=>∃c,x= .bl c/\if c=true then Q (.bl true) H1 else tb σ H1 Q
def KJ(ta:TE):TE:=λσ H Q=>ta σ H λx H1=>∃c,x= .bl c/\Q (.bl (!c)) H1
theorem Hn(h:PE X a t):PE X (.BoolOp op [a] pos) t:=λb s d H Q I c=>BoolOp_one (h b s d H Q I c)
theorem Ho(ha:PE X a ta)(hb:PE X (.BoolOp .And (b::dZ) pos) tb):PE X (.BoolOp .And (a::b::dZ) pos) (Hm ta tb):=by
 intro g s f H Q I h;refine BoolOp_and (thn (ha g s f H _ I h) λv j d=>?_)
 obtain⟨x,i,e,l,q1⟩:=d;obtain⟨c,rfl,q1⟩:=q1;cases l;refine wpAny_truthy_bool ?_
 cases c with
 |true=>exact hb g j f i Q e q1
 |false=>exact⟨.bl false,i,e,rfl,q1⟩
theorem KL(ha:PE X a ta)(hb:PE X (.BoolOp .Or (b::dZ) pos) tb):PE X (.BoolOp .Or (a::b::dZ) pos) (LZ ta tb):=by
 intro g s f H Q I h;refine BoolOp_or (thn (ha g s f H _ I h) λv j d=>?_)
 obtain⟨x,i,e,l,q1⟩:=d;obtain⟨c,rfl,q1⟩:=q1;cases l;refine wpAny_truthy_bool ?_
 cases c with
 |false=>exact hb g j f i Q e q1
 |true=>exact⟨.bl true,i,e,rfl,q1⟩
theorem Hq(ha:PE X a ta):PE X (.UnaryOp .Not a pos) (KJ ta):=by
 intro f s e H Q I h;refine UnaryOp_ (thn (ha f s e H _ I h) λv j b=>?_)
 obtain⟨x,g,d,i,q1⟩:=b;obtain⟨c,rfl,q1⟩:=q1;cases i;exact not_of (wpAny_truthy_bool ⟨.bl (!c),g,d,rfl,q1⟩)
def tIf(t:TT)(ta tb:TE):TE:=λσ H Q=>t σ H λc H1=>if c=true then ta σ H1 Q else tb σ H1 Q
theorem tF(hc:PT X c tA)(ha:PE X a ta)(hb:PE X b tb):PE X (.IfExp c a b pos) (tIf tA ta tb):=by
 intro g s f H Q I h;refine wpAny_IfExp (thn (hc g s f H _ I h) λd l e=>?_)
 obtain⟨j,i,q1⟩:=e
 cases d with
 |true=>exact ha g l f j Q i q1
 |false=>exact hb g l f j Q i q1
end
def SqL(K:PySem.W.Frag)(H:Hp)(a:Addr)(xs:List V):Prop:=
 Rd H a (.lst xs)\/
  ∃(o:Obj) (its:Array Value) (n:Nat),K.lookup a=some o/\o.cls= .type "list"/\o.dict=none/\o.data= .seq its n/\its.size<=sizeLine/\bS xs its.toList
def SqT(K:PySem.W.Frag)(H:Hp)(a:Addr)(xs:List V):Prop:=
 Rd H a (.tup xs)\/
  ∃(o:Obj) (its:Array Value) (n:Nat),K.lookup a=some o/\o.cls= .type "tuple"/\o.dict=none/\o.data= .seq its n/\its.size<=sizeLine/\bS xs its.toList
noncomputable def My:Value->Option V
 |.none=>some .non
 |.bool b=>some (.bl b)
 |.int i _=>some (.int i)
 |.str x _=>some (.str x)
 |.bytes b _=>some (.byt b)
 |.float b _=>some (.flt b)
 |.ref a=>some (.ref a)
 |.type n=>some (.ty n)
 |_=>none
theorem bG.abs(r:bG x u):My u=some x:=by
 cases x with
 |non=>cases r;rfl
 |bl _=>cases r;rfl
 |int _=>obtain⟨t,rfl⟩:=r;rfl
 |str _=>obtain⟨t,rfl⟩:=r;rfl
 |byt _=>obtain⟨t,rfl⟩:=r;rfl
 |flt _=>obtain⟨t,rfl⟩:=r;rfl
 |ref _=>cases r;rfl
 |ty _=>cases r;rfl
theorem bG.inj(r:bG x u)(q:bG y u):x=y:=Option.some.inj (r.abs.symm.trans q.abs)
theorem bS.inj: ∀{xs ys:List V} {us:List Value},bS xs us->bS ys us->xs=ys
 |_,_,_,.nil,.nil=>rfl
 |_,_,_,.cons r t,.cons r' t'=>by rw[r.inj r',bS.inj t t']
section
variable{σ:St}
theorem SqL.of{K:PySem.W.Frag}(h:H a=some (.lst xs)):SqL K H a xs:=.inl (.inl h)
theorem SqT.of{K:PySem.W.Frag}(h:H a=some (.tup xs)):SqT K H a xs:=.inl (.inl h)
theorem Inv.list(I:Inv X cb σ H s)(h:SqL X.K H a xs): ∃its:List Value,bS xs its/\PlainL s.heap a its.toArray/\xs.length<=sizeLine:=by
 rcases h with h|⟨o,its,n,hk,hc,hd,hs,hz,r⟩
 ·obtain⟨z,its,n,r,e⟩:=h.ok I.hok;exact⟨its,r,⟨_,n,e,rfl,rfl,rfl⟩,z⟩
 ·refine⟨its.toList,r,⟨o,n,I.kIn a o hk,hc,hd,by simpa using hs⟩,?_⟩
  have e:=r.length;simp only[Array.length_toList]at e
  lia
theorem Inv.tuple(I:Inv X cb σ H s)(h:SqT X.K H a xs): ∃its:List Value,bS xs its/\IsTup s.heap a its.toArray/\xs.length<=sizeLine:=by
 rcases h with h|⟨o,its,n,hk,hc,_,hs,hz,r⟩
 ·obtain⟨z,its,r,p,_⟩:=h.ok I.hok;exact⟨its,r,p,z⟩
 ·refine⟨its.toList,r,⟨o,I.kIn a o hk,hc,n,by simpa using hs⟩,?_⟩
  have e:=r.length;simp only[Array.length_toList]at e
  lia
theorem Inv.list_inj(I:Inv X cb σ H s)(h:SqL X.K H a xs)(h':SqL X.K H a ys):xs=ys:=by
 obtain⟨c,r,⟨o,n,e,_,_,d⟩,_⟩:=I.list h;obtain⟨b,i,⟨j,l,g,_,_,f⟩,_⟩:=I.list h';rw[e]at g;cases g;rw[d]at f;injection f with d1 _
 have:c=b:=by simpa using congrArg Array.toList d1
 subst this;exact r.inj i
theorem Inv.tuple_inj(I:Inv X cb σ H s)(h:SqT X.K H a xs)(h':SqT X.K H a ys):xs=ys:=by
 obtain⟨c,r,⟨o,e,_,n,d⟩,_⟩:=I.tuple h;obtain⟨b,i,⟨j,g,_,l,f⟩,_⟩:=I.tuple h';rw[e]at g;cases g;rw[d]at f;injection f with d1 _
 have:c=b:=by simpa using congrArg Array.toList d1
 subst this;exact r.inj i
end
abbrev Cx.wish(X:Cx)(E:cc):Cx:={X with xe:=E}
section
variable{X:Cx}{st:Stmt}{dZ:List Stmt}{t u:TS}{e:Expr}{te:TE}{pos:Pos}
def A1:TS:=λD σ H=>D.nx σ H
def L4(t u:TS):TS:=λD σ H=>t {D with nx:=u D} σ H
theorem kG:PSs X [] A1:=λ_ _ a H _ I h=>wpAny_execs_nil ⟨a,H,I,h⟩
theorem jV(h1:PS X st t)(h2:PSs X dZ u):PSs X (st::dZ) (L4 t u):=by
 intro b s c H D I h;refine wpAny_execs_cons (thn (h1 b s c H {D with nx:=u D} I h) λf g q=>?_)
 cases f with
 |next=>
  obtain⟨a,e,d,q⟩:=q;exact h2 b g a e D d q
 |ret v=>exact q
 |brk=>exact q
 |cont=>exact q
theorem rP(h1:PS X st t):PSs X [st] t:=by
 intro b s a H D I h;refine wpAny_execs_cons (thn (h1 b s a H D I h) λf c q=>?_)
 cases f with
 |next=>exact wpAny_execs_nil q
 |ret v=>exact q
 |brk=>exact q
 |cont=>exact q
theorem wS:PS X (.Pass pos) A1:=λ_ _ a H _ I h=>wpAny_Pass ⟨a,H,I,h⟩
theorem Inv.quiet{σ:St}(I:Inv X cb σ H s):interactive X.env=false:=by simp[interactive,I.ok.kind]
def DU(te:TE):TS:=λD σ H=>te σ H λ_ H1=>D.nx σ H1
theorem nE(he:PE X e te)(hs:swapsWith e none pos.line X.env=pure false:=by rfl):PS X (.Expr e pos) (DU te):=by
 intro c s a H D I h;exact wpAny_Expr_any (thn (he c s a H _ I h) λv f ⟨x,d,b,g,q1⟩=>⟨a,d,b,q1⟩) I.quiet hs
def Mz(te:TE):TS:=λD σ H=>te σ H D.rt
theorem wT(he:PE X e te):PS X (.Return (some e) pos) (Mz te):=by
 intro c s a H D I h;exact wpAny_Return_some (thn (he c s a H _ I h) λv g ⟨x,d,b,f,q1⟩=>⟨x,a,d,b,f,q1⟩)
def KM(c:TT)(t u:TS):TS:=λD σ H=>c σ H λb H1=>if b=true then t D σ H1 else u D σ H1
theorem Hr(hc:PT X c tc)(ha:PSs X a t)(hb:PSs X b u):PS X (.If c a b pos) (KM tc t u):=by
 intro g s f H D I h;refine wpAny_If (thn (hc g s f H _ I h) λd l e=>?_)
 obtain⟨j,i,q1⟩:=e
 cases d with
 |true=>exact ha g l f j D i q1
 |false=>exact hb g l f j D i q1
end
abbrev TG:=V->St->Hp->(St->Hp->Prop)->Prop
abbrev TGs:=List V->St->Hp->(St->Hp->Prop)->Prop
def PG(X:Cx)(target:Expr)(t:TG):Prop:=
 ∀(cb:ce) (s:Shared) (σ:St) (H:Hp) (v:V) (u:Value) (Q:St->Hp->Prop),Inv X cb σ H s->bG v u->t v σ H Q->
  wpAny (model X.prog X.w) X.A (assign target X.env u) (λ_ s'=>∃σ' H',Inv X cb σ' H' s'/\Q σ' H') X.xe s
def PGs(X:Cx)(ts:List Expr)(t:TGs):Prop:=
 ∀(cb:ce) (s:Shared) (σ:St) (H:Hp) (vs:List V) (us:List Value) (Q:St->Hp->Prop),Inv X cb σ H s->bS vs us->t vs σ H Q->
  wpAny (model X.prog X.w) X.A (assignInOrder ((assignEach ts X.env).map (·.2)) us) (λ_ s'=>∃σ' H',Inv X cb σ' H' s'/\Q σ' H') X.xe s
abbrev KN:=V->V->V->Hp->(Hp->Prop)->Prop
def KO(X:Cx)(t:KN):Prop:=
 ∀(cb:ce) (s:Shared) (σ:St) (H:Hp) (o i v:V) (ov iv u:Value) (Q:Hp->Prop),Inv X cb σ H s->bG o ov->bG i iv->bG v u->t o i v H Q->
  wpAny (model X.prog X.w) X.A (setItem ov iv u) (λ_ s'=>∃H',Inv X cb σ H' s'/\Q H') X.xe s
section
variable{X:Cx}{pos:Pos}
def jQ(i:Nat):TG:=λv σ H Q=>Q (σ.set i (some v)) H
theorem kH{i:Nat}{x:Str}(hN:X.N.Nodup)(hi:X.N[i]? =some x)(hx:Loc X.env.scope x)(hf:X.fn x=true\/X.env.scope.names.lookup x=some .local:=by first|exact .inl rfl|exact .inr rfl|assumption):PG X (.Name x pos) (jQ i):=by
 intro d s c H v u Q I r h;exact wpAny_assign_Name (gE I hN hi hx r (λb a=>⟨_,H,a,h⟩) hf)
def KP:TGs:=λvs σ H Q=>vs=[]/\Q σ H
def DV(t:TG)(u:TGs):TGs:=λvs σ H Q=>∃v r,vs=v::r/\t v σ H λσ' H'=>u r σ' H' Q
theorem wU:PGs X [] KP:=by
 intro c s a H b d Q I r h;obtain⟨e,h⟩:=h;subst e;cases r;exact assignInOrder_nil ⟨a,H,I,h⟩
theorem tG{e:Expr}{es:List Expr}{t:TG}{u:TGs}(h1:PG X e t)(h2:PGs X es u)
  (hs:(assignEach (e::es) X.env).map (·.2)=assign e X.env::(assignEach es X.env).map (·.2):=by rfl):PGs X (e::es) (DV t u):=by
 intro c s f H n o Q I r h;obtain⟨v,m,j,h⟩:=h;subst j
 cases r with
 |cons r g=>
  rw[hs];refine assignInOrder_cons (thn (h1 c s f H _ _ _ I r h) λ_ i a=>?_)
  obtain⟨b,l,d,q1⟩:=a;exact h2 c i b l _ _ Q d g q1
def Ht(K:PySem.W.Frag)(n:Nat)(t:TGs):TG:=λv σ H Q=>∃a xs,v= .ref a/\SqT K H a xs/\xs.length=n/\t xs σ H Q
theorem CN{es:List Expr}{k:Nat}{t:TGs}{n:Nat}(hc:X.calm=true)(h:PGs X es t)
  (hn:(assignEach es X.env).length=n:=by rfl) (hst:(assignEach es X.env).findIdx? (·.1)=none:=by rfl):PG X (.Tuple es k pos) (Ht X.K n t):=by
 intro f s d H v u Q I r c;obtain⟨a,m,p,j,z,c⟩:=c;subst p;cases r;obtain⟨q,g,y,A⟩:=I.tuple j;refine assign_Tuple_tuple (I.ok.hd hc) y (by simp[hn, <-z,g.length]) hst λx i=>?_
 have l:Inv X f d H {s with heap:=x}:=I.kept (t':=s.toks) λb o e=>i b o (bg (ag e)) e
 exact h f _ d H m _ Q l (by simpa using g) c
def MB(to ti:TE)(t:KN):TG:=λv σ H Q=>to σ H λo H1=>ti σ H1 λi H2=>t o i v H2 λH3=>Q σ H3
theorem Hu{o i:Expr}{to ti:TE}{t:KN}(ho:PE X o to)(hi:PE X i ti)(hs:KO X t)
  (ha: ∀v,assign (.Subscript o i pos) X.env v=(do
   let ov<-holding [v] (eval o X.env);let iv<-holding [v,ov] (eval i X.env)
   standAt pos
   holding [v,ov,iv] (setItem ov iv v)
   release [v,ov,iv] []):=by intro _;rfl):PG X (.Subscript o i pos) (MB to ti t):=by
 intro c s b H v u Q I r h;rw[ha];refine aa (wpAny_holding (thn (ho c s b H _ I h) λov m a=>?_))
 obtain⟨x,z,g,n,q1⟩:=a;refine aa (wpAny_holding (thn (hi c m b z _ g q1) λiv p a=>?_))
 obtain⟨y,d,j,A,e⟩:=a;refine aa (wpAny_standAt (aa (wpAny_holding (thn (hs c p b d x y v ov iv u _ j n A r e) λ_ B a=>?_))))
 obtain⟨f,q,l⟩:=a;exact wpAny_release ⟨b,f,q,l⟩
def CO(te:TE)(g:TG):TS:=λD σ H=>te σ H λx H1=>g x σ H1 D.nx
theorem wV{tg e:Expr}{te:TE}{g:TG}(he:PE X e te)(hg:PG X tg g)(hs:swapsWithSole [tg] e pos.line X.env=pure false:=by rfl)(hw:swappedStores [tg] e X.env=pure none:=by rfl)
  (h1:(assignEach [tg] X.env).map (·.2)=[assign tg X.env]:=by rfl):PS X (.Assign [tg] e pos) (CO te g):=by
 intro c s b H D I h;refine wpAny_Assign_stores (thn (he c s b H _ I h) λv i a=>?_) hs hw
 obtain⟨x,f,d,j,q1⟩:=a;rw[h1];exact thn (hg c i b f x v _ d j q1) λ_ l q=>q
theorem o8{i:Nat}{x:Str}{e:Expr}{te:TE}{pos':Pos}(hN:X.N.Nodup)(hi:X.N[i]? =some x)(hx:Loc X.env.scope x)(he:PE X e te)(hs:swapsWith e (some (.Name x pos')) pos.line X.env=pure false:=by rfl)(hf:X.fn x=true\/X.env.scope.names.lookup x=some .local:=by first|exact .inl rfl|exact .inr rfl|assumption):
  PS X (.Assign [.Name x pos'] e pos) (CO te (jQ i)):=by
 intro d s c H D I h;refine wpAny_Assign_Name (thn (he d s c H _ I h) λv m a=>?_) hs
 obtain⟨y,f,b,j,q1⟩:=a;exact gE b hN hi hx j (λl g=>⟨_,f,g,q1⟩) hf
def MC(i j:Nat)(ta:TA):TS:=λD σ H=>ta σ H λvs H1=>∃v w,vs=[v,w]/\D.nx ((σ.set i (some v)).set j (some w)) H1
theorem Hv{i j:Nat}{x y:Str}{a b:Expr}{ta:TA}{px py pt:Pos}{kt k2 pt2}(hc:X.calm=true)(hN:X.N.Nodup)(hi:X.N[i]? =some x)(hj:X.N[j]? =some y)(hij:i≠j)
  (hx:X.env.scope.names.lookup x=some .local) (hy:X.env.scope.names.lookup y=some .local) (ha:PA X [a,b] ta)
  (hw:swappedStores [.Tuple [.Name x px,.Name y py] kt pt] (.Tuple [a,b] k2 pt2) X.env=pure (some [x,y]))
  (hs:swapsWithSole [.Tuple [.Name x px,.Name y py] kt pt] (.Tuple [a,b] k2 pt2) pos.line X.env=pure false:=by rfl):
  PS X (.Assign [.Tuple [.Name x px,.Name y py] kt pt] (.Tuple [a,b] k2 pt2) pos) (MC i j ta):=by
 intro r s n H D I h;rw[exec_Assign_arm];refine aa (wpAny_standAt ?_);rw[hs];refine aa (ac ?_);rw[if_neg (by decide)]
 refine aa (Tuple_ (thn (ha _ r s n H _ I h) λz d m=>?_))
 obtain⟨T,u,B,L,q1⟩:=m;obtain⟨v,w,E,q1⟩:=q1;subst E
 obtain⟨f,c,rfl,O,l⟩: ∃f c,z=[f,c]/\bG v f/\bG w c:=by
  cases L with
  |cons p q=>
   cases q with
   |cons J G=>
    cases G;exact⟨_,_,rfl,p,J⟩
 refine wpAny_newObj_type ?_ (by show 2<=sizeLine;decide)
 have K:Inv X r n u {d with heap:=d.heap.push {cls:=.type "tuple",data:=.seq [f,c].toArray} }:=B.kept (t':=d.toks) λb o e=>ae _ e
 rw[hw];refine aa (ac ?_);show wpAny (model X.prog X.w) X.A (do rule "assign.swapped-stores";let items<-unpackItems (.ref d.heap.objs.size) 2 none;assignInOrder [λv=>bindName X.env y v,λv=>bindName X.env x v] items.reverse;pure Flow.next) _ _ _
 refine aa (wpAny_rule (aa (unpackItems_tuple (items:= #[f,c]) (I.ok.hd hc) (IsTup.new d.heap _) λh' g=>?_)))
 have C:=K.kept (h':=h') (t':=d.toks) λb o e=>g b o (bg (ag e)) e
 show wpAny _ _ (assignInOrder [λv=>bindName X.env y v,λv=>bindName X.env x v] [c,f] >>= λ_=>pure Flow.next) _ _ _
 refine aa (assignInOrder_cons (wpAny_bindName (gE C hN hj (.inl hy) l (λQ M=>?_) (.inr hy))))
 refine assignInOrder_cons (wpAny_bindName (gE M hN hi (.inl hx) O (λS t=>assignInOrder_nil (ac ?_)) (.inr hx)))
 rw[List.set_comm _ _ (Ne.symm hij)]at t;exact⟨_,u,t,q1⟩
end
structure It where
 go:Nat->Hp->Prop
 yld:Nat->Hp->V->Hp->Prop
 stop:Nat->Hp->Prop
def oY(X:Cx)(cb:ce)(H:Hp)(b:Addr):Prop:=
 H b=none/\b≠X.env.locals/\b∉X.fs/\(b∈X.ex\/X.s₀.heap.objs.size<=b)/\(∀x c,X.env.cells.lookup x=some c->c≠b)/\∀p∈X.pn++cb,p.1≠b
theorem Inv.fpOk{σ:St}{b:Addr}(I:Inv X cb σ H s)(hb:s.heap.objs.size<=b)(hn:H' b=none):oY X cb H' b:=by
 refine⟨hn,Nat.ne_of_gt (bf I.lt hb),I.nofs hb,.inr (Nat.le_trans I.sz hb),λx c e z=>?_,λp a z=>?_⟩
 ·obtain⟨v,q⟩:=I.cell x c e;exact absurd (bf q.lt (by rw[z];exact hb)) (Nat.lt_irrefl _)
 ·exact absurd (bf (ag (I.pin p a).1) (by rw[z];exact hb)) (Nat.lt_irrefl _)
structure Turn(P:Program)(w:World)(K:PySem.W.Frag)(tg:Expr)(J:It)(fp:List Addr)(it:Addr)(tn:Nat->Heap->Prop):Prop where
 mem:it∈fp
 obj: ∀i h,tn i h->∀b∈fp, ∃o,h.get? b=some o/\∀v,o.data≠ .cell v
 keep: ∀i h h',tn i h->(∀b∈fp, ∀o,h.get? b=some o->h'.get? b=some o)->tn i h'
 item: ∀(X:Cx),X.prog=P->X.w=w->X.K=K->X.calm=true->∀(i:Nat) (cb:ce) (s:Shared) (σ:St) (H:Hp) (E:cc),Inv X cb σ H s->(∀b∈fp,oY X cb H b)->tn i s.heap->J.go i H->
  wpAny (model P w) X.A (pyNext (.ref it)) (λr s1=>∃u,r=some u/\
   wpAny (model P w) X.A (letOwnedTupleGo tg (.ref it) u) (λ_ s2=>∃x H',Inv X cb σ H' s2/\bG x u/\J.yld i H x H'/\tn (i+1) s2.heap/\∀b∈fp,H' b=none) E s1) E s
 done: ∀(X:Cx),X.prog=P->X.w=w->X.K=K->X.calm=true->∀(i:Nat) (cb:ce) (s:Shared) (σ:St) (H:Hp) (E:cc),Inv X cb σ H s->(∀b∈fp,oY X cb H b)->tn i s.heap->J.stop i H->
  wpAny (model P w) X.A (pyNext (.ref it)) (λr s1=>r=none/\Inv X cb σ H s1) E s
 self: ∀(A:Around) (i:Nat) (s:Shared) (Q:cc) (E:cc),tn i s.heap->Q (.ref it) s->wpAny (model P w) A (pyIter (.ref it)) Q E s
abbrev TI:=St->Hp->(It->Hp->Prop)->Prop
def PIE(X:Cx)(cb:ce)(σ:St)(tg:Expr)(R:It->Hp->Prop)(itv:Value)(s2:Shared):Prop:=
 ∃(it:Addr) (fp:List Addr) (tn:Nat->Heap->Prop) (J:It) (H':Hp),itv= .ref it/\Inv X cb σ H' s2/\Turn X.prog X.w X.K tg J fp it tn/\tn 0 s2.heap/\(∀b∈fp,oY X cb H' b)/\R J H'
def PI(X:Cx)(tg iter:Expr)(wi:TI):Prop:=
 ∀(cb:ce) (s:Shared) (σ:St) (H:Hp) (R:It->Hp->Prop),Inv X cb σ H s->wi σ H R->
  wpAny (model X.prog X.w) X.A (eval iter X.env) (λv s1=>wpAny (model X.prog X.w) X.A (pyIter v) (PIE X cb σ tg R) X.xe s1) X.xe s
theorem wW{E:cc}(ho:s.heap.get? it=some o)(hc:o.cls= .type n)(hd:o.data= .fields vs)(hn:["enumerate","zip","dict_itemiterator","dict_reverseitemiterator","odict_iterator","itertools.zip_longest","itertools.pairwise"].contains n=false)(hQ:Q () s):wpAny M A (letOwnedTupleGo tg (.ref it) u) Q E s:=by
 unfold letOwnedTupleGo
 cases tg<;>first
  |exact ac hQ
  |(cases u<;>first
    |exact ac hQ
    | (refine aa (wpAny_load ho ?_)
       rw[hc,hd];show wpAny M A (if(["enumerate","zip","dict_itemiterator","dict_reverseitemiterator","odict_iterator","itertools.zip_longest","itertools.pairwise"].contains n&&vs[0]? ==some (rawInt _))=true then _ else _) Q E s
       rw[if_neg (by intro h;rw[hn,Bool.false_and]at h;cases h)]
       exact ac hQ))
def Itl(K:PySem.W.Frag)(a:Addr):It:=
 ⟨λi H=>∃xs x,SqL K H a xs/\xs[i]? =some x,λi H x H'=>H'=H/\∀xs,SqL K H a xs->xs[i]? =some x,λi H=>∃xs,SqL K H a xs/\xs.length<=i⟩
def Itt(K:PySem.W.Frag)(a:Addr):It:=
 ⟨λi H=>∃xs x,SqT K H a xs/\xs[i]? =some x,λi H x H'=>H'=H/\∀xs,SqT K H a xs->xs[i]? =some x,λi H=>∃xs,SqT K H a xs/\xs.length<=i⟩
def Itr(lo:Int)(n:Nat):It:=⟨λi _=>i<n,λi H x H'=>H'=H/\x= .int (lo+i),λi _=>n<=i⟩
theorem o9{K:PySem.W.Frag}(a it:Addr):Turn P w K tg (Itl K a) [it] it (λi h=>h.IsListIter it a i) where
 mem:=by simp
 obj:=λi h f b g=>by
  have e:b=it:=by simpa using g
  subst e;obtain⟨o,e,c,d⟩:=f;exact⟨o,e,λv z=>by rw[d]at z;cases z⟩
 keep:=λi h m f k=>f.at λo e=>k it (by simp) o e
 item:=by
  intro X M N G S i Q s O H E I n f t;subst M N G;obtain⟨Y,x,l,r⟩:=t;obtain⟨A,L,p,hz⟩:=I.list l;obtain⟨u,T,ru⟩:=L.get r;obtain⟨C,B,Z,y,q,J⟩:=n it (by simp)
  refine wpAny_pyNext_list_item f p.isList (x:=u) (by simpa using T) λm j sb=>?_
  have U:Inv X Q O H {s with heap:=m}:=I.turned (t':=s.toks) (λb o g e=>(sb.2 b g).trans e) C B y q J
  obtain⟨o,e,c,d⟩:=id j;exact⟨u,rfl,wW (s:={s with heap:=m}) e c d (by decide) ⟨x,H,U,ru,⟨rfl,λys hy=>by rw[I.list_inj hy l];exact r⟩,j,λb g=>(n b g).1⟩⟩
 done:=by
  intro X M N G S i Q s O H E I n f t;subst M N G;obtain⟨Y,l,r⟩:=t;obtain⟨A,L,p,hz⟩:=I.list l;obtain⟨C,B,Z,y,q,J⟩:=n it (by simp)
  have hl:=L.length;exact wpAny_pyNext_list_end (I.ok.hd S) f p.isList (by simp;lia) λm eb=>⟨rfl,I.turned (t':=s.toks) (λb o g e=>eb b o g e) C B y q J⟩
 self:=λ_ _ _ _ _ f h=>wpAny_pyIter_listiter f h
theorem mC{K:PySem.W.Frag}(a it:Addr):Turn P w K tg (Itt K a) [it] it (λi h=>h.IsTupleIter it a i) where
 mem:=by simp
 obj:=λi h f b j=>by
  have e:b=it:=by simpa using j
  subst e;obtain⟨o,e,c,d⟩:=f;exact⟨o,e,λv z=>by rw[d]at z;cases z⟩
 keep:=λi h n f k=>f.at λo e=>k it (by simp) o e
 item:=by
  intro X M N G S i Q s O H E I q f y;subst M N G;obtain⟨Y,x,m,t⟩:=y;obtain⟨g,L,p,hz⟩:=I.tuple m;obtain⟨u,T,ru⟩:=L.get t;obtain⟨C,B,Z,A,r,J⟩:=q it (by simp)
  refine wpAny_pyNext_tuple_item f (show s.heap.IsTuple a g.toArray from p) (x:=u) (by simpa using T) λn l sb=>?_
  have U:Inv X Q O H {s with heap:=n}:=I.turned (t':=s.toks) (λb o j e=>(sb.2 b j).trans e) C B A r J
  obtain⟨o,e,c,d⟩:=id l;exact⟨u,rfl,wW (s:={s with heap:=n}) e c d (by decide) ⟨x,H,U,ru,⟨rfl,λys hy=>by rw[I.tuple_inj hy m];exact t⟩,l,λb j=>(q b j).1⟩⟩
 done:=by
  intro X M N G S i Q s O H E I q f y;subst M N G;obtain⟨Y,m,t⟩:=y;obtain⟨g,L,p,hz⟩:=I.tuple m;obtain⟨C,B,Z,A,r,J⟩:=q it (by simp)
  have hl:=L.length;exact wpAny_pyNext_tuple_end (I.ok.hd S) f (show s.heap.IsTuple a g.toArray from p) (by simp;lia) λn eb=>⟨rfl,I.turned (t':=s.toks) (λb o j e=>eb b o j e) C B A r J⟩
 self:=λ_ _ _ _ _ f h=>wpAny_pyIter_tupleiter f h
theorem vN{K:PySem.W.Frag}(it:Addr)(lo:Int)(n:Nat):Turn P w K tg (Itr lo n) [it] it (λi h=>IsRangeIter h it (lo+(i:Nat)*1) ((n:Int)-(i:Nat)) 1) where
 mem:=by simp
 obj:=λi h a b c=>by
  have e:b=it:=by simpa using c
  subst e
  exact⟨_,a,λv z=>by
   have Q:Data.fields _=Data.cell v:=z
   cases Q⟩
 keep:=λi h f a k=>k it (by simp) _ a
 item:=by
  intro X y A u q i C s B H E I g a l;subst y A u;obtain⟨r,p,L,m,j,x⟩:=g it (by simp)
  have W:=Walks.range (prog:=X.prog) (w:=X.w) (I.ok.hd q) it lo 1 n;refine W.item i s _ _ l a λv f G O d N=>?_
  obtain⟨t,rfl⟩:=O;have J:Inv X C B H {s with heap:=f,toks:=G}:=I.turned (λb o c e=>N b o (by simpa using c) e) r p m j x
  refine⟨_,rfl,wW (s:={s with heap:=f,toks:=G}) (n:="range_iterator") d rfl rfl (by decide) ⟨.int (lo+i),H,J,⟨t,?_⟩,⟨rfl,rfl⟩,d,λb c=>(g b c).1⟩⟩
  rw[Int.mul_one]
 done:=by
  intro X y A u q i C s B H E I g a l;subst y A u;obtain⟨r,p,L,m,j,x⟩:=g it (by simp)
  exact wpAny_pyNext_range_end (I.ok.hd q) a (by have:n<=i:=l;lia) λf M=>⟨rfl,I.turned (t':=s.toks) (λb o c e=>M b o c e) r p m j x⟩
 self:=λ_ _ _ _ _ a h=>wpAny_pyIter_rangeiter a h
section
variable{X:Cx}{tg:Expr}
theorem A2{σ:St}{E:cc}{lo hi:Int}(I:Inv X cb σ H s)(h1: -(2^62)<=lo)(h2:lo<2^62)(h3: -(2^62)<=hi)(h4:hi<2^62)(q:R (Itr lo (hi-lo).toNat) H):wpAny (model X.prog X.w) X.A (pyIter (.ref s.heap.objs.size)) (PIE X cb σ tg R) E {s with heap:=s.heap.push {cls:=.type "range",data:=.fields #[.int lo t,.int hi u,.int 1 v]},toks:=tk}:=by
 refine wpAny_pyIter_range (IsRange.new ..) (small_one h1 h2 h3 h4) ?_;have a:Inv X cb σ H {s with heap:=s.heap.push {cls:=.type "range",data:=.fields #[.int lo t,.int hi u,.int 1 v]},toks:=tk}:=I.kept λb o e=>ae _ e
 refine⟨(s.heap.push {cls:=.type "range",data:=.fields #[.int lo t,.int hi u,.int 1 v]}).objs.size,[(s.heap.push {cls:=.type "range",data:=.fields #[.int lo t,.int hi u,.int 1 v]}).objs.size],_,_,H,rfl,
  a.kept (t':=tk) λb o e=>ae _ e,vN _ lo (hi-lo).toNat,?_,λb d=>?_,q⟩
 ·have c:lo+((0:Nat):Int)*1=lo:=by simp
  have f:(((hi-lo).toNat:Nat):Int)-((0:Nat):Int)=Builtin.Range.rangeSize lo hi 1:=by rw[rangeSize_one];split<;>lia
  show IsRangeIter _ _ (lo+((0:Nat):Int)*1) ((((hi-lo).toNat:Nat):Int)-((0:Nat):Int)) 1;rw[c,f];exact af _ rfl
 ·have e:b=(s.heap.push {cls:=.type "range",data:=.fields #[.int lo t,.int hi u,.int 1 v]}).objs.size:=by simpa using d
  subst e;exact a.fpOk (ai _) (a.hok.fresh (ai _))
def KQ(ta:TA):TI:=λσ H R=>ta σ H λvs H1=>∃j:Int,vs=[.int j]/\ -(2^62)<=j/\j<2^62/\R (Itr 0 j.toNat) H1
theorem pA{a:Expr}{ta:TA}{p pos:Pos}(hg:Gl X "range")(hm:X.mg "range"=none)(ha:PA X [a] ta)(hs:starEach [a] X.env=[(false,eval a X.env)]:=by rfl):PI X tg (.Call (.Name "range" p) [a] [] pos) (KQ ta):=by
 intro f s c H R I h;refine Call_ (fX I hg hm boot_range (PyProof.Rows.callWith_type1 (thn (ha pos f s c H _ I h) λo l ⟨m,n,d,g,q1⟩=>?_) hs rfl))
 obtain⟨j,e,q1,b,q⟩:=q1;subst e
 cases g with
 |cons r i=>
  cases i;obtain⟨t,rfl⟩:=r;exact call_range_1 (A2 d (by lia) (by lia) q1 b (by simpa using q))
def MD(wi:TI)(g:TG)(tb:TS):TS:=λD σ H=>wi σ H λJ H1=>∃W:Nat->Nat->St->Hp->Prop,(∃m,W 0 m σ H1)/\∀i m σ H,W i m σ H->
 (J.stop i H/\D.nx σ H)\/(J.go i H/\∃N:St->Hp->Prop,(∀σ' H',N σ' H'->∃m',m'<m/\W (i+1) m' σ' H')/\∀x H',J.yld i H x H'->g x σ H' λσ2 H2=>tb {D with nx:=N,ct:=N,bk:=D.nx} σ2 H2)
def iA(fp:List Addr)(h:Heap):ce:=fp.filterMap λb=>(h.get? b).map λo=>(b,o)
theorem iU(hb:b∈fp)(e:h.get? b=some o):(b,o)∈iA fp h:=List.mem_filterMap.mpr ⟨b,hb,by rw[e];rfl⟩
theorem pB(hp:p∈iA fp h):p.1∈fp/\h.get? p.1=some p.2:=by
 obtain⟨b,a,e⟩:=List.mem_filterMap.mp hp
 cases q:h.get? b with
 |none=>rw[q]at e;cases e
 |some o=>
  rw[q]at e
  have c:(b,o)=p:=Option.some.inj e
  subst c;exact⟨a,q⟩
theorem Inv.pinned{σ:St}(I:Inv X cb σ H s)(hf: ∀b∈fp,oY X cb H b)(ho: ∀b∈fp, ∃o,s.heap.get? b=some o/\∀v,o.data≠ .cell v):Inv X (cb++iA fp s.heap) σ H s:=
 I.pins_of λp i=>(List.mem_append.mp i).elim (λz=>I.pin p (bq _ z)) λz=>by
  obtain⟨a,e⟩:=pB z;obtain⟨h,f,g,_⟩:=hf p.1 a;obtain⟨o,c,d⟩:=ho p.1 a;rw[e]at c;cases c;exact⟨e,h,f,g,d⟩
theorem Inv.unpinned{σ:St}(I:Inv X (cb++pl) σ H s):Inv X cb σ H s:=I.pins_of λp a=>I.pin p (bq _ (List.mem_append_left _ a))
end
abbrev R2:=V->V->Hp->VK->Prop
def OpR(X:Cx)(f:Value->Value->Sem Value)(r:R2):Prop:=
 ∀(cb:ce) (s:Shared) (σ:St) (H:Hp) (x y:V) (v u:Value) (Q:VK),Inv X cb σ H s->bG x v->bG y u->r x y H Q->
  wpAny (model X.prog X.w) X.A (f v u) (EP X cb σ Q) X.xe s
def lY(X:Cx)(f:Value)(r:List V->Hp->VK->Prop):Prop:=
 ∀(cb:ce) (s:Shared) (σ:St) (H:Hp) (xs:List V) (us:List Value) (Q:VK),Inv X cb σ H s->bS xs us->r xs H Q->
  wpAny (model X.prog X.w) X.A (call f us) (EP X cb σ Q) X.xe s
def tOp(r:R2)(ta tb:TE):TE:=λσ H Q=>ta σ H λx H1=>tb σ H1 λy H2=>r x y H2 Q
def rI(C:Int->Int->Prop)(g:Int->Int->V):R2:=λx y H Q=>∃i j,x= .int i/\y= .int j/\C i j/\Q (g i j) H
def rI0(g:Int->Int->V):R2:=λx y H Q=>∃i j,x= .int i/\y= .int j/\Q (g i j) H
theorem opI{g:Int->Int->Int}(rule: ∀(i j:Int) (t u:Tok) (s:Shared) (Q:cc) (E:cc),C i j->Q (.int (g i j) s.toks) {s with toks:=s.toks+1}->wpAny (model X.prog X.w) X.A (f (.int i t) (.int j u)) Q E s):
  OpR X f (rI C λi j=>.int (g i j)):=by
 intro l s e H x y v u Q I b a h;obtain⟨i,j,rfl,rfl,c,q⟩:=h;obtain⟨t,rfl⟩:=b;obtain⟨d,rfl⟩:=a;exact rule i j t d s _ _ c ⟨.int (g i j),H,I.tok _,⟨_,rfl⟩,q⟩
theorem Hw{g:Int->Int->Int}(rule: ∀(i j:Int) (t u:Tok) (s:Shared) (Q:cc) (E:cc),Q (.int (g i j) s.toks) {s with toks:=s.toks+1}->wpAny (model X.prog X.w) X.A (f (.int i t) (.int j u)) Q E s):
  OpR X f (rI0 λi j=>.int (g i j)):=by
 intro e s d H x y v u Q I b a h;obtain⟨i,j,rfl,rfl,q⟩:=h;obtain⟨t,rfl⟩:=b;obtain⟨c,rfl⟩:=a;exact rule i j t c s _ _ ⟨.int (g i j),H,I.tok _,⟨_,rfl⟩,q⟩
theorem Ko{g:Int->Int->Bool}(rule: ∀(i j:Int) (t u:Tok) (s:Shared) (Q:cc) (E:cc),Q (.bool (g i j)) s->wpAny (model X.prog X.w) X.A (f (.int i t) (.int j u)) Q E s):
  OpR X f (rI0 λi j=>.bl (g i j)):=by
 intro e s d H x y v u Q I b a h;obtain⟨i,j,rfl,rfl,q⟩:=h;obtain⟨t,rfl⟩:=b;obtain⟨c,rfl⟩:=a;exact rule i j t c s _ _ ⟨.bl (g i j),H,I,rfl,q⟩
def MF(i j:Int):Prop:=0<j/\j<1073741824
def MG(i j:Int):Prop:=0<=j/\j<=1000000/\i.natAbs<2^64
def KR(i j:Int):Prop:=(-(2^64)<i/\i<2^64)\/(-(2^64)<j/\j<2^64)
theorem KR.ok(h:KR i j):IntMulOk i j:=by
 rcases h with ⟨b,a⟩|⟨b,a⟩
 ·exact .of_left (intBits_le_64 b a)
 ·exact .of_right (intBits_le_64 b a)
theorem Hx:OpR X (binaryOp .Add) (rI0 λi j=>.int (i+j)):=Hw λ_ _ _ _ _ _ _ q=>add_int q
theorem Hy:OpR X (binaryOp .Sub) (rI0 λi j=>.int (i-j)):=Hw λ_ _ _ _ _ _ _ q=>sub_int q
theorem Hz:OpR X (binaryOp .Mult) (rI KR λi j=>.int (i*j)):=opI λ_ _ _ _ _ _ _ a q=>mul_int q a.ok
theorem DW:OpR X (binaryOp .FloorDiv) (rI MF λi j=>.int (i/j)):=opI λi j _ _ _ _ _ a q=>by
 have b:(0:Int)<j:=a.1;have c:j<1073741824:=a.2;exact floordiv_int (by lia) (by rw[Int.fdiv_eq_ediv_of_nonneg i (by lia)];exact q) (.inl (PyProof.noPylong_small (by lia)))
theorem HA:OpR X (binaryOp .Mod) (rI (λ_ j=>0<j) λi j=>.int (i % j)):=opI λi j _ _ _ _ _ a q=>by
 have b:(0:Int)<j:=a;exact mod_int' (by lia) (by rw[Int.fmod_eq_emod_of_nonneg i (by lia)];exact q)
theorem HB:OpR X (binaryOp .LShift) (rI MG λi j=>.int (i*2^j.toNat)):=opI λ_ _ _ _ _ _ _ a q=>lshift_int_small a.1 a.2.1 a.2.2 q
theorem HC:OpR X (binaryOp .BitAnd) (rI0 λi j=>.int (Builtin.bitAnd i j)):=Hw λ_ _ _ _ _ _ _ q=>and_int q
theorem KS:OpR X (binaryOp .BitOr) (rI0 λi j=>.int (Builtin.bitOr i j)):=Hw λ_ _ _ _ _ _ _ q=>or_int q
theorem HD:OpR X (binaryOp .BitXor) (rI0 λi j=>.int (Builtin.bitXor i j)):=Hw λ_ _ _ _ _ _ _ q=>xor_int q
theorem CQ{σ:St}(I:Inv X cb σ H s)(q:Q (.bl k) H)(e:k=k'):EP X cb σ Q (.bool k') s:=by
 subst e;exact⟨.bl k,H,I,rfl,q⟩
theorem KU:OpR X (compareOp .Lt) (rI0 λi j=>.bl (decide (i<j))):=Ko λ_ _ _ _ _ _ _ q=>lt_int q
theorem KW:OpR X (compareOp .LtE) (rI0 λi j=>.bl (decide (i<=j))):=Ko λ_ _ _ _ _ _ _ q=>le_int q
theorem KY:OpR X (compareOp .Gt) (rI0 λi j=>.bl (decide (j<i))):=Ko λ_ _ _ _ _ _ _ q=>gt_int q
theorem KZ:OpR X (compareOp .GtE) (rI0 λi j=>.bl (decide (j<=i))):=Ko λ_ _ _ _ _ _ _ q=>ge_int q
theorem HE:OpR X (compareOp .Is) (λx y H Q=>y= .non/\Q (.bl (decide (x= .non))) H):=by
 intro d s c H x y v u Q I a b h;obtain⟨rfl,q⟩:=h;cases b;refine is_none_gen (CQ I q ?_)
 cases x<;>first
  |(cases a;rfl)
  |(obtain⟨t,rfl⟩:=a;rfl)
theorem DX:OpR X (compareOp .IsNot) (λx y H Q=>y= .non/\Q (.bl (!decide (x= .non))) H):=by
 intro d s c H x y v u Q I a b h;obtain⟨rfl,q⟩:=h;cases b;refine isnot_none_gen (CQ I q ?_)
 cases x<;>first
  |(cases a;rfl)
  |(obtain⟨t,rfl⟩:=a;rfl)
theorem mD:(sizeLine:Nat)<2^63:=by rw[sizeLine_eq];decide
theorem lZ(r:bS [x] us): ∃u,us=[u]/\bG x u:=by
 cases r with
 |cons b a=>cases a;exact⟨_,rfl,b⟩
theorem wX(r:bS [x,y] us): ∃u w',us=[u,w']/\bG x u/\bG y w':=by
 cases r with
 |cons c b=>
  cases b with
  |cons d a=>cases a;exact⟨_,_,rfl,c,d⟩
theorem wY(hc:X.calm=true):lY X (.builtin "max") (λxs H Q=>∃i j,xs=[.int i,.int j]/\Q (.int (if j > i then j else i)) H):=by
 intro c s b H xs l Q I r h;obtain⟨i,j,rfl,q⟩:=h;obtain⟨u,e,rfl,⟨t,rfl⟩,⟨g,rfl⟩⟩:=wX r;refine max_two_ints (I.ok.hd hc) λf d k=>⟨_,H,I.kept k,?_,q⟩
 by_cases a:j > i
 ·rw[if_pos a,if_pos a];exact⟨_,rfl⟩
 ·rw[if_neg a,if_neg a];exact⟨_,rfl⟩
theorem wZ(hc:X.calm=true):lY X (.builtin "min") (λxs H Q=>∃i j,xs=[.int i,.int j]/\Q (.int (if j<i then j else i)) H):=by
 intro c s b H xs l Q I r h;obtain⟨i,j,rfl,q⟩:=h;obtain⟨u,e,rfl,⟨t,rfl⟩,⟨g,rfl⟩⟩:=wX r;refine min_two_ints (I.ok.hd hc) λf d k=>⟨_,H,I.kept k,?_,q⟩
 by_cases a:j<i
 ·rw[if_pos a,if_pos a];exact⟨_,rfl⟩
 ·rw[if_neg a,if_neg a];exact⟨_,rfl⟩
theorem pC:lY X (.type "int") (λxs H Q=>(∃i,xs=[.int i]/\Q (.int i) H)\/∃k,xs=[.bl k]/\Q (.int (if k then 1 else 0)) H):=by
 intro c s b H xs d Q I r h;rcases h with ⟨i,rfl,q⟩|⟨k,rfl,q⟩
 ·obtain⟨u,rfl,t,rfl⟩:=lZ r;exact call_int_int ⟨.int i,H,I,⟨_,rfl⟩,q⟩
 ·obtain⟨u,rfl,a⟩:=lZ r;cases a;exact call_int_bool ⟨.int (if k then 1 else 0),H,I.tok _,⟨_,rfl⟩,q⟩
structure ObjM(h:Heap)(x dx C:Addr)(mA:Str->Option Value):Prop where
 obj:h.get? x=some (PySem.W.instObj C dx)
 ns:h.Ns1 dx mA
 ne:dx≠x
theorem w4{h:Heap}(n:h.Ns1 dx mA): ∃od,h.get? dx=some od/\∀name,PySem.W.lookIn name od=some (mA name):=by
 obtain⟨o,c,l,g,f,hk,_,j⟩:=n;refine⟨o,g,λname=>?_⟩
 have e:=j name;unfold nsFind findBy at e;rw[<-Array.find?_toList]at e;unfold PySem.W.lookIn;rw[f]
 dsimp only
 split
 ·rename_i y q;rw[q]at e;exact congrArg some e
 ·rename_i q;rw[q]at e
  have a:c.toList.any (·.refKey)=false:=by
   rw[List.any_eq_false];intro y d;obtain⟨z,t,b⟩:=hk y (Array.mem_toList_iff.mp d);simp[DictEntry.refKey,b]
  have i: ¬c.toList.any (·.refKey)=true:=by rw[a];exact bd
  rw[if_neg i];exact congrArg some e
theorem ObjM.look(I:ObjM h x dx C mA): ∃od,PySem.W.InstAt h x (PySem.W.instObj C dx) C (some od)/\∀name,PySem.W.lookIn name od=some (mA name):=
 let ⟨od,ho,hl⟩:=w4 I.ns
 ⟨od,⟨I.obj,rfl,rfl,ho⟩,hl⟩
section
variable{E:cc}{s:Shared}{K:PySem.W.Frag}
theorem DY{Q:cc}(X:K.In s.heap)(I:ObjM s.heap x dx C mA)(hg:PySem.W.plainGet K C name=true)(hh:PySem.W.hasDictIn K C=true)(ha:PySem.W.findIn K (.ref C) name=some none)(hv:mA name=some v)(hv':PySem.W.handedIn v=true)(h:Q v {s with toks:=s.toks+1}):
  wpAny (model prog w) A (getAttr (.ref x) name expr) Q E s:=by
 obtain⟨b,J,a⟩:=I.look;exact PySem.W.get_value X J (PySem.W.plainGet_of hg).1 (PySem.W.findObj_own hh ha rfl (by rw[a,hv])) hv' h
theorem A3(X:K.In s.heap)(I:ObjM s.heap x dx C mA)(hg:PySem.W.plainGet K C name=true)(hf:PySem.W.findIn K (.ref C) name=some (some (.ref f)))(ht:PySem.W.isFn K (.ref f)=true)(hv:mA name=none)(h:Q (.ref f,[.ref x]) s):
  wpAny (model prog w) A (getMethod (.ref x) name pl) Q E s:=by
 obtain⟨b,J,a⟩:=I.look;exact PySem.W.method_fn X J (PySem.W.plainGet_of hg).1 (PySem.W.plainGet_of hg).2 hf (beq_iff_eq.mp ht) (by show(PySem.W.lookIn name b).map (·.isSome)=some false;rw[a,hv];rfl) h
theorem DZ(X:K.In s.heap)(I:ObjM s.heap x dx C mA)(hs:PySem.W.findIn K (.ref C) "__setattr__"=some (some (.builtin "object.__setattr__")))(hp:PySem.W.plainOver K C=true)(ht:PySem.W.takerIn K C name=some none)(hh:PySem.W.hasDictIn K C=true)(hw:PySem.Within mA ns)(hsz:ns.length<=sizeLine)(h: ∀h',ObjM h' x dx C (λy=>if y=name then some v else mA y)->Heap.SameBut dx s.heap h'->Q () {s with heap:=h',toks:=s.toks+2}):
  wpAny (model prog w) A (setAttr (.ref x) name v) Q E s:=by
 obtain⟨q,J,t⟩:=I.look;refine PySem.W.set_plain X J hs (PySem.W.osa_open (s:={s with toks:=s.toks+1}) (r:=none) X J hp ht λb=>?_)
 obtain⟨p,l,g⟩:=PySem.W.any_some hh
 have j:s.heap.get? x=some ⟨.ref C,some dx,.plain, #[]⟩:=I.obj
 refine aa (ac (aa (aa (wpAny_loadPart j (aa (PySem.W.Looks.here (s:={s with toks:=s.toks+1}) (PySem.W.looks_clsIn X l) ?_))))))
 rw[g];refine ac (a:=some dx) (aa (ac (aa ?_)));refine wpAny_nsSet1 (s:={s with toks:=s.toks+1}) I.ns λh' c d=>?_
 obtain⟨o,n,m,e,i,f⟩:=c.count (PySem.Within.cons name v hw);refine aa (wpAny_lookBehind e (by rw[i];exact pastItsLine_dict (Nat.le_trans f (by rw[bo];lia))) ?_)
 exact ac (h _ ⟨(d.2 _ (Ne.symm I.ne)).trans I.obj,c,I.ne⟩ d)
theorem A4(X:K.In s.heap)(hm:PySem.W.makesIn K C=true)(hi:PySem.W.findIn K (.ref C) "__init__"=some (some (.ref f)))(hf:PySem.W.typeIn K (.ref f)=some (.type "function"))(h:codeAny (model prog w) (A.under (.builtin "type.__call__" ⟨.ref C::vs,kw⟩)) (.call (.ref f) ⟨.ref (s.heap.objs.size+1)::vs,kw⟩) (PySem.W.InitBack (s.heap.objs.size+1) R)
   {s with heap:=(s.heap.push PySem.W.emptyDict).push (PySem.W.instObj C s.heap.objs.size)}):
  codeAny (model prog w) A (.call (.ref C) ⟨vs,kw⟩) R s:=by
 obtain⟨c,g,d,t,b⟩:=s;exact PySem.W.make_core (PySem.W.makes_of X hm) (PySem.W.looks_findIn X hi) (λa=>PySem.W.bind_fn X a hf) (.inl rfl) h
end
noncomputable def rF(f:Str)(v:V):List (Str×V)->List (Str×V)
 |[]=>[(f,v)]
 |(g,x)::r=>if g=f then(g,v)::r else(g,x)::rF f v r
theorem kJ(f g:Str)(v:V): ∀fs:List (Str×V),(rF f v fs).lookup g=if g=f then some v else fs.lookup g
 |[]=>by
  show List.lookup g [(f,v)]=_
  by_cases h:g=f
  ·have a:(g==f)=true:=beq_iff_eq.mpr h
   simp only[List.lookup,a,if_pos h]
  ·have a:(g==f)=false:=beq_eq_false_iff_ne.mpr h
   simp only[List.lookup,a,if_neg h]
 |(k,x)::r=>by
  have b:=kJ f g v r;rw[show rF f v ((k,x)::r)=(if k=f then(k,v)::r else(k,x)::rF f v r) from rfl]
  by_cases hk:k=f
  ·rw[if_pos hk]
   by_cases h:g=k
   ·have a:(g==k)=true:=beq_iff_eq.mpr h
    simp only[List.lookup,a,if_pos (h.trans hk)]
   ·have a:(g==k)=false:=beq_eq_false_iff_ne.mpr h
    simp only[List.lookup,a,if_neg (λe:g=f=>h (e.trans hk.symm))]
  ·rw[if_neg hk]
   by_cases h:g=k
   ·have a:(g==k)=true:=beq_iff_eq.mpr h
    simp only[List.lookup,a,if_neg (λe:g=f=>hk (h.symm.trans e))]
   ·have a:(g==k)=false:=beq_eq_false_iff_ne.mpr h
    simp only[List.lookup,a];exact b
theorem kM(f:Str)(v:V): ∀fs:List (Str×V),f∈(rF f v fs).map (·.1)/\∀g,g∈fs.map (·.1)->g∈(rF f v fs).map (·.1)
 |[]=>⟨by simp[rF],λg h=>by simp at h⟩
 |(k,x)::r=>by
  obtain⟨a,b⟩:=kM f v r;rw[show rF f v ((k,x)::r)=(if k=f then(k,v)::r else(k,x)::rF f v r) from rfl]
  by_cases hk:k=f
  ·rw[if_pos hk];subst hk;exact⟨by simp,λg h=>by simpa using h⟩
  ·rw[if_neg hk];refine⟨?_,λg h=>?_⟩
   ·rw[List.map_cons];exact List.mem_cons_of_mem _ a
   ·rw[List.map_cons]at h ⊢;rcases au.mp h with e|e
    ·exact au.mpr (.inl e)
    ·exact List.mem_cons_of_mem _ (b g e)
theorem kN(f:Str)(v:V): ∀fs:List (Str×V),(rF f v fs).length<=fs.length+1
 |[]=>by simp[rF]
 |(k,x)::r=>by
  have a:=kN f v r;rw[show rF f v ((k,x)::r)=(if k=f then(k,v)::r else(k,x)::rF f v r) from rfl]
  by_cases hk:k=f
  ·rw[if_pos hk,bo,bo];lia
  ·rw[if_neg hk,bo,bo];lia
theorem lW.some_of(r:lW (some v) o): ∃u,o=some u/\bG v u:=by
 cases o with
 |none=>exact(show False from r).elim
 |some u=>exact⟨u,rfl,r⟩
theorem lW.none_of(r:lW none o):o=none:=by
 cases o with
 |none=>rfl
 |some u=>exact(show False from r).elim
theorem w5(r:bG v u):PySem.W.handedIn u=true:=by
 cases v with
 |non=>cases (show u=Value.none from r);rfl
 |bl b=>cases (show u=Value.bool b from r);rfl
 |int i=>obtain⟨t,e⟩:=(show ∃t,u=Value.int i t from r);cases e;rfl
 |str x=>obtain⟨t,e⟩:=(show ∃t,u=Value.str x t from r);cases e;rfl
 |byt b=>obtain⟨t,e⟩:=(show ∃t,u=Value.bytes b t from r);cases e;rfl
 |flt b=>obtain⟨t,e⟩:=(show ∃t,u=Value.float b t from r);cases e;rfl
 |ref a=>cases (show u=Value.ref a from r);rfl
 |ty n=>cases (show u=Value.type n from r);rfl
theorem rQ(hok:HOk P w H h)(e:H a=some (.ins C dx fs)): ∃mA,ObjM h a dx C mA/\(∀f,lW (fs.lookup f) (mA f))/\PySem.Within mA (fs.map (·.1))/\fs.length<=1000/\H dx=some (.own a):=by
 obtain⟨d,z,b,c,mA,n,r,q⟩:=(show ObjOk P w H h a (.ins C dx fs) from hok a _ e)
 exact⟨mA,⟨c,n,b⟩,r,q,z,d⟩
structure Cls(K:PySem.W.Frag)(C:Addr):Prop where
 pg:PySem.W.plainGet K C Str.empty=true
 hd:PySem.W.hasDictIn K C=true
 po:PySem.W.plainOver K C=true
 sa:PySem.W.findIn K (.ref C) "__setattr__"=some (some (.builtin "object.__setattr__"))
theorem Cls.get{K:PySem.W.Frag}(c:Cls K C)(f:Str):PySem.W.plainGet K C f=true:=c.pg
def gU(K:PySem.W.Frag)(C:Addr)(f:Str):Prop:=PySem.W.findIn K (.ref C) f=some none
theorem gU.taker{K:PySem.W.Frag}(n:gU K C f):PySem.W.takerIn K C f=some none:=by
 unfold PySem.W.takerIn;rw[show PySem.W.findIn K (.ref C) f=some none from n]
 rfl
structure Meth(K:PySem.W.Frag)(C:Addr)(m:Str)(f:Addr):Prop where
 at_:PySem.W.findIn K (.ref C) m=some (some (.ref f))
 fn:PySem.W.isFn K (.ref f)=true
 kp:PySem.W.keepIn K (.ref f)=true
section
variable{σ:St}{E:cc}
theorem vO{Q:cc}(I:Inv X cb σ H s)(e:H a=some (.ins C dx fs))(c:Cls X.K C)(n:gU X.K C f)(l:fs.lookup f=some v)(h: ∀u s',Inv X cb σ H s'->bG v u->Q u s'):wpAny (model X.prog X.w) A (getAttr (.ref a) f b) Q E s:=by
 obtain⟨g,O,r,_,_,_⟩:=rQ I.hok e;obtain⟨u,i,d⟩:=lW.some_of (v:=v) (o:=g f) (by rw[<-l];exact r f)
 exact DY I.kIn O (c.get f) c.hd n i (w5 d) (h u _ (I.tok _) d)
theorem gF(I:Inv X cb σ H s)(e:H a=some (.ins C dx fs))(c:Cls X.K C)(k:Meth X.K C m g)(l:fs.lookup m=none)(h:Q (.ref g,[.ref a]) s):wpAny (model X.prog X.w) A (getMethod (.ref a) m pl) Q E s:=by
 obtain⟨d,O,r,_,_,_⟩:=rQ I.hok e
 have b:d m=none:=lW.none_of (by rw[<-l];exact r m)
 exact A3 I.kIn O (c.get m) k.at_ k.fn b h
theorem vP(I:Inv X cb σ H s)(e:H a=some (.ins C dx fs))(c:Cls X.K C)(n:gU X.K C f)(hl:fs.length<1000)(ry:bG y u)(h: ∀s',Inv X cb σ (upd H a (.ins C dx (rF f y fs))) s'->Q () s'):wpAny (model X.prog X.w) A (setAttr (.ref a) f u) Q E s:=by
 obtain⟨l,O,r,i,_,j⟩:=rQ I.hok e
 have p:(fs.map (·.1)).length<=sizeLine:=by rw[ao,sizeLine_eq];lia
 refine DZ I.kIn O c.sa c.po n.taker c.hd i p λB d m=>h _ ?_
 have hd: ∃o,B.get? dx=some o:=let ⟨o,_,_,e',_⟩:=d.ns;⟨o,e'⟩
 refine I.write (x:=a) (e:=dx) (by rw[e];exact True.intro) (.inr j) (λb q v z=>(m.2 b v).trans z) hd ?_
 refine⟨by rw[aC O.ne];exact j,?_,O.ne,d.obj,_,d.ns,λg=>?_,λg t=>?_⟩
 ·have:=kN f y fs;lia
 ·show lW ((rF f y fs).lookup g) (if g=f then some u else l g)
  rw[kJ]
  by_cases q:g=f
  ·rw[if_pos q,if_pos q];exact ry
  ·rw[if_neg q,if_neg q];exact r g
 ·by_cases q:g=f
  ·rw[q];exact(kM f y fs).1
  ·refine(kM f y fs).2 g (i g λz=>t ?_)
   show(if g=f then some u else l g)=none
   rw[if_neg q];exact z
theorem Inv.made(I:Inv X cb σ H s):Inv X cb σ (upd (upd H s.heap.objs.size (.own (s.heap.objs.size+1))) (s.heap.objs.size+1) (.ins C s.heap.objs.size []))
  {s with heap:=(s.heap.push PySem.W.emptyDict).push (PySem.W.instObj C s.heap.objs.size)}:=by
 have d:(s.heap.push PySem.W.emptyDict).get? s.heap.objs.size=some PySem.W.emptyDict:=af s.heap rfl
 have j:((s.heap.push PySem.W.emptyDict).push (PySem.W.instObj C s.heap.objs.size)).get? (s.heap.objs.size+1)=some (PySem.W.instObj C s.heap.objs.size):=by
  have:=af (s.heap.push PySem.W.emptyDict) (o:=PySem.W.instObj C s.heap.objs.size) rfl
  rwa [ah]at this
 have i:(s.heap.push PySem.W.emptyDict).Ns s.heap.objs.size (λ_=>none):=⟨PySem.W.emptyDict, #[],_,d,rfl,(λe h=>absurd h (by simp)),λ_=>rfl⟩
 have g:=I.laid (a:=s.heap.objs.size) (o:=.own (s.heap.objs.size+1)) (h':=s.heap.push PySem.W.emptyDict) (t':=s.toks) (λb u q=>ae _ q) (ai _) ⟨_,d⟩
 refine g.laid (a:=s.heap.objs.size+1) (o:=.ins C s.heap.objs.size []) (t':=s.toks) (λb u q=>ae _ q) (Nat.le_of_eq (ah _ _)) ?_
 have c:s.heap.objs.size≠s.heap.objs.size+1:=bg (Nat.lt_succ_self _);refine⟨by rw[aC c,aH],bt _,c,j,λ_=>none,(Heap.Ns1.of_empty i).at λo q=>ae _ q,λ_=>True.intro,λy f=>absurd rfl f⟩
theorem D0{Q:cc}(hb:attributeBase e f env (eval e env)=eval e env)(h:wpAny (model prog w) A (eval e env) (λo s₁=>wpAny (model prog w) A (getAttr o f true) Q E s₁) E s):wpAny (model prog w) A (eval (.Attribute e f pos) env) Q E s:=
 Attribute_any_ h (by rw[arm_eval_Attribute,hb])
end
def Kp(K:PySem.W.Frag)(ta:TE)(f:Str):TE:=λσ H Q=>ta σ H λx H1=>∃a C dx fs v,x= .ref a/\H1 a=some (.ins C dx fs)/\Cls K C/\gU K C f/\fs.lookup f=some v/\Q v H1
def MH(K:PySem.W.Frag)(ta tv:TE)(f:Str):TS:=λD σ H=>tv σ H λy H1=>ta σ H1 λx H2=>∃a C dx fs,x= .ref a/\H2 a=some (.ins C dx fs)/\Cls K C/\gU K C f/\fs.length<1000/\
 D.nx σ (upd H2 a (.ins C dx (rF f y fs)))
theorem gW(he:PE X e ta)(hb:attributeBase e f X.env (eval e X.env)=eval e X.env):PE X (.Attribute e f pos) (Kp X.K ta f):=by
 intro j s i H Q I h;refine D0 hb (thn (he j s i H _ I h) λu z b=>?_)
 obtain⟨x,t,g,p,a,C,y,fs,v,d,o,c,n,l,q⟩:=b;subst d;obtain rfl:u=Value.ref a:=p;exact vO g o c n l λB A m r=>⟨v,t,m,r,q⟩
theorem tH(ha:PE X o ta)(hv:PE X value tv)(hs:swapsWith value (some (.Attribute o f pos')) pos.line X.env=pure false):PS X (.Assign [.Attribute o f pos'] value pos) (MH X.K ta tv f):=by
 intro d s b H D I h;refine plainObj_wpAny_Assign_Attribute (thn (hv d s b H _ I h) λu r ⟨y,A,j,e,q⟩=>thn (ha d r b A _ j q) λp J ⟨x,B,m,v,a,C,E,fs,g,t,c,n,l,i⟩=>?_) hs
 subst g;obtain rfl:p=Value.ref a:=v;exact vP m t c n l e λG z=>⟨b,_,z,i⟩
structure Room(k:Nat)(A:Around):Prop where
 hd:A.handled=none
 dp:A.depth+3*k+5<recursionLimit
 un:A.units+16*k+200<cLine
theorem Room.mono(r:Room k A)(h:j<=k):Room j A:=⟨r.hd,by have:=r.dp;lia,by have:=r.un;lia⟩
theorem Room.deeper(r:Room (k+1) A)(env:Env):Room k (A.deeper env):=
 ⟨r.hd,by have:=r.dp;show A.depth+1+3*k+5<_;lia,by have:=r.un;show A.units+3+16*k+200<_;lia⟩
theorem vQ{A:Around}:(A.under (.builtin "type.__call__" ⟨.ref C::us,kw⟩)).depth=A.depth+1:=by
 first|rfl|simp[Around.under,Code.weight,Code.isCreation,Code.isGuard,Code.isCaller,Code.frames,Code.isFrame,guardIds]
theorem vR{A:Around}:(A.under (.builtin "type.__call__" ⟨.ref C::us,kw⟩)).units=A.units+1:=by
 first|rfl|simp[Around.under,Code.cUnits,Code.frames,Code.isFrame]
theorem Room.make(r:Room (k+1) A)(C:Addr)(us:List Value)(kw:List (Str×Value)):Room k (A.under (.builtin "type.__call__" ⟨.ref C::us,kw⟩)):=
 ⟨r.hd,by have:=r.dp;rw[vQ];lia,by have:=r.un;rw[vR];lia⟩
theorem Room.depth(r:Room k A):A.depth<recursionLimit:=by have:=r.dp;lia
theorem Room.units(r:Room k A):A.units+64<cLine:=by have:=r.un;lia
def GQ:TA:=λ_ H Q=>Q [] H
def rR(ta:TE)(tr:TA):TA:=λσ H Q=>ta σ H λx H1=>tr σ H1 λxs H2=>Q (x::xs) H2
section
variable{X:Cx}{e:Expr}{es:List Expr}{te:TE}{t:TA}
theorem eL:PA X [] GQ:=λ_ _ _ _ H Q I h=>Calls.spliced_nil ⟨[],H,I,.nil,h⟩
theorem cN(ha:PE X e te)(hr:PA X es t)(hs:starEach (e::es) X.env=(false,eval e X.env)::starEach es X.env:=by rfl):PA X (e::es) (rR te t):=by
 intro a d s c H Q I h;rw[hs];show wpAny _ _ (spliced ((false,eval e X.env)::backTo a (starEach es X.env))) _ _ s;refine Calls.spliced_cons (thn (ha d s c H _ I h) λu m b=>?_)
 obtain⟨x,o,i,n,q1⟩:=b;exact thn (hr a d m c o _ i q1) λr q ⟨j,f,l,p,g⟩=>⟨x::j,f,l,.cons n p,g⟩
def MJ(t:TA):TE:=λσ H Q=>t σ H λxs H1=>xs.length<=sizeLine/\∀p,H1 p=none->Q (.ref p) (upd H1 p (.tup xs))
def MP(t:TA):TE:=λσ H Q=>t σ H λxs H1=>xs.length<=sizeLine/\∀p,H1 p=none->Q (.ref p) (upd H1 p (.lst xs))
theorem CS(h:PA X es t):PE X (.Tuple es x1 pos) (MJ t):=by
 intro j s g H Q I f;refine wpAny_Tuple_spliced (thn (h pos j s g H _ I f) λm a ⟨i,d,c,r,z,q⟩=>⟨by rw[<-r.length];exact z,?_⟩)
 have l:d a.heap.objs.size=none:=c.hok.fresh (ai _)
 refine⟨.ref a.heap.objs.size,upd d a.heap.objs.size (.tup i),c.laid (t':=a.toks) (λb u e=>ae _ e) (ai _) ?_,rfl,q _ l⟩
 exact⟨z,m,r,⟨_,af _ rfl,rfl,_,rfl⟩,⟨_,af _ rfl,rfl⟩⟩
theorem tJ(h:PA X es t):PE X (.List es pos) (MP t):=by
 intro j s g H Q I f;refine wpAny_List_spliced (thn (h pos j s g H _ I f) λm a ⟨i,d,c,r,z,q⟩=>⟨by rw[<-r.length];exact z,?_⟩)
 have l:d a.heap.objs.size=none:=c.hok.fresh (ai _)
 refine⟨.ref a.heap.objs.size,upd d a.heap.objs.size (.lst i),c.laid (t':=a.toks) (λb u e=>ae _ e) (ai _) ?_,rfl,q _ l⟩
 exact⟨z,m,0,r,af _ rfl⟩
end
abbrev Sp:=List V->Hp->VK->XK->Prop
abbrev CXT:=List Env->Hp->Shared->XK->Value->Shared->Prop
structure Env0(P:Program)(w:World)(K:PySem.W.Frag)(mg:Str->Option Value)(base:Heap)(A:Around)(outer:List Env)(s:Shared)(H:Hp):Prop where
 frames:A.frames=some outer
 mod:Mod K mg base
 bs: ∀b o,base.get? b=some o->s.heap.get? b=some o/\H b=none
 bsz:base.objs.size<=s.heap.objs.size
 funs:s.heap.FunFrames base outer
 frf: ∀b∈frs outer,H b=none
 hok:HOk P w H s.heap
 bare:AllBare s.gens
def CE(outer:List Env)(P:Program)(w:World)(H:Hp)(s:Shared)(Q:VK)(u:Value)(s':Shared):Prop:=
 ∃v H',s'.os=s.os/\AllBare s'.gens/\Un (frs outer) [] H H' s.heap s'.heap/\HOk P w H' s'.heap/\bG v u/\Q v H'
def CR(CX:CXT)(outer:List Env)(P:Program)(w:World)(H:Hp)(s:Shared)(Q:VK)(E:XK)(r:Result)(s':Shared):Prop:=
 match r with
 |.ok (.ret u)=>CE outer P w H s Q u s'
 |.ok _=>False
 |.error e=>CX outer H s E e s'
structure FnOk(P:Program)(w:World)(K:PySem.W.Frag)(mg:Str->Option Value)(base:Heap)(CX:CXT)(k:Nat)(f:Addr)(fd:FuncData)(ps:List Str)(sp:Sp):Prop where
 len: ∀vs H Q E,sp vs H Q E->vs.length=ps.length
 run: ∀(A:Around) (outer:List Env) (s:Shared) (H:Hp) (args:Args) (us:List Value) (vs:List V) (Q:VK) (E:XK),Room k A->Env0 P w K mg base A outer s H->BindsTo s fd args (ps.zip us)->bS vs us->sp vs H Q E->
  codeAny (model P w) A (.call (.ref f) args) (CR CX outer P w H s Q E) s
theorem Env0.make{K:PySem.W.Frag}(e:Env0 P w K mg base A outer s H)(C:Addr)(us:List Value)(kw:List (Str×Value)):
  Env0 P w K mg base (A.under (.builtin "type.__call__" ⟨.ref C::us,kw⟩)) outer s H:=⟨by first|exact e.frames|(simpa[Around.under,Code.envs,Code.isFrame,pushEnvs]using e.frames),e.mod,e.bs,e.bsz,e.funs,e.frf,e.hok,e.bare⟩
section
variable{σ:St}
theorem Inv.env0(I:Inv X cb σ H s):Env0 X.prog X.w X.K X.mg X.base X.A X.stack s H:=
 ⟨I.ok.frames,I.ok.mod,I.bs,Nat.le_trans I.ok.bsz I.sz,I.stack,I.stkFree,I.hok,I.bare⟩
theorem Inv.after(I:Inv X cb σ H s)(h:CE X.stack X.prog X.w H s Q u s'):EP X cb σ Q u s':=by
 obtain⟨v,f,os,a,un,c,r,q⟩:=h;obtain⟨i,g,d,t,e⟩:=s';obtain rfl:e=s.os:=os;exact⟨v,f,I.call (h':=i) (g':=g) (d':=d) (t':=t) (ch:=[]) un c a (λb z=>absurd z (by simp)),r,q⟩
end
def K0(C:Addr)(sp:Sp)(dvs:List V)(E:XK)(t:TA):TE:=λσ H Q=>t σ H λvs H1=>∀x dx,H1 x=none->H1 dx=none->dx≠x->
 sp (.ref x::(vs++dvs)) (upd (upd H1 dx (.own x)) x (.ins C dx [])) (λv H2=>v= .non/\Q (.ref x) H2) E
def d6(K:PySem.W.Frag)(fd:FuncData)(ps:List Str)(ds:List Value):Prop:=
 ∀(s:Shared) (us:List Value),K.In s.heap->(us++ds).length=ps.length->BindsTo s fd ⟨us,[]⟩ (ps.zip (us++ds))
theorem d6.all{K:PySem.W.Frag}(h: ∀us:List Value,us.length=ps.length->bindArgs fd ⟨us,[]⟩=pure (ps.zip us)):d6 K fd ps []:=λs us _ a=>by
 rw[List.append_nil]at a ⊢;exact .of_eq (h us a)
def CT(CX:CXT)(X:Cx)(E:XK):Prop:= ∀(cb:ce) (σ:St) (H:Hp) (s:Shared) (e:Value) (s':Shared),Inv X cb σ H s->CX X.stack H s E e s'->X.xe e s'
section
variable{X:Cx}{CX:CXT}{k:Nat}{f C:Addr}{fd:FuncData}{ps:List Str}{sp:Sp}{dvs:List V}{ds:List Value}{E:XK}{x:Str}{p pos:Pos}
structure Mk(K:PySem.W.Frag)(C f:Addr):Prop where
 makes:PySem.W.makesIn K C=true
 init:PySem.W.findIn K (.ref C) "__init__"=some (some (.ref f))
 fn:PySem.W.isFn K (.ref f)=true
 kp:PySem.W.keepIn K (.ref C)=true
theorem A5{cb:ce}{σ:St}{H:Hp}{s:Shared}{Q:VK}{us:List Value}{vs:List V}(M:Mk X.K C f)(F:FnOk X.prog X.w X.K X.mg X.base CX k f fd ps sp)(hr:Room (k+1) X.A)(hb:d6 X.K fd ps ds)(hd:bS dvs ds)(hx:CT CX X E)(I:Inv X cb σ H s)(r:bS vs us)(h: ∀x dx,H x=none->H dx=none->dx≠x->sp (.ref x::(vs++dvs)) (upd (upd H dx (.own x)) x (.ins C dx [])) (λv H2=>v= .non/\Q (.ref x) H2) E):
  wpAny (model X.prog X.w) X.A (call (.ref C) us) (EP X cb σ Q) X.xe s:=by
 have c:=h (s.heap.objs.size+1) s.heap.objs.size (I.hok.fresh (Nat.le_succ _)) (I.hok.fresh (ai _)) (bg (Nat.lt_succ_self _));have b:=Inv.made (C:=C) I;have d:bS (V.ref (s.heap.objs.size+1)::(vs++dvs)) (Value.ref (s.heap.objs.size+1)::(us++ds)):=.cons rfl (r.append hd)
 have o:(Value.ref (s.heap.objs.size+1)::us++ds).length=ps.length:=by
  have e:=d.length;rw[F.len _ _ _ _ c]at e;exact e.symm
 refine wpAny_call (A4 (f:=f) I.kIn M.makes M.init (beq_iff_eq.mp M.fn) (codeAny_mono (F.run _ X.stack _ _ ⟨Value.ref (s.heap.objs.size+1)::us,[]⟩ (Value.ref (s.heap.objs.size+1)::(us++ds)) _ _ E (hr.make C us [])
  (b.env0.make C us []) (hb _ (Value.ref (s.heap.objs.size+1)::us) b.kIn o) d c) λr l a=>?_))
 cases r with
 |error e=>exact hx cb σ _ _ e l b a
 |ok g=>
  cases g with
  |ret u=>
   obtain⟨v,m,j,n,ev,i⟩:=b.after a;subst ev;exact⟨n,⟨V.ref (s.heap.objs.size+1),m,j,rfl,i⟩⟩
  |next=>exact az a
  |brk=>exact az a
  |cont=>exact az a
theorem A6(M:Mk X.K C f)(F:FnOk X.prog X.w X.K X.mg X.base CX k f fd ps sp)(hr:Room (k+1) X.A)(hg:Gl X x)(hm:X.mg x=some (.ref C))(hb:d6 X.K fd ps ds)(hd:bS dvs ds)(hx:CT CX X E)
  (hdb:(x==("__debug__":Str))=false:=by decide):PE X (.Call (.Name x p) [] [] pos) (K0 C sp dvs E GQ):=by
 intro a s b H Q I h;refine wpAny_Call_Name_kw (fI I hg hm ?_ hdb);exact PySem.W.callWith_K0 I.kIn M.kp (A5 (us:=[]) M F hr hb hd hx I .nil h)
end
structure FnScope(N P:List Str)(sc:Scope):Prop where
 kind:sc.kind= .function
 co:sc.isCoroutine=false
 gen:sc.isGenerator=false
 nd:N.Nodup
 pre:N.take P.length=P
 par: ∀x∈P,sc.names.lookup x=some .local\/sc.names.lookup x=some .cell
 nofree: ∀y∈sc.names,y.2≠ .free
theorem pE{kindOf:Str->Option NameKind}{x:Str}: ∀{binds:List (Str×Value)} {m:Str->Option Value},(∀v,(x,v)∉binds)->bindL kindOf binds m x=m x
 |[],_,_=>rfl
 |(n,v)::r,m,h=>by
  unfold bindL;rw[pE λw a=>h w (List.mem_cons_of_mem _ a)]
  split
  ·have:x≠n:=by rintro rfl;exact h v List.mem_cons_self
   simp[this]
  ·rfl
theorem pF{kindOf:Str->Option NameKind}{x:Str}: ∀{binds:List (Str×Value)} {m:Str->Option Value},(∀v,(x,v)∉binds)->bindC kindOf binds m x=m x
 |[],_,_=>rfl
 |(n,v)::r,m,h=>by
  unfold bindC;rw[pF λw a=>h w (List.mem_cons_of_mem _ a)]
  split
  ·rfl
  ·have:x≠n:=by rintro rfl;exact h v List.mem_cons_self
   simp[this]
theorem pG{kindOf:Str->Option NameKind}{x:Str}{v:Value}: ∀{P:List Str} {vs:List Value} {i:Nat} {m:Str->Option Value},P.Nodup->P[i]? =some x->vs[i]? =some v->kindOf x=some .local->
  bindL kindOf (P.zip vs) m x=some v
 |[],_,_,_,_,h,_,_=>by simp at h
 |_::_,[],_,_,_,_,h,_=>by simp at h
 |p::P,w::vs,0,m,nd,h1,h2,hk=>by
  simp at h1 h2;subst h1;subst h2
  show bindL kindOf ((p,w)::P.zip vs) m p=_;unfold bindL;rw[pE λv a=>(List.nodup_cons.mp nd).1 (List.of_mem_zip a).1,if_pos hk]
  simp
 |p::P,w::vs,i+1,m,nd,h1,h2,hk=>by
  show bindL kindOf ((p,w)::P.zip vs) m x=_;unfold bindL;exact pG (i:=i) (List.nodup_cons.mp nd).2 (by simpa using h1) (by simpa using h2) hk
theorem pH{kindOf:Str->Option NameKind}{x:Str}{v:Value}: ∀{P:List Str} {vs:List Value} {i:Nat} {m:Str->Option Value},P.Nodup->P[i]? =some x->vs[i]? =some v->kindOf x≠some .local->
  bindC kindOf (P.zip vs) m x=some v
 |[],_,_,_,_,h,_,_=>by simp at h
 |_::_,[],_,_,_,_,h,_=>by simp at h
 |p::P,w::vs,0,m,nd,h1,h2,hk=>by
  simp at h1 h2;subst h1;subst h2
  show bindC kindOf ((p,w)::P.zip vs) m p=_;unfold bindC;rw[pF λv a=>(List.nodup_cons.mp nd).1 (List.of_mem_zip a).1,if_neg hk]
  simp
 |p::P,w::vs,i+1,m,nd,h1,h2,hk=>by
  show bindC kindOf ((p,w)::P.zip vs) m x=_;unfold bindC;exact pH (i:=i) (List.nodup_cons.mp nd).2 (by simpa using h1) (by simpa using h2) hk
def start(N:List Str)(vs:List V):St:=vs.map some++aj (N.length-vs.length) none
def jW(CX:CXT)(P:Program)(w:World)(K:PySem.W.Frag)(mg:Str->Option Value)(base:Heap)(N:List Str)(qual:Str)(scope:Scope)(f:Addr)(cd:Value)(A:Around)(outer:List Env)(s:Shared)(H:Hp)(E:XK):Cx where
 prog:=P
 w:=w
 K:=K
 mg:=mg
 base:=base
 A:=A.deeper (envOfC qual scope s.heap.objs.size f cd)
 N:=N
 s₀:=s
 H₀:=H
 env:=envOfC qual scope s.heap.objs.size f cd
 outer:=outer
 stack:=envOfC qual scope s.heap.objs.size f cd::outer
 ex:=[]
 calm:=true
 fn:=λ_=>true
 pn:=[]
 xe:=λe s'=>wpAny (model P w) (A.deeper (envOfC qual scope s.heap.objs.size f cd)) (leaving (envOfC qual scope s.heap.objs.size f cd) e) (λ_ s''=>CX outer H s E e s'') (λe' s''=>CX outer H s E e' s'') s'
theorem tK{sc:Scope}(h:sc.names.lookup x=some .cell): ∃c,(cellsFrom n sc.names []).lookup x=some c:=by
 have q:=PySem.W.cellsFrom_some sc.names n [] (.inl h);exact Option.isSome_iff_exists.mp q
theorem fY{K:PySem.W.Frag}(S:FnScope N ps scope)(hd:A.handled=none)(e0:Env0 P w K mg base A outer s H)(hl:vs.length=ps.length)(r:bS vs us)(x:InCallC s s.heap.objs.size (bindL (envOfC qual scope s.heap.objs.size f cd).kindOf (ps.zip us) λ_=>none) (cellsFrom (s.heap.objs.size+1) scope.names []) (bindC (envOfC qual scope s.heap.objs.size f cd).kindOf (ps.zip us) λ_=>none) s1):
  Inv (jW CX P w K mg base N qual scope f cd A outer s H E) [] (start N vs) H s1:=by
 have G:ps.length<=N.length:=by have:=congrArg List.length S.pre;rw[List.length_take]at this;lia
 obtain⟨t,L,rfl,hk⟩:=x.done;have j: ∀b:Addr,b∉(jW CX P w K mg base N qual scope f cd A outer s H E).ex:=λb z=>absurd (show b∈([]:List Addr) from z) (by simp)
 refine⟨⟨e0.mod,S.kind,rfl,rfl,ai _,λy z c t d=>?_,λy g=>?_,λy c _ h=>?_,λ_=>hd,Around.frames_deeper e0.frames,.inr ⟨rfl,rfl⟩,λb z=>absurd z (j b),e0.bs,e0.bsz,λb _ _=>j b,λb z=>absurd z (j b),e0.funs,e0.frf⟩,
  rfl,e0.bare,Un.kept hk,⟨_,x.toInCall.ns,λi y v t d J=>?_⟩,λy c h=>⟨_,x.cell y c h⟩,e0.hok.fresh (ai _),λy c h=>?_,λp m=>absurd (show p∈([]:ce) from m) (by simp),e0.hok.kept hk,?_⟩
 ·exact name_of_addr x.apart (PySem.mem_of_lookup t) (PySem.mem_of_lookup d)
 ·have g:scope.names.lookup y=some .cell\/scope.names.lookup y=some .free:=g
  rcases g with g|g
  ·exact tK g
  ·exact absurd rfl (S.nofree _ (PySem.mem_of_lookup g))
 ·exact Nat.le_of_lt (x.above y c (PySem.mem_of_lookup h))
 ·have o:i<vs.length:=by
   unfold start at d
   by_cases o:i<vs.length
   ·exact o
   ·rw[bj (by simpa using o)]at d
    rw[List.getElem?_replicate]at d;split at d<;>cases d
  have C:vs[i]? =some v:=by
   unfold start at d;rw[bu (by simpa using o),List.getElem?_map]at d
   cases e:vs[i]? with
   |none=>rw[e]at d;cases d
   |some a=>rw[e]at d;cases d;rfl
  obtain⟨u,B,I⟩:=r.get C
  have m:ps[i]? =some y:=by
   rw[<-S.pre,List.getElem?_take_of_lt (by lia)];exact t
  have l:ps.Nodup:=by rw[<-S.pre];exact S.nd.sublist (List.take_sublist _ _)
  refine⟨u,I,?_⟩;rcases S.par y (List.mem_of_getElem? m)with k|k
  ·exact .inl ⟨k,pG l m B k⟩
  ·obtain⟨c,e⟩:=tK (n:=s.heap.objs.size+1) k;refine .inr ⟨.inl k,c,e,?_⟩;have q:=x.cell y c e;rw[pH l m B (by show scope.names.lookup y≠_;rw[k];decide)]at q
   exact q
 ·exact e0.hok.fresh (Nat.le_of_lt (x.above y c (PySem.mem_of_lookup h)))
 ·unfold start;show _=N.length;rw[bn,ao,List.length_replicate]
  lia
theorem D1{K:PySem.W.Frag}{dV kV doc pm cdv ct oc:Value}(lk:K.lookup f=some ⟨oc,od,.func (PySem.W.fnOf name qual params body scope dV kV doc pm an cdv ct),osl⟩)(hcd:PySem.W.codeIn K cdv qual=true)(S:FnScope N ps scope)(len: ∀vs H Q E,sp vs H Q E->vs.length=ps.length)(hbody: ∀(A:Around) (outer:List Env) (s:Shared) (H:Hp) (vs:List V) (Q:VK) (E:XK),Room k (A.deeper (envOfC qual scope s.heap.objs.size f cdv))->sp vs H Q E->
   ∃t,PSs (jW CX P w K mg base N qual scope f cdv A outer s H E) body t/\t {nx:=λ_ H'=>Q .non H',rt:=Q} (start N vs) H):
  FnOk P w K mg base CX (k+1) f (PySem.W.fnOf name qual params body scope dV kV doc pm an cdv ct) ps sp:=by
 refine⟨len,λA outer s H args C vs Q E j i X r h=>?_⟩
 have O:=len _ _ _ _ h;have B:K.In s.heap:=i.mod.kin.keeps λb o e=>(i.bs b o e).1
 have l:s.heap.NoLimit:=i.mod.nolimit.keeps λb o e=>(i.bs b o e).1
 have c: ∀y∈ps.zip C,scope.names.lookup y.1=some .local\/(scope.names.lookup y.1=some .cell/\((cellsFrom (s.heap.objs.size+1) scope.names []).lookup y.1).isSome=true):=λ⟨n,v⟩ U=>by
  rcases S.par n (List.of_mem_zip U).1 with q|q
  ·exact .inl q
  ·exact .inr ⟨q,PySem.W.cellsFrom_some _ _ _ (.inl q)⟩
 refine codeAny_call_function j.depth (B _ _ lk) rfl S.co S.gen rfl (PySem.W.codeRec_of B hcd) (X _ _ _ _ ?_);refine wpAny_newFunctionEnv_cells S.kind c λT Y z x=>?_
 subst Y;refine⟨l.keeps x.toInCall.keep,codeAny_func ?_⟩;obtain⟨t,M,G⟩:=hbody A outer s H vs Q E (j.deeper _) h;have I:Inv (jW CX P w K mg base N qual scope f cdv A outer s H E) [] (start N vs) H z:=fY S j.hd i O r x;refine wpAny_mono (M [] z (start N vs) H _ I G) (λL m d=>?_) λe m d=>d
 have g: ∀{a:St} {H':Hp} {v:V} {u:Value},Inv (jW CX P w K mg base N qual scope f cdv A outer s H E) [] a H' m->bG v u->Q v H'->CE outer P w H s Q u m:=
  λ{a H' v u} J p q=>⟨v,H',J.os,J.bare,J.base,J.hok,p,q⟩
 cases L with
 |ret u=>
  obtain⟨v,a,H',J,p,q⟩:=d;exact g J p q
 |next=>
  obtain⟨a,H',J,q⟩:=d;exact g (v:=V.non) (u:=Value.none) J rfl q
 |brk=>
  obtain⟨_,_,_,q⟩:=d;exact az q
 |cont=>
  obtain⟨_,_,_,q⟩:=d;exact az q
section
variable{X:Cx}{x:Str}{p pos:Pos}{e:Expr}{es:List Expr}{t:TA}{id:String}{r:List V->Hp->VK->Prop}
def tCB(r:List V->Hp->VK->Prop)(t:TA):TE:=λσ H Q=>t σ H λvs H1=>r vs H1 Q
theorem tN(hc:lY X (.builtin id) r)(hg:Gl X x)(hm:X.mg x=none)(hv:bootBuiltins x=some (.builtin id))(ha:PA X (e::es) t)(hn:x≠"__name__":=by decide)(hdb:(x==("__debug__":Str))=false:=by decide)
  (he:starEach (e::es) X.env=(false,eval e X.env)::starEach es X.env:=by rfl) (hpl:(backTo pos (starEach es X.env)).any (·.1)=false:=by rfl):PE X (.Call (.Name x p) (e::es) [] pos) (tCB r t):=by
 intro b s a H Q I h;refine wpAny_Call_Name_kw (fX I hg hm hv ?_ hn hdb);exact PyProof.Rows.callWith_builtin1 (thn (ha pos b s a H _ I h) λi g ⟨c,f,d,j,q1⟩=>hc b g a f c i Q d j q1) he hpl
end
end L2
namespace HT
open PySem PyProof.Rows
section
open PySem.SeqAt
open PySem.AutoSeq1 (wpAny_loadPart')
open PySem.MeetsSeq PySem.MeetsSeq2 PySem.MeetsSeq3
end
noncomputable def sIx(n d:Nat):Option Int->Nat
 |none=>d
 |some v=>if v<0 then(v+(n:Int)).toNat else min v.toNat n
end HT
namespace L2
open PySem PySem.Spec PyProof.Rows
abbrev TO:=St->Hp->(Option Int->Hp->Prop)->Prop
section
variable{X:Cx}{lo hi:Option Expr}
def SlR(X:Cx)(r:V->Option Int->Option Int->Hp->VK->Prop):Prop:=
 ∀(cb:ce) (s:Shared) (σ:St) (H:Hp) (x:V) (v vl vu:Value) (lo hi:Option Int) (sl:Addr) (Q:VK),Inv X cb σ H s->bG x v->s.heap.IsSliceOf sl vl vu .none->IsPart vl lo->IsPart vu hi->r x lo hi H Q->
  ∃T id,typeLookup (.type T) "__getitem__"=pure (some (.builtin id))/\s.TypeIs v T/\wpAny (model X.prog X.w) X.A (getItem v (.ref sl)) (EP X cb σ Q) X.xe s
def GR(xs:List V)(lo hi:Option Int):List V:=(xs.drop (HT.sIx xs.length 0 lo)).take (HT.sIx xs.length xs.length hi-HT.sIx xs.length 0 lo)
theorem rS(xs:List V)(lo hi:Option Int):(GR xs lo hi).length<=xs.length:=by
 unfold GR;rw[List.length_take,List.length_drop]
 lia
end
noncomputable def ixN(n:Nat)(i:Int):Option Nat:=if 0<=i then(if i<n then some i.toNat else none)else if -(n:Int)<=i then some (i+n).toNat else none
def atI{α:Type}(xs:List α)(i:Int):Option α:=(ixN xs.length i).bind λj=>xs[j]?
theorem w6(h:ixN n i=some j):seqIndex? i n=some j/\j<n/\ -(n:Int)<=i/\i<n:=by
 unfold ixN at h
 by_cases b:0<=i
 ·rw[if_pos b]at h
  by_cases a:i<n
  ·rw[if_pos a]at h
   have e:i.toNat=j:=Option.some.inj h
   exact⟨by rw[seqIndex_of b a,e],by lia,by lia,a⟩
  ·rw[if_neg a]at h;cases h
 ·rw[if_neg b]at h
  by_cases a: -(n:Int)<=i
  ·rw[if_pos a]at h
   have e:(i+n).toNat=j:=Option.some.inj h
   exact⟨by rw[seqIndex_neg (by lia) a,e],by lia,a,by lia⟩
  ·rw[if_neg a]at h;cases h
theorem rU{xs:List α}{v:α}(h:atI xs i=some v): ∃j,seqIndex? i xs.length=some j/\xs[j]? =some v/\j<xs.length/\ -(xs.length:Int)<=i/\i<xs.length:=by
 unfold atI at h
 cases e:ixN xs.length i with
 |none=>rw[e]at h;cases h
 |some j=>
  rw[e]at h;obtain⟨a,d,b,c⟩:=w6 e;exact⟨j,a,h,d,b,c⟩
def w8(b:Expr):Prop:= ∀o i,subscripted b false o i=operate [o,i] (getItem o i)
def IxR(X:Cx)(r:R2):Prop:=
 ∀(value slice:Expr) (cb:ce) (s:Shared) (σ:St) (H:Hp) (x y:V) (v u:Value) (Q:VK),Inv X cb σ H s->bG x v->bG y u->r x y H Q->
  subscripted slice false v u=operate [v,u] (getItem v u)->wpAny (model X.prog X.w) X.A (subscriptTail value slice v u) (EP X cb σ Q) X.xe s
def MtR(X:Cx)(id:String)(r:V->List V->Hp->VK->Prop):Prop:=
 ∀(cb:ce) (s:Shared) (σ:St) (H:Hp) (x:V) (xs:List V) (v:Value) (us:List Value) (Q:VK),Inv X cb σ H s->bG x v->bS xs us->r x xs H Q->
  wpAny (model X.prog X.w) X.A (call (.builtin id) (v::us)) (EP X cb σ Q) X.xe s
section
variable{X:Cx}{a b o e:Expr}{es:List Expr}{to:TE}{t:TA}{name:Str}{apos cpos:Pos}{T id:String}{r:V->List V->Hp->VK->Prop}
def L5(K:PySem.W.Frag):R2:=λx y H Q=>∃p xs i v,x= .ref p/\y= .int i/\SqL K H p xs/\atI xs i=some v/\Q v H
def L6(K:PySem.W.Frag):R2:=λx y H Q=>∃p xs i v,x= .ref p/\y= .int i/\SqT K H p xs/\atI xs i=some v/\Q v H
def L8:R2:=λx y H Q=>∃z i c,x= .str z/\y= .int i/\z.length<=sizeLine/\atI z.cps.toList i=some c/\Q (.str ⟨#[c]⟩) H
theorem D2:IxR X (L5 X.K):=by
 intro d g n s m H x y v u Q I E L h o;obtain⟨p,T,i,z,rfl,rfl,C,M,q⟩:=h;cases E;obtain⟨t,rfl⟩:=L;obtain⟨c,r,l,W⟩:=I.list C;obtain⟨j,b,S,Y,O,N⟩:=rU M;obtain⟨w,B,e⟩:=r.get S;have J:=r.length;have U:=mD;have a:EP X n m Q w s:=⟨z,H,I,e,q⟩
 by_cases A:0<=i
 ·have f:i.toNat=j:=by
   rw[seqIndex_of A N]at b;exact Option.some.inj b
  exact item_listR l.isList A (by lia) (by rw[f];simpa using B) a o
 ·have f:(i+(c.toArray.size:Int)).toNat=j:=by
   rw[seqIndex_neg (by lia) O]at b
   rw[aw, <-J];exact Option.some.inj b
  exact subscriptTail_builtinR (x:=w) l.isList.typeIs slot_list_getitem.lookup
   (wpAny_getItem_list_neg (Q:=λr G=>r=w/\EP X n m Q r G) l.isList (by lia) (by rw[aw]<;>lia) (by lia) (by rw[f];simpa using B) ⟨rfl,a⟩) o
theorem HF:IxR X (L6 X.K):=by
 intro b d f s e H x y v u Q I o E h m;obtain⟨p,M,i,z,rfl,rfl,l,G,q⟩:=h;cases o;obtain⟨t,rfl⟩:=E;obtain⟨n,r,g,O⟩:=I.tuple l;obtain⟨j,A,L,S,U,T⟩:=rU G;obtain⟨w,J,c⟩:=r.get L;have C:=r.length;have N:=mD;have a:EP X f e Q w s:=⟨z,H,I,c,q⟩
 exact subscriptTail_builtinR (x:=w) g.typeIs slot_tuple_getitem.lookup
  (getItem_tuple (j:=j) (Q:=λr B=>r=w/\EP X f e Q r B) g (by lia) (by lia) (by rw[aw, <-C];exact A) (by simpa using J) ⟨rfl,a⟩) m
theorem gX:IxR X L8:=by
 intro b a G s E H x y v u Q I o e h l;obtain⟨z,i,c,rfl,rfl,B,f,q⟩:=h;obtain⟨t,rfl⟩:=o;obtain⟨K,rfl⟩:=e;obtain⟨j,d,A,C,p,n⟩:=rU f
 have r:z.cps.toList.length=z.length:=by simp[Str.length]
 rw[r]at d p n;have J:=mD
 exact tail_any (typeIs_str s z t) slot_str_getitem.lookup (getItem_str (c:=c) (by
  have m:decide (i< -(2^63:Int))=false:=decide_eq_false (by lia)
  have g:decide (i≥2^63)=false:=decide_eq_false (by lia)
  rw[m,g,Bool.or_false]) (by rw[d];simpa using A) ⟨.str ⟨#[c]⟩,H,I.tok _,⟨_,rfl⟩,q⟩) l
def rIx(K:PySem.W.Frag):R2:=λx y H Q=>L5 K x y H Q\/L6 K x y H Q\/L8 x y H Q
theorem vS(its:List Value)(n j:Nat)(u:Value):Obj.mapSeq (·.setIfInBounds j u) {cls:=.type "list",data:=.seq its.toArray n}={cls:=.type "list",data:=.seq (its.set j u).toArray n}:=by
 simp[Obj.mapSeq]
theorem Inv.lst{σ:St}(I:Inv X cb σ H s)(h:H p=some (.lst xs)):
  ∃(its:List Value) (n:Nat),bS xs its/\s.heap.get? p=some {cls:=.type "list",data:=.seq its.toArray n}/\xs.length<=sizeLine:=by
 obtain⟨z,its,n,r,e⟩:=I.hok p _ h;exact⟨its,n,r,e,z⟩
theorem Inv.lstUpd{σ:St}{its its':List Value}(I:Inv X cb σ H s)(h:H p=some (.lst xs))(ho:s.heap.get? p=some {cls:=.type "list",data:=.seq its.toArray n})(hf:f {cls:=.type "list",data:=.seq its.toArray n}={cls:=.type "list",data:=.seq its'.toArray n'})(r:bS ys its')(hz:ys.length<=sizeLine)(t:Nat):
  Inv X cb σ (upd H p (.lst ys)) {s with heap:=s.heap.update p f,toks:=t}:=by
 have e:(s.heap.update p f).get? p=some {cls:=.type "list",data:=.seq its'.toArray n'}:=by
  rw[Heap.get?_update_self f ho (by rw[hf]<;>rfl),hf]
 refine I.write (x:=p) (e:=p) (by rw[h];trivial) (.inl rfl) (λb u a q=>(Heap.get?_update_other _ _ (Ne.symm a)).trans q) ⟨_,e⟩ ?_
 exact⟨hz,its',n',r,e⟩
def HG:V->V->V->Hp->(Hp->Prop)->Prop:=λo i v H Q=>∃p xs k j,o= .ref p/\i= .int k/\H p=some (.lst xs)/\ixN xs.length k=some j/\Q (upd H p (.lst (xs.set j v)))
theorem A7:KO X HG:=by
 intro z s x H o i v J iv u Q I E C G h;obtain⟨p,y,k,j,rfl,rfl,f,A,q⟩:=h;cases E;obtain⟨t,rfl⟩:=C;obtain⟨a,n,r,c,B⟩:=I.lst f;obtain⟨b,L,g,m⟩:=w6 A;have d:=r.length;have K:=mD
 have e:Inv X z x (upd H p (.lst (y.set j v))) {s with heap:=s.heap.update p (Obj.mapSeq (·.setIfInBounds j u))}:=
  I.lstUpd f c (vS a n j u) (r.set G j) (by rw[List.length_set];exact B) s.toks
 by_cases l:0<=k
 ·have hk:k.toNat=j:=by
   rw[seqIndex_of l m]at b;exact Option.some.inj b
  exact PySem.W.ki_setAt c l (by lia) (by rw[aw, <-d];exact m) (by rw[hk];exact⟨_,e,q⟩)
 ·have hk:(k+(a.toArray.size:Int)).toNat=j:=by
   rw[seqIndex_neg (by lia) g]at b
   rw[aw, <-d];exact Option.some.inj b
  exact PySem.W.ki_setBack c (by lia) (by rw[aw, <-d];exact g) (by lia) (by rw[hk];exact⟨_,e,q⟩)
theorem pI(lo hi:Option Int)(n:Nat):(sliceBounds lo hi none n).1=((HT.sIx n 0 lo:Nat):Int)/\(sliceBounds lo hi none n).2.1=((HT.sIx n n hi:Nat):Int)/\(sliceBounds lo hi none n).2.2=1:=by
 refine⟨?_,?_,rfl⟩
 ·cases lo with
  |none=>simp[sliceBounds,HT.sIx]
  |some i=>
   simp only[sliceBounds,HT.sIx,Option.getD_none,show(1:Int) > 0 by decide,if_true]
   by_cases h:i<0
   ·simp only[h,if_true]<;>lia
   ·simp only[h,if_false]<;>lia
 ·cases hi with
  |none=>simp[sliceBounds,HT.sIx]
  |some i=>
   simp only[sliceBounds,HT.sIx,Option.getD_none,show(1:Int) > 0 by decide,if_true]
   by_cases h:i<0
   ·simp only[h,if_true]<;>lia
   ·simp only[h,if_false]<;>lia
theorem nF(its:List Value)(lo hi:Option Int):slicePick its.toArray lo hi none=((its.drop (HT.sIx its.length 0 lo)).take (HT.sIx its.length its.length hi-HT.sIx its.length 0 lo)).toArray:=by
 obtain⟨b,a,c⟩:=pI lo hi its.toArray.size;unfold slicePick;rw[b,a,c];simp only[sliceRange_one,pick_run,aw]<;>rfl
def MQ(K:PySem.W.Frag):V->Option Int->Option Int->Hp->VK->Prop:=λx lo hi H Q=>∃a xs,x= .ref a/\SqL K H a xs/\∀p,H p=none->Q (.ref p) (upd H p (.lst (GR xs lo hi)))
theorem D3:SlR X (MQ X.K):=by
 intro A s y H x v z C e f B Q I p m t i h;obtain⟨a,c,rfl,l,q⟩:=h;cases p;obtain⟨n,r,g,j⟩:=I.list l;have d:=r.length;refine⟨"list",_,slot_list_getitem.lookup,g.isList.typeIs,?_⟩;refine wpAny_getItem_list_slice g.isList m t i .none (by simp) ?_ (by rw[aw]<;>lia)
 rw[nF, <-d];refine⟨.ref s.heap.objs.size,_,I.laid (t':=s.toks) (o:=.lst (GR c e f)) (λb u q=>ae _ q) (ai _) ?_,rfl,q _ (I.hok.fresh (ai _))⟩
 exact⟨Nat.le_trans (rS c e f) j,_,0,(r.drop (HT.sIx c.length 0 e)).take (HT.sIx c.length c.length f-HT.sIx c.length 0 e),af _ rfl⟩
theorem pJ:lY X (.builtin "len") (λxs H Q=>∃p ys,xs=[.ref p]/\(SqL X.K H p ys\/SqT X.K H p ys)/\Q (.int ys.length) H):=by
 intro j s i H xs m Q I r h;obtain⟨p,ys,rfl,b,q⟩:=h;obtain⟨u,rfl,g⟩:=lZ r;cases g;have l:=mD;rcases b with b|b
 ·obtain⟨d,c,e,f⟩:=I.list b;have a:=c.length;exact Calls.call_len_list e.isList (by simp only[aw]<;>lia) ⟨.int ys.length,H,I.tok _,⟨s.toks+1,by rw[aw,a]⟩,q⟩
 ·obtain⟨d,c,e,f⟩:=I.tuple b;have a:=c.length;exact len_tuple e (by simp only[aw]<;>lia) ⟨.int ys.length,H,I.tok _,⟨s.toks+1,by rw[aw,a]⟩,q⟩
theorem pK:lY X (.builtin "len") (λxs H Q=>∃z,xs=[.str z]/\z.length<=sizeLine/\Q (.int z.length) H):=by
 intro c s b H xs e Q I r h;obtain⟨z,rfl,a,q⟩:=h;obtain⟨u,rfl,t,rfl⟩:=lZ r;have d:=mD;exact len_str (by lia) ⟨.int z.length,H,I.tok _,⟨_,rfl⟩,q⟩
theorem pL:lY X (.type "list") (λxs H Q=>∃p ys,xs=[.ref p]/\(SqL X.K H p ys\/SqT X.K H p ys)/\∀l,H l=none->Q (.ref l) (upd H l (.lst ys))):=by
 intro B s A H xs E Q I r h;obtain⟨p,ys,rfl,j,q⟩:=h;obtain⟨u,rfl,C⟩:=lZ r;cases C
 have m: ∀(a:List Value),bS ys a->ys.length<=sizeLine->∀(c:Heap) (f:Nat),(∀b o',s.heap.get? b=some o'->c.get? b=some o')->
   c.get? s.heap.objs.size=some {cls:=.type "list",dict:=none,data:=.seq a.toArray f,slots:= #[]}->EP X B A Q (.ref s.heap.objs.size) {s with heap:=c}:=λa d g c f t e=>
  ⟨.ref s.heap.objs.size,_,I.laid (t':=s.toks) t (ai _) (show ObjOk X.prog X.w _ c _ (.lst ys) from⟨g,a,f,d,e⟩),rfl,q _ (I.hok.fresh (ai _))⟩
 rcases j with j|j
 ·obtain⟨a,d,z,g⟩:=I.list j;have i:=d.length;obtain⟨o,v,x,n,y⟩:=z.isList;exact call_list_seq p (.inl rfl) v x y (λc f t e=>m a d g c f t e) (by simp only[aw]<;>lia)
 ·obtain⟨a,d,z,g⟩:=I.tuple j;have i:=d.length;obtain⟨o,v,x,n,y⟩:=z;exact call_list_seq p (.inr rfl) v x y (λc f t e=>m a d g c f t e) (by simp only[aw]<;>lia)
theorem iB:lY X (.type "tuple") (λxs H Q=>∃p ys,xs=[.ref p]/\((SqL X.K H p ys/\∀l,H l=none->Q (.ref l) (upd H l (.tup ys)))\/(SqT X.K H p ys/\Q (.ref p) H))):=by
 intro t s m H xs z Q I r h;obtain⟨p,ys,rfl,h⟩:=h;obtain⟨u,rfl,x⟩:=lZ r;cases x;rcases h with ⟨f,q⟩|⟨f,q⟩
 ·obtain⟨a,d,g,i⟩:=I.list f;have j:=d.length;refine call_tuple_list g.isList (λc y=>?_) (by simp only[aw]<;>lia)
  have n:Inv X t m H {s with heap:=c}:=I.kept (t':=s.toks) y
  have v:Inv X t m (upd H c.objs.size (.tup ys)) {s with heap:=c.push {cls:=.type "tuple",data:=.seq a.toArray} }:=
   n.laid (t':=s.toks) (λb o e=>ae _ e) (ai _) (show ObjOk X.prog X.w _ _ _ (.tup ys) from⟨i,a,d,IsTup.new _ _,⟨_,af _ rfl,rfl⟩⟩)
  exact⟨.ref c.objs.size,_,v,rfl,q _ (n.hok.fresh (ai _))⟩
 ·obtain⟨a,d,g,i⟩:=I.tuple f;exact call_tuple_same g ⟨.ref p,H,I,rfl,q⟩
def tyV(K:PySem.W.Frag)(T:String)(x:V)(H:Hp):Prop:=match x with
 |.str _=>T="str"
 |.int _=>T="int"
 |.ref p=>(T="list"/\∃xs,SqL K H p xs)\/(T="tuple"/\∃o,K.lookup p=some o/\o.cls= .type "tuple"/\o.dict=none)\/
   (T="dict"/\((∃kvs,H p=some (.dK kvs))\/∃kvs,H p=some (.dT kvs)))\/(T="set"/\∃S n,H p=some (.set S n))
 |_=>False
theorem CU{cb:ce}{σ:St}{H:Hp}{s:Shared}{T:String}{x:V}{v:Value}(I:Inv X cb σ H s)(r:bG x v)(ty:tyV X.K T x H):
  s.TypeIs v T/\∀a,v= .ref a->∃ob,s.heap.get? a=some ob/\ob.dict=none:=by
 cases x with
 |str z=>
  obtain⟨t,rfl⟩:=r
  cases (show T="str" from ty)
  exact⟨typeIs_str s z t,λ_ e=>nomatch e⟩
 |int i=>
  obtain⟨t,rfl⟩:=r
  cases (show T="int" from ty)
  exact⟨typeIs_int s i t,λ_ e=>nomatch e⟩
 |ref p=>
  cases r;rcases ty with ⟨rfl,q,j⟩|⟨rfl,o,hk,m,f⟩|⟨rfl,hk⟩|⟨rfl,S,n,hk⟩
  ·obtain⟨l,_,h,_⟩:=I.list j;refine⟨h.isList.typeIs,λa e=>?_⟩
   cases e;obtain⟨o,n,e,c,f,_⟩:=h;exact⟨o,e,f⟩
  ·refine⟨⟨o,I.kIn p o hk,m⟩,λa e=>?_⟩
   cases e;exact⟨o,I.kIn _ o hk,f⟩
  ·have z: ∃o,s.heap.get? p=some o/\o.ExactDict:=by
    rcases hk with ⟨g,hk⟩|⟨g,hk⟩
    ·obtain⟨_,_,_,_,o,_,_,e,b,_⟩:=I.hok p _ hk;exact⟨o,e,b⟩
    ·obtain⟨_,_,_,_,o,_,_,e,b,_⟩:=I.hok p _ hk;exact⟨o,e,b⟩
   obtain⟨o,e,b⟩:=z;refine⟨⟨o,e,b.1⟩,λa d=>?_⟩
   cases d;exact⟨o,e,b.2.1⟩
  ·obtain⟨o,_,_,_,e,b,_⟩:=I.hok p _ hk;refine⟨⟨o,e,b.1⟩,λa d=>?_⟩
   cases d;exact⟨o,e,b.2.1⟩
 |_=>exact az ty
def L9(K:PySem.W.Frag)(T:String)(r:V->List V->Hp->VK->Prop)(to:TE):TE:=λσ H Q=>to σ H λx H1=>tyV K T x H1/\r x [] H1 Q
def tBM(K:PySem.W.Frag)(T:String)(r:V->List V->Hp->VK->Prop)(to:TE)(t:TA):TE:=λσ H Q=>to σ H λx H1=>tyV K T x H1/\t σ H1 λxs H2=>r x xs H2 Q
theorem HH(pa:PlainAttrs T)(slot:Slot T name id)(hty:typeOf (.builtin id)=pure (.type "method_descriptor"))(hm:MtR X id r)(ho:PE X o to)
  (hbase:attributeBase o name X.env (eval o X.env)=eval o X.env:=by rfl) (hline:(apos.endLine==cpos.line)=true:=by rfl):PE X (.Call (.Attribute o name apos) [] [] cpos) (L9 X.K T r to):=by
 intro d s c H Q I h;refine wpAny_Call_method0_late hbase hline (thn (ho d s c H _ I h) λv i a=>?_)
 obtain⟨x,g,b,e,ty,q1⟩:=a;obtain⟨f,j⟩:=CU b e ty;exact⟨T,id,pa,slot,hty,f,j,Calls.callWith_builtin rfl (PySem.evalArgs_none (hm d i c g x [] v [] Q b e .nil q1))⟩
theorem K1(pa:PlainAttrs T)(slot:Slot T name id)(hty:typeOf (.builtin id)=pure (.type "method_descriptor"))(hm:MtR X id r)(ho:PE X o to)(ha:PA X (e::es) t)
  (hbase:attributeBase o name X.env (eval o X.env)=eval o X.env:=by rfl)
  (hfew:((backTo cpos (starEach (e::es) X.env)).all (λx=> !x.1)&&(backToKw cpos (keywordEach [] X.env)).all (λx=>x.1.isSome)
   &&decide ((e::es).length+([]:List Keyword).length+(if([]:List Keyword).isEmpty then 0 else 1)<30))=true:=by rfl)
  (hline:(apos.endLine==cpos.line)=true:=by rfl) (hs:starEach (e::es) X.env=(false,eval e X.env)::starEach es X.env:=by rfl) (hplain:(backTo cpos (starEach es X.env)).any (·.1)=false:=by rfl):
  PE X (.Call (.Attribute o name apos) (e::es) [] cpos) (tBM X.K T r to t):=by
 intro c s b H Q I h;refine wpAny_Call_method_late hbase hfew hline rfl (thn (ho c s b H _ I h) λv n a=>?_)
 obtain⟨x,y,d,f,ty,q1⟩:=a;obtain⟨q,z⟩:=CU d f ty;refine⟨T,id,pa,slot,hty,q,z,?_⟩;have g:=ha cpos c n b y _ d q1;rw[hs]at g ⊢;refine Calls.callWith_builtin (by show(false||(backTo cpos (starEach es X.env)).any (·.1))=false;rw[hplain]<;>rfl) (Calls.evalArgs_plain ?_)
 exact thn g λl p ⟨u,i,m,A,j⟩=>hm c p b i x u v l Q m f A j
end
def MtM(X:Cx)(id:String)(r:V->List V->Hp->VK->Prop):Prop:=
 ∀(cb:ce) (s:Shared) (σ:St) (H:Hp) (x:V) (xs:List V) (v:Value) (us:List Value) (Q:VK),Inv X cb σ H s->bG x v->bS xs us->r x xs H Q->
  wpAny (model X.prog X.w) X.A (call (.builtin id) (v::us)) (EP X cb σ Q) X.xe s
theorem bS.one: ∀{x:V} {us:List Value},bS [x] us->∃u,us=[u]/\bG x u:=by
 intro x us h
 cases h with
 |cons r t=>
  cases t;exact⟨_,rfl,r⟩
theorem bS.two: ∀{x y:V} {us:List Value},bS [x,y] us->∃u v,us=[u,v]/\bG x u/\bG y v:=by
 intro x y us h
 cases h with
 |cons r t=>
  cases t with
  |cons q t=>
   cases t;exact⟨_,_,rfl,r,q⟩
theorem bS.zero: ∀{us:List Value},bS [] us->us=[]
 |_,.nil=>rfl
theorem bS.dropLast(h:bS xs us):bS xs.dropLast us.dropLast:=by
 induction h with
 |nil=>exact .nil
 |cons r t a=>
  cases t with
  |nil=>exact .nil
  |cons q b=>exact .cons r a
theorem vT{α:Type}(l:List α):l.eraseIdx (l.length-1)=l.dropLast:=by
 induction l with
 |nil=>rfl
 |cons a r c=>
  cases r with
  |nil=>rfl
  |cons b r=>
   have e:(a::b::r).length-1=((b::r).length-1)+1:=by
    have d:(a::b::r).length=r.length+2:=rfl
    have f:(b::r).length=r.length+1:=rfl
    lia
   rw[e,List.eraseIdx_cons_succ,c]
   all_goals rfl
section
variable{σ:St}
theorem Inv.lset{its its':List Value}(I:Inv X cb σ H s)(hH:H l=some (.lst xs))(e:s.heap.get? l=some {cls:=.type "list",data:=.seq its.toArray n})(hf:f its.toArray=its'.toArray)(hv:bS ys its')(hz:ys.length<=sizeLine):
  Inv X cb σ (upd H l (.lst ys)) {s with heap:=s.heap.update l (Obj.mapSeq f),toks:=t'}:=by
 have q:=PySem.IsL.update e f;rw[hf]at q;refine I.write (x:=l) (e:=l) (by rw[hH];exact trivial) (.inl rfl) (λc u b a=>(Heap.get?_update_other s.heap (Obj.mapSeq f) (Ne.symm b)).trans a) ⟨_,q⟩ ?_
 exact⟨hz,its',_,hv,q⟩
theorem Inv.lnew(I:Inv X cb σ H s)(hv:bS ys its)(hz:ys.length<=sizeLine):
  Inv X cb σ (upd H s.heap.objs.size (.lst ys)) {s with heap:=s.heap.push {cls:=.type "list",data:=.seq its.toArray},toks:=t'}:=
 I.laid (λ_ _ q=>ae _ q) (ai _) ⟨hz,its,0,hv,af _ rfl⟩
theorem Inv.fresh(I:Inv X cb σ H s):H s.heap.objs.size=none:=I.hok.fresh (ai _)
theorem Inv.lstM(I:Inv X cb σ H s)(hH:H l=some (.lst xs)):xs.length<=sizeLine/\∃(its:List Value) (n:Nat),bS xs its/\xs.length=its.length/\s.heap.get? l=some {cls:=.type "list",data:=.seq its.toArray n}:=by
 obtain⟨z,its,n,r,e⟩:=I.hok l _ hH;exact⟨z,its,n,r,r.length,e⟩
end
def D4:V->List V->Hp->VK->Prop:=λx vs H Q=>∃l xs y,x= .ref l/\vs=[y]/\H l=some (.lst xs)/\xs.length<sizeLine/\Q .non (upd H l (.lst (xs++[y])))
theorem pM:MtM X "list.append" D4:=by
 intro m s i H x o v t Q I c f h;obtain⟨l,j,y,rfl,rfl,b,g,q⟩:=h;cases c;obtain⟨u,rfl,d⟩:=f.one;obtain⟨z,a,n,r,p,e⟩:=I.lstM b;refine call_meets F.slot_list_append ⟨_,e,rfl⟩ F.entry_list_append (F.args_list_append_2 _ _) (PySem.list_append l a.toArray n u (by rw[aw];lia)) ⟨e,?_⟩
 refine⟨.non,_,I.lset (its':=a++[u]) b e (by simp) (r.append (.cons d .nil)) ?_,rfl,q⟩
 rw[bn,List.length_singleton]
 lia
def MR:V->List V->Hp->VK->Prop:=λx vs H Q=>∃l xs y,x= .ref l/\vs=[]/\H l=some (.lst xs)/\xs[xs.length-1]? =some y/\Q y (upd H l (.lst xs.dropLast))
theorem HI:MtM X "list.pop" MR:=by
 intro A s p H x B v C Q I i m h;obtain⟨l,t,y,rfl,rfl,d,f,q⟩:=h;cases i;have b:=m.zero;subst b;obtain⟨z,a,n,r,o,e⟩:=I.lstM d;obtain⟨u,g,j⟩:=r.get f
 have c:a.toArray[a.toArray.size-1]? =some u:=by
  show a.toArray[a.length-1]? =some u;rw[<-Array.getElem?_toList, <-o];exact g
 refine call_meets F.slot_list_pop ⟨_,e,rfl⟩ F.entry_list_pop (F.args_list_pop_1 _) (MeetsSeq.list_pop_last l a.toArray n u c (by rw[aw];lia)) ⟨e,?_⟩
 refine⟨y,_,I.lset (its':=a.dropLast) d e ?_ r.dropLast ?_,j,q⟩
 ·show a.toArray.eraseIdxIfInBounds (a.toArray.size-1)=a.dropLast.toArray;rw[aw,List.eraseIdxIfInBounds_toArray,vT]
 ·rw[List.length_dropLast]
  lia
end L2
namespace Att
open PySem PySem.W PySem.Calls PyProof.Rows
theorem kO: ∀(ns:List Int) (vs:List Value),WellAll P h vs (ns.map WData.int)->IntsAre vs ns:=by
 intro ns
 induction ns with
 |nil=>
  intro vs w;rw[List.map_nil]at w;cases w;exact .nil
 |cons n ns c=>
  intro vs w;rw[List.map_cons]at w
  cases w with
  |cons a b=>
   cases a;exact .cons _ _ (c _ b)
theorem w9{l:OpenLaw}(hn:l.most=some n)(hpre:l.row.toRowW.claim.pre args=true)(hwl:WellAll P h vals args):
  ∃a vs ns,vals=[Value.ref a]/\args=[WData.list (ns.map WData.int)]/\h.get? a=some {cls:=.type "list",data:=.seq vs.toArray}/\IntsAre vs ns/\ns.length<=n:=by
 have hsh:WShape.hasAll [] args [.list .int]=true:=(pre_splitW hpre).1
 have g:l.pre.holds [] {args:=args}=true:=(pre_splitW hpre).2;obtain⟨d,r,rfl,o,s⟩:=hasAllW_cons hsh;obtain rfl:=hasAllW_nil s;obtain⟨u,rfl,j⟩:=hasW_list o;obtain⟨ns,rfl⟩:=items_int j
 have b:ns.length<=n:=by
  unfold OpenLaw.pre at g
  have f:(WTm.not (.lt (.lit (.int (n:Int))) (.len (.arg 0)))).holds [] {args:=[.list (ns.map .int)]}=true:=by
   have f:=(holds_andW g).1;rw[hn]at f;exact f
  have e:=condW_of f (w_not (w_lt w_lit (w_len_list (w_arg rfl))));rw[ao]at e;refine Nat.le_of_not_lt λq=>?_
  have t:(n:Int)<((ns.length:Nat):Int):=by lia
  first
   |(rw[decide_eq_true t]at e;exact absurd e (by decide))
   |(simp at e;lia)
 cases hwl with
 |cons p i=>
  cases i
  cases p with
  |list m c=>exact⟨_,_,ns,rfl,rfl,m,kO ns _ c,b⟩
theorem xA(l:OpenLaw)(args:List WData):l.row.toRowW.claim.post args (.bool true) args=true:=
 postW_of (r:=l.row.toRowW) (X:=(true==true))
  (show WShape.has [] (.bool true) .bool=true by first|rfl|decide|simp[WShape.has,WShape.arms,WShape.armsAll])
  (show(WTm.eq .res (.lit (.bool true))).value [] {args:=args,res:=some (.bool true),after:=args}=some (.bool (true==true)) from w_eq_bool (w_res rfl) w_lit) rfl
theorem attach_call{l:OpenLaw}(hn:l.most=some n)(hdf:d.params.defaults=[])(call: ∀(w:World) (s₀ s₁:Shared) (mg mb:Str->Option Value) (fa:Addr) (o:Obj) (pm cd doc:Value) (a:Addr) (vs:List Value) (ns:List Int),
   Ground q loose [] XP w s₀ mg mb s₁.heap->YP w s₁.heap->
   s₁.heap.get? fa=some o->o.data= .func (docDef d.name d.params d.body d.scope pm cd doc)->s₁.heap.CodeRec cd d.name->mg d.name=some (.ref fa)->
   s₁.heap.get? a=some {cls:=.type "list",data:=.seq vs.toArray}->IntsAre vs ns->ns.length<=n->s₁.gens= #[]->
   codeAny (model l.prog w) callerA (.call (.ref fa) ⟨[.ref a],[]⟩) (λr s'=>r= .ok (.ret (.bool true))/\OldK s₁.heap s'.heap/\s'.os=s₁.os/\AllBare s'.gens) s₁):
  WalkO q loose XP YP l.row.toRowW d [] (λf vs=>PySem.call f vs):=by
 intro w s₀ s₁ mg mb G Y fa o pm cd doc z kV t x i hD j s args p H e m u h y;obtain rfl:z= .none:=Dflts.none hD hdf;obtain rfl:kV= .none:=Dflts.noKw hD;obtain⟨a,vs,ns,rfl,rfl,g,b,c⟩:=w9 hn e h;refine enter_call (codeAny_mono (call w s₀ s₁ mg mb fa o pm cd doc a vs ns G Y t (fd_plain x) i j g b c s) λr s' v=>?_)
 obtain⟨rfl,E,A,C⟩:=v;exact⟨.inl ⟨.bool true,.bool true,[],rfl,λ_=>rfl,.bool true,xA l _,λ_=>⟨List.Pairwise.nil,λ_ B=>(nomatch B)⟩⟩,E,A,C⟩
noncomputable def Mb(h:Heap)(L d:Addr):ce:=(List.range h.objs.size).filterMap λa=>if a=L\/a=d then none else(h.get? a).map λo=>(a,o)
end Att
namespace L2
open PySem PySem.Spec PyProof.Rows
theorem pN: ∀{vs:List Value} {ns:List Int},IntsAre vs ns->bS (ns.map V.int) vs
 |_,_,.nil=>.nil
 |_,_,.cons n t h=>.cons ⟨t,rfl⟩ (pN h)
def K2(H:Hp):Prop:= ∀b,H b=none\/∃o xs,H b=some (.frz o (.lst xs))
abbrev KOf{K:PySem.W.Frag}{h:Heap}(_:K.In h):PySem.W.Frag:=K
structure Fun(K:PySem.W.Frag)(x qual:Str)(st:Stmt)(f:Addr)(fd:FuncData):Prop where
 ex: ∃(oc:Value) (od:Option Addr) (kV doc pm:Value) (an:Option Addr) (cdv ct:Value) (osl:Array (Option Value)),
  fd=PySem.W.fnOf x qual (defArgs st) (defBody st) (defScope st) .none kV doc pm an cdv ct/\K.lookup f=some ⟨oc,od,.func fd,osl⟩/\PySem.W.codeIn K cdv qual=true
 kp:PySem.W.keepIn K (.ref f)=true
section
variable{K:PySem.W.Frag}
theorem Fun.binds{st:Stmt}(F:Fun K x qual st f fd)(h: ∀(kV doc pm:Value) (an:Option Addr) (cdv ct:Value) (us:List Value),us.length=ps.length->bindArgs (PySem.W.fnOf x qual (defArgs st) (defBody st) (defScope st) .none kV doc pm an cdv ct) ⟨us,[]⟩=pure (ps.zip us)):d6 K fd ps []:=by
 obtain⟨d,c,kV,doc,pm,an,cdv,ct,a,rfl,lk,b⟩:=F.ex;exact .all (h kV doc pm an cdv ct)
theorem mE{st:Stmt}{kV doc pm cdv ct:Value}(l:K.lookup f=some ⟨oc,od,.func (PySem.W.fnOf x qual (defArgs st) (defBody st) (defScope st) .none kV doc pm an cdv ct),osl⟩)(c:PySem.W.codeIn K cdv qual=true)(k:PySem.W.keepIn K (.ref f)=true):Fun K x qual st f (PySem.W.fnOf x qual (defArgs st) (defBody st) (defScope st) .none kV doc pm an cdv ct):=⟨⟨oc,od,kV,doc,pm,an,cdv,ct,osl,rfl,l,c⟩,k⟩
end
theorem xB{A B:Prop}(h:B):if false=true then A else B:=by
 rw[if_neg bd];exact h
theorem wK{A B:Prop}(h:A):if true=true then A else B:=by
 rw[if_pos rfl];exact h
def Same(H H':Hp):Prop:= ∀b o,H b=some o->H' b=some o
theorem Same.refl(H:Hp):Same H H:=λ_ _ h=>h
theorem Same.trans(a:Same H H1)(b:Same H1 H2):Same H H2:=λc o h=>b c o (a c o h)
theorem Same.free(e:Same H H')(h:H' l=Option.none):H l=Option.none:=by
 cases q:H l with
 |none=>rfl
 |some o=>
  rw[e l o q]at h;cases h
theorem Same.seq{K:PySem.W.Frag}(e:Same H H')(h:SqL K H a xs):SqL K H' a xs:=by
 rcases h with (h|⟨o,h⟩)|h
 ·exact .inl (.inl (e _ _ h))
 ·exact .inl (.inr ⟨o,e _ _ h⟩)
 ·exact .inr h
end L2
namespace SK
open PySem PySem.Spec PyProof.Rows L2
open PySem.AutoSeq1 (wpAny_loadPart' idx_int)
open PySem.AutoSeq1 (wpAny_loadPart' idx_int)
inductive D where
 |non|bl (b:Bool)|int (i:Int)|str (x:Str)
 |tup (xs:List D)|lst (xs:List D)
 |exc (c:Nat)|fn (f:Nat)|dct (ks:List Str) (vs:List D)
 deriving Inhabited
noncomputable def b2i(b:Bool):Int:=if b then 1 else 0
mutual
def deq:D->D->Bool
 |.non,.non=>true
 |.bl a,.bl b=>a==b
 |.bl a,.int j=>b2i a==j
 |.int i,.bl b=>i==b2i b
 |.int i,.int j=>i==j
 |.str x,.str y=>x==y
 |.tup xs,.tup ys=>wL xs ys
 |.lst xs,.lst ys=>wL xs ys
 |_,_=>false
def wL:List D->List D->Bool
 |[],[]=>true
 |x::xs,y::ys=>deq x y&&wL xs ys
 |_,_=>false
end
mutual
noncomputable def plain:D->Bool
 |.non=>true
 |.bl _=>true
 |.int _=>true
 |.str x=>x.cps.all (· <0x110000)
 |.tup xs=>bT xs
 |.lst xs=>bT xs
 |.exc _=>false
 |.fn _=>false
 |.dct _ _=>false
noncomputable def bT:List D->Bool
 |[]=>true
 |x::xs=>plain x&&bT xs
end
mutual
def dep:D->Nat
 |.tup xs=>xC xs+1
 |.lst xs=>xC xs+1
 |_=>0
def xC:List D->Nat
 |[]=>0
 |x::xs=>max (dep x) (xC xs)
end
def hX(x y:D):Bool:=plain x&&plain y&&decide (min (dep x) (dep y)<=60)
inductive R where
 |ok (d:D)|ow (xs:List D)|ex (c:Nat)|bad
noncomputable def R.bind(r:R)(k:D->R):R:=match r with
 |.ok d=>k d
 |.ow xs=>k (.lst xs)
 |.ex c=>.ex c
 |.bad=>.bad
structure Rk where
 held:List (Str×D)
 done:List D
 undone:List D
inductive RM where
 |pure (x:R)|chg (x:D) (r:Rk)
abbrev FM:=Rk->List D->RM
def RM.told:RM->R
 |.pure x=>x
 |.chg _ _=>.bad
inductive Slot where
 |no|sh (d:D)|ow (xs:List D)|dc (kvs:List (Str×D))|sd (kvs:List (Str×D))|rk (C:Nat) (r:Rk)
def Slot.isRk:Slot->Bool
 |.rk _ _=>true
 |_=>false
def Slot.owns:Slot->Bool
 |.ow _=>true
 |.dc _=>true
 |.sd _=>true
 |_=>false
noncomputable abbrev Rho:=List Slot
abbrev F:=Rho->R
inductive Out where
 |nx (ρ:Rho)|rt (r:R)|bk (ρ:Rho)|ct (ρ:Rho)|ex (c:Nat) (ρ:Rho)
abbrev FS:=Rho->Out
abbrev Fn:=List D->R
def LIM:Nat:=100000
noncomputable def sml(i:Int):Bool:=decide (-18446744073709551616<i)&&decide (i<18446744073709551616)
def d9(op:Operator)(i j:Int):R:=match op with
 |.Add=>.ok (.int (i+j))
 |.Sub=>.ok (.int (i-j))
 |.Mult=>if sml i||sml j then .ok (.int (i*j))else .bad
 |.FloorDiv=>if 0<j/\j<1073741824 then .ok (.int (i/j))else .bad
 |.Mod=>if 0<j then .ok (.int (i % j))else .bad
 |.LShift=>if 0<=j/\j<=1000/\sml i=true then .ok (.int (i*2^j.toNat))else .bad
 |_=>.bad
def iT(op:Operator)(x y:D):R:=match x,y with
 |.int i,.int j=>(match op with
  |.BitAnd=>.ok (.int (Builtin.bitAnd i j))
  |.BitOr=>.ok (.int (Builtin.bitOr i j))
  |.BitXor=>.ok (.int (Builtin.bitXor i j))
  |op=>d9 op i j)
 |.lst xs,.lst ys=>(match op with
  |.Add=>if xs.length+ys.length<=LIM then .ow (xs++ys)else .bad
  |_=>.bad)
 |_,_=>.bad
def items:D->Option (List D)
 |.tup xs=>some xs
 |.lst xs=>some xs
 |_=>none
noncomputable def vU(x:Str):List D:=x.cps.toList.map λc=>D.str ⟨#[c]⟩
def jJ:D->Option (List D)
 |.tup xs=>some xs
 |.lst xs=>some xs
 |.str x=>if x.cps.size<=1000 then some (vU x)else none
 |.dct ks _=>if ks.length<=1000 then some (ks.map D.str)else none
 |_=>none
def nG:D->Bool
 |.non=>true
 |_=>false
noncomputable def Nl(b:Bool):D->Bool
 |.bl a=>a==b
 |_=>false
def tP(x:D)(ys:List D):Bool:=ys.all λy=>hX y x
def inS(x y:D)(neg:Bool):R:=match x,y with
 |.str a,.dct ks _=>.ok (.bl (neg != ks.contains a))
 |_,_=>.bad
noncomputable def bC(kvs:List (Str×D))(x:Str):Option D:=(kvs.find? λp=>decide (p.1=x)).map (·.2)
def CV(a b:List (Str×D)):Bool:=a.length==b.length&&a.all λp=>match bC b p.1 with|some w=>deq p.2 w|none=>false
def nH(neg:Bool)(x y:D):R:=match x,y with
 |.dct ks vs,.dct ls ws=>if(vs.all λd=>ws.all λe=>hX d e)=true then .ok (.bl (neg != CV (ks.zip vs) (ls.zip ws)))else .bad
 |_,_=>.bad
def dJ(op:CmpOp)(x y:D):R:=match op with
 |.Eq=>if hX x y then .ok (.bl (deq x y))else nH false x y
 |.NotEq=>if hX x y then .ok (.bl (!deq x y))else nH true x y
 |.Lt=>(match x,y with|.int i,.int j=>.ok (.bl (decide (i<j)))|_,_=>.bad)
 |.LtE=>(match x,y with|.int i,.int j=>.ok (.bl (decide (i<=j)))|.str i,.str j=>.ok (.bl (!decide (j.cps.toList<i.cps.toList)))|_,_=>.bad)
 |.Gt=>(match x,y with|.int i,.int j=>.ok (.bl (decide (j<i)))|_,_=>.bad)
 |.GtE=>(match x,y with|.int i,.int j=>.ok (.bl (decide (j<=i)))|_,_=>.bad)
 |.Is=>(match y with
  |.non=>.ok (.bl (nG x))
  |_=>.bad)
 |.IsNot=>(match y with
  |.non=>.ok (.bl (!nG x))
  |_=>.bad)
 |.In=>inS x y false
 |.NotIn=>(match items y with|some ys=>if tP x ys then .ok (.bl (!ys.any λy=>deq y x))else .bad|none=>inS x y true)
noncomputable def ixD(n:Nat)(i:Int):Option Nat:=if 0<=i then(if i<n then some i.toNat else none)else if -(n:Int)<=i then some (i+n).toNat else none
def ixS(x y:D):R:=match x,y with
 |.str z,.int i=>if z.length<=LIM then(match(ixD z.cps.toList.length i).bind λj=>z.cps.toList[j]? with|some c=>.ok (.str ⟨#[c]⟩)|none=>.bad)else .bad
 |.dct ks vs,.str k=>(match bC (ks.zip vs) k with|some d=>.ok d|none=>.bad)
 |_,_=>.bad
def dIx(x y:D):R:=match items x,y with
 |some xs,.int i=>(match(ixD xs.length i).bind λj=>xs[j]? with|some d=>.ok d|none=>.bad)
 |some _,_=>.bad
 |none,_=>ixS x y
def A8(n d:Nat):Option Int->Nat
 |none=>d
 |some v=>if v<0 then(v+n).toNat else min v.toNat n
def HJ(xs:List D)(lo hi:Option Int):List D:=(xs.drop (A8 xs.length 0 lo)).take (A8 xs.length xs.length hi-A8 xs.length 0 lo)
def Mc:D->(Int->R)->R
 |.int i,k=>k i
 |_,_=>.bad
def aA(i:Nat):F:=λρ=>match ρ[i]? with|some (.sh d)=>.ok d|_=>.bad
def aD(i:Nat):F:=λρ=>match ρ[i]? with|some (.sh d)=>.ok d|some (.ow xs)=>.ok (.lst xs)|_=>.bad
def rK(d:D):F:=λ_=>.ok d
def aS(op:Operator)(a b:F):F:=λρ=>(a ρ).bind λx=>(b ρ).bind λy=>iT op x y
def pO(a:F):F:=λρ=>(a ρ).bind λx=>match x with|.bl b=>.ok (.bl (!b))|_=>.bad
def jX(a b:F):F:=λρ=>(a ρ).bind λx=>match x with|.bl true=>b ρ|.bl false=>.ok (.bl false)|_=>.bad
def rOr(a b:F):F:=λρ=>(a ρ).bind λx=>match x with|.bl true=>.ok (.bl true)|.bl false=>b ρ|_=>.bad
def rIf(c a b:F):F:=λρ=>(c ρ).bind λx=>match x with|.bl true=>a ρ|.bl false=>b ρ|_=>.bad
def aZ(op:CmpOp)(a b:F):F:=λρ=>(a ρ).bind λx=>(b ρ).bind λy=>dJ op x y
def jK(op op':CmpOp)(a b c:F):F:=λρ=>(a ρ).bind λx=>(b ρ).bind λy=>(dJ op x y).bind λz=>match z with
 |.bl true=>(c ρ).bind λw=>dJ op' y w
 |.bl false=>.ok (.bl false)
 |_=>.bad
inductive RA where
 |ok (ds:List D)|ex (c:Nat)|bad
noncomputable def RA.cons(x:D):RA->RA
 |.ok ds=>.ok (x::ds)
 |.ex c=>.ex c
 |.bad=>.bad
def RA.then(r:RA)(k:List D->R):R:=match r with
 |.ok ds=>k ds
 |.ex c=>.ex c
 |.bad=>.bad
def args:List F->Rho->RA
 |[],_=>.ok []
 |f::fs,ρ=>match f ρ with
  |.ok x=>(args fs ρ).cons x
  |.ow xs=>(args fs ρ).cons (.lst xs)
  |.ex c=>.ex c
  |.bad=>.bad
def l4(fs:List F)(ρ:Rho)(k:List D->R):R:=(args fs ρ).then k
def dX(fs:List F):F:=λρ=>l4 fs ρ λxs=>.ok (.tup xs)
def fJ(fs:List F):F:=λρ=>l4 fs ρ λxs=>.ow xs
def rIx(a b:F):F:=λρ=>(a ρ).bind λx=>(b ρ).bind λy=>dIx x y
def kP(a h:F):F:=λρ=>(a ρ).bind λx=>(h ρ).bind λz=>match x with
 |.lst xs=>(match z with
  |.int j=>.ow (HJ xs none (some j))
  |_=>.bad)
 |_=>.bad
def aF(f:Fn)(fs:List F):F:=λρ=>l4 fs ρ f
def rV(r:Fn)(a b:F):F:=λρ=>(a ρ).bind λx=>match x with|.lst ds=>(b ρ).bind λy=>r [.lst ds,y]|_=>.bad
def rIs(p:D->Option Bool)(a:F):F:=λρ=>(a ρ).bind λx=>match p x with|some b=>.ok (.bl b)|none=>.bad
def bJ(f:D->Option (Option D)):List D->Option (List D)
 |[]=>some []
 |d::r=>match f d with
  |none=>none
  |some none=>bJ f r
  |some (some x)=>(bJ f r).map (x:: ·)
def tgt(n:Nat)(d:D):Option (List Slot):=match n with
 |0=>some [.sh d]
 |n=>match d with
  |.tup ds=>if ds.length=n then some (ds.map Slot.sh)else none
  |_=>none
def l6(cs:List Nat)(ρ:Rho):List Slot:=cs.map λi=>(ρ[i]?).getD .no
def dD(n:Nat)(cs:List Slot)(c:Option F)(e:F)(d:D):Option (Option D):=match tgt n d with
 |none=>none
 |some ts=>match c with
  |none=>(match e (ts++cs)with|.ok x=>some (some x)|.ow xs=>some (some (.lst xs))|_=>none)
  |some c=>match c (ts++cs)with
   |.ok (.bl true)=>(match e (ts++cs)with|.ok x=>some (some x)|.ow xs=>some (some (.lst xs))|_=>none)
   |.ok (.bl false)=>some none
   |_=>none
def bL(n:Nat)(cs:List Nat)(it:F)(c:Option F)(e:F):F:=λρ=>(it ρ).bind λx=>match jJ x with
 |some ds=>(match bJ (dD n (l6 cs ρ) c e) ds with|some xs=>.ow xs|none=>.bad)
 |none=>.bad
noncomputable def rH(n:Nat):List D:=(List.range n).map λ(i:Nat)=>D.int (i:Int)
def cZ(a:F):F:=λρ=>(a ρ).bind λx=>Mc x λi=>if -100000<=i/\i<=100000 then .ok (.lst (rH i.toNat))else .bad
def MU(a:F):F:=λρ=>(a ρ).bind λx=>match items x with
 |some xs=>.ok (.lst (xs.zipIdx.map λp=>D.tup [.int (p.2:Nat),p.1]))
 |none=>.bad
def pQ(a b:F):F:=λρ=>(a ρ).bind λx=>(b ρ).bind λy=>match x,y with
 |.tup xs,.tup ys=>.ok (.lst ((xs.zip ys).map λp=>D.tup [p.1,p.2]))
 |.lst xs,.lst ys=>.ok (.lst ((xs.zip ys).map λp=>D.tup [p.1,p.2]))
 |.lst xs,.tup ys=>.ok (.lst ((xs.zip ys).map λp=>D.tup [p.1,p.2]))
 |.tup xs,.lst ys=>.ok (.lst ((xs.zip ys).map λp=>D.tup [p.1,p.2]))
 |_,_=>.bad
def Me:D->R|.str z=>if z.length<=100000 then .ok (.int z.length)else .bad|_=>.bad
def jR:Fn|[x]=>(match items x with|some xs=>.ok (.int xs.length)|none=>Me x)|_=>.bad
def AW:Fn|[.int i]=>.ok (.int i)|[.bl b]=>.ok (.int (b2i b))|[.str x]=>(match x.cps.toList with|[c]=>if 48<=c/\c<58 then .ok (.int ((c-48:Nat):Int))else .bad|_=>.bad)|_=>.bad
def gY:Fn|[x]=>(match items x with|some xs=>.ok (.tup xs)|none=>.bad)|_=>.bad
def vV:Fn|[x]=>(match items x with|some xs=>.ow xs|none=>.bad)|_=>.bad
def iV:List D->Option (List Int)
 |[]=>some []
 |.int i::r=>(iV r).map (i:: ·)
 |_::_=>none
def e9:List D->Option (List Bool)
 |[]=>some []
 |.bl b::r=>(e9 r).map (b:: ·)
 |_::_=>none
def AX:Fn|[x]=>(match(items x).bind iV with|some xs=>.ok (.int xs.sum)|none=>.bad)|_=>.bad
def GS:Fn|[x]=>(match(items x).bind e9 with|some xs=>.ok (.bl (xs.all id))|none=>.bad)|_=>.bad
def Nm:Fn|[x]=>(match(items x).bind e9 with|some xs=>.ok (.bl (xs.any id))|none=>.bad)|_=>.bad
def Kq:Fn|[.int i,.int j]=>.ok (.int (if j > i then j else i))|_=>.bad
def Kr:Fn|[.int i,.int j]=>.ok (.int (if j<i then j else i))|_=>.bad
def Nn:Fn|[.int i]=>.ok (.int (if i<0 then -i else i))|_=>.bad
mutual
def same:D->D->Bool
 |.int _,.int _=>true
 |.tup xs,.tup ys=>HK xs ys
 |_,_=>false
def HK:List D->List D->Bool
 |[],[]=>true
 |x::xs,y::ys=>same x y&&HK xs ys
 |_,_=>false
end
mutual
def MV:D->List Int
 |.int i=>[i]
 |.tup xs=>HL xs
 |_=>[]
def HL:List D->List Int
 |[]=>[]
 |x::xs=>MV x++HL xs
end
noncomputable def MX(ns:List Int):List Int:=((List.range 17).filter λ(k:Nat)=>ns.contains (k:Int)).map λ(k:Nat)=>(k:Int)
noncomputable def MY(ns:List Int):Bool:=ns.all λn=>decide (0<=n/\n<17)
def MZ(ds:List D):R:=match iV ds with|some ns=>if MY ns then .ok (.int ((MX ns).length:Nat))else .bad|none=>.bad
def dLS:Fn|[x]=>(match x with|.lst ds=>MZ ds|_=>.bad)|_=>.bad
def xD:Fn|[.lst ys,x]=>if tP x ys then .ok (.int ((ys.countP λy=>deq y x):Nat))else .bad|_=>.bad
def xE:Fn|[.lst ys,x]=>if tP x ys then(match ys.findIdx? λy=>deq y x with|some k=>.ok (.int (k:Nat))|none=>.bad)else .bad|_=>.bad
def No(a:F):F:=λρ=>(a ρ).bind λx=>match x with|.bl b=>.ok (.bl b)|.lst xs=>.ok (.bl (!xs.isEmpty))|_=>.bad
def orP(p q:D->Option Bool):D->Option Bool:=λd=>match p d,q d with|some a,some b=>some (a||b)|_,_=>none
def M3(kvs:List (D×D))(k:D):Bool:=kvs.any λp=>deq p.1 k
noncomputable def putK(kvs:List (D×D))(k d:D):List (D×D):=if M3 kvs k then kvs.map (λp=>if deq p.1 k then(p.1,d)else p)else kvs++[(k,d)]
noncomputable def inK(op:CmpOp)(b:Bool):R:=match op with
 |.In=>.ok (.bl b)
 |.NotIn=>.ok (.bl !b)
 |_=>.bad
def put(ρ:Rho)(i:Nat)(s:Slot):Rho:=ρ.set i s
def frz1(i:Nat)(ρ:Rho):Rho:=match ρ[i]? with|some (.ow xs)=>ρ.set i (.sh (.lst xs))|some (.dc kvs)=>ρ.set i (.sh (.dct (kvs.map (·.1)) (kvs.map (·.2))))|_=>ρ
def frz(is:List Nat)(ρ:Rho):Rho:=is.foldl (λρ i=>frz1 i ρ) ρ
def Ks(is:List Nat)(s:FS):FS:=λρ=>s (frz is ρ)
def fS(ρ:Rho)(r:R)(k:D->Out):Out:=match r with
 |.ok d=>k d
 |.ow xs=>k (.lst xs)
 |.ex c=>.ex c ρ
 |.bad=>.rt .bad
def eU(i:Nat)(e:F):FS:=λρ=>fS ρ (e ρ) λd=>.nx (ρ.set i (.sh d))
def vW(i:Nat)(e:F):FS:=λρ=>match e ρ with
 |.ok d=>.nx (ρ.set i (.sh d))
 |.ow xs=>.nx (ρ.set i (.ow xs))
 |.ex c=>.ex c ρ
 |.bad=>.rt .bad
def M4(j i:Nat):FS:=λρ=>match ρ[j]? with
 |some (.ow xs)=>.nx ((ρ.set j .no).set i (.ow xs))
 |_=>.rt .bad
def setN:List Nat->List D->Rho->Rho
 |i::is,d::ds,ρ=>setN is ds (ρ.set i (.sh d))
 |_,_,ρ=>ρ
def fT(is:List Nat)(e:F):FS:=λρ=>fS ρ (e ρ) λd=>match d with
 |.tup ds=>if ds.length=is.length then .nx (setN is ds ρ)else .rt .bad
 |.lst ds=>if ds.length=is.length then .nx (setN is ds ρ)else .rt .bad
 |_=>.rt .bad
def Np(i:Nat)(op:Operator)(e:F):FS:=λρ=>match ρ[i]? with
 |some (.sh (.int a))=>fS ρ (e ρ) λd=>(match d,op with
  |.int b,.Add=>.nx (ρ.set i (.sh (.int (a+b))))
  |.int b,.Sub=>.nx (ρ.set i (.sh (.int (a-b))))
  |_,_=>.rt .bad)
 |_=>.rt .bad
def jS(e:F):FS:=λρ=>fS ρ (e ρ) λ_=>.nx ρ
def dP(e:F):FS:=λρ=>match e ρ with
 |.ok d=>.rt (.ok d)
 |.ow xs=>.rt (.ow xs)
 |.ex c=>.ex c ρ
 |.bad=>.rt .bad
def aQ:FS:=λρ=>.nx ρ
def a8(a b:FS):FS:=λρ=>match a ρ with|.nx ρ'=>b ρ'|o=>o
def sIf(c:F)(a b:FS):FS:=λρ=>match c ρ with
 |.ok (.bl true)=>a ρ
 |.ok (.bl false)=>b ρ
 |.ex c=>.ex c ρ
 |_=>.rt .bad
def mF(c:Nat):FS:=λρ=>.ex c ρ
noncomputable def fK(kvs:List (Str×D))(x:Str)(d:D):List (Str×D):=if(kvs.any λp=>decide (p.1=x))=true then kvs.map (λp=>if p.1=x then(p.1,d)else p)else kvs++[(x,d)]
def wM(i:Nat)(k e:F):FS:=λρ=>fS ρ (e ρ) λd=>match ρ[i]? with
 |some (.ow xs)=>fS ρ (k ρ) λy=>(match y with
  |.int j=>(match ixD xs.length j with|some m=>.nx (ρ.set i (.ow (xs.set m d)))|none=>.rt .bad)
  |_=>.rt .bad)
 |some (.dc kvs)=>fS ρ (k ρ) λy=>(match y with
  |.str x=>if kvs.length<LIM then .nx (ρ.set i (.dc (fK kvs x d)))else .rt .bad
  |_=>.rt .bad)
 |_=>.rt .bad
def mG(i:Nat)(e:F):FS:=λρ=>fS ρ (e ρ) λd=>match d with
 |.dct ks vs=>.nx (ρ.set i (.dc (ks.zip vs)))
 |_=>.rt .bad
def M5:List D->Option (D×D)
 |[a,b]=>some (a,b)
 |_=>none
def M6:D->Option (D×D)
 |.tup ds=>M5 ds
 |_=>none
def M7(i:Nat)(k l e:F):FS:=λρ=>fS ρ (e ρ) λd=>(match M6 d with
 |some (d1,d2)=>(match ρ[i]? with
  |some (.ow xs)=>fS ρ (k ρ) λy=>(match y with
   |.int j=>(match ixD xs.length j with
    |some m=>fS (ρ.set i (.ow (xs.set m d1))) (l (ρ.set i (.ow (xs.set m d1)))) λz=>(match z with
     |.int j2=>(match ixD (xs.set m d1).length j2 with
      |some m2=>.nx ((ρ.set i (.ow (xs.set m d1))).set i (.ow ((xs.set m d1).set m2 d2)))
      |none=>.rt .bad)
     |_=>.rt .bad)
    |none=>.rt .bad)
   |_=>.rt .bad)
  |_=>.rt .bad)
 |none=>.rt .bad)
def M8(i:Nat)(k e:F):FS:=λρ=>match ρ[i]? with
 |some (.ow xs)=>fS ρ (k ρ) λy=>(match y with
  |.int j=>(match ixD xs.length j with
   |some m=>(match xs[m]? with
    |some (.int a)=>fS ρ (e ρ) λd=>(match d with
     |.int b=>.nx (ρ.set i (.ow (xs.set m (.int (a+b)))))
     |_=>.rt .bad)
    |_=>.rt .bad)
   |none=>.rt .bad)
  |_=>.rt .bad)
 |_=>.rt .bad
def mH:D->Option (List D)
 |.dct ks _=>if ks.length<=1000 then some (ks.map D.str)else none
 |x=>items x
def tQ(is:List Nat)(one:Bool)(d:D)(ρ:Rho):Option Rho:=match one,is with
 |true,[i]=>some (ρ.set i (.sh d))
 |false,is=>(match d with
  |.tup ds=>if ds.length=is.length then some (setN is ds ρ)else none
  |_=>none)
 |_,_=>none
def iW(t:D->Rho->Option Rho)(b:FS):List D->Rho->Out
 |[],ρ=>.nx ρ
 |d::r,ρ=>match t d ρ with
  |none=>.rt .bad
  |some ρ1=>match b ρ1 with
   |.nx ρ2=>iW t b r ρ2
   |.ct ρ2=>iW t b r ρ2
   |.bk ρ2=>.nx ρ2
   |.rt r=>.rt r
   |.ex c ρ2=>.ex c ρ2
def D5(is:List Nat)(one:Bool)(it:F)(b:FS):FS:=λρ=>fS ρ (it ρ) λx=>match mH x with
 |some ds=>iW (tQ is one) b ds ρ
 |none=>.rt .bad
def Kt:FS:=λ_=>.rt .bad
def Nq(i j:Nat)(hit:Nat->Bool)(b:FS):FS:=λρ=>match b ρ with
 |.ex c ρ'=>if hit c then .nx ((ρ'.set i .no).set j (.sh (.exc c)))else .ex c ρ'
 |o=>o
def fnOf(n:Nat)(b:FS):Fn:=λds=>match b (ds.map Slot.sh++aj (n-ds.length) .no)with
 |.rt (.ok d)=>.ok d
 |.rt (.ow xs)=>.ow xs
 |.rt _=>.bad
 |.nx _=>.ok .non
 |.ex c _=>.ex c
 |_=>.bad
inductive Py where
 |len|range|enum|zip|isin|int|bool|str|tuple|list|sum|all|any|sorted|min|max|abs|set|dict
 deriving DecidableEq
inductive Gl where
 |fn (k n:Nat) (f:Fn)|exc (c:Nat)|verr|val (d:D)|py (p:Py)|tbl (kvs:List (Str×D))|cls (a:Nat) (ms:List (Str×Nat×FM))
noncomputable def hit(c e:Nat):Bool:=c==e||c==0||c==100
structure Ctx where
 tab:List (Str×Gl)
 fns:List (Nat×Fn)
 sc:Scope
 N:List Str
 bs:List Str
noncomputable def idx(x:Str):List Str->Option Nat
 |[]=>none
 |y::r=>if x=y then some 0 else(idx x r).map (· +1)
def loc(C:Ctx)(x:Str):Option Nat:=match C.sc.names.lookup x with
 |some .local=>idx x C.N
 |some .cell=>idx x C.N
 |some .free=>idx x C.N
 |_=>none
def fA(C:Ctx)(x:Str):Option Nat:=match C.sc.names.lookup x with
 |some .cell=>idx x C.N
 |some .free=>idx x C.N
 |_=>none
def glo(C:Ctx)(x:Str):Option Gl:=match C.sc.names.lookup x with
 |some .globalImplicit=>C.tab.lookup x
 |_=>none
def isP:Gl->Option (D->Option Bool)
 |.py .int=>some λd=>match d with|.int _=>some true|.bl _=>some true|.exc _=>none|.fn _=>none|.dct _ _=>none|_=>some false
 |.py .bool=>some λd=>match d with|.bl _=>some true|.exc _=>none|.fn _=>none|.dct _ _=>none|_=>some false
 |.py .tuple=>some λd=>match d with|.tup _=>some true|.exc _=>none|.fn _=>none|.dct _ _=>none|_=>some false
 |.py .list=>some λd=>match d with|.lst _=>some true|.exc _=>none|.fn _=>none|.dct _ _=>none|_=>some false
 |.py .str=>some λd=>match d with|.str _=>some true|.exc _=>none|.fn _=>none|.dct _ _=>none|_=>some false
 |.exc c=>some λd=>match d with|.exc e=>some (hit c e)|_=>none
 |.verr=>some λd=>match d with|.exc e=>some (hit 100 e)|_=>none
 |_=>none
noncomputable def kD:Const->Option D
 |.int i=>some (.int i)
 |.bool b=>some (.bl b)
 |.none=>some .non
 |.str x=>some (.str x)
 |_=>none
noncomputable def dY{α β:Type}(f:α->Option β):List α->Option (List β)
 |[]=>some []
 |x::r=>match f x with
  |none=>none
  |some y=>(dY f r).map (y:: ·)
def cO:Expr->Option (List Str×Nat)
 |.Name x _=>some ([x],0)
 |.Tuple es _ _=>(dY (λ(e:Expr)=>match e with|.Name x _=>some x|_=>none) es).bind λxs=>if 2<=xs.length then some (xs,xs.length)else none
 |_=>none
noncomputable def aX(sc:Scope):List Str:=(sc.names.filter λp=>p.2== .free).map (·.1)
def pR(sc:Scope):List Str:=(sc.names.filter λp=>p.2== .cell).map (·.1)
def kQ(sc:Scope)(xs:List Str):Bool:=
 sc.kind== .function&&((pR sc).isEmpty||(decide (pR sc=xs)&&decide (xs.length=1)))&&xs.all (λx=>sc.names.lookup x==some (if(pR sc).isEmpty then .local else .cell))&&
  sc.names.all (λp=>p.2 != .local||sc.names.lookup p.1==some .local)&&decide (xs++aX sc).Nodup&&(xs++aX sc).all (λx=>x != "__debug__"&&x != "__classdict__")&&(aX sc).all (λx=>sc.names.lookup x==some .free)
def one:List Expr->Option Expr
 |[a]=>some a
 |_=>none
def two:List Expr->Option (Expr×Expr)
 |[a,b]=>some (a,b)
 |_=>none
def bX:Expr->Option (Str×Pos)
 |.Name x p=>some (x,p)
 |_=>none
noncomputable def D6:Expr->Option (List Expr×Nat×Pos)
 |.Tuple es k p=>some (es,k,p)
 |_=>none
noncomputable def D7:Expr->Option Expr
 |.Slice lo hi st _=>if lo.isNone&&st.isNone then hi else none
 |_=>none
noncomputable def M9:Expr->Bool
 |.Constant c _ _=>(match c with|.int i=>i==1|_=>false)
 |_=>false
def D8:Expr->Bool
 |.Name _ _=>true
 |_=>false
def Mf:Expr->Bool
 |.Subscript _ _ _=>true
 |_=>false
def Na(e:Expr):Option (Str×Str):=(D6 e).bind λ(es,_)=>(two es).bind λ(u,v)=>(bX u).bind λ(x,_)=>(bX v).map λ(y,_)=>(x,y)
def D9:Expr->Bool
 |.Constant c _ _=>(match c with|.str _=>true|_=>false)
 |_=>false
def HM(dE:Expr->Option F)(C:Ctx)(a:Expr):Option F:=match a with
 |.Call f as kws _=>if kws.isEmpty then(bX f).bind λ(x,_)=>(one as).bind λb=>(match loc C x,glo C x with
  |none,some (.py .range)=>dE b
  |_,_=>none)else none
 |_=>none
def Ea(dE:Expr->Option F)(C:Ctx)(a:Expr):Option F:=match a with
 |.Call f as kws _=>if kws.isEmpty then(bX f).bind λ(x,_)=>(two as).bind λ(b,c)=>(match loc C x,glo C x with
  |none,some (.py .zip)=>(dE b).bind λf=>(dE c).map λg=>pQ f g
  |_,_=>none)else none
 |_=>none
def AY(b:Bool)(r:Rk):List D:=if b then r.done else r.undone
def A9(A i:Nat)(k:Rk->R):F:=λρ=>match ρ[i]? with
 |some (.rk C r)=>if C=A then k r else .bad
 |_=>.bad
def CW(A i:Nat)(b:Bool):F:=A9 A i λr=>.ok (.lst (AY b r))
def GT(neg:Bool)(A i:Nat)(f:F):F:=λρ=>(f ρ).bind λd=>A9 A i (λr=>match d with
 |.str x=>.ok (.bl (neg != (bC r.held x).isSome))
 |_=>.bad) ρ
def Ba(A i:Nat)(f:F):F:=λρ=>A9 A i (λr=>(f ρ).bind λd=>match d with
 |.str x=>(match bC r.held x with|some d=>.ok d|none=>.bad)
 |_=>.bad) ρ
def Bb(A i:Nat)(f:F):F:=λρ=>A9 A i (λr=>(f ρ).bind λd=>match d with
 |.str x=>.ok ((bC r.held x).getD .non)
 |_=>.bad) ρ
def eM(A i:Nat)(m:FM)(fs:List F):F:=λρ=>A9 A i (λr=>l4 fs ρ λds=>(m r ds).told) ρ
def ltS(x y:Str):Bool:=decide (x.cps.toList<y.cps.toList)
def Bc(x:Str):List Str->List Str
 |[]=>[x]
 |y::l=>if ltS y x then y::Bc x l else x::y::l
def gP:List Str->List Str
 |[]=>[]
 |x::l=>Bc x (gP l)
def tR:Fn
 |[.dct ks _]=>if ks.length<64 then .ow ((gP ks).map D.str)else .bad
 |_=>.bad
def tU(k1 k2:Str)(f1 f2:F):F:=λρ=>(f1 ρ).bind λx=>(f2 ρ).bind λy=>if k1=k2 then .bad else .ok (.dct [k1,k2] [x,y])
def kR:F:=λ_=>.ok (.dct [] [])
def pS(f g h:F):F:=λρ=>(f ρ).bind λx=>match x with
 |.dct ks vs=>(g ρ).bind λy=>(h ρ).bind λz=>(match y with
  |.str k=>.ok ((bC (ks.zip vs) k).getD z)
  |_=>.bad)
 |_=>.bad
def Eb(A i:Nat):F:=A9 A i λr=>if r.held.length<64 then .ow ((gP (r.held.map (·.1))).map D.str)else .bad
noncomputable def Bd:Expr->Option (Expr×Str×Pos)
 |.Attribute o f p=>some (o,f,p)
 |_=>none
def atF(C:Ctx)(f:Str)(e:Expr):Option Nat:=(Bd e).bind λ(o,g,_)=>if g=f then(bX o).bind λ(x,_)=>loc C x else none
def GU(C:Ctx)(e:Expr):Option (Nat×Bool):=match atF C "done" e with
 |some i=>some (i,true)
 |none=>(atF C "undone" e).map λi=>(i,false)
def rkc(C:Ctx):Option (Nat×List (Str×Nat×FM)):=match C.tab.lookup ("Rack":Str)with
 |some (.cls a ms)=>some (a,ms)
 |_=>none
def K3:CmpOp->Option Bool
 |.In=>some false
 |.NotIn=>some true
 |_=>none
def HN(dE:Expr->Option F)(C:Ctx)(A:Nat)(op:CmpOp)(a b:Expr):Option F:=match K3 op with
 |some neg=>(atF C "held" b).bind λi=>(dE a).map λf=>GT neg A i f
 |none=>(GU C a).bind λ(i,bb)=>(dE b).map λg=>aZ op (CW A i bb) g
def HP(dE:Expr->Option F)(C:Ctx)(A:Nat)(ms:List (Str×Nat×FM))(o:Expr)(m:Str)(as:List Expr):Option F:=match bX o with
 |some (x,_)=>(loc C x).bind λi=>(ms.lookup m).bind λ(n,M)=>if as.length<20 then(dY dE as).bind λfs=>if fs.length=n then some (eM A i M fs)else none else none
 |none=>if m="get" then(atF C "held" o).bind λi=>(one as).bind λa=>(dE a).map λg=>Bb A i g else none
def Mg(C:Ctx)(A:Nat)(x:Str)(a:Expr):Option F:=match glo C x with
 |some (.py .sorted)=>(atF C "held" a).map λi=>Eb A i
 |some (.py .len)=>(GU C a).map λ(i,bb)=>aF jR [CW A i bb]
 |_=>none
def Ku(dE:Expr->Option F)(C:Ctx)(e:Expr):Option F:=match rkc C with
 |none=>none
 |some (A,ms)=>(match e with
  |.Compare a [op] cs _=>(one cs).bind λb=>HN dE C A op a b
  |.Subscript a b _=>(atF C "held" a).bind λi=>(dE b).map λg=>Ba A i g
  |.Call f as kws cp=>if kws.isEmpty then(match f with
   |.Attribute o m ap=>if(ap.endLine==cp.line)=true then HP dE C A ms o m as else none
   |.Name x _=>(one as).bind λa=>Mg C A x a
   |_=>none)else none
  |_=>none)
def jL:List D->Option (List (Str×D))
 |[]=>some []
 |d::r=>match d with
  |.tup [.str k,x]=>(jL r).map ((k,x):: ·)
  |_=>none
def rW(ps:List (Str×D)):List (Str×D):=ps.foldl (λacc p=>fK acc p.1 p.2) []
def mI(x:D):R:=match x with
 |.lst ds=>(match jL ds with
  |some ps=>if ps.length<=1000 then .ok (.dct ((rW ps).map (·.1)) ((rW ps).map (·.2)))else .bad
  |none=>.bad)
 |_=>.bad
def mJ(f:F):F:=λρ=>(f ρ).bind mI
def Kv(o:Option Expr):Option Str:=o.bind λe=>match e with
 |.Constant c _ _=>(match c with|.str x=>some x|_=>none)
 |_=>none
def K4:List (Option Expr)->Option (Option Expr×Option Expr)
 |[a,b]=>some (a,b)
 |_=>none
def dkD(dE:Expr->Option F)(ks:List (Option Expr))(vs:List Expr):Option F:=if ks.isEmpty&&vs.isEmpty then some kR else
 (K4 ks).bind λ(k1,k2)=>(two vs).bind λ(v1,v2)=>(Kv k1).bind λx=>(Kv k2).bind λy=>(dE v1).bind λf=>(dE v2).map λg=>tU x y f g
def dkE(dE:Expr->Option F)(C:Ctx)(e:Expr):Option F:=match e with
 |.Call f as kws cp=>if kws.isEmpty then(match f with
  |.Attribute o m ap=>if m="get"/\D8 o=true/\(ap.endLine==cp.line)=true then(two as).bind λ(a,b)=>(dE o).bind λf=>(dE a).bind λg=>(dE b).map λh=>pS f g h else none
  |.Name x _=>(one as).bind λa=>(match loc C x,glo C x with
   |none,some (.py .dict)=>(dE a).map λf=>mJ f
   |_,_=>none)
  |_=>none)else none
 |_=>none
def rkE(dE:Expr->Option F)(C:Ctx)(e:Expr):Option F:=match Ku dE C e with
 |some f=>some f
 |none=>dkE dE C e
def Be(C:Ctx)(e:Expr):Option Expr:=match e with
 |.Call f as kws _=>if kws.isEmpty then(bX f).bind λ(x,_)=>(one as).bind λa=>(match loc C x,glo C x with
  |none,some (.py .dict)=>some a
  |_,_=>none)else none
 |_=>none
def bsN(C:Ctx)(e:Expr):Bool:=match e with|.Name x _=>C.bs.contains x|_=>false
def Ec(dE dL:Expr->Option F)(C:Ctx)(p:Py)(as:List Expr):Option F:=match p with
 |.len=>(one as).bind λa=>(dL a).map λf=>aF jR [f]
 |.int=>(one as).bind λa=>(dL a).map λf=>aF AW [f]
 |.tuple=>(one as).bind λa=>(dL a).map λf=>aF gY [f]
 |.list=>(one as).bind λa=>(match dL a with
  |some f=>some (aF vV [f])
  |none=>(Ea dE C a).map λf=>aF vV [f])
 |.sum=>(one as).bind λa=>(dL a).map λf=>aF AX [f]
 |.all=>(one as).bind λa=>(dL a).map λf=>aF GS [f]
 |.any=>none
 |.abs=>none
 |.sorted=>none
 |.min=>(two as).bind λ(a,b)=>(dE a).bind λf=>(dE b).map λh=>aF Kr [f,h]
 |.max=>(two as).bind λ(a,b)=>(dE a).bind λf=>(dE b).map λh=>aF Kq [f,h]
 |.isin=>(two as).bind λ(a,b)=>(bX b).bind λ(t,_)=>(if bsN C a then dL a else dE a).bind λf=>(glo C t).bind λg=>(isP g).map λP=>rIs P f
 |_=>none
def xF(dE:Expr->Option F)(C:Ctx)(tt:Bool)(x:Str)(as:List Expr):Option F:=match glo C x,as with
 |some (.py .range),[a]=>(dE a).map cZ
 |some (.py .zip),[a,b]=>if tt then(dE a).bind λf=>(dE b).map λg=>pQ f g else none
 |_,_=>none
def CY(x:Str):Str:=x++"{}"
mutual
def bP:Nat->Ctx->Expr->Option F
 |0,_,_=>none
 |n+1,C,e=>match e with
  |.Name x _=>(match loc C x with
   |some i=>some (aA i)
   |none=>match glo C x with
    |some (.val d)=>some (rK d)
    |some (.fn k _ _)=>some (rK (.fn k))
    |_=>none)
  |.Constant c _ _=>(kD c).map rK
  |.BinOp a op b _=>(bP n C a).bind λf=>(bP n C b).map λg=>aS op f g
  |.UnaryOp op a _=>(bP n C a).bind λf=>(match op with|.Not=>some (pO f)|_=>none)
  |.BoolOp op es p=>(match es with
   |[a,b]=>(bP n C a).bind λf=>(bP n C b).map λg=>(match op with|.And=>jX f g|.Or=>rOr f g)
   |a::b::c::r=>(bP n C a).bind λf=>(bP n C (.BoolOp op (b::c::r) p)).map λg=>(match op with|.And=>jX f g|.Or=>rOr f g)
   |_=>none)
  |.Compare a ops cs q=>(match rkE (bP n C) C (.Compare a ops cs q)with
   |some f=>some f
   |none=>match ops with
   |[op]=>(one cs).bind λb=>(bP n C a).bind λf=>(bP n C b).map λg=>aZ op f g
   |[op,op']=>(two cs).bind λ(b,c)=>(bP n C a).bind λf=>(bP n C b).bind λg=>(bP n C c).map λh=>jK op op' f g h
   |_=>none)
  |.Dict ks vs _=>dkD (bP n C) ks vs
  |.IfExp c a b _=>(bP n C c).bind λh=>(bP n C a).bind λf=>(bP n C b).map λg=>rIf h f g
  |.Tuple es _ _=>if es.length<=1000 then(dY (bP n C) es).map dX else none
  |.List es _=>if es.length<=1000 then(dY (bP n C) es).map fJ else none
  |.Subscript a b q=>(match rkE (bP n C) C (.Subscript a b q)with
   |some f=>some f
   |none=>(AZ n C a).bind λf=>(match D7 b with
   |some h=>(bP n C h).map λk=>kP f k
   |none=>(bP n C b).map λg=>rIx f g))
  |.ListComp elt gens sc _=>(match gens with
   |[⟨tg,it,ifs,as⟩]=>if as=0 then(cO tg).bind λ(xs,k)=>(Ed n C (k != 0) it).bind λfi=>if kQ sc xs then
     (dY (λx=>fA C x) (aX sc)).bind λcs=>(match ifs with
     |[]=>some none
     |[c]=>(bP n {C with sc:=sc,N:=xs++aX sc} c).map some
     |_=>none).bind λc=>(bP n {C with sc:=sc,N:=xs++aX sc} elt).map λe=>bL k cs fi c e
    else none else none
   |_=>none)
  |.Call f as kws cp=>(match rkE (bP n C) C (.Call f as kws cp)with
   |some f=>some f
   |none=>(if kws.isEmpty then(match f with
   |.Name x _=>(match loc C x with
    |some _=>none
    |none=>(match glo C x with
     |some (.fn _ k f)=>if as.isEmpty then none else(dY (bP n C) as).bind λfs=>if fs.length=k then some (aF f fs)else none
     |some (.py p)=>Ec (bP n C) (AZ n C) C p as
     |_=>none))
   |_=>none)else none))
  |_=>none
def AZ:Nat->Ctx->Expr->Option F
 |0,_,_=>none
 |n+1,C,e=>match e with
  |.Name x p=>(match loc C x with
   |some i=>some (aD i)
   |none=>bP n C (.Name x p))
  |e=>bP n C e
def Ed:Nat->Ctx->Bool->Expr->Option F
 |0,_,_,_=>none
 |n+1,C,tt,e=>match e with
  |.Call f as kws q=>(match f with
   |.Name x p=>(match loc C x,glo C x,kws with
    |none,some (.py .range),[]=>xF (bP n C) C tt x as
    |none,some (.py .zip),[]=>xF (bP n C) C tt x as
    |none,some (.py .enum),[]=>xF (bP n C) C tt x as
    |_,_,_=>bP n C (.Call (.Name x p) as kws q))
   |f=>bP n C (.Call f as kws q))
  |e=>AZ n C e
end
def gv:Nat->Expr->List Str
 |0,_=>[]
 |n+1,e=>match e with
  |.Name x _=>[x]
  |.BinOp a _ b _=>gv n a++gv n b
  |.UnaryOp _ a _=>gv n a
  |.BoolOp _ as _=>as.flatMap (gv n)
  |.Compare a [_] [b] _=>(if D8 a then []else gv n a)++(if D8 b then []else gv n b)
  |.Compare a _ bs _=>gv n a++bs.flatMap (gv n)
  |.IfExp a b c _=>gv n a++gv n b++gv n c
  |.Tuple es _ _=>es.flatMap (gv n)
  |.List es _=>es.flatMap (gv n)
  |.Slice lo hi _ _=>(lo.map (gv n)).getD []++(hi.map (gv n)).getD []
  |.Subscript (.Name _ _) b _=>gv n b
  |.Subscript a b _=>gv n a++gv n b
  |.ListComp elt [⟨_,.Name _ _,ifs,_⟩] _ _=>ifs.flatMap (gv n)++gv n elt
  |.ListComp elt [⟨_,it,ifs,_⟩] _ _=>gv n it++ifs.flatMap (gv n)++gv n elt
  |.Call (.Name x _) as _ _=>if x="len"\/x="tuple"\/x="list"\/x="sum"\/x="sorted"\/x="all"\/x="any"\/x="isinstance" then
    as.flatMap λa=>match a with|.Name _ _=>[]|a=>gv n a else x::as.flatMap (gv n)
  |.Call (.Attribute (.Name _ _) _ _) as _ _=>as.flatMap (gv n)
  |.Call (.Attribute o _ _) as _ _=>gv n o++as.flatMap (gv n)
  |.Call f as _ _=>gv n f++as.flatMap (gv n)
  |_=>[]
def l7(C:Ctx)(e:Expr):List Nat:=match C.bs with
 |[]=>[]
 |_=>((gv 50 e).filter λx=>C.bs.contains x).filterMap λx=>loc C x
def eY(is:List Nat)(s:FS):FS:=match is with
 |[]=>s
 |is=>Ks is s
def xG:Nat->List Stmt->List Str
 |0,_=>[]
 |n+1,ss=>ss.flatMap λs=>match s with
  |.Assign [.Subscript (.Name x _) _ _] _ _=>[x]
  |.Assign [.Name x _] (.Dict [] [] _) _=>[CY x]
  |.Assign [.Tuple [_,.Name x _] _ _] (.Tuple [_,.Dict [] [] _] _ _) _=>[CY x]
  |.AugAssign (.Subscript (.Name x _) _ _) _ _ _=>[x]
  |.Assign [.Tuple [.Subscript (.Name x _) _ _,_] _ _] _ _=>[x]
  |.Expr (.Call (.Attribute (.Name x _) m _) _ _ _) _=>if m="append"\/m="extend"\/m="remove" then [x]else []
  |.If _ a b _=>xG n a++xG n b
  |.For _ _ b _ _=>xG n b
  |.While _ b _ _=>xG n b
  |.Return (some (.Name x _)) _=>if x="numbers" then [x]else []
  |_=>[]
def xH:Expr->Bool
 |.Call _ _ _ _=>true
 |.Name _ _=>true
 |.Subscript _ _ _=>true
 |.ListComp _ _ _ _=>true
 |_=>false
def Ee(C:Ctx)(x y:Str)(px py:Pos)(a b:Expr):Bool:=
 C.sc.names.lookup x==some .local&&C.sc.names.lookup y==some .local&&x != y&&px.line==py.line&& !([a,b].all (foldedForSure 8))&& !([a,b].all (constantsAlone 8))&& !C.bs.contains x&& !C.bs.contains y
def xI(C:Ctx)(x y:Str):Bool:=(C.sc.names.lookup x==some .cell||C.sc.names.lookup y==some .cell)&& !C.bs.contains x&& !C.bs.contains y
def Mh:Operator->Bool
 |.Add=>true
 |_=>false
def Mi:Operator->Bool
 |.Add=>true
 |.Sub=>true
 |_=>false
structure Par where
 x:Str
 px:Pos
 y:Str
 py:Pos
 a:Expr
 b:Expr
def K5(es:List Expr)(e:Expr):Option Par:=(two es).bind λ(u,v)=>(bX u).bind λ(x,px)=>(bX v).bind λ(y,py)=>(D6 e).bind λ(vs,_)=>(two vs).map λ(a,b)=>⟨x,px,y,py,a,b⟩
structure Par3 where
 x:Str
 px:Pos
 y:Str
 py:Pos
 z:Str
 pz:Pos
 a:Expr
 b:Expr
 c:Expr
def Bf:List Expr->Option (Expr×Expr×Expr)
 |[a,b,c]=>some (a,b,c)
 |_=>none
def Nr(es:List Expr)(e:Expr):Option Par3:=(Bf es).bind λ(u,v,w)=>(bX u).bind λ(x,px)=>(bX v).bind λ(y,py)=>(bX w).bind λ(z,pz)=>(D6 e).bind λ(vs,_)=>(Bf vs).map λ(a,b,c)=>⟨x,px,y,py,z,pz,a,b,c⟩
def Mj(C:Ctx)(q:Par3):Bool:=
 C.sc.names.lookup q.x==some .local&&C.sc.names.lookup q.y==some .local&&C.sc.names.lookup q.z==some .local&&q.x != q.y&&q.x != q.z&&q.y != q.z&&q.px.line==q.py.line&&q.px.line==q.pz.line&& !([q.a,q.b,q.c].all (foldedForSure 8))&& !([q.a,q.b,q.c].all (constantsAlone 8))&& !C.bs.contains q.x&& !C.bs.contains q.y&& !C.bs.contains q.z
def Ml:Expr->Option (Str×Expr)
 |.Subscript o k _=>(bX o).map λ(x,_)=>(x,k)
 |_=>none
def Nt(es:List Expr)(e:Expr):Option (Str×Expr×Expr):=(two es).bind λ(u,v)=>(Ml u).bind λ(x,k)=>(Ml v).bind λ(y,l)=>(D6 e).bind λ(vs,_)=>(two vs).bind λ_=>if x=y then some (x,k,l)else none
def HQ:List Stmt->Option Stmt
 |[s]=>some s
 |_=>none
def Nb:Stmt->Option (Str×Str)
 |.Assign ts e _=>(one ts).bind λt=>(bX t).bind λ(x,_)=>(bX e).map λ(y,_)=>(x,y)
 |_=>none
def Nu(C:Ctx)(hs:List ExceptHandler):Option (Nat×Nat):=match hs with
 |[.ExceptHandler ty nm b _]=>ty.bind λte=>nm.bind λe=>(bX te).bind λ(cx,_)=>(HQ b).bind λs=>(Nb s).bind λ(x,e')=>(match loc C cx,glo C cx with
  |none,some (.exc c)=>if c=0/\e=e' then(loc C e).bind λi=>(loc C x).bind λj=>if C.sc.names.lookup e==some .local&&i != j&&C.bs.isEmpty then some (i,j)else none else none
  |_,_=>none)
 |_=>none
mutual
def CZ:Nat->Bool->Ctx->Stmt->Option FS
 |0,_,_,_=>none
 |n+1,t,C,s=>match s with
  |.Pass _=>some aQ
  |.Return v _=>(match v with
   |none=>none
   |some e=>(match bX e with
    |some (x,_)=>(match loc C x with
     |some i=>some (dP (aA i))
     |none=>(bP 50 C e).map dP)
    |none=>(bP 50 C e).map λf=>eY (l7 C e) (dP f)))
  |.Assign ts e _=>(one ts).bind λtg=>(match tg with
   |.Name x _=>(loc C x).bind λi=>(match if C.bs.contains x then Be C e else none with
    |some a=>(bP 50 C a).map λf=>eY (l7 C a) (mG i f)
    |none=>(bP 50 C e).map λf=>eY (l7 C e) (if C.bs.contains x then vW i f else eU i f))
   |.Tuple es a b=>(match K5 es e with
    |some ⟨x,px,y,py,a,b⟩=>if Ee C x y px py a b then(loc C x).bind λi=>(loc C y).bind λj=>(bP 50 C a).bind λf=>(bP 50 C b).map λg=>eY (l7 C e) (fT [i,j] (dX [f,g]))else if xI C x y then(loc C x).bind λi=>(loc C y).bind λj=>(bP 50 C e).map λf=>eY (l7 C e) (fT [i,j] f)else none
    |none=>(if xH e then some ()else none).bind λ_=>(cO (.Tuple es a b)).bind λ(xs,_)=>(dY (λx=>loc C x) xs).bind λis=>if xs.all (λx=> !C.bs.contains x)then
     (bP 50 C e).map λf=>eY (l7 C e) (fT is f)else none)
   |.Subscript o k _=>(bX o).bind λ(x,_)=>(loc C x).bind λi=>if C.bs.contains x then(bP 50 C e).bind λf=>(bP 50 C k).map λg=>eY (l7 C e++l7 C k) (wM i g f)else none
   |_=>none)
  |.Expr e _=>(match e with
   |.Call f as kws cp=>if kws.isEmpty then(match f with
    |.Name x p=>(bP 50 C (.Call (.Name x p) as [] cp)).map λf=>eY (l7 C (.Call (.Name x p) as [] cp)) (jS f)
    |_=>none)else none
   |_=>none)
  |.If c a b _=>(bP 50 C c).bind λf=>(nI n t C a).bind λg=>(nI n t C b).map λh=>eY (l7 C c) (sIf f g h)
  |.Raise x c _=>if t||c.isSome then none else x.bind λe=>(match e with
   |.Call f as kws _=>if kws.isEmpty then(bX f).bind λ(x,_)=>(one as).bind λa=>if D9 a then(match loc C x,glo C x with
    |none,some (.exc c)=>some (mF c)
    |_,_=>none)else none else none
   |_=>none)
  |_=>none
def nI:Nat->Bool->Ctx->List Stmt->Option FS
 |0,_,_,_=>none
 |n+1,t,C,ss=>match ss with
  |[]=>some aQ
  |[a]=>some ((CZ n t C a).getD Kt)
  |a::r=>(nI n t C r).map λg=>a8 ((CZ n t C a).getD Kt) g
end
noncomputable def eN(a:Arguments):Option (List Str):=if a.posonlyargs.isEmpty&&a.vararg.isNone&&a.kwonlyargs.isEmpty&&a.kwarg.isNone&&a.defaults.isEmpty then some (a.args.map (·.arg))else none
noncomputable def aB(sc:Scope):List Str:=(sc.names.filter λp=>p.2== .local||p.2== .cell).map (·.1)
noncomputable def bU(N P:List Str)(sc:Scope):Bool:=
 sc.kind== .function&& !sc.isCoroutine&& !sc.isGenerator&&decide N.Nodup&&decide (N.take P.length=P)&&
  P.all (λx=>sc.names.lookup x==some .local||sc.names.lookup x==some .cell)&&sc.names.all (λp=>p.2 != .free)&&N.all (λx=>x != "__debug__"&&x != "__classdict__")
def Ef(tab:List (Str×Gl))(fns:List (Nat×Fn))(s:Stmt):Option (Nat×Fn):=match s with
 |.FunctionDef _ as b _ _ _ sc _ _ _=>(eN as).bind λP=>if bU (aB sc) P sc then
   (nI 100 false ⟨tab,fns,sc,aB sc,xG 50 b⟩ b).map λg=>(P.length,fnOf (aB sc).length g)else none
 |_=>none
def GV(g:Gl):D->Option Bool:=(isP g).getD λ_=>none
def HS:D->Option Bool:=GV (.py .int)
def Eg:D->Option Bool:=GV (.py .bool)
def nJ:D->Option Bool:=GV (.py .tuple)
def HU:D->Option Bool:=GV (.py .str)
def l8:Nat->D->Option Bool
 |100=>GV .verr
 |c=>GV (.exc c)
mutual
def eA:D->PyData
 |.non=>.none
 |.bl b=>.bool b
 |.int i=>.int i
 |.str x=>.str x
 |.tup xs=>.tuple (fU xs)
 |.lst xs=>.list (fU xs)
 |.exc _=>.none
 |.fn _=>.none
 |.dct _ _=>.none
def fU:List D->List PyData
 |[]=>[]
 |x::xs=>eA x::fU xs
end
mutual
theorem jM: ∀{d:D},plain d=true->(eA d).canLay0=true
 |.non,_=>by simp[eA,PyData.canLay0]
 |.bl _,_=>by simp[eA,PyData.canLay0]
 |.int _,_=>by simp[eA,PyData.canLay0]
 |.str x,h=>by
  unfold plain at h;simp only[eA,PyData.canLay0];exact h
 |.tup xs,h=>by
  simp only[eA,PyData.canLay0];exact rX (by simpa[plain]using h)
 |.lst xs,h=>by
  simp only[eA,PyData.canLay0];exact rX (by simpa[plain]using h)
 |.exc _,h=>by simp[plain]at h
 |.fn _,h=>by simp[plain]at h
 |.dct _ _,h=>by simp[plain]at h
theorem rX: ∀{ds:List D},bT ds=true->PyData.canLayAll0 (fU ds)=true
 |[],_=>by simp[fU,PyData.canLayAll0]
 |d::ds,h=>by
  have a:plain d=true/\bT ds=true:=by simpa[bT]using h
  simp only[fU,PyData.canLayAll0,jM a.1,rX a.2,Bool.and_self]
end
mutual
theorem kS: ∀(d:D),(eA d).depth=dep d
 |.non=>by simp[eA,PyData.depth,dep]
 |.bl _=>by simp[eA,PyData.depth,dep]
 |.int _=>by simp[eA,PyData.depth,dep]
 |.str x=>by simp[eA,PyData.depth,dep]
 |.tup a=>by simp[eA,PyData.depth,dep,rY a]
 |.lst a=>by simp[eA,PyData.depth,dep,rY a]
 |.exc _=>by simp[eA,PyData.depth,dep]
 |.fn _=>by simp[eA,PyData.depth,dep]
 |.dct _ _=>by simp[eA,PyData.depth,dep]
theorem rY: ∀(ds:List D),PyData.depthAll (fU ds)=xC ds
 |[]=>by simp[fU,PyData.depthAll,xC]
 |d::ds=>by simp[fU,PyData.depthAll,xC,kS d,rY ds]
end
theorem C1(b:Bool):b2i b=if b then 1 else 0:=rfl
mutual
theorem kT: ∀(x y:D),plain x=true->plain y=true->PyData.eqv (eA x) (eA y)=deq x y
 |.non,y,_,h=>by cases y<;>simp[plain]at h<;>simp[eA,PyData.eqv,deq]
 |.bl a,y,_,h=>by cases y<;>simp[plain]at h<;>simp[eA,PyData.eqv,deq,C1]
 |.int a,y,_,h=>by cases y<;>simp[plain]at h<;>simp[eA,PyData.eqv,deq,C1]
 |.str a,y,_,h=>by cases y<;>simp[plain]at h<;>simp[eA,PyData.eqv,deq]
 |.tup xs,y,g,h=>by
  cases y with
  |tup b=>simpa[eA,PyData.eqv,deq]using nL xs b (by simpa[plain]using g) (by simpa[plain]using h)
  |_=>simp[plain]at h<;>simp[eA,PyData.eqv,deq]
 |.lst xs,y,g,h=>by
  cases y with
  |lst b=>simpa[eA,PyData.eqv,deq]using nL xs b (by simpa[plain]using g) (by simpa[plain]using h)
  |_=>simp[plain]at h<;>simp[eA,PyData.eqv,deq]
 |.exc _,_,g,_=>by simp[plain]at g
 |.fn _,_,g,_=>by simp[plain]at g
 |.dct _ _,_,g,_=>by simp[plain]at g
theorem nL: ∀(xs ys:List D),bT xs=true->bT ys=true->PyData.eqvAll (fU xs) (fU ys)=wL xs ys
 |[],[],_,_=>by simp[fU,PyData.eqvAll,wL]
 |[],_::_,_,_=>by simp[fU,PyData.eqvAll,wL]
 |_::_,[],_,_=>by simp[fU,PyData.eqvAll,wL]
 |x::xs,y::ys,g,h=>by
  have a:plain x=true/\bT xs=true:=by simpa[bT]using g
  have b:plain y=true/\bT ys=true:=by simpa[bT]using h
  simp only[fU,PyData.eqvAll,wL,kT x y a.1 b.1,nL xs ys a.2 b.2]
end
noncomputable abbrev St:=L2.St
structure Ad where
 cls:Nat->Addr
 fnA:Nat->Addr
 nb:Nat
def nM(h:Heap)(x C:Addr):Prop:= ∃o vs,h.get? x=some o/\o.cls= .ref C/\o.data= .fields vs
def C2(C a:Addr):HO:=.ext λh=>nM h a C
section
variable (K:PySem.W.Frag) (ad:Ad)
mutual
def Rep(G:Hp):D->V->Prop
 |.non,v=>v= .non
 |.bl b,v=>v= .bl b
 |.int i,v=>v= .int i
 |.str x,v=>v= .str x
 |.tup ds,v=>∃a vs,v= .ref a/\SqT K G a vs/\aJ G ds vs
 |.lst ds,v=>∃a vs,v= .ref a/\SqL K G a vs/\aJ G ds vs
 |.exc c,v=>∃a,v= .ref a/\G a=some (C2 (ad.cls c) a)
 |.fn k,v=>v= .ref (ad.fnA k)
 |.dct ks ds,v=>∃a o es,v= .ref a/\G a=some (.frz o (.dK es))/\es.map (·.1)=ks.map Sum.inr/\aJ G ds (es.map (·.2))
def aJ(G:Hp):List D->List V->Prop
 |[],vs=>vs=[]
 |d::ds,vs=>∃v r,vs=v::r/\Rep G d v/\aJ G ds r
end
end
section
variable{K:PySem.W.Frag}{ad:Ad}{G G' H H':Hp}
theorem _root_.L2.Same.seqT{K:PySem.W.Frag}{H H':Hp}(e:Same H H')(h:SqT K H a xs):SqT K H' a xs:=by
 rcases h with (h|⟨o,h⟩)|h
 ·exact .inl (.inl (e _ _ h))
 ·exact .inl (.inr ⟨o,e _ _ h⟩)
 ·exact .inr h
mutual
theorem Rep.mono(e:Same G G'): ∀{d:D} {v:V},Rep K ad G d v->Rep K ad G' d v
 |.non,_,h=>h
 |.bl _,_,h=>h
 |.int _,_,h=>h
 |.str _,_,h=>h
 |.tup ds,v,h=>by
  unfold Rep at h ⊢;obtain⟨a,g,b,c,f⟩:=h;exact⟨a,g,b,e.seqT c,aJ.mono e f⟩
 |.lst ds,v,h=>by
  unfold Rep at h ⊢;obtain⟨a,g,b,c,f⟩:=h;exact⟨a,g,b,e.seq c,aJ.mono e f⟩
 |.exc _,_,h=>by
  unfold Rep at h ⊢;obtain⟨a,b,c⟩:=h;exact⟨a,b,e _ _ c⟩
 |.fn _,_,h=>h
 |.dct ks ds,v,h=>by
  unfold Rep at h ⊢;obtain⟨a,o,i,b,c,f,j⟩:=h;exact⟨a,o,i,b,e _ _ c,f,aJ.mono e j⟩
theorem aJ.mono(e:Same G G'): ∀{ds:List D} {vs:List V},aJ K ad G ds vs->aJ K ad G' ds vs
 |[],_,h=>h
 |d::ds,vs,h=>by
  unfold aJ at h ⊢;obtain⟨v,r,a,c,b⟩:=h;exact⟨v,r,a,Rep.mono e c,aJ.mono e b⟩
end
theorem aJ.length: ∀{ds:List D} {vs:List V},aJ K ad G ds vs->vs.length=ds.length
 |[],_,h=>by
  unfold aJ at h;subst h;rfl
 |d::ds,vs,h=>by
  unfold aJ at h;obtain⟨v,r,rfl,_,a⟩:=h;simp[aJ.length a]
theorem aJ.nil:aJ K ad G [] []:=by unfold aJ;rfl
theorem aJ.cons{d:D}{v:V}{ds:List D}{vs:List V}(h:Rep K ad G d v)(t:aJ K ad G ds vs):aJ K ad G (d::ds) (v::vs):=by
 unfold aJ;exact⟨v,vs,rfl,h,t⟩
theorem aJ.get: ∀{ds:List D} {vs:List V} {i:Nat} {d:D},aJ K ad G ds vs->ds[i]? =some d->∃v,vs[i]? =some v/\Rep K ad G d v
 |[],_,_,_,_,e=>by simp at e
 |d::ds,vs,i,d',h,e=>by
  unfold aJ at h;obtain⟨v,r,rfl,f,c⟩:=h
  cases i with
  |zero=>
   simp at e
   subst e;exact⟨v,rfl,f⟩
  |succ i=>
   obtain⟨w,a,b⟩:=aJ.get (i:=i) (d:=d') c (by simpa using e)
   exact⟨w,by simpa using a,b⟩
theorem aJ.append: ∀{ds es:List D} {vs ws:List V},aJ K ad G ds vs->aJ K ad G es ws->aJ K ad G (ds++es) (vs++ws)
 |[],_,_,_,h,t=>by
  unfold aJ at h;subst h;exact t
 |d::ds,es,vs,ws,h,t=>by
  unfold aJ at h;obtain⟨v,r,rfl,b,a⟩:=h;exact aJ.cons b (aJ.append a t)
theorem aJ.drop: ∀(n:Nat) {ds:List D} {vs:List V},aJ K ad G ds vs->aJ K ad G (ds.drop n) (vs.drop n)
 |0,_,_,h=>h
 |n+1,[],_,h=>by
  unfold aJ at h;subst h;exact aJ.nil
 |n+1,d::ds,vs,h=>by
  unfold aJ at h;obtain⟨v,r,rfl,b,a⟩:=h;exact aJ.drop n a
theorem aJ.take: ∀(n:Nat) {ds:List D} {vs:List V},aJ K ad G ds vs->aJ K ad G (ds.take n) (vs.take n)
 |0,_,_,_=>aJ.nil
 |n+1,[],_,h=>by
  unfold aJ at h;subst h;exact aJ.nil
 |n+1,d::ds,vs,h=>by
  unfold aJ at h;obtain⟨v,r,rfl,b,a⟩:=h;exact aJ.cons b (aJ.take n a)
theorem aJ.set{d:D}{v:V}(q:Rep K ad G d v): ∀(n:Nat) {ds:List D} {vs:List V},aJ K ad G ds vs->aJ K ad G (ds.set n d) (vs.set n v)
 |_,[],_,h=>by
  unfold aJ at h;subst h;exact aJ.nil
 |0,_::ds,vs,h=>by
  unfold aJ at h;obtain⟨w,r,rfl,b,a⟩:=h;exact aJ.cons q a
 |n+1,e::ds,vs,h=>by
  unfold aJ at h;obtain⟨w,r,rfl,b,a⟩:=h;exact aJ.cons b (aJ.set q n a)
theorem aJ.map_int: ∀{ns:List Int},aJ K ad G (ns.map D.int) (ns.map V.int)
 |[]=>aJ.nil
 |_::_=>aJ.cons (by unfold Rep;rfl) aJ.map_int
structure Step(G H G' H':Hp):Prop where
 sg:Same G G'
 gh:Same G' H'
 sh:Same H H'
 nw: ∀b,G b=none->G' b≠none->H b=none
theorem pT(e:Same H H')(h:H' b=none):H b=none:=e.free h
theorem Step.refl(h:Same G H):Step G H G H:=⟨Same.refl _,h,Same.refl _,λb c a=>absurd c a⟩
theorem Step.trans(a:Step G H G1 H1)(b:Step G1 H1 G2 H2):Step G H G2 H2:=
 ⟨a.sg.trans b.sg,b.gh,a.sh.trans b.sh,λx c d=>by
  cases q:G1 x with
  |none=>exact a.sh.free (b.nw x q d)
  |some o=>exact a.nw x c (by rw[q];exact λz=>nomatch z)⟩
theorem Same.upd_new(h:H p=none):Same H (upd H p o):=λb u e=>by rw[aC (aN e h)];exact e
theorem Step.new(h:Same G H)(n:H p=none):Step G H (upd G p o) (upd H p o):=by
 have d:G p=none:=h.free n
 refine⟨Same.upd_new d,λb u e=>?_,Same.upd_new n,λb c a=>?_⟩
 ·by_cases q:b=p
  ·subst q;rw[aH]at e ⊢;exact e
  ·rw[aC q]at e ⊢;exact h b u e
 ·by_cases q:b=p
  ·subst q;exact n
  ·rw[aC q]at a;exact absurd c a
theorem Step.own(h:Same G H)(n:H p=none):Step G H G (upd H p o):=
 ⟨Same.refl _,h.trans (Same.upd_new n),Same.upd_new n,λb c a=>absurd c a⟩
theorem Step.shareO(s:Step G H G' H')(n:H p=none)(m:G' p=none)(e:H' p=some o):Step G H (upd G' p o) H':=by
 refine⟨s.sg.trans (Same.upd_new m),λb u q=>?_,s.sh,λb c a=>?_⟩
 ·by_cases z:b=p
  ·subst z;rw[aH]at q;rw[e];exact q
  ·rw[aC z]at q;exact s.gh b u q
 ·by_cases z:b=p
  ·subst z;exact n
  ·rw[aC z]at a;exact s.nw b c a
theorem Step.share(s:Step G H G' H')(n:H p=none)(m:G' p=none)(e:H' p=some (.lst vs)):Step G H (upd G' p (.lst vs)) H':=s.shareO n m e
mutual
def hD:D->Int
 |.non=>0xFCA86420
 |.int i=>hashInt i
 |.tup xs=>reduceHash (Builtin.Tuple.tupleHashOf (hDs xs))
 |_=>0
def hDs:List D->List Int
 |[]=>[]
 |x::xs=>hD x::hDs xs
end
def HR(K:PySem.W.Frag)(ad:Ad)(G:Hp):List (Str×D)->List (Key×V)->Prop:=Paired λp q=>q.1=Sum.inr p.1/\Rep K ad G p.2 q.2
def dcO(_:Addr)(es:List (Key×V)):HO:=.dK es
def sdO(_:Addr)(es:Obj×List (Key×V)):HO:=.frz es.1 (.dK es.2)
abbrev DR:=HR
def KOk(_:List (Str×D)):Prop:=True
theorem HR.mono{K:PySem.W.Frag}{ad:Ad}{G G':Hp}(h:HR K ad G ps qs)(e:Same G G'):HR K ad G' ps qs:=Paired.mapP h λ_ _ z=>⟨z.1,z.2.mono e⟩
structure RackIn(K:PySem.W.Frag)(ad:Ad)(C:Addr)(G H:Hp)(p:Addr)(r:Rk)(dx d l1 l2:Addr):Prop where
 ins:H p=some (.ins C dx [("held",.ref d),("done",.ref l1),("undone",.ref l2)])
 own:H dx=some (.own p)
 held: ∃kvs,H d=some (.dK kvs)/\HR K ad G r.held kvs
 done: ∃vs,H l1=some (.lst vs)/\aJ K ad G r.done vs
 undone: ∃vs,H l2=some (.lst vs)/\aJ K ad G r.undone vs
 ne:l1≠l2
 gp:G p=none
 gx:G dx=none
 gd:G d=none
 g1:G l1=none
 g2:G l2=none
theorem Step.gnone{G H G' H':Hp}(st:Step G H G' H')(g:G b=none)(h:H b=some o):G' b=none:=by
 cases q:G' b with
 |none=>rfl
 |some a=>
  have:=st.nw b g (by rw[q];exact λz=>nomatch z)
  rw[h]at this;cases this
theorem RackIn.step{K:PySem.W.Frag}{ad:Ad}{G H G' H':Hp}(h:RackIn K ad C G H p r dx d l1 l2)(st:Step G H G' H'):RackIn K ad C G' H' p r dx d l1 l2:=by
 obtain⟨a,c,j⟩:=h.held;obtain⟨l,e,g⟩:=h.done;obtain⟨f,b,i⟩:=h.undone;exact⟨st.sh _ _ h.ins,st.sh _ _ h.own,⟨a,st.sh _ _ c,j.mono st.sg⟩,⟨l,st.sh _ _ e,g.mono st.sg⟩,⟨f,st.sh _ _ b,i.mono st.sg⟩,h.ne,st.gnone h.gp h.ins,st.gnone h.gx h.own,st.gnone h.gd c,st.gnone h.g1 e,st.gnone h.g2 b⟩
theorem RackIn.up{K:PySem.W.Frag}{ad:Ad}{G H H':Hp}(h:RackIn K ad C G H p r dx d l1 l2)(s:Same H H'):RackIn K ad C G H' p r dx d l1 l2:=by
 obtain⟨a,i,f⟩:=h.held;obtain⟨j,l,c⟩:=h.done;obtain⟨b,g,e⟩:=h.undone;exact⟨s _ _ h.ins,s _ _ h.own,⟨a,s _ _ i,f⟩,⟨j,s _ _ l,c⟩,⟨b,s _ _ g,e⟩,h.ne,h.gp,h.gx,h.gd,h.g1,h.g2⟩
def SLi(K:PySem.W.Frag)(ad:Ad)(G H:Hp):Slot->Option V->Prop
 |.no,_=>True
 |.sh d,ov=>∃v,ov=some v/\Rep K ad G d v
 |.ow xs,ov=>∃a vs,ov=some (.ref a)/\G a=none/\H a=some (.lst vs)/\aJ K ad G xs vs
 |.dc kvs,ov=>∃a es,ov=some (.ref a)/\G a=none/\H a=some (dcO a es)/\DR K ad G kvs es/\KOk kvs
 |.sd kvs,ov=>∃a es,ov=some (.ref a)/\G a=none/\H a=some (sdO a es)/\DR K ad G kvs es.2/\KOk kvs
 |.rk C r,ov=>∃p dx d l1 l2,ov=some (.ref p)/\RackIn K ad C G H p r dx d l1 l2
structure SL(K:PySem.W.Frag)(ad:Ad)(G H:Hp)(ρ:Rho)(σ:St):Prop where
 len:ρ.length=σ.length
 at_: ∀(i:Nat) (s:Slot),ρ[i]? =some s->∃ov,σ[i]? =some ov/\SLi K ad G H s ov
theorem SLi.step(st:Step G H G' H'): ∀{s:Slot} {ov:Option V},SLi K ad G H s ov->SLi K ad G' H' s ov
 |.no,_,_=>trivial
 |.sh d,_,⟨v,h1,h2⟩=>⟨v,h1,h2.mono st.sg⟩
 |.ow xs,_,⟨a,vs,h1,h2,h3,h4⟩=>by
  refine⟨a,vs,h1,?_,st.sh _ _ h3,h4.mono st.sg⟩
  cases q:G' a with
  |none=>rfl
  |some o=>
   have:=st.nw a h2 (by rw[q];exact λz=>nomatch z)
   rw[h3]at this;cases this
 |.dc kvs,_,⟨a,es,h1,h2,h3,h4,h5⟩=>by
  refine⟨a,es,h1,?_,st.sh _ _ h3,h4.mono st.sg,h5⟩
  cases q:G' a with
  |none=>rfl
  |some o=>
   have:=st.nw a h2 (by rw[q];exact λz=>nomatch z)
   rw[h3]at this;cases this
 |.sd kvs,_,⟨a,es,h1,h2,h3,h4,h5⟩=>by
  refine⟨a,es,h1,?_,st.sh _ _ h3,h4.mono st.sg,h5⟩
  cases q:G' a with
  |none=>rfl
  |some o=>
   have:=st.nw a h2 (by rw[q];exact λz=>nomatch z)
   rw[h3]at this;cases this
 |.rk C r,_,⟨p,dx,d,l1,l2,h1,h2⟩=>⟨p,dx,d,l1,l2,h1,h2.step st⟩
theorem SL.step(h:SL K ad G H ρ σ)(st:Step G H G' H'):SL K ad G' H' ρ σ:=
 ⟨h.len,λi s e=>let ⟨ov,h1,h2⟩:=h.at_ i s e;⟨ov,h1,h2.step st⟩⟩
theorem SL.sh{i:Nat}(h:SL K ad G H ρ σ)(e:ρ[i]? =some (.sh d)): ∃v,σ[i]? =some (some v)/\Rep K ad G d v:=by
 obtain⟨c,a,v,rfl,b⟩:=h.at_ i _ e;exact⟨v,a,b⟩
theorem SL.ow{i:Nat}(h:SL K ad G H ρ σ)(e:ρ[i]? =some (.ow xs)): ∃a vs,σ[i]? =some (some (.ref a))/\G a=none/\H a=some (.lst vs)/\aJ K ad G xs vs:=by
 obtain⟨d,b,a,vs,rfl,c⟩:=h.at_ i _ e;exact⟨a,vs,b,c⟩
theorem SL.dc{i:Nat}(h:SL K ad G H ρ σ)(e:ρ[i]? =some (.dc kvs)): ∃a es,σ[i]? =some (some (.ref a))/\G a=none/\H a=some (dcO a es)/\DR K ad G kvs es/\KOk kvs:=by
 obtain⟨d,b,a,es,rfl,c⟩:=h.at_ i _ e;exact⟨a,es,b,c⟩
theorem SL.rk{i C:Nat}(h:SL K ad G H ρ σ)(e:ρ[i]? =some (.rk C r)): ∃p dx d l1 l2,σ[i]? =some (some (.ref p))/\RackIn K ad C G H p r dx d l1 l2:=by
 obtain⟨c,a,p,dx,d,l1,l2,rfl,b⟩:=h.at_ i _ e;exact⟨p,dx,d,l1,l2,a,b⟩
def RK(K:PySem.W.Frag)(ad:Ad)(G H:Hp)(r:R)(Q:VK)(E:Nat->Hp->Prop):Prop:=match r with
 |.ok d=>∀v G' H',Step G H G' H'->Rep K ad G' d v->Q v H'
 |.ow xs=>∀p vs G' H',Step G H G' H'->H p=none->G' p=none->H' p=some (.lst vs)->aJ K ad G' xs vs->Q (.ref p) H'
 |.ex c=>∀G' H',Step G H G' H'->E c H'
 |.bad=>False
theorem RK.step(h:RK K ad G H r Q E)(st:Step G H G' H'):RK K ad G' H' r Q E:=by
 cases r with
 |ok d=>exact λv b a f q=>h v b a (st.trans f) q
 |ow i=>exact λp g b a f n m e q=>h p g b a (st.trans f) (st.sh.free n) m e q
 |ex c=>exact λb a f=>h b a (st.trans f)
 |bad=>exact h
theorem RK.ok_now(h:RK K ad G H (.ok d) Q E)(e:Same G H)(q:Rep K ad G d v):Q v H:=h v G H (Step.refl e) q
theorem RK.ow_new(h:RK K ad G H (.ow xs) Q E)(e:Same G H)(q:aJ K ad G xs vs)(n:H p=none):Q (.ref p) (upd H p (.lst vs)):=
 h p vs G (upd H p (.lst vs)) (Step.own e n) n (e.free n) aH q
theorem RK.tup_new(h:RK K ad G H (.ok (.tup xs)) Q E)(e:Same G H)(q:aJ K ad G xs vs)(n:H p=none):Q (.ref p) (upd H p (.tup vs)):=by
 refine h (.ref p) (upd G p (.tup vs)) (upd H p (.tup vs)) (Step.new e n) ?_;unfold Rep;exact⟨p,vs,rfl,SqT.of aH,q.mono (Same.upd_new (e.free n))⟩
end
def CXe(P:Program)(w:World):CXT:=λouter H s E e s'=>
 ∃(ea:Addr) (cls a0:Value) (H':Hp) (B:Heap),e= .ref ea/\s'.os=s.os/\AllBare s'.gens/\Heap.FlyingW B outer ea cls a0 s'.heap/\Un (frs outer) [] H H' s.heap s'.heap/\
  HOk P w H' s'.heap/\H' ea=none/\(∀b o,s.heap.get? b=some o->b∉frs outer->∃o',B.get? b=some o')/\(∀b o,H' b=some o->∃o',B.get? b=some o')/\E cls none H'
def xk(ad:Ad)(E:Nat->Hp->Prop):XK:=λcls _ H'=>∃c,cls= .ref (ad.cls c)/\E c H'
def XP(X:Cx)(ad:Ad)(σ:St)(E:Nat->Hp->Prop):Prop:=
 ∀(cb:ce) (H:Hp) (s:Shared) (e:Value) (s':Shared),Inv X cb σ H s->CXe X.prog X.w X.stack H s (xk ad E) e s'->X.xe e s'
def tE(X:Cx)(ad:Ad)(f:F):TE:=λσ H Q=>∃G ρ E,Same G H/\SL X.K ad G H ρ σ/\XP X ad σ E/\RK X.K ad G H (f ρ) Q E
abbrev ME(X:Cx)(ad:Ad)(e:Expr)(f:F):Prop:=PE X e (tE X ad f)
def jN(r:R):Prop:=(∃b,r= .ok (.bl b))\/∃c,r= .ex c
def tT(X:Cx)(ad:Ad)(f:F):TT:=λσ H Q=>∃G ρ E,Same G H/\SL X.K ad G H ρ σ/\XP X ad σ E/\jN (f ρ)/\RK X.K ad G H (f ρ) (λv H'=>∃b,v= .bl b/\Q b H') E
theorem tE.el{ad:Ad}{σ:St}{P:Prop}(h:tE X ad f σ H Q)(k: ∀G ρ E,Same G H->SL X.K ad G H ρ σ->XP X ad σ E->RK X.K ad G H (f ρ) Q E->P):P:=by
 obtain⟨G,ρ,E,a,d,b,c⟩:=h;exact k G ρ E a d b c
theorem tT.el{ad:Ad}{σ:St}{P:Prop}(h:tT X ad f σ H Q)(k: ∀G ρ E,Same G H->SL X.K ad G H ρ σ->XP X ad σ E->jN (f ρ)->RK X.K ad G H (f ρ) (λv H'=>∃b,v= .bl b/\Q b H') E->P):P:=by
 obtain⟨G,ρ,E,c,g,d,e,a⟩:=h;exact k G ρ E c g d e a
abbrev MT(X:Cx)(ad:Ad)(e:Expr)(f:F):Prop:=PT X e (tT X ad f)
abbrev MW(X:Cx)(ad:Ad)(e:Expr)(f:F):Prop:=PW X e (tT X ad f)
def AK(K:PySem.W.Frag)(ad:Ad)(G H:Hp)(r:RA)(Q:List V->Hp->Prop)(E:Nat->Hp->Prop):Prop:=match r with
 |.ok ds=>∀vs G' H',Step G H G' H'->aJ K ad G' ds vs->Q vs H'
 |.ex c=>∀G' H',Step G H G' H'->E c H'
 |.bad=>False
def tA(X:Cx)(ad:Ad)(fs:List F):TA:=λσ H Q=>∃G ρ E,Same G H/\SL X.K ad G H ρ σ/\XP X ad σ E/\AK X.K ad G H (args fs ρ) Q E
abbrev MA(X:Cx)(ad:Ad)(es:List Expr)(fs:List F):Prop:=PA X es (tA X ad fs)
section
variable{X:Cx}{ad:Ad}{cb:ce}{s:Shared}{σ:St}{H G:Hp}{ρ:Rho}{Q:VK}{E:Nat->Hp->Prop}{pos:Pos}{a:Expr}{f:F}
theorem dA(st:Step G H G1 H1)(n:H p=none)(m:G1 p=none)(e:H1 p=some (.lst vs))(q:aJ X.K ad G1 xs vs):
  ∃G2,Step G H G2 H1/\Rep X.K ad G2 (.lst xs) (.ref p):=by
 refine⟨upd G1 p (.lst vs),st.share n m e,?_⟩;unfold Rep;exact⟨p,vs,rfl,SqL.of aH,q.mono (Same.upd_new m)⟩
theorem ME.thn(ha:ME X ad a f)(I:Inv X cb σ H s)(hG:Same G H)(hS:SL X.K ad G H ρ σ)(hx:XP X ad σ E)(hr:RK X.K ad G H ((f ρ).bind k) Q E):
  wpAny (model X.prog X.w) X.A (eval a X.env) (λu s1=>∃v d G1 H1,Inv X cb σ H1 s1/\bG v u/\Step G H G1 H1/\Rep X.K ad G1 d v/\RK X.K ad G1 H1 (k d) Q E) X.xe s:=by
 cases e:f ρ with
 |ok d=>
  rw[e]at hr;refine L2.thn (ha cb s σ H (λv H1=>∃G1,Step G H G1 H1/\Rep X.K ad G1 d v) I ⟨G,ρ,E,hG,hS,hx,by rw[e];exact λv G1 H1 b q=>⟨G1,b,q⟩⟩) λu s1 g=>?_
  obtain⟨v,H1,h,i,G1,b,q⟩:=g;exact⟨v,d,G1,H1,h,i,b,q,RK.step hr b⟩
 |ow j=>
  rw[e]at hr;refine L2.thn (ha cb s σ H (λv H1=>∃G1,Step G H G1 H1/\Rep X.K ad G1 (.lst j) v) I ⟨G,ρ,E,hG,hS,hx,by rw[e];exact λp o G1 H1 b n m l q=>dA b n m l q⟩) λu s1 g=>?_
  obtain⟨v,H1,h,i,G1,b,q⟩:=g;exact⟨v,.lst j,G1,H1,h,i,b,q,RK.step hr b⟩
 |ex c=>
  rw[e]at hr;refine L2.thn (ha cb s σ H (λv H1=>False) I ⟨G,ρ,E,hG,hS,hx,by rw[e];exact hr⟩) λu s1 ⟨v,H1,h,i,q⟩=>q.elim
 |bad=>
  rw[e]at hr;exact az hr
theorem bQ:Rep X.K ad G (.int i) (.int i):=by unfold Rep;rfl
theorem cQ:Rep X.K ad G (.bl i) (.bl i):=by unfold Rep;rfl
theorem Eh:Rep X.K ad G .non .non:=by unfold Rep;rfl
theorem xJ:Rep X.K ad G (.str i) (.str i):=by unfold Rep;rfl
theorem xK(hN:X.N[i]? =some x)(hv:Vis X.env.scope x)(hd:(x==("__debug__":Str))=false)(hcd:(x==("__classdict__":Str))=false):ME X ad (.Name x pos) (aA i):=by
 refine λf s c H Q I m=>m.el λG j E h n p a=>?_
 unfold aA at a
 cases e:j[i]? with
 |none=>
  rw[e]at a;exact a.elim
 |some g=>
  rw[e]at a
  cases g with
  |no=>exact a.elim
  |dc b=>exact a.elim
  |sd b=>exact a.elim
  |rk _ _=>exact a.elim
  |ow q=>exact a.elim
  |sh d=>
   obtain⟨v,l,o⟩:=n.sh e;exact cM hN hv hd hcd f s c H Q I ⟨v,l,a.ok_now h o⟩
def MLk(X:Cx)(ad:Ad)(e:Expr)(f:F):Prop:=
 ∀(cb:ce) (s:Shared) (σ:St) (H G:Hp) (ρ:Rho) (k:D->R) (Q:VK) (E:Nat->Hp->Prop),Inv X cb σ H s->Same G H->SL X.K ad G H ρ σ->XP X ad σ E->RK X.K ad G H ((f ρ).bind k) Q E->
  wpAny (model X.prog X.w) X.A (eval e X.env) (λu s1=>∃v d G1 H1,Inv X cb σ H1 s1/\bG v u/\Step G H G1 H1/\(Rep X.K ad G1 d v\/∃a vs ds,d= .lst ds/\v= .ref a/\G1 a=none/\H1 a=some (.lst vs)/\aJ X.K ad G1 ds vs)/\RK X.K ad G1 H1 (k d) Q E) X.xe s
theorem ME.look(ha:ME X ad a f):MLk X ad a f:=by
 intro o s n H G r k Q E I i m g c;exact L2.thn (ha.thn I i m g c) λu p ⟨v,d,e,l,h,j,b,q,z⟩=>⟨v,d,e,l,h,j,b,.inl q,z⟩
theorem jY(e:kD k=some d):ME X ad (.Constant k j pos) (rK d):=by
 refine λc s b H Q I g=>g.el λG m E f l h a=>?_
 cases k with
 |int i=>cases e;exact Hg c s b H Q I (a.ok_now f bQ)
 |bool i=>cases e;exact KI c s b H Q I (a.ok_now f cQ)
 |none=>cases e;exact Hh c s b H Q I (a.ok_now f Eh)
 |str i=>cases e;exact Hi c s b H Q I (a.ok_now f xJ)
 |float _=>cases e
 |complex _ _=>cases e
 |bytes _=>cases e
 |ellipsis=>cases e
theorem xL{x:Str}{d:D}{u:Value}{v:V}(hg:L2.Gl X x)(hm:X.mg x=some u)(r:bG v u)(q: ∀G,Rep X.K ad G d v)(hd:(x==("__debug__":Str))=false):ME X ad (.Name x pos) (rK d):=by
 refine λe s b H Q I c=>c.el λG i E f h g a=>?_
 exact DT hg hm r hd e s b H Q I (a.ok_now f (q G))
def DOp(X:Cx)(ad:Ad)(t:Value->Value->Sem Value)(r:D->D->R):Prop:=
 ∀(cb:ce) (s:Shared) (σ:St) (H G:Hp) (x y:D) (v w:V) (u z:Value) (Q:VK) (E:Nat->Hp->Prop),Inv X cb σ H s->Same G H->Rep X.K ad G x v->Rep X.K ad G y w->bG v u->bG w z->
  RK X.K ad G H (r x y) Q E->wpAny (model X.prog X.w) X.A (t u z) (EP X cb σ Q) X.xe s
theorem xM(ho:DOp X ad t r)(ha:ME X ad a f)(hb:ME X ad b g)(I:Inv X cb σ H s)(hG:Same G H)(hS:SL X.K ad G H ρ σ)(hx:XP X ad σ E)(hr:RK X.K ad G H ((f ρ).bind λx=>(g ρ).bind λy=>r x y) Q E):
  wpAny (model X.prog X.w) X.A (eval a X.env) (λv s₁=>wpAny (model X.prog X.w) X.A (eval b X.env) (λu s₂=>wpAny (model X.prog X.w) X.A (t v u) (EP X cb σ Q) X.xe s₂) X.xe s₁) X.xe s:=by
 refine L2.thn (ha.thn I hG hS hx hr) λu J c=>?_
 obtain⟨v,d,C,L,m,o,st1,q1,h⟩:=c;refine L2.thn (hb.thn m st1.gh (hS.step st1) hx h) λz p c=>?_
 obtain⟨w,e,q,j,n,B,st2,l,i⟩:=c;exact ho cb p σ j q d e v w u z Q E n st2.gh (q1.mono st2.sg) l o B i
end
section
variable{ad:Ad}{σ:St}
theorem HV(h:n<=LIM):n<=sizeLine:=Nat.le_trans h (by decide)
theorem rZ(h:sml i=true): -(2^64)<i/\i<2^64:=by
 unfold sml at h;rw[av]at h;exact⟨of_decide_eq_true h.1,of_decide_eq_true h.2⟩
theorem nN(h:sml i=true):i.natAbs<2^64:=by
 obtain⟨b,a⟩:=rZ h
 lia
theorem Ei(I:Inv X cb σ H s)(hl:SqL X.K H l xs)(hb:SqL X.K H b ys)(hz:xs.length+ys.length<=sizeLine)(q: ∀p,H p=none->Q (.ref p) (upd H p (.lst (xs++ys)))):
  wpAny (model X.prog X.w) X.A (binaryOp .Add (.ref l) (.ref b)) (EP X cb σ Q) X.xe s:=by
 obtain⟨c,u,⟨⟨E,dd,r,C⟩,n,t,v,m,x⟩,_⟩:=I.list hl;obtain⟨a,z,⟨⟨y,i,o,j⟩,B,h,f,g,d⟩,_⟩:=I.list hb
 simp only at v x f d m g
 subst v x f d
 have e:c.toArray++a.toArray=(c++a).toArray:=by simp
 refine concat_meets ⟨_,t,rfl⟩ ⟨_,h,rfl⟩ noFill_list_add seq_list_add PySem.F.slot_list_add PySem.F.entry_list_add (PySem.F.args_list_add_2 _ _)
   (list_addW l b c.toArray a.toArray n B dd i C j (by rw[aw,aw, <-u.length, <-z.length];exact hz)) ⟨t,h,?_⟩
 rw[e];exact⟨.ref _,_,I.lnew (t':=s.toks) (u.append z) (by rw[bn];exact hz),rfl,q _ I.fresh⟩
theorem Ej(op:Operator):DOp X ad (binaryOp op) (iT op):=by
 intro m s l H G x y v w u z Q E I e o n g f d
 cases x with
 |int i=>
  unfold Rep at o;subst o
  cases y with
  |int j=>
   unfold Rep at n;subst n
   cases op with
   |Add=>exact Hx m s l H _ _ u z Q I g f ⟨i,j,rfl,rfl,d.ok_now e bQ⟩
   |Sub=>exact Hy m s l H _ _ u z Q I g f ⟨i,j,rfl,rfl,d.ok_now e bQ⟩
   |Mult=>
    have b:RK X.K ad G H (if sml i||sml j then R.ok (.int (i*j))else .bad) Q E:=d
    by_cases c:(sml i||sml j)=true
    ·rw[if_pos c]at b;refine Hz m s l H _ _ u z Q I g f ⟨i,j,rfl,rfl,?_,b.ok_now e bQ⟩;rcases(Bool.or_eq_true _ _).mp c with h|h
     ·exact .inl (rZ h)
     ·exact .inr (rZ h)
    ·rw[if_neg c]at b;exact b.elim
   |FloorDiv=>
    have b:RK X.K ad G H (if 0<j/\j<1073741824 then R.ok (.int (i/j))else .bad) Q E:=d
    by_cases c:0<j/\j<1073741824
    ·rw[if_pos c]at b;exact DW m s l H _ _ u z Q I g f ⟨i,j,rfl,rfl,c,b.ok_now e bQ⟩
    ·rw[if_neg c]at b;exact b.elim
   |Mod=>
    have b:RK X.K ad G H (if 0<j then R.ok (.int (i % j))else .bad) Q E:=d
    by_cases c:0<j
    ·rw[if_pos c]at b;exact HA m s l H _ _ u z Q I g f ⟨i,j,rfl,rfl,c,b.ok_now e bQ⟩
    ·rw[if_neg c]at b;exact b.elim
   |LShift=>
    have b:RK X.K ad G H (if 0<=j/\j<=1000/\sml i=true then R.ok (.int (i*2^j.toNat))else .bad) Q E:=d
    by_cases c:0<=j/\j<=1000/\sml i=true
    ·rw[if_pos c]at b;exact HB m s l H _ _ u z Q I g f ⟨i,j,rfl,rfl,⟨c.1,by lia,nN c.2.2⟩,b.ok_now e bQ⟩
    ·rw[if_neg c]at b;exact b.elim
   |RShift=>exact az d
   |BitAnd=>exact HC m s l H _ _ u z Q I g f ⟨i,j,rfl,rfl,d.ok_now e bQ⟩
   |BitOr=>exact KS m s l H _ _ u z Q I g f ⟨i,j,rfl,rfl,d.ok_now e bQ⟩
   |BitXor=>exact HD m s l H _ _ u z Q I g f ⟨i,j,rfl,rfl,d.ok_now e bQ⟩
   |MatMult=>exact az d
   |Div=>exact az d
   |Pow=>exact az d
  |_=>cases op<;>exact az d
 |lst r=>
  unfold Rep at o;obtain⟨p,M,rfl,L,B⟩:=o
  cases y with
  |lst t=>
   unfold Rep at n;obtain⟨q,N,rfl,J,A⟩:=n
   cases op with
   |Add=>
    have b:RK X.K ad G H (if r.length+t.length<=LIM then R.ow (r++t)else .bad) Q E:=d
    by_cases c:r.length+t.length<=LIM
    ·rw[if_pos c]at b
     cases (show u=Value.ref p from g)
     cases (show z=Value.ref q from f)
     exact Ei I (e.seq L) (e.seq J) (by rw[B.length,A.length];exact HV c) λa C=>b.ow_new e (B.append A) C
    ·rw[if_neg c]at b;exact b.elim
   |_=>exact az d
  |_=>cases op<;>exact az d
 |_=>cases y<;>cases op<;>exact az d
theorem C3(ha:ME X ad a f)(hb:ME X ad b g):ME X ad (.BinOp a op b pos) (aS op f g):=by
 refine λl s j H Q I e=>e.el λG m E i h d c=>?_
 exact wpAny_BinOp (xM (Ej op) ha hb I i h d c)
end
end SK
namespace L2
open PySem PySem.Spec PyProof.Rows
section
variable {κ:Type} [DecidableEq κ]
noncomputable def kU(kvs:List (κ×V))(k:κ):Option V:=(kvs.find? λkv=>decide (kv.1=k)).map (·.2)
noncomputable def putK(kvs:List (κ×V))(k:κ)(v:V):List (κ×V):=
 if(kvs.any λkv=>decide (kv.1=k))=true then kvs.map (λkv=>if kv.1=k then(kv.1,v)else kv)else kvs++[(k,v)]
noncomputable def dropK(kvs:List (κ×V))(k:κ):List (κ×V):=kvs.filter λkv=>decide (kv.1≠k)
theorem Bg{k:κ}:kU ([]:List (κ×V)) k=none:=rfl
theorem iC{p:κ×V}{r:List (κ×V)}{k:κ}(e:p.1=k):kU (p::r) k=some p.2:=by simp[kU,List.find?_cons,e]
theorem gG{p:κ×V}{r:List (κ×V)}{k:κ}(e: ¬p.1=k):kU (p::r) k=kU r k:=by simp[kU,List.find?_cons,e]
theorem tV(k:κ): ∀kvs:List (κ×V),(kvs.any λkv=>decide (kv.1=k))=(kU kvs k).isSome
 |[]=>rfl
 |p::r=>by
  rw[List.any_cons]
  by_cases e:p.1=k
  ·simp only[iC e,decide_eq_true e,Bool.true_or,Option.isSome_some]
  ·rw[gG e,decide_eq_false e,Bool.false_or];exact tV k r
theorem fL(kvs:List (κ×V))(k:κ)(v:V):(putK kvs k v).length<=kvs.length+1:=by
 unfold putK;split
 ·rw[ao];lia
 ·rw[bn,bo,List.length_nil];lia
theorem lW.isSome_eq{o:Option V}{u:Option Value}(r:lW o u):o.isSome=u.isSome:=by
 cases o with
 |none=>cases u with
  |none=>rfl
  |some _=>exact(show False from r).elim
 |some _=>cases u with
  |none=>exact(show False from r).elim
  |some _=>rfl
theorem lW.getD{o:Option V}{u:Option Value}{d:V}{d':Value}(r:lW o u)(rd:bG d d'):bG (o.getD d) (u.getD d'):=by
 cases o with
 |none=>cases u with
  |none=>exact rd
  |some _=>exact(show False from r).elim
 |some _=>cases u with
  |none=>exact(show False from r).elim
  |some _=>exact r
theorem KV.val{kvs:List (κ×V)}{vs:List (κ×Value)}(r:KV kvs vs)(k:κ):lW (kU kvs k) (valueAt vs k):=by
 unfold KV at r
 induction r with
 |nil=>exact True.intro
 |@cons p q i a h t g=>
  obtain⟨d,f⟩:=h
  by_cases e:p.1=k
  ·have c:q.1=k:=d.symm.trans e
   have b:valueAt (q::a) k=some q.2:=by simp[valueAt,List.find?_cons,c]
   rw[iC e,b];exact f
  ·have c: ¬q.1=k:=λz=>e (d.trans z)
   have b:valueAt (q::a) k=valueAt a k:=by simp[valueAt,List.find?_cons,c]
   rw[gG e,b];exact g
theorem KV.any{kvs:List (κ×V)}{vs:List (κ×Value)}(r:KV kvs vs)(k:κ):(kvs.any λkv=>decide (kv.1=k))=vs.any λkv=>decide (kv.1=k):=by
 unfold KV at r
 induction r with
 |nil=>rfl
 |cons h t a=>rw[List.any_cons,List.any_cons,a,h.1]
theorem KV.repl{kvs:List (κ×V)}{vs:List (κ×Value)}(r:KV kvs vs)(k:κ){y:V}{u:Value}(ry:bG y u):
  KV (kvs.map λkv=>if kv.1=k then(kv.1,y)else kv) (vs.map λkv=>if kv.1=k then(kv.1,u)else kv):=by
 unfold KV at r ⊢
 induction r with
 |nil=>exact .nil
 |@cons p q d f h t c=>
  rw[List.map_cons,List.map_cons];refine .cons ?_ c;obtain⟨a,b⟩:=h
  by_cases e:p.1=k
  ·rw[if_pos e,if_pos (a.symm.trans e)];exact⟨a,ry⟩
  ·rw[if_neg e,if_neg (λz=>e (a.trans z))];exact⟨a,b⟩
theorem KV.put{kvs:List (κ×V)}{vs:List (κ×Value)}(r:KV kvs vs)(k:κ){y:V}{u:Value}(ry:bG y u):KV (putK kvs k y) (stored vs k u):=by
 unfold putK stored;rw[r.any k]
 by_cases e:(vs.any λa=>decide (a.1=k))=true
 ·rw[if_pos e,if_pos e];exact r.repl k ry
 ·rw[if_neg e,if_neg e];exact Paired.snoc r ⟨rfl,ry⟩
theorem KV.drop{kvs:List (κ×V)}{vs:List (κ×Value)}(r:KV kvs vs)(k:κ):KV (dropK kvs k) (without vs k):=by
 unfold KV at r ⊢;unfold dropK without
 induction r with
 |nil=>exact .nil
 |@cons p q i j h t d=>
  obtain⟨c,f⟩:=h;rw[List.filter_cons,List.filter_cons]
  by_cases e:p.1=k
  ·have a: ¬decide (p.1≠k)=true:=by simp[e]
   have b: ¬decide (q.1≠k)=true:=by simp[c.symm.trans e]
   rw[if_neg a,if_neg b];exact d
  ·have g: ¬q.1=k:=λz=>e (c.trans z)
   have a:decide (p.1≠k)=true:=by simp[e]
   have b:decide (q.1≠k)=true:=by simp[g]
   rw[if_pos a,if_pos b];exact .cons ⟨c,f⟩ d
theorem KV.keys{kvs:List (κ×V)}{vs:List (κ×Value)}(r:KV kvs vs):kvs.map (·.1)=vs.map (·.1):=by
 unfold KV at r
 induction r with
 |nil=>rfl
 |cons h t a=>rw[List.map_cons,List.map_cons,a,h.1]
theorem KV.length{kvs:List (κ×V)}{vs:List (κ×Value)}(r:KV kvs vs):kvs.length=vs.length:=Paired.length r
theorem Bh(kvs:List (κ×V))(k:κ):(dropK kvs k).length<=kvs.length:=List.length_filter_le _ _
end
theorem l9(r:bG (kV k) u):(bE P w).is k u=true:=by
 cases k with
 |inl i=>obtain⟨t,e⟩:=(show ∃t,u=Value.int i t from r);subst e;exact rN P w i t
 |inr x=>obtain⟨t,e⟩:=(show ∃t,u=Value.str x t from r);subst e;exact kF P w x t
theorem pU{P:Program}{w:World}: ∀{ks:List Key} {us:List Value},bS (ks.map kV) us->ItemsAre (bE P w) ks us
 |[],_,r=>by rw[List.map_nil]at r;cases r;exact .nil
 |k::ks,_,r=>by
  rw[List.map_cons]at r
  cases r with
  |cons h t=>exact .cons (l9 h) (pU t)
abbrev KT(H:Hp):List (List Key×V)->List (List Key×Addr×Value)->Prop:=Paired λp q=>p.1=q.1/\H q.2.1=some (.tup (p.1.map kV))/\bG p.2 q.2.2
theorem KT.val(r:KT H kvs xs)(k:List Key):lW (kU kvs k) ((atKey xs k).map (·.2)):=by
 induction r with
 |nil=>exact True.intro
 |@cons p q i c h t g=>
  obtain⟨d,_,f⟩:=h
  by_cases e:p.1=k
  ·have a:q.1=k:=d.symm.trans e
   have b:atKey (q::c) k=some q.2:=by simp[atKey,List.find?_cons,a]
   rw[iC e,b];exact f
  ·have a: ¬q.1=k:=λz=>e (d.trans z)
   have b:atKey (q::c) k=atKey c k:=by simp[atKey,List.find?_cons,a]
   rw[gG e,b];exact g
theorem KT.repl(r:KT H kvs xs)(k:List Key)(ry:bG y u):
  KT H (kvs.map λkv=>if kv.1=k then(kv.1,y)else kv) (xs.map (putAt k u)):=by
 induction r with
 |nil=>exact .nil
 |@cons p q f g h t d=>
  rw[List.map_cons,List.map_cons];refine .cons ?_ d;obtain⟨a,b,c⟩:=h;unfold putAt
  by_cases e:p.1=k
  ·rw[if_pos e,if_pos (a.symm.trans e)];exact⟨a,b,ry⟩
  ·rw[if_neg e,if_neg (λz=>e (a.trans z))];exact⟨a,b,c⟩
theorem KT.put(r:KT H kvs xs)(k:List Key)(hb:H b=some (.tup (k.map kV)))(ry:bG y u):
  KT H (putK kvs k y) (storedH xs k b u):=by
 have e:(kvs.any λa=>decide (a.1=k))=(atKey xs k).isSome:=by
  rw[tV,(r.val k).isSome_eq,Option.isSome_map]
 unfold putK storedH;rw[e]
 by_cases q:(atKey xs k).isSome=true
 ·rw[if_pos q,if_pos q];exact r.repl k ry
 ·rw[if_neg q,if_neg q];exact Paired.snoc r ⟨rfl,hb,ry⟩
theorem KT.keeps(r:KT H kvs xs)(ht: ∀b ys,H b=some (.tup ys)->H' b=some (.tup ys)):KT H' kvs xs:=
 Paired.mapP r λ_ _ z=>⟨z.1,ht _ _ z.2.1,z.2.2⟩
theorem HW(ok:HOk P w H h)(e:Rd H a u):ObjOk P w H h a u:=e.ok ok
theorem iX(ok:HOk P w H h)(e:Rd H a (.dK kvs)):kvs.length<=sizeLine/\(a==sysModules)=false/\∃vs,KV kvs vs/\h.DictOf (bE P w) a vs:=
 show ObjOk P w H h a (.dK kvs) from HW ok e
theorem xN(ok:HOk P w H h)(e:H a=some (.dK kvs)):kvs.length<=sizeLine/\(a==sysModules)=false/\∃vs,KV kvs vs/\h.DictOf (bE P w) a vs:=iX ok (.inl e)
theorem kW(ok:HOk P w H h)(e:H a=some (.tup (ks.map kV))):(tupleKind (bE P w)).is h ks a:=by
 obtain⟨_,b,r,⟨o,c,f,n,d⟩,_⟩:=(show ObjOk P w H h a (.tup (ks.map kV)) from ok a _ e)
 exact⟨o,b.toArray,n,c,f,d,by simpa using pU r⟩
theorem pV(ok:HOk P w H h)(e:Rd H a (.dT kvs)):kvs.length<=sizeLine/\(a==sysModules)=false/\
  ∃xs,KT H kvs xs/\h.DictOfH (tupleKind (bE P w)) a xs:=by
 obtain⟨z,y,xs,r,o,d,f,n,u,g,s,j⟩:=(show ObjOk P w H h a (.dT kvs) from HW ok e)
 refine⟨z,y,xs,r,o,d,f,n,u,g,s,λx b=>?_,j⟩
 have all: ∀{l:List (List Key×V)} {m:List (List Key×Addr×Value)},KT H l m->∀x∈m,(tupleKind (bE P w)).is h x.1 x.2.1:=by
  intro l m q
  induction q with
  |nil=>intro x b;exact nomatch b
  |@cons p q A v c t i=>
   intro x b;rcases au.mp b with e|b
   ·subst e;exact kW ok (by rw[<-c.1];exact c.2.1)
   ·exact i x b
 exact all r x b
theorem K6(ok:HOk P w H h)(e:H a=some (.dT kvs)):kvs.length<=sizeLine/\(a==sysModules)=false/\
  ∃xs,KT H kvs xs/\h.DictOfH (tupleKind (bE P w)) a xs:=pV ok (.inl e)
def oZ(H:Hp)(a:Addr)(y:V)(r:Option V):Prop:=
 (∃kvs k,Rd H a (.dK kvs)/\y=kV k/\r=kU kvs k)\/∃kvs k b,Rd H a (.dT kvs)/\y= .ref b/\H b=some (.tup (k.map kV))/\r=kU kvs k
def GW(H:Hp)(a:Addr)(y v:V)(H':Hp):Prop:=
 (∃kvs k,H a=some (.dK kvs)/\y=kV k/\kvs.length<sizeLine/\H'=upd H a (.dK (putK kvs k v)))\/
 ∃kvs k b,H a=some (.dT kvs)/\y= .ref b/\H b=some (.tup (k.map kV))/\kvs.length<sizeLine/\H'=upd H a (.dT (putK kvs k v))
theorem oZ.k{k:Key}(e:H a=some (.dK kvs)):oZ H a (kV k) (kU kvs k):=.inl ⟨kvs,k,.inl e,rfl,rfl⟩
theorem GW.k{k:Key}(e:H a=some (.dK kvs))(hl:kvs.length<sizeLine):GW H a (kV k) v (upd H a (.dK (putK kvs k v))):=.inl ⟨kvs,k,e,rfl,hl,rfl⟩
section
variable{σ:St}{E:cc}
theorem Inv.bigK(I:Inv X cb σ H s):sysModules<s.heap.objs.size:=by
 have h:mainGlobals<s.heap.objs.size:=(I.mod.glob.keeps I.bk).lt;exact Nat.lt_trans (by decide) h
theorem xO{Q:cc}(hu:A.units+1<cLine)(I:Inv X cb σ H s)(g:oZ H a y (some v))(ry:bG y u)(h: ∀w' s',Inv X cb σ H s'->bG v w'->Q w' s'):
  wpAny (model X.prog X.w) A (getItem (.ref a) u) Q E s:=by
 rcases g with ⟨j,k,e,i,l⟩|⟨j,k,b,e,i,x,l⟩
 ·subst i;obtain⟨z,t,r,d,dd⟩:=iX I.hok e;obtain⟨w',m,c⟩:=lW.some_of (v:=v) (o:=valueAt r k) (by rw[l];exact d.val k)
  exact wpAny_getItem_of (l9 ry) dd.mapOf m (h w' _ (I.tok _) c)
 ·subst i
  cases (show u=Value.ref b from ry)
  obtain⟨z,t,n,d,dd⟩:=pV I.hok e;obtain⟨w',m,c⟩:=lW.some_of (v:=v) (o:=(atKey n k).map (·.2)) (by rw[l];exact d.val k)
  obtain⟨p,q,f⟩:=zMd m;refine wpAny_getItem_heap (tupleKind_room_in1 hu) (kW I.hok x) dd q ?_;rw[f];exact h w' _ (I.tok _) c
theorem Mm{Q:cc}(hu:A.units+1<cLine)(I:Inv X cb σ H s)(g:oZ H a y o)(ry:bG y u)(h: ∀s',Inv X cb σ H s'->Q (.bool o.isSome) s'):
  wpAny (model X.prog X.w) A (compareOp .In u (.ref a)) Q E s:=by
 rcases g with ⟨i,k,e,f,l⟩|⟨i,k,b,e,f,j,l⟩
 ·subst f;obtain⟨z,d,m,c,dd⟩:=iX I.hok e;refine wpAny_in_of (l9 ry) d dd.mapOf ?_;rw[<-(c.val k).isSome_eq, <-l];exact h _ (I.tok _)
 ·subst f
  cases (show u=Value.ref b from ry)
  obtain⟨z,d,n,c,dd⟩:=pV I.hok e;refine wpAny_in_heap (tupleKind_room_in1 hu) (kW I.hok j) d dd ?_;have q:=(c.val k).isSome_eq;rw[Option.isSome_map]at q;rw[<-q, <-l];exact h _ (I.tok _)
theorem xP{Q:cc}(hu:A.units+1<cLine)(I:Inv X cb σ H s)(g:oZ H a y o)(ry:bG y u)(h: ∀s',Inv X cb σ H s'->Q (.bool (!o.isSome)) s'):
  wpAny (model X.prog X.w) A (compareOp .NotIn u (.ref a)) Q E s:=by
 rcases g with ⟨i,k,e,f,l⟩|⟨i,k,b,e,f,j,l⟩
 ·subst f;obtain⟨z,d,m,c,dd⟩:=iX I.hok e;refine wpAny_notIn_of (l9 ry) d dd.mapOf ?_;rw[<-(c.val k).isSome_eq, <-l];exact h _ (I.tok _)
 ·subst f
  cases (show u=Value.ref b from ry)
  obtain⟨z,d,n,c,dd⟩:=pV I.hok e;refine wpAny_notIn_heap (tupleKind_room_in1 hu) (kW I.hok j) d dd ?_;have q:=(c.val k).isSome_eq;rw[Option.isSome_map]at q;rw[<-q, <-l];exact h _ (I.tok _)
theorem iY(I:Inv X cb σ H s)(mu:Mut (H a))(hs:Heap.SameBut a s.heap h')(he: ∃q,h'.get? a=some q)(new:ObjOk X.prog X.w (upd H a ob) h' a ob):
  Inv X cb σ (upd H a ob) {s with heap:=h',toks:=t'}:=
 I.write (x:=a) (e:=a) mu (.inl rfl) (λb q c z=>(hs.2 b c).trans z) he new
theorem mK(z:kvs.length<=sizeLine)(hd:(a==sysModules)=false)(rel:KV kvs vs)(dd:h'.DictOf (bE P w) a vs):
  ObjOk P w H' h' a (.dK kvs):=⟨z,hd,vs,rel,dd⟩
theorem pW(hu:A.units+1<cLine)(I:Inv X cb σ H s)(g:GW H a y v H')(ry:bG y u)(rv:bG v r)(h: ∀s',Inv X cb σ H' s'->Q () s'):
  wpAny (model X.prog X.w) A (setItem (.ref a) u r) Q E s:=by
 rcases g with ⟨d,k,e,x,l,o⟩|⟨d,k,b,e,x,C,l,o⟩
 ·subst x o;obtain⟨z,t,T,f,dd⟩:=xN I.hok e
  have m:T.length<=sizeLine:=by rw[<-f.length];exact z
  have n:(putK d k v).length<=sizeLine:=by have:=fL d k v;lia
  refine wpAny_setItem_pairs (hsz:=m) (l9 ry) dd λG i p=>h _ ?_
  have N: ∃q,G.get? a=some q:=let ⟨q,_,_,j,_⟩:=i;⟨q,j⟩
  exact iY I (by rw[e];exact True.intro) p N (mK n t (f.put k rv) i)
 ·subst x o
  cases (show u=Value.ref b from ry)
  obtain⟨z,t,M,f,dd⟩:=K6 I.hok e
  have m:M.length<=sizeLine:=by rw[<-Paired.length f];exact z
  have n:(putK d k v).length<=sizeLine:=by have:=fL d k v;lia
  refine wpAny_setItem_heap (hsz:=m) (tupleKind_room_in1 hu) (kW I.hok C) dd λG i p=>h _ ?_
  obtain⟨q,J,K,j,U,L,S,_,O⟩:=i;refine iY I (by rw[e];exact True.intro) p ⟨q,j⟩ ⟨n,t,_,(f.put k C rv).keeps λc W B=>?_,q,J,K,j,U,L,S,O⟩
  rw[aC (KH B e (λz=>nomatch z))]
  exact B
end
section
variable{σ:St}{E:cc}
theorem K7{Q:cc}(I:Inv X cb σ H s)(e:H a=some (.dK kvs))(ry:bG (kV k) u)(l:kU kvs k=some v)(hm:more=[]\/∃x,more=[x])(h: ∀w' s',Inv X cb σ (upd H a (.dK (dropK kvs k))) s'->bG v w'->Q w' s'):wpAny (model X.prog X.w) A (call (.builtin "dict.pop") (.ref a::u::more)) Q E s:=by
 obtain⟨z,j,f,b,dd⟩:=xN I.hok e;obtain⟨w',y,d⟩:=lW.some_of (v:=v) (o:=valueAt f k) (by rw[<-l];exact b.val k)
 have r:(keyPart u).isSome=true:=by
  cases k with
  |inl i=>obtain⟨t,q⟩:=(show ∃t,u=Value.int i t from ry);subst q;rfl
  |inr x=>obtain⟨t,q⟩:=(show ∃t,u=Value.str x t from ry);subst q;rfl
 have g:argsOk "dict.pop" ⟨.ref a::u::more,[]⟩:=by
  rcases hm with q|⟨x,q⟩
  ·subst q;exact PySem.F.args_dict_pop_2 _ _
  ·subst q;exact PySem.F.args_dict_pop_3 _ _ _
 refine call_meetsIn PySem.F.slot_dict_pop dd.typeIs PySem.F.entry_dict_pop g (meets_dict_pop_there (bE X.prog X.w) a (l9 ry) more hm r)
  ⟨f,w',dd,by rw[<-b.length];exact z,y,λp c m=>h w' _ ?_ d⟩
 have n: ∃q,p.get? a=some q:=let ⟨q,_,_,hq,_⟩:=c;⟨q,hq⟩
 exact iY I (by rw[e];exact True.intro) m n (mK (Nat.le_trans (Bh kvs k) z) j (b.drop k) c)
end
def K8(i:Expr):Prop:= ∀ov iv,subscripted i false ov iv=operate [ov,iv] (getItem ov iv)
theorem Ek{E:cc}{T id:String}{Q:cc}(hl:typeLookup (.type T) "__getitem__"=pure (some (.builtin id)))(hs:K8 slice)(h:wpAny (model prog w) A (eval value env) (λo s₁=>wpAny (model prog w) A (eval slice env) (λi s₂=>s₂.TypeIs o T/\wpAny (model prog w) A (getItem o i) Q E s₂) E s₁) E s):
  wpAny (model prog w) A (eval (.Subscript value slice pos) env) Q E s:=by
 refine Subscript_ (wpAny_mono h (λo s₁ d=>wpAny_mono d (λi s₂ a=>?_) λ_ _ x=>x) λ_ _ x=>x)
 obtain⟨f,a⟩:=a;unfold subscriptTail;refine aa ?_;rw[getitemInPython_of_ne f.not_modules];refine aa (wpAny_specialOf f hl ?_)
 have c:wpAny (model prog w) A (subscripted slice false o i) (λr b=>wpAny (model prog w) A (letTemporaryGo value o r >>= λ_=>pure r) Q E b) E s₂:=by
  rw[hs o i];exact wpAny_operating (wpAny_mono a (λr b e=>aa (wpAny_letTemporaryGo (ac e))) λ_ _ x=>x)
 first
  |exact ac (aa c)
  |exact aa (ac (aa c))
  |exact aa c
theorem r8{σ:St}(I:Inv X cb σ H s)(g:oZ H a y o):s.TypeIs (.ref a) "dict":=by
 rcases g with ⟨c,k,e,_,_⟩|⟨c,k,b,e,_,_,_⟩
 ·obtain⟨_,_,d,_,dd⟩:=iX I.hok e;exact dd.typeIs
 ·obtain⟨_,_,f,_,dd⟩:=pV I.hok e;exact dd.typeIs
def K9(td ty:TE):TE:=λσ H Q=>td σ H λx H1=>ty σ H1 λy H2=>∃a v,x= .ref a/\oZ H2 a y (some v)/\Q v H2
def Nc(ty td:TE):TE:=λσ H Q=>ty σ H λy H1=>td σ H1 λx H2=>∃a o,x= .ref a/\oZ H2 a y o/\Q (.bl o.isSome) H2
def El(ty td:TE):TE:=λσ H Q=>ty σ H λy H1=>td σ H1 λx H2=>∃a o,x= .ref a/\oZ H2 a y o/\Q (.bl (!o.isSome)) H2
def La(td ty tv:TE):TS:=λD σ H=>tv σ H λv H1=>td σ H1 λx H2=>ty σ H2 λy H3=>∃a H4,x= .ref a/\GW H3 a y v H4/\D.nx σ H4
theorem Em(hu:X.A.units+1<cLine)(ho:PE X o td)(hi:PE X i ty)(hs:K8 i):PE X (.Subscript o i pos) (K9 td ty):=by
 intro d s c H Q I h;refine Ek PySem.F.slot_dict_getitem.lookup hs (thn (ho d s c H _ I h) λu p ⟨x,t,n,r,q1⟩=>thn (hi d p c t _ n q1) λiv C ⟨y,f,e,l,a,v,j,g,m⟩=>?_)
 subst j;obtain rfl:u=Value.ref a:=r;exact⟨r8 e g,xO hu e g l λB z q b=>⟨v,f,q,b,m⟩⟩
theorem HX(hu:X.A.units+1<cLine)(hi:PE X i ty)(ho:PE X o td):PC X .In i o (Nc ty td):=by
 intro c s b H Q I h;refine thn (hi c s b H _ I h) λiv p ⟨y,t,l,e,q1⟩=>thn (ho c p b t _ l q1) λu z ⟨x,d,m,r,a,n,f,g,j⟩=>?_
 subst f;obtain rfl:u=Value.ref a:=r;exact Mm hu m g e λv q=>⟨.bl n.isSome,d,q,rfl,j⟩
theorem xQ(hu:X.A.units+1<cLine)(hi:PE X i ty)(ho:PE X o td):PC X .NotIn i o (El ty td):=by
 intro c s b H Q I h;refine thn (hi c s b H _ I h) λiv p ⟨y,t,l,e,q1⟩=>thn (ho c p b t _ l q1) λu z ⟨x,d,m,r,a,n,f,g,j⟩=>?_
 subst f;obtain rfl:u=Value.ref a:=r;exact xP hu m g e λv q=>⟨.bl (!n.isSome),d,q,rfl,j⟩
theorem En(hu:X.A.units+1<cLine)(ho:PE X o td)(hi:PE X i ty)(hv:PE X value tv)(hs:swapsWith value (some (.Subscript o i pos')) pos.line X.env=pure false):
  PS X (.Assign [.Subscript o i pos'] value pos) (La td ty tv):=by
 intro c s b H D I h;refine wpAny_Assign_Subscript (thn (hv c s b H _ I h) λr q ⟨v,E,l,G,q1⟩=>thn (ho c q b E _ l q1) λu t ⟨x,d,n,C,e⟩=>thn (hi c t b d _ n e) λiv K ⟨y,J,z,j,a,m,f,g,p⟩=>?_) hs
 subst f;obtain rfl:u=Value.ref a:=C;exact pW hu z g j G λL B=>⟨b,m,B,p⟩
theorem nO(h:Heap)(hb:sysModules<h.objs.size):ObjOk P w H (h.push {cls:=.type "dict",data:=.dict #[]}) h.objs.size (.dK []):=
 ⟨bt _,beq_eq_false_iff_ne.mpr (Ne.symm (bg hb)),[],.nil,Heap.DictOf.new h⟩
def HY:TE:=λ_ H Q=>∀p,H p=none->Q (.ref p) (upd H p (.dK []))
theorem tW:PE X (.Dict [] [] pos) HY:=λc s b H Q I h=>
 wpAny_Dict_empty ⟨.ref s.heap.objs.size,_,I.laid (a:=s.heap.objs.size) (o:=.dK []) (t':=s.toks) (λ_ _ q=>ae _ q) (ai _) (nO s.heap I.bigK),rfl,h _ (I.hok.fresh (ai _))⟩
def xR:List (TE×TE)->St->Hp->(List (V×V)->Hp->Prop)->Prop
 |[],_,H,Q=>Q [] H
 |(tk,tv)::r,σ,H,Q=>tk σ H λx H1=>tv σ H1 λy H2=>xR r σ H2 λps H3=>Q ((x,y)::ps) H3
abbrev VV:List (V×V)->List (Value×Value)->Prop:=Paired λp q=>bG p.1 q.1/\bG p.2 q.2
def PPs(X:Cx)(pos:Pos)(keys:List (Option Expr))(values:List Expr)(trs:List (TE×TE)):Prop:=
 ∀(cb:ce) (s:Shared) (σ:St) (H:Hp) (Q:List (V×V)->Hp->Prop),Inv X cb σ H s->xR trs σ H Q->
  wpAny (model X.prog X.w) X.A (evalPairs (pairTrees keys values X.env pos)) (λvs s'=>∃ps H',Inv X cb σ H' s'/\VV ps vs/\Q ps H') X.xe s
theorem Eo:PPs X pos [] [] []:=λa s b H Q I h=>pairTrees_nil_walk ⟨[],H,I,.nil,h⟩
theorem tY(hk:PE X k tk)(hv:PE X v tv)(hr:PPs X pos ks vs trs):
  PPs X pos (some k::ks) (v::vs) ((tk,tv)::trs):=λb s a H Q I h=>
 pairTrees_cons_walk (thn (hk b s a H _ I h) λu m ⟨x,r,i,p,q1⟩=>thn (hv b m a r _ i q1) λt n ⟨y,d,j,f,e⟩=>
  thn (hr b n a d _ j e) λz A ⟨q,g,o,c,l⟩=>⟨(x,y)::q,g,o,.cons ⟨p,f⟩ c,l⟩)
def iD(kvs more:List (Key×V)):List (Key×V):=more.foldl (λacc kv=>putK acc kv.1 kv.2) kvs
theorem KV.merge: ∀{more:List (Key×V)} {rs:List (Key×Value)} {kvs:List (Key×V)} {vs:List (Key×Value)},KV more rs->KV kvs vs->KV (iD kvs more) (merged vs rs):=by
 intro more rs kvs vs r;unfold KV at r
 induction r generalizing kvs vs with
 |nil=>intro q;exact q
 |@cons p q c d h t b=>
  intro a
  have e:KV (putK kvs p.1 p.2) (stored vs q.1 q.2):=by
   have:=a.put p.1 h.2
   rw[<-h.1];exact this
  exact b e
theorem iE: ∀(more kvs:List (Key×V)),(iD kvs more).length<=kvs.length+more.length
 |[],kvs=>by show kvs.length<=kvs.length+0;lia
 |p::r,kvs=>by
  have b:=iE r (putK kvs p.1 p.2);have a:=fL kvs p.1 p.2
  show(iD (putK kvs p.1 p.2) r).length<=_
  rw[bo];lia
theorem mL{P:Program}{w:World}: ∀{kvs:List (Key×V)} {ws:List (Value×Value)},VV (kvs.map λkv=>(kV kv.1,kv.2)) ws->∃rs,Carries (bE P w) ws rs/\KV kvs rs
 |[],_,r=>by rw[List.map_nil]at r;cases r;exact⟨[],True.intro,.nil⟩
 |p::kvs,_,r=>by
  rw[List.map_cons]at r
  cases r with
  |@cons a b e bs h t=>
   obtain⟨rs,c,q⟩:=mL (P:=P) (w:=w) t;obtain⟨f,d⟩:=b;exact⟨(p.1,d)::rs,⟨l9 h.1,rfl,c⟩,.cons ⟨rfl,h.2⟩ q⟩
def Lb(trs:List (TE×TE)):TE:=λσ H Q=>∀p,H p=none->xR trs σ (upd H p (.dK [])) λps H2=>H2 p=some (.dK [])/\∃kvs:List (Key×V),ps=kvs.map (λkv=>(kV kv.1,kv.2))/\kvs.length<=15/\Q (.ref p) (upd H2 p (.dK (iD [] kvs)))
theorem Ep(h:PPs X pos keys values trs)(hall:keys.all (·.isSome)=true)(hl:keys.length=values.length)(h0:keys≠[])(h15:keys.length<=15):PE X (.Dict keys values pos) (Lb trs):=by
 intro u s n H Q I q;have y:=I.hok.fresh (ai s.heap.objs.size);have p:=I.laid (a:=s.heap.objs.size) (o:=.dK []) (h':=s.heap.push {cls:=.type "dict",data:=.dict #[]}) (t':=s.toks) (λ_ _ q=>ae _ q) (ai _) (nO s.heap I.bigK)
 refine wpAny_Dict_walk (knd:=bE X.prog X.w) hall hl h0 h15 (thn (h u _ n _ _ p (q _ y)) λG J f=>?_)
 obtain⟨K,E,i,g,e,d,l,lk,j⟩:=f;subst l;obtain⟨B,c,rk⟩:=mL (P:=X.prog) (w:=X.w) g;obtain⟨z,C,r,v,dd⟩:=xN i.hok e;cases v;refine⟨B,c,dd,λh' b x=>⟨.ref s.heap.objs.size,_,?_,rfl,j⟩⟩
 have m:(iD [] d).length<=sizeLine:=by
  have A:=iE d [];rw[List.length_nil]at A;rw[sizeLine_eq];lia
 have t: ∃q,h'.get? s.heap.objs.size=some q:=let ⟨q,_,_,hq,_⟩:=b;⟨q,hq⟩
 exact iY i (by rw[e];exact True.intro) x t (mK m C (rk.merge .nil) b)
structure M1(X:Cx)(o:Expr)(m:Str)(apos:Pos)(e:Expr)(cpos:Pos):Prop where
 base:attributeBase o m X.env (eval o X.env)=eval o X.env
 few:((backTo cpos (starEach [e] X.env)).all (λx=> !x.1)&&(backToKw cpos (keywordEach [] X.env)).all (λx=>x.1.isSome)
  &&decide (([e]:List Expr).length+([]:List Keyword).length+(if([]:List Keyword).isEmpty then 0 else 1)<30))=true
 line:(apos.endLine==cpos.line)=true
 trees:backTo cpos (starEach [e] X.env)=[(false,eval e X.env)]
structure M2(X:Cx)(o:Expr)(m:Str)(apos:Pos)(e f:Expr)(cpos:Pos):Prop where
 base:attributeBase o m X.env (eval o X.env)=eval o X.env
 few:((backTo cpos (starEach [e,f] X.env)).all (λx=> !x.1)&&(backToKw cpos (keywordEach [] X.env)).all (λx=>x.1.isSome)
  &&decide (([e,f]:List Expr).length+([]:List Keyword).length+(if([]:List Keyword).isEmpty then 0 else 1)<30))=true
 line:(apos.endLine==cpos.line)=true
 trees:backTo cpos (starEach [e,f] X.env)=[(false,eval e X.env),(false,eval f X.env)]
def IsD(H:Hp)(a:Addr):Prop:=(∃kvs,Rd H a (.dK kvs))\/∃kvs,Rd H a (.dT kvs)
theorem xS{σ:St}(I:Inv X cb σ H s)(d:IsD H a):
  s.TypeIs (.ref a) "dict"/\(∀b,Value.ref a= .ref b->∃ob,s.heap.get? b=some ob/\ob.dict=none)/\(a==sysModules)=false:=by
 rcases d with ⟨g,e⟩|⟨g,e⟩
 ·obtain⟨_,f,i,_,dd⟩:=iX I.hok e;refine⟨dd.typeIs,λb q=>?_,f⟩
  cases q;obtain⟨ob,_,_,c,h,_⟩:=dd;exact⟨ob,c,h.2.1⟩
 ·obtain⟨_,f,j,_,dd⟩:=pV I.hok e;refine⟨dd.typeIs,λb q=>?_,f⟩
  cases q;obtain⟨ob,_,_,c,h,_⟩:=dd;exact⟨ob,c,h.2.1⟩
section
variable{σ:St}{E:cc}
theorem HZ{Q:cc}(hu:A.units+1<cLine)(I:Inv X cb σ H s)(g:oZ H a y o)(ry:bG y u)(h: ∀w' s',Inv X cb σ H s'->bG (o.getD .non) w'->Q w' s'):
  wpAny (model X.prog X.w) A (call (.builtin "dict.get") [.ref a,u]) Q E s:=by
 rcases g with ⟨i,k,e,f,l⟩|⟨i,k,b,e,f,j,l⟩
 ·subst f;obtain⟨z,d,n,c,dd⟩:=iX I.hok e;refine call_meetsIn PySem.F.slot_dict_get dd.typeIs PySem.F.entry_dict_get (PySem.F.args_dict_get_2 _ _) (meets_dict_get (bE X.prog X.w) a (l9 ry) d) ⟨_,dd.mapOf,h _ _ (I.tok _) ?_⟩;rw[l];exact(c.val k).getD rfl
 ·subst f
  cases (show u=Value.ref b from ry)
  obtain⟨z,d,m,c,dd⟩:=pV I.hok e;refine call_meetsIn PySem.F.slot_dict_get dd.typeIs PySem.F.entry_dict_get (PySem.F.args_dict_get_2 _ _) (meetsH_dict_get (tupleKind (bE X.prog X.w)) a b d) ⟨tupleKind_room_in1 hu,k,m,kW I.hok j,dd,h _ _ (I.tok _) ?_⟩;rw[l];exact(c.val k).getD rfl
theorem Id{Q:cc}(hu:A.units+1<cLine)(I:Inv X cb σ H s)(g:oZ H a y o)(ry:bG y u)(rd:bG d r)(h: ∀w' s',Inv X cb σ H s'->bG (o.getD d) w'->Q w' s'):
  wpAny (model X.prog X.w) A (call (.builtin "dict.get") [.ref a,u,r]) Q E s:=by
 rcases g with ⟨j,k,e,i,l⟩|⟨j,k,b,e,i,m,l⟩
 ·subst i;obtain⟨z,f,p,c,dd⟩:=iX I.hok e;refine call_meetsIn PySem.F.slot_dict_get dd.typeIs PySem.F.entry_dict_get (PySem.F.args_dict_get_3 _ _ _) (meets_dict_get_default (bE X.prog X.w) a (l9 ry) f r) ⟨_,dd.mapOf,h _ _ (I.tok _) ?_⟩;rw[l];exact(c.val k).getD rd
 ·subst i
  cases (show u=Value.ref b from ry)
  obtain⟨z,f,n,c,dd⟩:=pV I.hok e;refine call_meetsIn PySem.F.slot_dict_get dd.typeIs PySem.F.entry_dict_get (PySem.F.args_dict_get_3 _ _ _) (meetsH_dict_get_default (tupleKind (bE X.prog X.w)) a b f r) ⟨tupleKind_room_in1 hu,k,n,kW I.hok m,dd,h _ _ (I.tok _) ?_⟩;rw[l];exact(c.val k).getD rd
end
def Ie(td ty:TE):TE:=λσ H Q=>td σ H λx H1=>∃a,x= .ref a/\IsD H1 a/\ty σ H1 λy H2=>∃o,oZ H2 a y o/\Q (o.getD .non) H2
def Ig(td ty tx:TE):TE:=λσ H Q=>td σ H λx H1=>∃a,x= .ref a/\IsD H1 a/\ty σ H1 λy H2=>tx σ H2 λz H3=>∃o,oZ H3 a y o/\Q (o.getD z) H3
def C4(td ty:TE):TE:=λσ H Q=>td σ H λx H1=>∃a,x= .ref a/\IsD H1 a/\ty σ H1 λy H2=>∃kvs k v,H2 a=some (.dK kvs)/\y=kV k/\kU kvs k=some v/\Q v (upd H2 a (.dK (dropK kvs k)))
theorem Bi(hu:X.A.units+1<cLine)(ho:PE X o td)(he:PE X e ty)(m:M1 X o "get" apos e cpos):PE X (.Call (.Attribute o "get" apos) [e] [] cpos) (Ie td ty):=by
 intro j s i H Q I h;refine wpAny_Call_method m.base m.few m.line PySem.F.plainAttrs_dict PySem.F.slot_dict_get PySem.F.type_dict_get (thn (ho j s i H _ I h) λu v c=>?_)
 obtain⟨x,E,f,B,a,n,d,q1⟩:=c;subst n;obtain rfl:u=Value.ref a:=B;obtain⟨r,C,_⟩:=xS f d;refine⟨r,C,?_⟩;rw[m.trees];refine Calls.callWith_builtin rfl (Calls.evalArgs_plain (Calls.spliced_cons (thn (he j v i E _ f q1) λiv L ⟨y,l,t,q,G,g,p⟩=>Calls.spliced_nil ?_)))
 exact HZ hu t g q λK J z b=>⟨_,l,z,b,p⟩
theorem Bj(hu:X.A.units+1<cLine)(ho:PE X o td)(he:PE X e ty)(hf:PE X f tx)(m:M2 X o "get" apos e f cpos):PE X (.Call (.Attribute o "get" apos) [e,f] [] cpos) (Ig td ty tx):=by
 intro c s b H Q I h;refine wpAny_Call_method m.base m.few m.line PySem.F.plainAttrs_dict PySem.F.slot_dict_get PySem.F.type_dict_get (thn (ho c s b H _ I h) λu r j=>?_)
 obtain⟨x,C,l,B,a,n,d,q1⟩:=j;subst n;obtain rfl:u=Value.ref a:=B;obtain⟨L,O,_⟩:=xS l d;refine⟨L,O,?_⟩;rw[m.trees]
 refine Calls.callWith_builtin rfl (Calls.evalArgs_plain (Calls.spliced_cons (thn (he c r b C _ l q1) λiv t ⟨y,E,M,J,G⟩=>
  Calls.spliced_cons (thn (hf c t b E _ M G) λW T ⟨z,K,v,p,S,g,q⟩=>Calls.spliced_nil ?_))))
 exact Id hu v g J p λU Y N i=>⟨_,K,N,i,q⟩
theorem Bk(ho:PE X o td)(he:PE X e ty)(m:M1 X o "pop" apos e cpos):PE X (.Call (.Attribute o "pop" apos) [e] [] cpos) (C4 td ty):=by
 intro i s g H Q I h;refine wpAny_Call_method m.base m.few m.line PySem.F.plainAttrs_dict PySem.F.slot_dict_pop PySem.F.type_dict_pop (thn (ho i s g H _ I h) λu n c=>?_)
 obtain⟨x,r,f,q,a,j,d,q1⟩:=c;subst j;obtain rfl:u=Value.ref a:=q;obtain⟨B,G,_⟩:=xS f d;refine⟨B,G,?_⟩;rw[m.trees];refine Calls.callWith_builtin rfl (Calls.evalArgs_plain (Calls.spliced_cons (thn (he i n g r _ f q1) λiv K ⟨y,L,C,A,t,k,v,E,J,l,z⟩=>Calls.spliced_nil ?_)))
 subst J;exact K7 C E A l (.inl rfl) λN M p b=>⟨v,_,p,b,z⟩
section
variable{σ:St}{E:cc}
theorem Bl{Q:cc}(I:Inv X cb σ H s)(e:Rd H a (.dK kvs))(h: ∀p s',H p=none->Inv X cb σ (upd H p (.dK kvs)) s'->Q (.ref p) s'):wpAny (model X.prog X.w) A (call (.type "dict") [.ref a]) Q E s:=by
 obtain⟨z,g,j,c,dd⟩:=iX I.hok e;refine kt_call_dict g dd (by rw[<-c.length];exact z) λl d i=>?_
 refine h _ _ (I.hok.fresh (ai _)) (I.laid (a:=s.heap.objs.size) (o:=.dK kvs) (t':=s.toks) (λb q f=>?_) (ai _) (mK z (beq_eq_false_iff_ne.mpr (Ne.symm (bg I.bigK))) c d))
 exact(i.2 b (bg (ag f))).trans (ae _ f)
end
section
variable {κ:Type} [DecidableEq κ]
end
end L2
namespace SK
open PySem PySem.Spec PyProof.Rows L2
section
variable{X:Cx}{ad:Ad}{cb:ce}{s:Shared}{σ:St}{H G:Hp}{E:Nat->Hp->Prop}{a b c:Expr}{f g h:F}
mutual
theorem eV(I:Inv X cb σ H s)(hG:Same G H): ∀{d:D} {v:V} {u:Value},plain d=true->Rep X.K ad G d v->bG v u->∃as,Reads s.heap u (eA d) as
 |.non,v,u,_,h,r=>by
  unfold Rep at h;subst h;cases r;unfold eA;exact⟨_,.none⟩
 |.bl b,v,u,_,h,r=>by
  unfold Rep at h;subst h;cases r;unfold eA;exact⟨_,.bool b⟩
 |.int i,v,u,_,h,r=>by
  unfold Rep at h;subst h;obtain⟨t,rfl⟩:=r;unfold eA;exact⟨_,.int i t⟩
 |.str x,v,u,_,h,r=>by
  unfold Rep at h;subst h;obtain⟨t,rfl⟩:=r;unfold eA;exact⟨_,.str x t⟩
 |.tup ds,v,u,p,h,r=>by
  unfold Rep at h;obtain⟨a,y,rfl,q,c⟩:=h;cases r;obtain⟨g,m,⟨o,f,j,n,l⟩,_⟩:=I.tuple (hG.seqT q);obtain⟨as,e⟩:=hU I hG (by simpa[plain]using p) c m
  unfold eA;exact⟨_,.tuple f j l (by simpa using e)⟩
 |.lst ds,v,u,p,h,r=>by
  unfold Rep at h;obtain⟨a,y,rfl,q,c⟩:=h;cases r;obtain⟨g,m,⟨o,n,f,j,_,l⟩,_⟩:=I.list (hG.seq q);obtain⟨as,e⟩:=hU I hG (by simpa[plain]using p) c m
  unfold eA;exact⟨_,.list f j l (by simpa using e)⟩
 |.exc _,_,_,p,_,_=>by simp[plain]at p
 |.fn _,_,_,p,_,_=>by simp[plain]at p
theorem hU(I:Inv X cb σ H s)(hG:Same G H): ∀{ds:List D} {vs:List V} {us:List Value},bT ds=true->aJ X.K ad G ds vs->bS vs us->∃as,ReadsAll s.heap us (fU ds) as
 |[],vs,us,_,h,r=>by
  unfold aJ at h;subst h;cases r;unfold fU;exact⟨_,.nil⟩
 |d::ds,vs,us,p,h,r=>by
  unfold aJ at h;obtain⟨v,i,rfl,e,c⟩:=h
  have a:plain d=true/\bT ds=true:=by simpa[bT]using p
  cases r with
  |cons g f=>
   obtain⟨as,q1⟩:=eV I hG a.1 e g;obtain⟨bs,b⟩:=hU I hG a.2 c f;unfold fU;exact⟨_,.cons q1 b⟩
end
theorem jZ(h:hX x y=true):plain x=true/\plain y=true/\min (dep x) (dep y)<=60:=by
 unfold hX at h;rw[av,av]at h;exact⟨h.1.1,h.1.2,of_decide_eq_true h.2⟩
theorem xT(hu:A.units+61<cLine)(I:Inv X cb σ H s)(hG:Same G H)(h:hX x y=true)(rx:Rep X.K ad G x v)(ry:Rep X.K ad G y w)(ru:bG v u)(rz:bG w z):
  SeqAt.EqAt A s u z (deq x y):=by
 obtain⟨a,b,e⟩:=jZ h;obtain⟨d,q1⟩:=eV I hG a rx ru;obtain⟨bs,c⟩:=eV I hG b ry rz;rw[<-kT x y a b];exact SeqAt.eqAt_reads (eA x) (eA y) A s u z d bs q1 c (jM a) (jM b) (by rw[kS,kS];lia)
theorem mM(r:Rep X.K ad G x v):decide (v= .non)=nG x:=by
 cases x with
 |bl a=>unfold Rep at r;subst r;rfl
 |non=>unfold Rep at r;subst r;rfl
 |int _=>unfold Rep at r;subst r;rfl
 |str _=>unfold Rep at r;subst r;rfl
 |tup _=>unfold Rep at r;obtain⟨p,_,rfl,_⟩:=r;rfl
 |lst _=>unfold Rep at r;obtain⟨p,_,rfl,_⟩:=r;rfl
 |exc _=>unfold Rep at r;obtain⟨p,rfl,_⟩:=r;rfl
 |fn _=>unfold Rep at r;subst r;rfl
 |dct _ _=>unfold Rep at r;obtain⟨p,_,_,rfl,_⟩:=r;rfl
theorem pX{y:D}{ys:List D}{w:V}(e:items y=some ys)(r:Rep X.K ad G y w): ∃a vs,w= .ref a/\(SqT X.K G a vs\/SqL X.K G a vs)/\aJ X.K ad G ys vs:=by
 cases y with
 |tup _=>cases e;unfold Rep at r;obtain⟨a,vs,b,d,c⟩:=r;exact⟨a,vs,b,.inl d,c⟩
 |lst _=>cases e;unfold Rep at r;obtain⟨a,vs,b,d,c⟩:=r;exact⟨a,vs,b,.inr d,c⟩
 |_=>cases e
theorem tZ: ∀{ys:List D} {vs:List V} {us:List Value},aJ X.K ad G ys vs->bS vs us->∀u∈us, ∃d∈ys, ∃v,Rep X.K ad G d v/\bG v u
 |[],vs,us,h,r,u,hu=>by
  unfold aJ at h;subst h;cases r;cases hu
 |d::ds,vs,us,h,r,u,hu=>by
  unfold aJ at h;obtain⟨v,j,rfl,f,a⟩:=h
  cases r with
  |cons i g=>
   rcases au.mp hu with rfl|hu
   ·exact⟨d,.head _,v,f,i⟩
   ·obtain⟨b,c,e,q⟩:=tZ a g u hu;exact⟨b,.tail _ c,e,q⟩
theorem t0(p:D->Bool)(q:Value->Bool): ∀{ys:List D} {vs:List V} {us:List Value},aJ X.K ad G ys vs->bS vs us->(∀d∈ys, ∀v u,Rep X.K ad G d v->bG v u->q u=p d)->us.any q=ys.any p
 |[],vs,us,h,r,_=>by
  unfold aJ at h;subst h;cases r;rfl
 |d::ds,vs,us,h,r,k=>by
  unfold aJ at h;obtain⟨v,i,rfl,e,a⟩:=h
  cases r with
  |cons g f=>
   rw[List.any_cons,List.any_cons,k d (.head _) v _ e g,t0 p q a f λc b=>k c (.tail _ b)]
theorem mO(p:D->Bool)(q:Value->Bool): ∀{ys:List D} {vs:List V} {us:List Value},aJ X.K ad G ys vs->bS vs us->(∀d∈ys, ∀v u,Rep X.K ad G d v->bG v u->q u=p d)->us.countP q=ys.countP p
 |[],vs,us,h,r,_=>by
  unfold aJ at h;subst h;cases r;rfl
 |d::ds,vs,us,h,r,k=>by
  unfold aJ at h;obtain⟨v,i,rfl,e,a⟩:=h
  cases r with
  |cons g f=>
   rw[List.countP_cons,List.countP_cons,k d (.head _) v _ e g,mO p q a f λc b=>k c (.tail _ b)]
theorem pY(p:D->Bool)(q:Value->Bool): ∀{ys:List D} {vs:List V} {us:List Value},aJ X.K ad G ys vs->bS vs us->(∀d∈ys, ∀v u,Rep X.K ad G d v->bG v u->q u=p d)->us.findIdx? q=ys.findIdx? p
 |[],vs,us,h,r,_=>by
  unfold aJ at h;subst h;cases r;rfl
 |d::ds,vs,us,h,r,k=>by
  unfold aJ at h;obtain⟨v,i,rfl,e,a⟩:=h
  cases r with
  |cons g f=>
   rw[List.findIdx?_cons,List.findIdx?_cons,k d (.head _) v _ e g,pY p q a f λc b=>k c (.tail _ b)]
open Classical in
theorem uA(hu:X.A.units+62<cLine)(I:Inv X cb σ H s)(hG:Same G H)(h:tP x ys=true)(rx:Rep X.K ad G x v)(ru:bG v u)(r:aJ X.K ad G ys vs)(rv:bS vs its):
  ∃e:Value->Bool,(∀y,y∈its.toArray->SeqAt.EqAt X.A.in1 s y u (e y))/\its.toArray.any e=(ys.any λy=>deq y x)/\its.countP e=(ys.countP λy=>deq y x)/\its.findIdx? e=ys.findIdx? λy=>deq y x:=by
 have ok: ∀d∈ys,hX d x=true:=λd c=>zAd h d c
 have a: ∀d∈ys, ∀g b,Rep X.K ad G d g->bG g b->(decide (∃d' f,plain d'=true/\Reads s.heap b (eA d') f/\PyData.eqv (eA d') (eA x)=true))=deq d x:=λd c g b l j=>by
  obtain⟨i,m,_⟩:=jZ (ok d c);obtain⟨f,q1⟩:=eV I hG i l j;rw[<-kT d x i m]
  by_cases z:PyData.eqv (eA d) (eA x)=true
  ·rw[z];exact decide_eq_true ⟨d,f,i,q1,z⟩
  ·rw[Bool.not_eq_true]at z;rw[z];refine decide_eq_false ?_;rintro⟨d',as',p',q',z'⟩
   have:=SeqAt.Reads.unique (eA d) (eA d') b f as' (jM i) q1 q'
   rw[<-this,z]at z';cases z'
 refine⟨λb=>decide (∃d' f,plain d'=true/\Reads s.heap b (eA d') f/\PyData.eqv (eA d') (eA x)=true),λy n=>?_,?_,mO _ _ r rv a,pY _ _ r rv a⟩
 ·obtain⟨d,c,g,l,j⟩:=tZ r rv y (by simpa using n)
  have:=xT (A:=X.A.in1) (by show X.A.units+1+61<_;lia) I hG (ok d c) l rx j ru
  rw[<-a d c g y l j]at this;exact this
 ·rw[List.any_toArray];exact t0 _ _ r rv a
theorem pZ{x:Str}: ∀{ks:List Str} {ds:List D} {es:List (Key×V)},es.map (·.1)=ks.map Sum.inr->aJ X.K ad G ds (es.map (·.2))->(kU es (.inr x)=none/\bC (ks.zip ds) x=none/\ks.contains x=false)\/∃v d,kU es (.inr x)=some v/\bC (ks.zip ds) x=some d/\Rep X.K ad G d v/\d∈ds/\ks.contains x=true
 |[],ds,[],_,_=>.inl ⟨rfl,rfl,rfl⟩
 |[],_,_::_,h,_=>by simp at h
 |_::_,_,[],h,_=>by simp at h
 |k::ks,ds,(q,v)::es,h1,h2=>by
  rw[List.map_cons,List.map_cons]at h1;obtain⟨o,m⟩:=List.cons.inj h1;rw[List.map_cons]at h2
  cases ds with
  |nil=>unfold aJ at h2;cases h2
  |cons d ds=>
   unfold aJ at h2;obtain⟨u,t,r,n,s⟩:=h2;cases r
   have c:q= .inr k:=o
   subst c
   by_cases z:k=x
   ·subst z;exact .inr ⟨v,d,iC rfl,by simp[bC],n,.head _,by simp⟩
   ·have g: ¬((Sum.inr k:Key)= .inr x):=λy=>z (by injection y)
    have i: ¬x=k:=λy=>z y.symm
    rcases pZ (x:=x) m s with ⟨b,a,f⟩|⟨w,e,b,a,f,l,j⟩
    ·exact .inl ⟨(gG (p:=(Sum.inr k,v)) g).trans b,by simpa[bC,z]using a,by simpa[i]using f⟩
    ·exact .inr ⟨w,e,(gG (p:=(Sum.inr k,v)) g).trans b,by simpa[bC,z]using a,f,.tail _ l,by simpa[i]using j⟩
theorem xU{A:Around}(hu:A.units+61<cLine)(I:Inv X cb σ H s)(hG:Same G H){ls:List Str}{ws:List D}{eb:List (Key×V)}{kb:List (Key×Value)}(b1:eb.map (·.1)=ls.map Sum.inr)(b2:aJ X.K ad G ws (eb.map (·.2)))(b3:KV eb kb):
  ∀{ks:List Str} {ds:List D} {ea:List (Key×V)} {ka:List (Key×Value)},(∀d∈ds, ∀e∈ws,hX d e=true)->ea.map (·.1)=ks.map Sum.inr->aJ X.K ad G ds (ea.map (·.2))->KV ea ka->
   PySem.W.KeqHits A s kb ka ((ks.zip ds).all λp=>match bC (ls.zip ws) p.1 with|some w=>deq p.2 w|none=>false)
 |[],ds,[],_,_,_,_,.nil=>.nil
 |[],_,_::_,_,_,h,_,_=>by simp at h
 |_::_,_,[],_,_,h,_,_=>by simp at h
 |k::ks,ds,(q,v)::es,(q',u)::ka,ok,h1,h2,.cons h3 h4=>by
  rw[List.map_cons,List.map_cons]at h1;obtain⟨t,o⟩:=List.cons.inj h1;rw[List.map_cons]at h2
  cases ds with
  |nil=>unfold aJ at h2;cases h2
  |cons d ds=>
   unfold aJ at h2;obtain⟨M,L,C,r,J⟩:=h2;cases C;obtain⟨j,z⟩:=h3
   have f:q= .inr k:=t
   have g:q=q':=j
   subst g;subst f;have dZ:=xU hu I hG b1 b2 b3 (ks:=ks) (ds:=ds) (ea:=es) (ka:=ka) (λd B e n=>ok d (.tail _ B) e n) o J h4
   rw[List.zip_cons_cons,List.all_cons];have a:=b3.val (.inr k);rcases pZ (x:=k) b1 b2 with ⟨c,b,_⟩|⟨w,e,c,b,E,m,_⟩
   ·rw[c]at a;simp only[b,Bool.false_and];exact .miss (lW.none_of a)
   ·rw[c]at a;obtain⟨y,l,i⟩:=lW.some_of a;simp only[b];exact .hit l (xT hu I hG (ok d (.head _) e m) r E z i) dZ
theorem C5{ks:List Str}{es:List (Key×V)}(h1:es.map (·.1)=ks.map Sum.inr)(h2:aJ X.K ad G ds (es.map (·.2))):(ks.zip ds).length=es.length:=by
 have a:=congrArg List.length h1;have b:=h2.length
 simp at a b
 simp[<-a, <-b]
theorem C6(hu:X.A.units+62<cLine)(I:Inv X cb σ H s)(hG:Same G H)(rx:Rep X.K ad G x v)(ry:Rep X.K ad G y w)(ru:bG v u)(rz:bG w z)(hr:RK X.K ad G H (nH neg x y) Q E):
  wpAny (model X.prog X.w) X.A (compareOp (if neg then .NotEq else .Eq) u z) (EP X cb σ Q) X.xe s:=by
 cases x<;>try exact az hr
 cases y<;>try exact az hr
 rename_i J g r h
 have c:RK X.K ad G H (if(g.all λd=>h.all λe=>hX d e)=true then .ok (.bl (neg != CV (J.zip g) (r.zip h)))else .bad) Q E:=hr
 by_cases i:(g.all λd=>h.all λe=>hX d e)=true
 ·rw[if_pos i]at c;unfold Rep at rx ry;obtain⟨a,Y,ea,rfl,O,t,l⟩:=rx;obtain⟨b,N,eb,rfl,g2,B,o⟩:=ry
  cases (show u=Value.ref a from ru)
  cases (show z=Value.ref b from rz)
  obtain⟨z1,L,T,C,m⟩:=iX I.hok (.inr ⟨Y,hG _ _ O⟩);obtain⟨z2,n,U,p,M⟩:=iX I.hok (.inr ⟨N,hG _ _ g2⟩)
  have ok: ∀d∈g, ∀e∈h,hX d e=true:=λd S e Z=>zAd (zAd i d S) e Z
  have f:=xU (A:=X.A.in1) (by show X.A.units+1+61<_;lia) I hG B o p ok t l C
  have j:T.length=(J.zip g).length:=by rw[C5 t l];exact(KV.length C).symm
  have q:U.length=(r.zip h).length:=by rw[C5 B o];exact(KV.length p).symm
  cases neg
  ·refine PySem.W.keq_eq L n m M (by lia) (λ_=>f) ?_
   rw[j,q];exact⟨.bl _,H,I,rfl,c.ok_now hG (by unfold Rep CV;rw[Bool.false_bne]<;>rfl)⟩
  ·refine PySem.W.keq_ne L n m M (by lia) (λ_=>f) ?_
   rw[j,q];exact⟨.bl _,H,I,rfl,c.ok_now hG (by unfold Rep CV;rw[Bool.true_bne]<;>rfl)⟩
 ·rw[if_neg i]at c;exact c.elim
theorem C7(hu:X.A.units+1<cLine)(I:Inv X cb σ H s)(hG:Same G H)(rx:Rep X.K ad G (.str x) v)(ry:Rep X.K ad G (.dct ks ds) w)(ru:bG v u)(rz:bG w z)(hr:RK X.K ad G H (.ok (.bl (neg != ks.contains x))) Q E):
  wpAny (model X.prog X.w) X.A (compareOp (if neg then .NotIn else .In) u z) (EP X cb σ Q) X.xe s:=by
 unfold Rep at rx ry;subst rx;obtain⟨a,o,b,rfl,g,j,h⟩:=ry
 cases (show z=Value.ref a from rz)
 have e:(kU b (.inr x)).isSome=ks.contains x:=by
  rcases pZ (x:=x) j h with ⟨f,_,c⟩|⟨_,_,f,_,_,_,c⟩
  ·rw[f,c];rfl
  ·rw[f,c];rfl
 have D:oZ H a (.str x) (kU b (.inr x)):=.inl ⟨b,.inr x,.inr ⟨o,hG _ _ g⟩,rfl,rfl⟩;cases neg
 ·refine Mm hu I D ru λi d=>?_
  rw[e];exact⟨.bl _,H,d,rfl,hr.ok_now hG (by unfold Rep;simp)⟩
 ·refine xP hu I D ru λi d=>?_
  rw[e];exact⟨.bl _,H,d,rfl,hr.ok_now hG (by unfold Rep;simp)⟩
theorem fZ(op:CmpOp)(hu:X.A.units+62<cLine):DOp X ad (compareOp op) (dJ op):=by
 intro r s q H G x y v w u z Q E I b d c h l f
 cases op with
 |Eq=>
  have a:RK X.K ad G H (if hX x y then R.ok (.bl (deq x y))else nH false x y) Q E:=f
  by_cases m:hX x y=true
  ·rw[if_pos m]at a;obtain⟨n,o,W⟩:=jZ m;obtain⟨T,q1⟩:=eV I b n d h;obtain⟨bs,M⟩:=eV I b o c l;exact SeqAt.compareEq_reads q1 M (jM n) (jM o) (by rw[kS,kS];lia) (by rw[kT x y n o];exact⟨.bl _,H,I,rfl,a.ok_now b cQ⟩)
  ·rw[if_neg m]at a;exact C6 (neg:=false) hu I b d c h l a
 |NotEq=>
  have a:RK X.K ad G H (if hX x y then R.ok (.bl (!deq x y))else nH true x y) Q E:=f
  by_cases m:hX x y=true
  ·rw[if_pos m]at a;obtain⟨n,o,W⟩:=jZ m;obtain⟨T,q1⟩:=eV I b n d h;obtain⟨bs,M⟩:=eV I b o c l;exact SeqAt.neOverData X.prog X.w X.A X.xe s u z (eA x) (eA y) T bs _ q1 M (jM n) (jM o) (by rw[kS,kS];lia) (by rw[kT x y n o];exact⟨.bl _,H,I,rfl,a.ok_now b cQ⟩)
  ·rw[if_neg m]at a;exact C6 (neg:=true) hu I b d c h l a
 |Lt=>
  cases x<;>cases y<;>try exact az f
  unfold Rep at d c;subst d;subst c;exact KU r s q H _ _ u z Q I h l ⟨_,_,rfl,rfl,f.ok_now b cQ⟩
 |LtE=>
  cases x<;>cases y<;>try exact az f
  ·unfold Rep at d c;subst d;subst c;exact KW r s q H _ _ u z Q I h l ⟨_,_,rfl,rfl,f.ok_now b cQ⟩
  ·rename_i i j;unfold Rep at d c;subst d;subst c;obtain⟨t,rfl⟩:=(show ∃t,u=Value.str i t from h)
   obtain⟨Z,rfl⟩:=(show ∃t,z=Value.str j t from l)
   exact PySem.P.le_str ⟨.bl _,H,I,rfl,f.ok_now b cQ⟩
 |Gt=>
  cases x<;>cases y<;>try exact az f
  unfold Rep at d c;subst d;subst c;exact KY r s q H _ _ u z Q I h l ⟨_,_,rfl,rfl,f.ok_now b cQ⟩
 |GtE=>
  cases x<;>cases y<;>try exact az f
  unfold Rep at d c;subst d;subst c;exact KZ r s q H _ _ u z Q I h l ⟨_,_,rfl,rfl,f.ok_now b cQ⟩
 |Is=>
  cases y<;>try exact az f
  unfold Rep at c;subst c;exact HE r s q H _ _ u z Q I h l ⟨rfl,by rw[mM d];exact f.ok_now b cQ⟩
 |IsNot=>
  cases y<;>try exact az f
  unfold Rep at c;subst c;exact DX r s q H _ _ u z Q I h l ⟨rfl,by rw[mM d];exact f.ok_now b cQ⟩
 |In=>
  cases x<;>try exact az f
  cases y<;>try exact az f
  exact C7 (neg:=false) (by lia) I b d c h l f
 |NotIn=>
  have a:RK X.K ad G H (match items y with|some B=>if tP x B then R.ok (.bl (!B.any λy=>deq y x))else .bad|none=>inS x y true) Q E:=f
  cases e:items y with
  |none=>
   rw[e]at a;have g:RK X.K ad G H (inS x y true) Q E:=a
   cases x<;>try exact az g
   cases y<;>try exact az g
   exact C7 (neg:=true) (by lia) I b d c h l g
  |some B=>
   rw[e]at a
   have g:RK X.K ad G H (if tP x B then R.ok (.bl (!B.any λy=>deq y x))else .bad) Q E:=a
   by_cases m:tP x B=true
   ·rw[if_pos m]at g;obtain⟨p,Y,rfl,C,U⟩:=pX e c
    cases (show z=Value.ref p from l)
    rcases C with C|C
    ·obtain⟨J,S,pt,_⟩:=I.tuple (b.seqT C);obtain⟨L,N,O,_⟩:=uA hu I b m d h U S;exact SeqAt.notIn_tupleAt L (show s.heap.IsTuple p J.toArray from pt) N (by rw[O];exact⟨.bl _,H,I,rfl,g.ok_now b cQ⟩)
    ·obtain⟨J,S,pt,_⟩:=I.list (b.seq C);obtain⟨L,N,O,_⟩:=uA hu I b m d h U S;exact SeqAt.notIn_listAt L pt.isList N (by rw[O];exact⟨.bl _,H,I,rfl,g.ok_now b cQ⟩)
   ·rw[if_neg m]at g;exact g.elim
end
theorem PE.imp(h:PE X e t)(k: ∀σ H Q,t' σ H Q->t σ H Q):PE X e t':=λa s σ H Q I w=>h a s σ H Q I (k σ H Q w)
theorem PT.imp(h:PT X e t)(k: ∀σ H Q,t' σ H Q->t σ H Q):PT X e t':=λa s σ H Q I w=>h a s σ H Q I (k σ H Q w)
theorem PW.imp(h:PW X e t)(k: ∀σ H Q,t' σ H Q->t σ H Q):PW X e t':=λb a s σ H Q I w=>h b a s σ H Q I (k σ H Q w)
theorem PS.imp(h:PS X e t)(k: ∀D σ H,t' D σ H->t D σ H):PS X e t':=λa s σ H D I w=>h a s σ H D I (k D σ H w)
theorem PSs.imp(h:PSs X e t)(k: ∀D σ H,t' D σ H->t D σ H):PSs X e t':=λa s σ H D I w=>h a s σ H D I (k D σ H w)
theorem PA.imp(h:PA X es t)(k: ∀σ H Q,t' σ H Q->t σ H Q):PA X es t':=λp a s σ H Q I w=>h p a s σ H Q I (k σ H Q w)
section
variable{X:Cx}{ad:Ad}{cb:ce}{s:Shared}{σ:St}{H G:Hp}{Q:VK}{E:Nat->Hp->Prop}{a:Expr}{h:F}
theorem eZ{σ:St}{H:Hp}{Q Q':VK}(hG:Same G H)(hS:SL X.K ad G H ρ σ)(hx:XP X ad σ E)(hr:RK X.K ad G H ((f ρ).bind k) Q E)(q: ∀v d G1 H1,Step G H G1 H1->Rep X.K ad G1 d v->RK X.K ad G1 H1 (k d) Q E->Q' v H1):tE X ad f σ H Q':=by
 refine⟨G,ρ,E,hG,hS,hx,?_⟩
 cases e:f ρ with
 |ok d=>
  rw[e]at hr;exact λv G1 H1 a r=>q v d G1 H1 a r (RK.step hr a)
 |ow j=>
  rw[e]at hr;intro p i G1 H1 a n m h r;obtain⟨b,st2,g⟩:=dA (X:=X) (ad:=ad) a n m h r;exact q _ _ b H1 st2 g (RK.step hr st2)
 |ex c=>
  rw[e]at hr;exact hr
 |bad=>
  rw[e]at hr;exact hr
theorem nQ(hx:XP X ad σ E)(st:Step G H G1 H1)(hS:SL X.K ad G H ρ σ){Q:VK}(hr:RK X.K ad G1 H1 (f ρ) Q E):tE X ad f σ H1 Q:=⟨G1,ρ,E,st.gh,hS.step st,hx,hr⟩
theorem Ih(ha:ME X ad a f):ME X ad (.UnaryOp .Not a pos) (pO f):=by
 refine PE.imp (Hq ha) ?_;rintro j H Q ⟨G,m,E,h,g,e,c⟩;refine eZ h g e c λv d i l b r k=>?_
 cases d<;>try exact az k
 unfold Rep at r;subst r;exact⟨_,rfl,k.ok_now b.gh cQ⟩
theorem Ii{σ:St}{H:Hp}{Q:VK}(h:tE X ad (jX f g) σ H Q):Hm (tE X ad f) (tE X ad g) σ H Q:=by
 obtain⟨G,n,E,j,e,c,i⟩:=h;refine eZ j e c i λv d l m a r k=>?_
 cases d<;>try exact az k
 rename_i b;unfold Rep at r;subst r;refine⟨b,rfl,?_⟩
 cases b with
 |true=>exact wK (nQ c a e k)
 |false=>exact xB (k.ok_now a.gh cQ)
theorem Lc{σ:St}{H:Hp}{Q:VK}(h:tE X ad (rOr f g) σ H Q):LZ (tE X ad f) (tE X ad g) σ H Q:=by
 obtain⟨G,n,E,j,e,c,i⟩:=h;refine eZ j e c i λv d l m a r k=>?_
 cases d<;>try exact az k
 rename_i b;unfold Rep at r;subst r;refine⟨b,rfl,?_⟩
 cases b with
 |true=>exact wK (k.ok_now a.gh cQ)
 |false=>exact xB (nQ c a e k)
theorem C8(ha:ME X ad a f)(hb:ME X ad (.BoolOp .And (b::r) pos) g):ME X ad (.BoolOp .And (a::b::r) pos) (jX f g):=PE.imp (Ho ha hb) λ_ _ _ h=>Ii h
theorem Ij(ha:ME X ad a f)(hb:ME X ad (.BoolOp .Or (b::r) pos) g):ME X ad (.BoolOp .Or (a::b::r) pos) (rOr f g):=PE.imp (KL ha hb) λ_ _ _ h=>Lc h
theorem C9(hb:ME X ad b g):ME X ad (.BoolOp op [b] pos) g:=Hn hb
theorem Ld{σ:St}{H:Hp}{Q:Bool->Hp->Prop}(h:tT X ad f σ H Q):tE X ad f σ H λx H1=>∃k,x= .bl k/\Q k H1:=by
 obtain⟨G,e,E,d,c,b,g,a⟩:=h;exact⟨G,e,E,d,c,b,a⟩
theorem Da(ha:ME X ad a f)(he: ∀whole,isTrue a X.env whole=(do let v<-whole;standAt a.pos;holding [v] (truthy v))):MT X ad a f:=PT.imp (Hk ha he) λ_ _ _ h=>Ld h
theorem fM{r:R}{k:D->R}(h:jN (r.bind k)):(∃d,r= .ok d/\jN (k d))\/(∃xs,r= .ow xs/\jN (k (.lst xs)))\/∃c,r= .ex c:=by
 cases r with
 |ok d=>exact .inl ⟨d,rfl,h⟩
 |ow xs=>exact .inr (.inl ⟨xs,rfl,h⟩)
 |ex c=>exact .inr (.inr ⟨c,rfl⟩)
 |bad=>
  rcases h with ⟨_,h⟩|⟨_,h⟩<;>cases h
theorem bW: ¬jN .bad:=by
 rintro(⟨_,h⟩|⟨_,h⟩)<;>cases h
theorem Ik{σ:St}{H:Hp}{Q:Bool->Hp->Prop}(h:tT X ad (pO f) σ H Q):LY (tT X ad f) σ H Q:=by
 obtain⟨G,i,E,n,o,m,g,l⟩:=h;rcases fM g with ⟨d,e,g⟩|⟨z,e,g⟩|⟨c,e⟩
 ·cases d<;>try exact(bW g).elim
  rename_i b;refine⟨G,i,E,n,o,m,.inl ⟨b,e⟩,?_⟩
  have a:RK X.K ad G H ((f i).bind λx=>match x with|.bl b=>.ok (.bl (!b))|_=>.bad) (λv j=>∃b,v= .bl b/\Q b j) E:=l
  rw[e]at a ⊢;intro v s t p r;unfold Rep at r;subst r;obtain⟨y,u,q⟩:=a (.bl (!b)) s t p cQ;cases u;exact⟨b,rfl,q⟩
 ·exact(bW g).elim
 ·refine⟨G,i,E,n,o,m,.inr ⟨c,e⟩,?_⟩
  have a:RK X.K ad G H ((f i).bind λx=>match x with|.bl b=>.ok (.bl (!b))|_=>.bad) (λv j=>∃b,v= .bl b/\Q b j) E:=l
  rw[e]at a ⊢;exact a
theorem Db(ha:MT X ad a f):MT X ad (.UnaryOp .Not a pos) (pO f):=PT.imp (Hl ha) λ_ _ _ h=>Ik h
theorem Il{σ:St}{H:Hp}{Q:Bool->Hp->Prop}(h:tT X ad (jX f g) σ H Q):LW (tT X ad f) (tT X ad g) σ H Q:=by
 obtain⟨G,j,E,p,n,m,i,s⟩:=h
 have a:RK X.K ad G H ((f j).bind λx=>match x with|.bl true=>g j|.bl false=>.ok (.bl false)|_=>.bad) (λv t=>∃b,v= .bl b/\Q b t) E:=s
 rcases fM i with ⟨d,e,i⟩|⟨A,e,i⟩|⟨c,e⟩
 ·cases d<;>try exact(bW i).elim
  rename_i b;refine⟨G,j,E,p,n,m,.inl ⟨b,e⟩,?_⟩;rw[e]at a ⊢;intro v o u l r;unfold Rep at r;subst r;refine⟨b,rfl,?_⟩
  cases b with
  |true=>exact wK ⟨o,j,E,l.gh,n.step l,m,i,RK.step a l⟩
  |false=>
   obtain⟨z,y,q⟩:=a (.bl false) o u l cQ;cases y;exact xB q
 ·exact(bW i).elim
 ·refine⟨G,j,E,p,n,m,.inr ⟨c,e⟩,?_⟩;rw[e]at a ⊢;exact a
theorem Le{σ:St}{H:Hp}{Q:Bool->Hp->Prop}(h:tT X ad (rOr f g) σ H Q):tOr (tT X ad f) (tT X ad g) σ H Q:=by
 obtain⟨G,j,E,p,n,m,i,s⟩:=h
 have a:RK X.K ad G H ((f j).bind λx=>match x with|.bl true=>.ok (.bl true)|.bl false=>g j|_=>.bad) (λv t=>∃b,v= .bl b/\Q b t) E:=s
 rcases fM i with ⟨d,e,i⟩|⟨A,e,i⟩|⟨c,e⟩
 ·cases d<;>try exact(bW i).elim
  rename_i b;refine⟨G,j,E,p,n,m,.inl ⟨b,e⟩,?_⟩;rw[e]at a ⊢;intro v o u l r;unfold Rep at r;subst r;refine⟨b,rfl,?_⟩
  cases b with
  |true=>
   obtain⟨z,y,q⟩:=a (.bl true) o u l cQ;cases y;exact wK q
  |false=>exact xB ⟨o,j,E,l.gh,n.step l,m,i,RK.step a l⟩
 ·exact(bW i).elim
 ·refine⟨G,j,E,p,n,m,.inr ⟨c,e⟩,?_⟩;rw[e]at a ⊢;exact a
theorem Dc(ha:MT X ad a f)(hb:MW X ad (.BoolOp .And (b::r) pos) g):MW X ad (.BoolOp .And (a::b::r) pos) (jX f g):=PW.imp (pw_and ha hb) λ_ _ _ h=>Il h
theorem Er(ha:MT X ad a f)(hb:MW X ad (.BoolOp .Or (b::r) pos) g):MW X ad (.BoolOp .Or (a::b::r) pos) (rOr f g):=PW.imp (pw_or ha hb) λ_ _ _ h=>Le h
theorem xV(hb:MT X ad b g):MW X ad (.BoolOp op [b] pos) g:=by
 cases op with
 |And=>exact pw_and1 hb
 |Or=>exact pw_or1 hb
theorem Im(hu:X.A.units+62<cLine)(ha:ME X ad a f)(hb:ME X ad b g)(hm:behindInMarks op b=false):ME X ad (.Compare a [op] [b] pos) (aZ op f g):=by
 refine λl s j H Q I e=>e.el λG m E i h d c=>?_
 exact wpAny_Compare1 (xM (fZ op hu) ha hb I i h d c) hm
theorem Dd(hu:X.A.units+62<cLine)(ha:ME X ad a f)(hb:ME X ad b g)(hm:behindInMarks op b=false):MT X ad (.Compare a [op] [b] pos) (aZ op f g):=by
 refine λz s y H Q I o=>o.el λG J E l r i L h=>?_
 refine wpAny_isTrue_Compare1 (L2.thn (xM (fZ op hu) ha hb I l r i h) λv C n=>L2.thn n λu K t=>L2.thn t λc B d=>?_) hm
 obtain⟨x,p,j,m,k,e,q⟩:=d;subst e;cases m;exact wpAny_truthy_bool ⟨p,j,q⟩
theorem xW:(∃k,dJ op x y= .ok (.bl k))\/dJ op x y= .bad:=by
 cases op<;>unfold dJ<;>(try unfold inS)<;>(try unfold nH)<;>(repeat' split)<;>first|exact .inr rfl|exact .inl ⟨_,rfl⟩
theorem Lf{op:CmpOp}{x y:D}{v w:V}{u z:Value}(hu:X.A.units+62<cLine)(I:Inv X cb σ H s)(hG:Same G H)(rx:Rep X.K ad G x v)(ry:Rep X.K ad G y w)(ru:bG v u)(rz:bG w z){k:D->R}(hr:RK X.K ad G H ((dJ op x y).bind k) Q E):wpAny (model X.prog X.w) X.A (compareOp op u z) (λd s3=>∃b G' H',d= .bool b/\Step G H G' H'/\Inv X cb σ H' s3/\RK X.K ad G' H' (k (.bl b)) Q E) X.xe s:=by
 rcases xW (op:=op) (x:=x) (y:=y)with ⟨b,e⟩|e
 ·rw[e]at hr;refine L2.thn (fZ op hu cb s σ H G x y v w u z (λq H'=>∃G',Step G H G' H'/\q= .bl b) E I hG rx ry ru rz (by rw[e];exact λq G' H' a r=>⟨G',a,by unfold Rep at r;exact r⟩)) λd s3 c=>?_
  obtain⟨q,H',h,g,G',a,f⟩:=c;subst f;cases g;exact⟨b,G',H',rfl,a,h,RK.step hr a⟩
 ·rw[e]at hr;exact hr.elim
theorem Bm(hu:X.A.units+62<cLine)(ha:ME X ad a f)(hb:ME X ad b g)(hc:ME X ad c h)(hm:lastMarks [op,op'] [b,c]=false):ME X ad (.Compare a [op,op'] [b,c] pos) (jK op op' f g h):=by
 refine λC s z H Q I N=>N.el λG ρ E J n l t=>?_
 refine Compare_chain (L2.thn (ha.thn I J n l t) λv s1 ⟨x,d1,G1,H1,B,Z,st1,q1,k1⟩=>chain_link (L2.thn (hb.thn B st1.gh (n.step st1) l k1) λu s2 ⟨y,d2,G2,H2,W,q,st2,r,O⟩=>
  L2.thn (Lf hu W st2.gh (q1.mono st2.sg) r Z q O) λd s3 ⟨k,G3,T,e,i,o,p⟩=>?_)) hm
 subst e;refine wpAny_truthy_bool ?_
 cases k with
 |false=>exact ite_ff ⟨.bl false,T,o,rfl,p.ok_now i.gh cQ⟩
 |true=>
  refine ite_tt (chain_last (L2.thn (hc.thn o i.gh (((n.step st1).step st2).step i) l p) λY s4 m=>?_))
  obtain⟨z',S,G4,U,I4,L,j,K,M⟩:=m;exact fZ op' hu C s4 z U G4 d2 S y z' u Y Q E I4 j.gh ((r.mono i.sg).mono j.sg) K q L M
theorem Bn(hu:X.A.units+62<cLine)(ha:ME X ad a f)(hb:ME X ad b g)(hc:ME X ad c h)(hm:lastMarks [op,op'] [b,c]=false):MT X ad (.Compare a [op,op'] [b,c] pos) (jK op op' f g h):=by
 refine λL s C H Q I U=>U.el λG ρ E M n m ht B=>?_
 refine isTrue_chain (L2.thn (ha.thn I M n m B) λv s1 ⟨x,d1,G1,H1,J,r1,st1,q1,k1⟩=>test_link (L2.thn (hb.thn J st1.gh (n.step st1) m k1) λu s2 ⟨y,d2,G2,H2,I2,r,st2,t,p⟩=>
  L2.thn (Lf hu I2 st2.gh (q1.mono st2.sg) t r1 r p) λd s3 ⟨k,G3,Z,e,i,o,q⟩=>?_)) hm
 subst e;refine wpAny_truthy_bool ?_
 cases k with
 |false=>
  obtain⟨k',e',Y⟩:=q.ok_now (v:=.bl false) i.gh cQ;cases e';exact ite_ff ⟨Z,o,Y⟩
 |true=>
  refine ite_tt (test_last (L2.thn (hc.thn o i.gh (((n.step st1).step st2).step i) m q) λw' s4 j=>?_))
  obtain⟨z',W,z,H4,I4,S,l,N,T⟩:=j;refine L2.thn (fZ op' hu L s4 C H4 z d2 W y z' u w' _ E I4 l.gh ((t.mono i.sg).mono l.sg) N r S T) λd' s5 j=>?_
  obtain⟨z2,H5,O,K,p,e2,q5⟩:=j;subst e2;cases K;exact wpAny_truthy_bool ⟨H5,O,q5⟩
theorem Bo(hc:MT X ad c h)(ha:ME X ad a f)(hb:ME X ad b g):ME X ad (.IfExp c a b pos) (rIf h f g):=by
 refine PE.imp (tF hc ha hb) ?_;rintro s H Q ⟨G,j,E,o,n,m,p⟩
 have i:RK X.K ad G H ((h j).bind λx=>match x with|.bl true=>f j|.bl false=>g j|_=>.bad) Q E:=p
 cases e:h j with
 |ok d=>
  rw[e]at i
  cases d<;>try exact i.elim
  rename_i k;refine⟨G,j,E,o,n,m,.inl ⟨k,e⟩,?_⟩;rw[e];intro v q u l r;unfold Rep at r;subst r;refine⟨k,rfl,?_⟩
  cases k with
  |true=>exact wK (nQ m l n (RK.step i l))
  |false=>exact xB (nQ m l n (RK.step i l))
 |ow t=>rw[e]at i;exact i.elim
 |ex k=>
  rw[e]at i;exact⟨G,j,E,o,n,m,.inr ⟨k,e⟩,by rw[e];exact i⟩
 |bad=>rw[e]at i;exact i.elim
theorem xX:MA X ad [] []:=PA.imp eL λd H Q ⟨G,f,E,b,e,c,a⟩=>a [] G H (Step.refl b) aJ.nil
theorem nR(ha:ME X ad a f)(hr:MA X ad es fs)(hs:starEach (a::es) X.env=(false,eval a X.env)::starEach es X.env):MA X ad (a::es) (f::fs):=by
 refine PA.imp (cN ha hr hs) ?_;rintro y H Q ⟨G,l,E,z,x,s,hr⟩
 have g: ∀d,AK X.K ad G H ((args fs l).cons d) Q E->∀v h i,Step G H h i->Rep X.K ad h d v->tA X ad fs y i λt j=>Q (v::t) j:=λd hk v h i b r=>by
  refine⟨h,l,E,b.gh,x.step b,s,?_⟩
  cases e:args fs l with
  |ok B=>rw[e]at hk;exact λu o j st2 q=>hk (v::u) o j (b.trans st2) (aJ.cons (r.mono st2.sg) q)
  |ex c=>rw[e]at hk;exact λo j st2=>hk o j (b.trans st2)
  |bad=>rw[e]at hk;exact hk
 refine⟨G,l,E,z,x,s,?_⟩;unfold args at hr
 cases e:f l with
 |ok d=>rw[e]at hr;exact λv h i b r=>g d hr v h i b r
 |ow t=>
  rw[e]at hr;intro p u h i b n m A r;obtain⟨o,st2,q⟩:=dA (X:=X) (ad:=ad) b n m A r;exact g _ hr _ o i st2 q
 |ex c=>rw[e]at hr;exact hr
 |bad=>rw[e]at hr;exact hr
theorem gH(h:args fs ρ= .ok ds):ds.length=fs.length:=by
 induction fs generalizing ds with
 |nil=>cases h;rfl
 |cons f fs b=>
  unfold args at h
  cases e:f ρ with
  |ok d=>
   rw[e]at h
   cases a:args fs ρ with
   |ok r=>rw[a]at h;cases h;simp[b a]
   |ex c=>rw[a]at h;cases h
   |bad=>rw[a]at h;cases h
  |ow d=>
   rw[e]at h
   cases a:args fs ρ with
   |ok r=>rw[a]at h;cases h;simp[b a]
   |ex c=>rw[a]at h;cases h
   |bad=>rw[a]at h;cases h
  |ex c=>rw[e]at h;cases h
  |bad=>rw[e]at h;cases h
theorem sA{σ:St}{H:Hp}{Q:VK}(hG:Same G H)(hS:SL X.K ad G H ρ σ)(hx:XP X ad σ E)(hr:RK X.K ad G H (l4 fs ρ k) Q E)(q: ∀vs ds G1 H1,Step G H G1 H1->aJ X.K ad G1 ds vs->ds.length=fs.length->RK X.K ad G1 H1 (k ds) Q E->Q' vs H1):tA X ad fs σ H Q':=by
 refine⟨G,ρ,E,hG,hS,hx,?_⟩;unfold l4 at hr
 cases e:args fs ρ with
 |ok ds=>rw[e]at hr;exact λvs G1 H1 a r=>q vs ds G1 H1 a r (gH e) (RK.step hr a)
 |ex c=>rw[e]at hr;exact hr
 |bad=>rw[e]at hr;exact hr
theorem Io(ha:MA X ad es fs)(hl:fs.length<=1000):ME X ad (.Tuple es j pos) (dX fs):=by
 refine PE.imp (CS ha) ?_;rintro o H Q ⟨G,b,E,l,m,g,f⟩;refine⟨G,b,E,l,m,g,?_⟩
 have a:RK X.K ad G H ((args fs b).then λh=>.ok (.tup h)) Q E:=f
 cases e:args fs b with
 |ok q=>
  rw[e]at a;intro s n t d r;refine⟨?_,λp i=>(RK.step a d).tup_new d.gh r i⟩
  have:=r.length
  rw[this,gH e];exact Nat.le_trans hl (by decide)
 |ex c=>rw[e]at a;exact a
 |bad=>rw[e]at a;exact a
theorem De(ha:MA X ad es fs)(hl:fs.length<=1000):ME X ad (.List es pos) (fJ fs):=by
 refine PE.imp (tJ ha) ?_;rintro n H Q ⟨G,b,E,j,l,g,f⟩;refine⟨G,b,E,j,l,g,?_⟩
 have a:RK X.K ad G H ((args fs b).then λh=>.ow h) Q E:=f
 cases e:args fs b with
 |ok o=>
  rw[e]at a;intro q m s d r;refine⟨?_,λp i=>(RK.step a d).ow_new d.gh r i⟩
  have:=r.length
  rw[this,gH e];exact Nat.le_trans hl (by decide)
 |ex c=>rw[e]at a;exact a
 |bad=>rw[e]at a;exact a
def Seq(X:Cx)(ad:Ad)(G H:Hp)(x:D)(v:V):Prop:=Rep X.K ad G x v\/∃a vs ds,x= .lst ds/\v= .ref a/\G a=none/\H a=some (.lst vs)/\aJ X.K ad G ds vs
theorem Seq.step(q:Seq X ad G H x v)(st:Step G H G1 H1):Seq X ad G1 H1 x v:=by
 rcases q with q|⟨a,vs,ds,e1,e2,h1,h2,h3⟩
 ·exact .inl (q.mono st.sg)
 ·refine .inr ⟨a,vs,ds,e1,e2,?_,st.sh _ _ h2,h3.mono st.sg⟩
  cases z:G1 a with
  |none=>rfl
  |some o=>
   have:=st.nw a h1 (by rw[z];exact λz=>nomatch z)
   rw[h2]at this;cases this
theorem Seq.items{x:D}{v:V}{ds:List D}(q:Seq X ad G H x v)(hG:Same G H)(e:items x=some ds): ∃a vs,v= .ref a/\(x= .tup ds/\SqT X.K H a vs\/x= .lst ds/\SqL X.K H a vs)/\aJ X.K ad G ds vs:=by
 rcases q with q|⟨a,vs,ds',e1,e2,d,c,b⟩
 ·cases x with
  |tup _=>cases e;unfold Rep at q;obtain⟨a,vs,d,c,b⟩:=q;exact⟨a,vs,d,.inl ⟨rfl,hG.seqT c⟩,b⟩
  |lst _=>cases e;unfold Rep at q;obtain⟨a,vs,d,c,b⟩:=q;exact⟨a,vs,d,.inr ⟨rfl,hG.seq c⟩,b⟩
  |_=>cases e
 ·subst e1;cases e;exact⟨a,vs,e2,.inr ⟨rfl,SqL.of c⟩,b⟩
theorem Df(n:Nat)(i:Int):ixD n i=L2.ixN n i:=rfl
theorem Es{Ex:cc}{s:Shared}{T id:String}{Q:cc}(hl:typeLookup (.type T) "__getitem__"=pure (some (.builtin id)))(hs:subscripted slice false o i=operate [o,i] (getItem o i))(hT:s.TypeIs o T)(h:wpAny (model prog w) A (getItem o i) Q Ex s):wpAny (model prog w) A (subscriptTail value slice o i) Q Ex s:=by
 unfold subscriptTail;refine aa ?_;rw[getitemInPython_of_ne hT.not_modules];refine aa (wpAny_specialOf hT hl ?_)
 have b:wpAny (model prog w) A (subscripted slice false o i) (λr a=>wpAny (model prog w) A (letTemporaryGo value o r >>= λ_=>pure r) Q Ex a) Ex s:=by
  rw[hs];exact wpAny_operating (wpAny_mono h (λr a c=>aa (wpAny_letTemporaryGo (ac c))) λ_ _ x=>x)
 first
  |exact ac (aa b)
  |exact aa (ac (aa b))
  |exact aa b
theorem Ip(I:Inv X cb σ H s)(hG:Same G H)(rx:Rep X.K ad G (.dct ks ds) v)(ru:bG v u)(rz:bG (.str k) z)(hs:subscripted b false u z=operate [u,z] (getItem u z))(hr:RK X.K ad G H (match bC (ks.zip ds) k with|some d=>.ok d|none=>.bad) Q E):wpAny (model X.prog X.w) X.A (subscriptTail a b u z) (EP X cb σ Q) X.xe s:=by
 unfold Rep at rx;obtain⟨p,o,q,rfl,g,j,i⟩:=rx
 cases (show u=Value.ref p from ru)
 rcases pZ (x:=k) j i with ⟨_,c,_⟩|⟨w,d,l,c,m,_,_⟩
 ·rw[c]at hr;exact hr.elim
 ·rw[c]at hr;obtain⟨y,t,B,f,dd⟩:=iX I.hok (.inr ⟨o,hG _ _ g⟩);have h:=f.val (.inr k);rw[l]at h;obtain⟨r,n,e⟩:=lW.some_of h;exact Es PySem.F.slot_dict_getitem.lookup hs dd.typeIs (wpAny_getItem_of (l9 (k:=.inr k) rz) dd.mapOf n ⟨w,H,I.tok _,e,hr.ok_now hG m⟩)
theorem Iq(ha:MLk X ad a f)(hb:ME X ad b g)(hs:w8 b):ME X ad (.Subscript a b pos) (rIx f g):=by
 refine λM s L H Q I h9=>h9.el λG ρ E hG hS hx hr=>?_
 refine Subscript_ (L2.thn (ha M s L H G ρ _ Q E I hG hS hx hr) λv s1 o=>?_)
 obtain⟨x,J,G1,H1,I1,T,st1,q1,k1⟩:=o;refine L2.thn (hb.thn I1 st1.gh (hS.step st1) hx k1) λu Z o=>?_
 obtain⟨y,W,Y,n,S,O,st2,t,r⟩:=o;have h:Seq X ad Y n J x:=Seq.step (X:=X) (ad:=ad) q1 st2;unfold dIx at r
 cases e:items J with
 |none=>
  rw[e]at r;have C:RK X.K ad Y n (ixS J W) Q E:=r
  cases J<;>try exact az C
  case dct ks U=>
   cases W<;>try exact az C
   rcases h with h|⟨_,_,_,w,_⟩
   ·unfold Rep at t;subst t;exact Ip S st2.gh h T O (hs _ _) C
   ·cases w
  cases W<;>try exact az C
  rename_i z i
  have m:RK X.K ad Y n (if z.length<=LIM then(match(ixD z.cps.toList.length i).bind λj=>z.cps.toList[j]? with|some c=>.ok (.str ⟨#[c]⟩)|none=>.bad)else .bad) Q E:=C
  unfold Rep at t;subst t
  by_cases hc:z.length<=LIM
  ·rw[if_pos hc]at m
   cases q:(ixD z.cps.toList.length i).bind λj=>z.cps.toList[j]? with
   |none=>rw[q]at m;exact m.elim
   |some c=>
    rw[q]at m;rcases h with h|⟨_,_,_,w,_⟩
    ·unfold Rep at h;subst h;exact gX a b M Z L n _ _ v u Q S T O ⟨z,i,c,rfl,rfl,Nat.le_trans hc (by decide),q,m.ok_now st2.gh xJ⟩ (hs _ _)
    ·cases w
  ·rw[if_neg hc]at m;exact m.elim
 |some N=>
  rw[e]at r
  cases W<;>try exact r.elim
  rename_i i;unfold Rep at t;subst t;obtain⟨p,U,rfl,B,rq⟩:=h.items st2.gh e
  have l:RK X.K ad Y n (match(ixD N.length i).bind λj=>N[j]? with|some d=>.ok d|none=>.bad) Q E:=r
  cases q:(ixD N.length i).bind λj=>N[j]? with
  |none=>rw[q]at l;exact l.elim
  |some d=>
   rw[q]at l;obtain⟨j,e4,e5⟩:=zBd q;obtain⟨w,e6,r6⟩:=rq.get e5
   have A:atI U i=some w:=by
    unfold atI;rw[rq.length, <-Df,e4];exact e6
   rcases B with ⟨_,B⟩|⟨_,B⟩
   ·exact HF a b M Z L n _ _ v u Q S T O ⟨p,U,i,w,rfl,rfl,B,A,l.ok_now st2.gh r6⟩ (hs _ _)
   ·exact D2 a b M Z L n _ _ v u Q S T O ⟨p,U,i,w,rfl,rfl,B,A,l.ok_now st2.gh r6⟩ (hs _ _)
theorem Bp: ∀{ds:List D} {vs:List V} (lo hi:Option Int),aJ X.K ad G ds vs->aJ X.K ad G (HJ ds lo hi) (GR vs lo hi):=by
 intro ds vs lo hi r;unfold HJ GR;rw[r.length];exact(r.drop _).take _
theorem Et(ha:MLk X ad a f)(hu:ME X ad e k):ME X ad (.Subscript a (.Slice none (some e) none p2) pos) (kP f k):=by
 refine λh s g H Q I N=>N.el λG Y E M B o n=>?_
 unfold kP at n;refine Subscript_ (L2.thn (ha h s g H G Y _ Q E I M B o n) λv s1 d=>?_)
 obtain⟨x,J,G1,H1,K,Z,st1,q1,k1⟩:=d;refine wpAny_Slice ?_;rw[evalPart_none];refine ac ?_;rw[evalPart_some];refine L2.thn (ME.thn hu K st1.gh (B.step st1) o k1) λvu c d=>?_
 obtain⟨y,d2,G2,r,W,U,st2,u,m⟩:=d;refine ac ?_
 cases J<;>try exact az m
 rename_i l
 cases d2<;>try exact az m
 rename_i j;unfold Rep at u;subst u;obtain⟨t,rfl⟩:=U;obtain⟨a',vs,rfl,i,rq⟩:=(Seq.step q1 st2).items st2.gh (rfl:items (.lst l)=some l);rcases i with ⟨z,_⟩|⟨_,i⟩
 ·cases z
 have I4:Inv X h g r {c with heap:=c.heap.push {cls:=.type "slice",data:=.fields #[.none,.int j t,.none]} }:=W.kept (t':=c.toks) λb ob q=>ae _ q
 obtain⟨T,id,O,S,C⟩:=D3 h {c with heap:=c.heap.push {cls:=.type "slice",data:=.fields #[.none,.int j t,.none]} } g r _ v .none (.int j t) none (some j) c.heap.objs.size Q I4 Z (Heap.IsSliceOf.new ..) .none (.int j t) ⟨a',vs,rfl,i,λp L=>RK.ow_new (xs:=HJ l none (some j)) m st2.gh (Bp none (some j) rq) L⟩
 show wpAny (model X.prog X.w) X.A (subscriptTail a (.Slice none (some e) none p2) v (.ref c.heap.objs.size)) (EP X h g Q) X.xe {c with heap:=c.heap.push {cls:=.type "slice",data:=.fields #[.none,.int j t,.none]} }
 exact tail_any (ops:=[.ref c.heap.objs.size,v]) S O C (by with_unfolding_all rfl)
end
section
variable{X:Cx}{ad:Ad}{cb:ce}{s:Shared}{σ:St}{H G:Hp}{ρ:Rho}{Q:VK}{E:Nat->Hp->Prop}{p:Pos}{a b c:Expr}{f g h:F}
theorem RK.impE{K:PySem.W.Frag}{r:R}{E E':Nat->Hp->Prop}(h:RK K ad G H r Q E)(k: ∀c H',E c H'->E' c H'):RK K ad G H r Q E':=by
 cases r with
 |ok d=>exact h
 |ow e=>exact h
 |ex c=>exact λb H' a=>k c H' (h b H' a)
 |bad=>exact h
def LK(X:Cx)(ad:Ad)(G H:Hp)(r:R)(Q:VK)(E:Nat->Hp->Prop):Prop:=match r with
 |.ok d=>∀v G' H',Step G H G' H'->Seq X ad G' H' d v->Q v H'
 |.ow xs=>∀p vs G' H',Step G H G' H'->H p=none->G' p=none->H' p=some (.lst vs)->aJ X.K ad G' xs vs->Q (.ref p) H'
 |.ex c=>∀G' H',Step G H G' H'->E c H'
 |.bad=>False
def tL(X:Cx)(ad:Ad)(f:F):TE:=λσ H Q=>∃G ρ E,Same G H/\SL X.K ad G H ρ σ/\XP X ad σ E/\LK X ad G H (f ρ) Q E
abbrev ML(X:Cx)(ad:Ad)(e:Expr)(f:F):Prop:=PE X e (tL X ad f)
theorem LK.rk(h:LK X ad G H r Q E):RK X.K ad G H r Q E:=by
 cases r with
 |ok d=>exact λv e b a q=>h v e b a (.inl q)
 |ow f=>exact h
 |ex c=>exact h
 |bad=>exact h
theorem ME.ml(ha:ME X ad a f):ML X ad a f:=PE.imp ha λh H Q ⟨G,g,E,e,d,c,b⟩=>⟨G,g,E,e,d,c,b.rk⟩
theorem xY(hN:X.N[i]? =some x)(hv:Vis X.env.scope x)(hd:(x==("__debug__":Str))=false)(hcd:(x==("__classdict__":Str))=false):ML X ad (.Name x pos) (aD i):=by
 rintro h s g H Q I ⟨G,q,E,j,l,u,a⟩;unfold aD at a
 cases e:q[i]? with
 |none=>
  rw[e]at a;exact a.elim
 |some o=>
  rw[e]at a
  cases o with
  |no=>exact a.elim
  |dc c=>exact a.elim
  |sd c=>exact a.elim
  |rk _ _=>exact a.elim
  |ow n=>
   obtain⟨p,t,b,f,m,r⟩:=l.ow e;exact cM hN hv hd hcd h s g H Q I ⟨.ref p,b,a (.ref p) G H (Step.refl j) (.inr ⟨p,t,n,rfl,rfl,f,m,r⟩)⟩
  |sh d=>
   obtain⟨w,b,f⟩:=l.sh e;exact cM hN hv hd hcd h s g H Q I ⟨w,b,a w G H (Step.refl j) (.inl f)⟩
theorem ML.lk(ha:ML X ad a f):MLk X ad a f:=by
 intro y s x H G o k Q E I z A t i
 cases e:f o with
 |ok d=>
  rw[e]at i;refine L2.thn (ha y s x H (λv g=>∃b,Step G H b g/\Seq X ad b g d v) I ⟨G,o,E,z,A,t,by rw[e];exact λv b g h q=>⟨b,h,q⟩⟩) λu C j=>?_
  obtain⟨v,g,l,r,b,h,q⟩:=j;exact⟨v,d,b,g,l,r,h,q,RK.step i h⟩
 |ow B=>
  rw[e]at i;refine L2.thn (ha y s x H (λv g=>∃b,Step G H b g/\Rep X.K ad b (.lst B) v) I ⟨G,o,E,z,A,t,by rw[e];exact λp L b g h n m J q=>dA h n m J q⟩) λu C j=>?_
  obtain⟨v,g,l,r,b,h,q⟩:=j;exact⟨v,.lst B,b,g,l,r,h,.inl q,RK.step i h⟩
 |ex c=>
  rw[e]at i;refine L2.thn (ha y s x H (λv g=>False) I ⟨G,o,E,z,A,t,by rw[e];exact i⟩) λu C ⟨v,g,l,r,q⟩=>q.elim
 |bad=>
  rw[e]at i;exact az i
theorem xZ{σ:St}{H:Hp}{Q Q':VK}(hG:Same G H)(hS:SL X.K ad G H ρ σ)(hx:XP X ad σ E)(hr:RK X.K ad G H ((f ρ).bind k) Q E)(q: ∀v d G1 H1,Step G H G1 H1->Seq X ad G1 H1 d v->RK X.K ad G1 H1 (k d) Q E->Q' v H1):tL X ad f σ H Q':=by
 refine⟨G,ρ,E,hG,hS,hx,?_⟩
 cases e:f ρ with
 |ok d=>
  rw[e]at hr;exact λv G1 H1 a r=>q v d G1 H1 a r (RK.step hr a)
 |ow j=>
  rw[e]at hr;intro p i G1 H1 a n m h r;obtain⟨b,st2,g⟩:=dA (X:=X) (ad:=ad) a n m h r;exact q _ _ b H1 st2 (.inl g) (RK.step hr st2)
 |ex c=>
  rw[e]at hr;exact hr
 |bad=>
  rw[e]at hr;exact hr
theorem uB:l4 [f] ρ k=(f ρ).bind λx=>k [x]:=by
 unfold l4 args
 cases f ρ<;>rfl
def BOp(X:Cx)(ad:Ad)(fv:Value)(r:Fn):Prop:=
 ∀(cb:ce) (s:Shared) (σ:St) (H G:Hp) (x:D) (v:V) (u:Value) (Q:VK) (E:Nat->Hp->Prop),Inv X cb σ H s->Same G H->Seq X ad G H x v->bG v u->RK X.K ad G H (r [x]) Q E->
  wpAny (model X.prog X.w) X.A (call fv [u]) (EP X cb σ Q) X.xe s
theorem nT{id:String}(ho:BOp X ad (.builtin id) r)(hg:L2.Gl X x)(hm:X.mg x=none)(hv:bootBuiltins x=some (.builtin id))(ha:ML X ad a f)(hn:x≠"__name__")(hdb:(x==("__debug__":Str))=false)(he:starEach [a] X.env=(false,eval a X.env)::starEach [] X.env):ME X ad (.Call (.Name x p) [a] [] pos) (aF r [f]):=by
 rintro i s h H Q I ⟨G,B,E,n,A,l,g⟩;refine wpAny_Call_Name_kw (fX I hg hm hv ?_ hn hdb);unfold aF at g;rw[uB]at g;refine PyProof.Rows.callWith_builtin1 (L2.thn (cN ha eL he pos i s h H (λj c=>∃v d b,j=[v]/\Step G H b c/\Seq X ad b c d v/\RK X.K ad b c (r [d]) Q E) I ?_) λC o ⟨j,c,m,t,v,d,b,y,e,q,k⟩=>?_) he rfl
 ·exact xZ n A l g λv d b c e q k=>⟨v,d,b,rfl,e,q,k⟩
 ·subst y;obtain⟨u,rfl,z⟩:=lZ t;exact ho i o h c b d v u Q E m e.gh q z k
theorem x3(ho:BOp X ad (.type T) r)(hg:L2.Gl X x)(hm:X.mg x=none)(hv:bootBuiltins x=some (.type T))(ha:ML X ad a f)(hn:x≠"__name__")(hdb:(x==("__debug__":Str))=false)(he:starEach [a] X.env=(false,eval a X.env)::starEach [] X.env):ME X ad (.Call (.Name x p) [a] [] pos) (aF r [f]):=by
 rintro i s h H Q I ⟨G,B,E,n,A,l,g⟩;refine wpAny_Call_Name_kw (fX I hg hm hv ?_ hn hdb);unfold aF at g;rw[uB]at g;refine PyProof.Rows.callWith_type1 (L2.thn (cN ha eL he pos i s h H (λj c=>∃v d b,j=[v]/\Step G H b c/\Seq X ad b c d v/\RK X.K ad b c (r [d]) Q E) I ?_) λC o ⟨j,c,m,t,v,d,b,y,e,q,k⟩=>?_) he rfl
 ·exact xZ n A l g λv d b c e q k=>⟨v,d,b,rfl,e,q,k⟩
 ·subst y;obtain⟨u,rfl,z⟩:=lZ t;exact ho i o h c b d v u Q E m e.gh q z k
theorem x4:BOp X ad (.builtin "len") jR:=by
 intro i s h H G x v u Q E I c q j l
 have a:RK X.K ad G H (match items x with|some xs=>.ok (.int xs.length)|none=>Me x) Q E:=l
 cases e:items x with
 |none=>
  rw[e]at a
  cases x with
  |str z=>
   have b:RK X.K ad G H (if z.length<=100000 then .ok (.int z.length)else .bad) Q E:=a
   by_cases g:z.length<=100000
   ·rw[if_pos g]at b;rcases q with q|⟨_,_,_,y,_⟩
    ·unfold Rep at q;subst q;exact pK i s h H _ [u] Q I (.cons j .nil) ⟨_,rfl,Nat.le_trans g (by decide),b.ok_now c bQ⟩
    ·cases y
   ·rw[if_neg g]at b;exact b.elim
  |_=>exact az a
 |some o=>
  rw[e]at a;obtain⟨p,d,rfl,m,n⟩:=q.items c e;have f:SqL X.K H p d\/SqT X.K H p d:=m.elim (λz=>.inr z.2) λz=>.inl z.2
  refine pJ i s h H [.ref p] [u] Q I (.cons j .nil) ⟨p,d,rfl,f,?_⟩;rw[n.length];exact a.ok_now c bQ
theorem Eu:BOp X ad (.type "int") AW:=by
 intro i s h H G x v u Q E I e q g b
 cases x<;>try exact az b
 ·rcases q with q|⟨_,_,_,z,_⟩
  ·unfold Rep at q;subst q;exact pC i s h H _ [u] Q I (.cons g .nil) (.inr ⟨_,rfl,b.ok_now e bQ⟩)
  ·cases z
 ·rcases q with q|⟨_,_,_,z,_⟩
  ·unfold Rep at q;subst q;exact pC i s h H _ [u] Q I (.cons g .nil) (.inl ⟨_,rfl,b.ok_now e bQ⟩)
  ·cases z
 ·rename_i x;rcases q with q|⟨_,_,_,z,_⟩
  ·unfold Rep at q;subst q;obtain⟨t,rfl⟩:=(show ∃t,u=Value.str x t from g)
   have a:RK X.K ad G H (match x.cps.toList with|[c]=>if 48<=c/\c<58 then .ok (.int ((c-48:Nat):Int))else .bad|_=>.bad) Q E:=b
   split at a
   ·rename_i c l
    by_cases j:48<=c/\c<58
    ·rw[if_pos j]at a;obtain⟨d,n,rfl⟩: ∃d,d<10/\c=48+d:=⟨c-48,by lia,by lia⟩
     have f:x=⟨#[48+d]⟩:=PySem.Str.ext' (by rw[<-Array.toList_inj];exact l)
     subst f
     have m:PySem.intText? ⟨#[48+d]⟩=some (((48+d-48:Nat):Nat):Int):=(by decide+kernel: ∀d:Fin 10,PySem.intText? ⟨#[48+d.val]⟩=some (((48+d.val-48:Nat):Nat):Int)) ⟨d,n⟩
     exact PySem.W.KIN.call_text m (by show 1<=640;decide) ⟨.int _,H,I.tok _,⟨_,rfl⟩,a.ok_now e bQ⟩
    ·rw[if_neg j]at a;exact a.elim
   ·exact a.elim
  ·cases z
theorem Bq:BOp X ad (.type "list") vV:=by
 intro i s h H G x v u Q E I d q j f
 have a:RK X.K ad G H (match items x with|some xs=>.ow xs|none=>.bad) Q E:=f
 cases e:items x with
 |none=>rw[e]at a;exact a.elim
 |some o=>
  rw[e]at a;obtain⟨p,b,rfl,g,m⟩:=q.items d e;have c:SqL X.K H p b\/SqT X.K H p b:=g.elim (λz=>.inr z.2) λz=>.inl z.2
  exact pL i s h H [.ref p] [u] Q I (.cons j .nil) ⟨p,b,rfl,c,λl n=>a.ow_new d m n⟩
theorem x5:BOp X ad (.type "tuple") gY:=by
 intro g s f H G x v u Q E I d q h j
 have a:RK X.K ad G H (match items x with|some xs=>.ok (.tup xs)|none=>.bad) Q E:=j
 cases e:items x with
 |none=>rw[e]at a;exact a.elim
 |some o=>
  rw[e]at a;obtain⟨p,i,rfl,b,m⟩:=q.items d e;rcases b with ⟨c,b⟩|⟨c,b⟩
  ·refine iB g s f H [.ref p] [u] Q I (.cons h .nil) ⟨p,i,rfl,.inr ⟨b,a.ok_now d ?_⟩⟩;rcases q with q|⟨_,_,_,z,_⟩
   ·rw[c]at q;exact q
   ·rw[c]at z;cases z
  ·exact iB g s f H [.ref p] [u] Q I (.cons h .nil) ⟨p,i,rfl,.inl ⟨b,λl n=>a.tup_new d m n⟩⟩
theorem p5: ∀{ds:List D} {ns:List Int} {vs:List V},iV ds=some ns->aJ X.K ad G ds vs->vs=ns.map V.int
 |[],ns,vs,e,r=>by
  cases e;unfold aJ at r;exact r
 |d::ds,ns,vs,e,r=>by
  cases d<;>try (unfold iV at e;cases e)
  rename_i i;unfold iV at e;obtain⟨h,b,c⟩:=zMd e;subst c;unfold aJ at r;obtain⟨v,g,rfl,a,f⟩:=r;unfold Rep at a;subst a;rw[p5 b f];rfl
theorem mP: ∀{ds:List D} {ns:List Bool} {vs:List V},e9 ds=some ns->aJ X.K ad G ds vs->vs=ns.map V.bl
 |[],ns,vs,e,r=>by
  cases e;unfold aJ at r;exact r
 |d::ds,ns,vs,e,r=>by
  cases d<;>try (unfold e9 at e;cases e)
  rename_i i;unfold e9 at e;obtain⟨h,b,c⟩:=zMd e;subst c;unfold aJ at r;obtain⟨v,g,rfl,a,f⟩:=r;unfold Rep at a;subst a;rw[mP b f];rfl
theorem uC{A:Around}(hh:A.handled=none)(I:Inv X cb σ H s){p:Addr}{vs:List V}(hq:SqL X.K H p vs\/SqT X.K H p vs){Ex:cc}{Q':cc}(k: ∀(its:List Value) (s2:Shared) (I':Addr) (fp wr:List Addr) (Stt:Nat->Heap->Prop),bS vs its->Walks X.prog X.w A I' fp wr its.length (λi v=>its[i]? =some v) Stt->Stt 0 s2.heap->(∀b∈fp,b<s2.heap.objs.size)->s2.os=s.os->s2.gens=s.gens->s2.drawn=s.drawn->
   (∀b o,s.heap.get? b=some o->b∉wr)->(∀b o,s.heap.get? b=some o->s2.heap.get? b=some o)->Q' (.ref I') s2):wpAny (model X.prog X.w) A (pyIter (.ref p)) Q' Ex s:=by
 rcases hq with hq|hq
 ·obtain⟨its,j,g,_⟩:=I.list hq;have f:p<s.heap.objs.size:=by obtain⟨o,n,e,_⟩:=g;exact ag e
  refine wpAny_pyIter_list g.isList (k its _ s.heap.objs.size [s.heap.objs.size,p] [s.heap.objs.size] (λi h=>h.IsListIter s.heap.objs.size p i/\h.IsList p its.toArray) j ?_ (And.intro ⟨_,af _ rfl,rfl,rfl⟩ ?_) ?_ rfl rfl rfl ?_ ?_)
  ·have W:=Walks.list (prog:=X.prog) (w:=X.w) hh s.heap.objs.size p (bg f) its.toArray;simpa using W
  ·obtain⟨o,n,e,c,d⟩:=g;exact⟨o,ae _ e,c,n,d.2⟩
  ·intro b a;rcases au.mp a with rfl|a
   ·rw[ah];exact Nat.lt_succ_self _
   ·have:b=p:=by simpa using a
    subst this;rw[ah];exact Nat.lt_succ_of_lt f
  ·intro b o e a
   have:b=s.heap.objs.size:=by simpa using a
   subst this;exact absurd (ag e) (Nat.lt_irrefl _)
  ·exact λb o e=>ae _ e
 ·obtain⟨its,j,g,_⟩:=I.tuple hq;have f:p<s.heap.objs.size:=g.lt;refine wpAny_pyIter_tuple (show s.heap.IsTuple p its.toArray from g) (k its _ s.heap.objs.size [s.heap.objs.size,p] [s.heap.objs.size] (λi h=>h.IsTupleIter s.heap.objs.size p i/\h.IsTuple p its.toArray) j ?_ (And.intro ⟨_,af _ rfl,rfl,rfl⟩ ?_) ?_ rfl rfl rfl ?_ ?_)
  ·have W:=Walks.tuple (prog:=X.prog) (w:=X.w) hh s.heap.objs.size p (bg f) its.toArray;simpa using W
  ·obtain⟨o,e,c⟩:=g;exact⟨o,ae _ e,c⟩
  ·intro b a;rcases au.mp a with rfl|a
   ·rw[ah];exact Nat.lt_succ_self _
   ·have:b=p:=by simpa using a
    subst this;rw[ah];exact Nat.lt_succ_of_lt f
  ·intro b o e a
   have:b=s.heap.objs.size:=by simpa using a
   subst this;exact absurd (ag e) (Nat.lt_irrefl _)
  ·exact λb o e=>ae _ e
end
section
variable{X:Cx}{ad:Ad}{cb:ce}{s:Shared}{σ:St}{H G:Hp}{Q:VK}{E:Nat->Hp->Prop}{pos p:Pos}{a b c:Expr}{f g:F}
theorem _root_.L2.Inv.moved{wr:List Addr}{s2 s':Shared}(I:Inv X cb σ H s)(k1: ∀b o,s.heap.get? b=some o->s2.heap.get? b=some o)(k2: ∀b o,s.heap.get? b=some o->b∉wr)(e1:s2.os=s.os)(e2:s2.gens=s.gens)(e3:s2.drawn=s.drawn)
  (m:Moved wr (λa b=>b=a) s2 s'):Inv X cb σ H s':=by
 have e:s'={s with heap:=s'.heap,toks:=s'.toks}:=by
  obtain⟨l,p,j,n,h⟩:=s';obtain⟨i,d,c,f,g⟩:=m
  simp only at d c f ⊢
  rw[d,c,f,e1,e2,e3]
 rw[e];exact I.kept λb o q=>m.heap b o (k2 b o q) (k1 b o q)
theorem Ir{ns:List Int}{its:List Value}(r:bS (ns.map V.int) its){i:Nat}{v:Value}(e:its[i]? =some v): ∃t,v= .int (ns.getD i 0) t:=by
 have f:=r.length;have g:i<its.length:=(ax.mp e).1;have a:i<ns.length:=by rw[ao]at f;lia
 have c:(ns.map V.int)[i]? =some (V.int ns[i]):=by simp[a]
 obtain⟨u,b,t,d⟩:=r.get c;rw[e]at b;cases b;refine⟨t,?_⟩;rw[d];simp[List.getD,a]
theorem Ev(hh:X.A.handled=none):BOp X ad (.builtin "sum") AX:=by
 intro cb s σ H G x v u Q E I h q S t
 have b:RK X.K ad G H (match(items x).bind iV with|some xs=>.ok (.int xs.sum)|none=>.bad) Q E:=t
 cases e:items x with
 |none=>rw[e]at b;exact b.elim
 |some j=>
  rw[e]at b
  have a:RK X.K ad G H (match iV j with|some xs=>.ok (.int xs.sum)|none=>.bad) Q E:=b
  cases g:iV j with
  |none=>rw[g]at a;exact a.elim
  |some l=>
   rw[g]at a;obtain⟨p,n,rfl,y,U⟩:=q.items h e;have d:SqL X.K H p n\/SqT X.K H p n:=y.elim (λz=>.inr z.2) λz=>.inl z.2
   cases (show u=Value.ref p from S)
   have ev:=p5 g U;subst ev;refine call_sum_walkAnyS (uC (A:=X.A.in1) hh I d λc s2 B N C L o W r f J Z M T O=>?_)
   refine⟨B,N,C,_,c.length,_,_,λi=>l.getD i 0,rfl,W.toS,r,f,λi v e=>Ir o e,λs' Y m=>?_⟩
   refine⟨.int l.sum,H,I.moved O T J Z M m,⟨Y,?_⟩,a.ok_now h bQ⟩;rw[preSum_getD, <-o.length,ao,List.take_length]
theorem Lg{ns:List Bool}{its:List Value}(r:bS (ns.map V.bl) its){i:Nat}{v:Value}(e:its[i]? =some v):v= .bool (ns.getD i false):=by
 have g:=r.length;have h:i<its.length:=(ax.mp e).1;have a:i<ns.length:=by rw[ao]at g;lia
 have c:(ns.map V.bl)[i]? =some (V.bl ns[i]):=by simp[a]
 obtain⟨u,b,f⟩:=r.get c;rw[e]at b;cases b
 have d:v= .bool ns[i]:=f
 rw[d];simp[List.getD,a]
theorem x6(ns:List Bool):(List.range ns.length).all (λi=>ns.getD i false)=ns.all id:=by
 induction ns with
 |nil=>rfl
 |cons x a b=>
  rw[bo,List.range_succ_eq_map,List.all_cons,List.all_map,List.all_cons]
  have:(List.range a.length).all ((λi=>(x::a).getD i false) ∘ Nat.succ)=a.all id:=by
   rw[<-b];rfl
  rw[this];rfl
theorem Ew(hh:X.A.handled=none):BOp X ad (.builtin "all") GS:=by
 intro cb s σ H G x v u Q E I g q U o
 have b:RK X.K ad G H (match(items x).bind e9 with|some xs=>.ok (.bl (xs.all id))|none=>.bad) Q E:=o
 cases e:items x with
 |none=>rw[e]at b;exact b.elim
 |some h=>
  rw[e]at b
  have a:RK X.K ad G H (match e9 h with|some xs=>.ok (.bl (xs.all id))|none=>.bad) Q E:=b
  cases f:e9 h with
  |none=>rw[f]at a;exact a.elim
  |some M=>
   rw[f]at a;obtain⟨p,j,rfl,r,Z⟩:=q.items g e;have d:SqL X.K H p j\/SqT X.K H p j:=r.elim (λz=>.inr z.2) λz=>.inl z.2
   cases (show u=Value.ref p from U)
   have ev:=mP f Z;subst ev;refine call_all_walkS (uC (A:=X.A.in1) hh I d λc s2 t O y J l W n L B h2 N Y T=>?_)
   refine⟨t,O,y,_,c.length,_,_,λi=>M.getD i false,rfl,W.toS,n,?_,λC m=>?_⟩
   ·intro i v C Q' E' e3 S;rw[Lg l e3];exact wpAny_truthy_bool S
   ·refine⟨.bl _,H,I.moved T Y B h2 N m,?_,a.ok_now g cQ⟩;rw[<-l.length,ao,x6];rfl
theorem Nd{α:Type}{ds:List α}(h:ds.length=2): ∃d e,ds=[d,e]:=by
 cases ds with
 |nil=>cases h
 |cons d r=>
  cases r with
  |nil=>cases h
  |cons e r=>
   cases r with
   |nil=>exact⟨d,e,rfl⟩
   |cons _ _=>simp at h
theorem mQ{x:Str}{id:String}{r:Fn}{op:Int->Int->Int}(hd: ∀i j,r [.int i,.int j]= .ok (.int (op i j)))(hb0: ∀x y Q E G H,RK X.K ad G H (r [x,y]) Q E->∃i j,x= .int i/\y= .int j)
  (ho:lY X (.builtin id) (λxs H Q=>∃i j,xs=[.int i,.int j]/\Q (.int (op i j)) H)) (hg:L2.Gl X x) (hm:X.mg x=none) (hv:bootBuiltins x=some (.builtin id)) (ha:ME X ad a f) (hb:ME X ad b g) (hn:x≠"__name__")
  (hdb:(x==("__debug__":Str))=false) (he:starEach [a,b] X.env=(false,eval a X.env)::starEach [b] X.env) (he2:starEach [b] X.env=(false,eval b X.env)::starEach [] X.env):ME X ad (.Call (.Name x p) [a,b] [] pos) (aF r [f,g]):=by
 refine PE.imp (tN (id:=id) ho hg hm hv (nR ha (nR hb xX he2) he) hn hdb he (by rw[he2];rfl)) ?_
 rintro J H Q ⟨G,M,E,u,B,s,q⟩;refine sA u B s q λO N t A o m C k=>?_
 obtain⟨d,e,rfl⟩:=Nd C;obtain⟨i,j,rfl,rfl⟩:=hb0 d e Q E t A k;unfold aJ at m;obtain⟨v,I,rfl,h,n⟩:=m;unfold aJ at n;obtain⟨L,z,rfl,c,l⟩:=n;unfold aJ at l;subst l;unfold Rep at h c;subst h;subst c;rw[hd]at k;exact⟨i,j,rfl,k.ok_now o.gh bQ⟩
def vX(K:PySem.W.Frag)(ad:Ad)(n:Nat)(F:Fn):Sp:=λvs H Q E=>∃G ds,Same G H/\aJ K ad G ds vs/\ds.length=n/\RK K ad G H (F ds) Q (λc H'=>E (.ref (ad.cls c)) none H')
theorem sB{f:Addr}{E:XK}(F:FnOk X.prog X.w X.K X.mg X.base CX k f fd ps sp)(hr:Room k X.A)(hb:d6 X.K fd ps [])(I:Inv X cb σ H s)(r:bS vs us)(h:sp vs H Q E)(hx: ∀e s',CX X.stack H s E e s'->X.xe e s'):wpAny (model X.prog X.w) X.A (call (.ref f) us) (EP X cb σ Q) X.xe s:=by
 have b:(us++[]).length=ps.length:=by rw[List.append_nil, <-r.length];exact F.len _ _ _ _ h
 refine wpAny_call (codeAny_mono (F.run X.A X.stack s H ⟨us,[]⟩ us vs Q E hr I.env0 (by have:=hb s us I.kIn b;rwa [List.append_nil]at this) r h) λr s' a=>?_)
 cases r with
 |error e=>exact hx e s' a
 |ok c=>
  cases c with
  |ret u=>exact I.after a
  |next=>exact az a
  |brk=>exact az a
  |cont=>exact az a
structure FnGood(X:Cx)(ad:Ad)(k:Nat)(x:Str)(n:Nat)(F:Fn)(f:Addr):Prop where
 mg:X.mg x=some (.ref f)
 kp:PySem.W.keepIn X.K (.ref f)=true
 ok: ∃fd ps,FnOk X.prog X.w X.K X.mg X.base (CXe X.prog X.w) k f fd ps (vX X.K ad n F)/\d6 X.K fd ps []
theorem x8{F:Fn}{f:Addr}(T:FnGood X ad k x n F f)(hr:Room k X.A)(I:Inv X cb σ H s)(hG:Same G H)(hx:XP X ad σ E)(r:bS vs us)(rq:aJ X.K ad G ds vs)(hl:ds.length=n)(h:RK X.K ad G H (F ds) Q E):wpAny (model X.prog X.w) X.A (call (.ref f) us) (EP X cb σ Q) X.xe s:=by
 obtain⟨i,j,g,d⟩:=T.ok;exact sB (E:=xk ad E) g hr d I r ⟨G,ds,hG,rq,hl,h.impE λc l e=>⟨c,rfl,e⟩⟩ λe b a=>hx cb H s e b I a
theorem Ey{F:Fn}{f:Addr}(T:FnGood X ad k x n F f)(hr:Room k X.A)(hg:L2.Gl X x)(hdb:(x==("__debug__":Str))=false)(ha:MA X ad (a::es) fs)(hn:fs.length=n)(he:starEach (a::es) X.env=(false,eval a X.env)::starEach es X.env)(hpl:(backTo pos (starEach es X.env)).any (·.1)=false):ME X ad (.Call (.Name x p) (a::es) [] pos) (aF F fs):=by
 refine λq s o H Q I u=>u.el λG z E t v l j=>?_
 refine wpAny_Call_Name_kw (fI I hg T.mg ?_ hdb)
 refine PySem.W.callWith_K (h₀:=X.base) I.ok.mod.kin T.kp (L2.thn (ha pos q s o H (λg d=>∃c b,Step G H b d/\aJ X.K ad b c g/\c.length=fs.length/\RK X.K ad b d (F c) Q E) I
  (sA t v l j λg c b d e h i k=>⟨c,b,e,h,i,k⟩)) λB y ⟨g,d,m,r,c,b,e,h,i,k⟩=>⟨m.kIn,?_⟩) he hpl
 exact x8 T hr m e.gh l r h (i.trans hn) k
structure FnAt(X:Cx)(ad:Ad)(k:Nat)(n:Nat)(F:Fn)(f:Addr):Prop where
 kp:PySem.W.keepIn X.K (.ref f)=true
 ok: ∃fd ps,FnOk X.prog X.w X.K X.mg X.base (CXe X.prog X.w) k f fd ps (vX X.K ad n F)/\d6 X.K fd ps []
end
noncomputable def kX(cells:List (Str×Addr)):List (Str×NameKind)->List (Str×Addr)->List (Str×Addr)
 |[],acc=>acc
 |(x,k)::r,acc=>kX cells r (if k== .free then(x,(cells.lookup x).getD 0)::acc else acc)
theorem j0{cells:List (Str×Addr)}: ∀{ns:List (Str×NameKind)} {acc:List (Str×Addr)} {x:Str} {c:Addr},(kX cells ns acc).lookup x=some c->(∃k,(x,k)∈ns/\k= .free/\c=(cells.lookup x).getD 0)\/acc.lookup x=some c
 |[],acc,x,c,h=>.inr h
 |(y,k)::r,acc,x,c,h=>by
  rcases j0 (ns:=r) h with ⟨b,d,g,f⟩|h
  ·exact .inl ⟨b,.tail _ d,g,f⟩
  ·by_cases hk:(k==NameKind.free)=true
   ·rw[if_pos hk,List.lookup_cons]at h
    cases a:x==y with
    |true=>
     rw[a]at h
     have e:x=y:=eq_of_beq a
     subst e;exact .inl ⟨k,.head _,eq_of_beq hk,(Option.some.inj h).symm⟩
    |false=>
     rw[a]at h;exact .inr h
   ·rw[if_neg hk]at h;exact .inr h
theorem uD{cells:List (Str×Addr)}: ∀{ns:List (Str×NameKind)} {acc:List (Str×Addr)} {x:Str},(acc.lookup x).isSome=true->((kX cells ns acc).lookup x).isSome=true
 |[],_,_,h=>h
 |(y,k)::r,acc,x,h=>by
  refine uD (ns:=r) ?_
  by_cases hk:(k==NameKind.free)=true
  ·rw[if_pos hk,List.lookup_cons]
   cases x==y with
   |true=>rfl
   |false=>exact h
  ·rw[if_neg hk];exact h
theorem j4{cells:List (Str×Addr)}: ∀{ns:List (Str×NameKind)} {acc:List (Str×Addr)} {x:Str},(x,NameKind.free)∈ns->((kX cells ns acc).lookup x).isSome=true
 |[],_,_,h=>nomatch h
 |(y,k)::r,acc,x,h=>by
  rcases au.mp h with e|h
  ·cases e;refine uD (ns:=r) ?_;rw[if_pos (by rfl),List.lookup_cons,beq_self_eq_true]
   rfl
  ·exact j4 (ns:=r) h
theorem iZ(h: ∀x,(x,NameKind.free)∈sc.names->(env.cells.lookup x).isSome=true):closureFor sc env=pure (kX env.cells sc.names []):=by
 have n: ∀(d:List (Str×NameKind)) (a:List (Str×Addr)),(∀x,(x,NameKind.free)∈d->(env.cells.lookup x).isSome=true)->
   (forIn d a (λ(p:Str×NameKind) (b:List (Str×Addr))=>if p.2== .free then do let c<-cellOf env p.1;pure (ForInStep.yield ((p.1,c)::b))else pure (ForInStep.yield b)):Sem (List (Str×Addr)))=pure (kX env.cells d a):=by
  intro d
  induction d with
  |nil=>intro a _;rfl
  |cons p r j=>
   intro a g;obtain⟨x,k⟩:=p;rw[List.forIn_cons]
   by_cases hk:(k==NameKind.free)=true
   ·have o:k= .free:=eq_of_beq hk
    subst o;obtain⟨c,l⟩:=Option.isSome_iff_exists.mp (g x (.head _))
    have m:cellOf env x=pure c:=by unfold cellOf;rw[l]
    have i:=j ((x,c)::a) λy f=>g y (.tail _ f)
    simp only[beq_self_eq_true,if_true,m]
    show(forIn r ((x,c)::a) _:Sem (List (Str×Addr)))=_
    rw[i];show pure _=pure (kX env.cells r (if(NameKind.free==NameKind.free)=true then(x,(env.cells.lookup x).getD 0)::a else a))
    rw[if_pos (by rfl),l]
    rfl
   ·simp only[hk]
    show(forIn r a _:Sem (List (Str×Addr)))=_
    rw[j a λy f=>g y (.tail _ f)]
    show pure _=pure (kX env.cells r (if(k==NameKind.free)=true then _ else a))
    rw[if_neg hk]
 have e:=n sc.names [] h
 have i:closureFor sc env=((forIn sc.names ([]:List (Str×Addr)) (λ(p:Str×NameKind) (b:List (Str×Addr))=>if p.2== .free then do let c<-cellOf env p.1;pure (ForInStep.yield ((p.1,c)::b))else pure (ForInStep.yield b)):Sem (List (Str×Addr))) >>= λb=>pure b):=rfl
 rw[i,e];rfl
theorem b9{env:PySem.Env}{x:Str}: ∀{names:List (Str×NameKind)},(names.map λ(n,k)=>if(k==NameKind.free&&env.scope.kind== .function&&env.kindOf n==some .cell)then(n,NameKind.cell)else(n,k)).lookup x=
  (names.lookup x).map λk=>if(k==NameKind.free&&env.scope.kind== .function&&env.kindOf x==some .cell)then NameKind.cell else k
 |[]=>rfl
 |(n,k)::r=>by
  rw[List.map_cons];have c:= @b9 env x r;show List.lookup x ((if(k==NameKind.free&&env.scope.kind== .function&&env.kindOf n==some .cell)=true then(n,NameKind.cell)else(n,k))::_)=_
  by_cases a:(k==NameKind.free&&env.scope.kind== .function&&env.kindOf n==some .cell)=true
  ·rw[if_pos a,List.lookup_cons,List.lookup_cons]
   cases b:x==n with
   |true=>
    have e:x=n:=eq_of_beq b
    subst e;simp only[Option.map,a,if_true]
   |false=>exact c
  ·rw[if_neg a,List.lookup_cons,List.lookup_cons]
   cases b:x==n with
   |true=>
    have e:x=n:=eq_of_beq b
    subst e;simp only[Option.map];rw[if_neg a]
   |false=>exact c
def Kw:Nat->Nat->TGs
 |_,0=>KP
 |j,n+1=>DV (jQ j) (Kw (j+1) n)
def gZ:Nat->List V->St->St
 |_,[],σ=>σ
 |j,v::r,σ=>gZ (j+1) r (σ.set j (some v))
theorem x9: ∀{vs:List V} {j:Nat} {σ:St} {H:Hp} {Q:St->Hp->Prop},Q (gZ j vs σ) H->Kw j vs.length vs σ H Q
 |[],_,_,_,_,h=>⟨rfl,h⟩
 |v::r,j,σ,H,Q,h=>⟨v,r,rfl,x9 (vs:=r) (j:=j+1) (σ:=σ.set j (some v)) h⟩
theorem fN: ∀{vs:List V} {j:Nat} {σ:St},(gZ j vs σ).length=σ.length
 |[],_,_=>rfl
 |v::r,j,σ=>by
  show(gZ (j+1) r (σ.set j (some v))).length=_
  rw[fN (vs:=r),List.length_set]
theorem kY: ∀{vs:List V} {j i:Nat} {σ:St},j+vs.length<=i\/i<j->(gZ j vs σ)[i]? =σ[i]?
 |[],_,_,_,_=>rfl
 |v::r,j,i,σ,h=>by
  show(gZ (j+1) r (σ.set j (some v)))[i]? =_
  simp only[bo]at h;rw[kY (vs:=r) (by lia),ba (by lia)]
theorem p6: ∀{vs:List V} {j i:Nat} {σ:St} {v:V},vs[i]? =some v->j+vs.length<=σ.length->(gZ j vs σ)[j+i]? =some (some v)
 |[],_,_,_,_,h,_=>by simp at h
 |w::r,j,0,σ,v,h,hl=>by
  simp at h
  subst h
  show(gZ (j+1) r (σ.set j (some w)))[j]? =_
  rw[kY (vs:=r) (.inr (by lia)),bh (by simp only[bo]at hl;lia)]
 |w::r,j,i+1,σ,v,h,hl=>by
  show(gZ (j+1) r (σ.set j (some w)))[j+(i+1)]? =_
  have e:j+(i+1)=(j+1)+i:=by lia
  rw[e];exact p6 (vs:=r) (by simpa using h) (by simp only[bo,List.length_set]at hl ⊢;lia)
section
variable{X:Cx}
theorem p7(hN:X.N.Nodup): ∀{es:List Expr} {xs:List Str} {j:Nat},dY (λ(e:Expr)=>match e with|.Name x _=>some x|_=>none) es=some xs->(∀(i:Nat) (x:Str),xs[i]? =some x->X.N[j+i]? =some x/\X.env.scope.names.lookup x=some .local)->PGs X es (Kw j xs.length)
 |[],xs,j,e,_=>by
  cases e;exact wU
 |a::es,xs,j,e,h=>by
  unfold dY at e
  cases a<;>try (cases e)
  rename_i x n
  simp only at e
  obtain⟨r,c,m⟩:=zMd e;subst m;obtain⟨d,b⟩:=h 0 x rfl;refine tG (kH hN (by simpa using d) (.inl b) (.inr b)) (p7 hN c λi y l=>?_) rfl
  obtain⟨f,g⟩:=h (i+1) y (by simpa using l)
  exact⟨by rw[<-f];congr 1;lia,g⟩
def gTg(K:PySem.W.Frag)(k:Nat):TG:=match k with
 |0=>jQ 0
 |n+1=>Ht K (n+1) (Kw 0 (n+1))
theorem Lh{tg:Expr}(hc:X.calm=true)(hN:X.N.Nodup)(e:cO tg=some (xs,k))(h: ∀(i:Nat) (x:Str),xs[i]? =some x->X.N[i]? =some x/\X.env.scope.names.lookup x=some .local):PG X tg (gTg X.K k):=by
 cases tg<;>try (cases e)
 ·rename_i x v;obtain⟨g,f⟩:=h 0 x rfl;exact kH hN g (.inl f) (.inr f)
 ·rename_i m j v;unfold cO at e;obtain⟨C,c,d⟩:=zBd e
  by_cases l:2<=C.length
  ·rw[if_pos l]at d;cases d
   have P:=p7 (X:=X) hN (j:=0) c λi x s=>by
    obtain⟨g,f⟩:=h i x s;exact⟨by rw[Nat.zero_add];exact g,f⟩
   have b:(assignEach m X.env).length=xs.length/\(assignEach m X.env).findIdx? (·.1)=none:=by
    clear P l h e
    induction m generalizing xs with
    |nil=>cases c;exact⟨rfl,rfl⟩
    |cons a r y=>
     unfold dY at c
     cases a<;>try (cases c)
     rename_i z p
     simp only at c
     obtain⟨E,B,A⟩:=zMd c;subst A;obtain⟨u,t⟩:=y B
     have q:assignEach (Expr.Name z p::r) X.env=(false,assign (.Name z p) X.env)::assignEach r X.env:=rfl
     rw[q];refine⟨by simp[u],?_⟩
     rw[List.findIdx?_cons];simp[t]
   obtain⟨n,o⟩: ∃n,xs.length=n+1:=⟨xs.length-1,by lia⟩
   rw[o]at P ⊢;exact CN hc P (by rw[<-o];exact b.1) b.2
  ·rw[if_neg l]at d;cases d
end
structure ItH(X:Cx)(ad:Ad)(J:It)(G H:Hp)(ds:List D):Prop where
 go: ∀(i:Nat) (G1 H1:Hp) (d:D),Step G H G1 H1->ds[i]? =some d->J.go i H1/\∀x H2,J.yld i H1 x H2->∃G2,Step G1 H1 G2 H2/\Rep X.K ad G2 d x
 stop: ∀(G1 H1:Hp),Step G H G1 H1->J.stop ds.length H1
 few:ds.length<=sizeLine
def IK(X:Cx)(ad:Ad)(G H:Hp)(r:R)(W:It->Hp->Prop)(E:Nat->Hp->Prop):Prop:=match r with
 |.ok d=>∃ds,jJ d=some ds/\∀J G' H',Step G H G' H'->ItH X ad J G' H' ds->W J H'
 |.ow xs=>∀J G' H',Step G H G' H'->ItH X ad J G' H' xs->W J H'
 |.ex c=>∀G' H',Step G H G' H'->E c H'
 |.bad=>False
def tI(X:Cx)(ad:Ad)(f:F):TI:=λσ H W=>∃G ρ E,Same G H/\SL X.K ad G H ρ σ/\XP X ad σ E/\IK X ad G H (f ρ) W E
abbrev MI(X:Cx)(ad:Ad)(tg e:Expr)(f:F):Prop:=PI X tg e (tI X ad f)
def Cel(sc:Scope):Prop:=pR sc=[]\/∃x,pR sc=[x]/\sc.names.lookup x=some .cell
theorem cf0: ∀{ns:List (Str×NameKind)} {a:Nat} {acc:List (Str×Addr)},(ns.filter λp=>p.2== .cell).map (·.1)=[]->cellsFrom a ns acc=acc/\∀h,pushCells h ns=h
 |[],_,_,_=>⟨rfl,λ_=>rfl⟩
 |(y,k)::r,a,acc,e=>by
  by_cases hk:(k==NameKind.cell)=true
  ·simp[List.filter_cons,hk]at e
  ·have d:(r.filter λp=>p.2== .cell).map (·.1)=[]:=by simpa[List.filter_cons,hk]using e
   obtain⟨b,c⟩:=cf0 (a:=a) (acc:=acc) d;unfold cellsFrom pushCells;exact⟨by rw[if_neg hk];exact b,λh=>by rw[if_neg hk];exact c h⟩
theorem cf1: ∀{ns:List (Str×NameKind)} {a:Nat} {acc:List (Str×Addr)} {x:Str},(ns.filter λp=>p.2== .cell).map (·.1)=[x]->cellsFrom a ns acc=(x,a)::acc/\∀h,pushCells h ns=h.push {cls:=.type "cell",data:=.cell none}
 |[],_,_,_,e=>by simp at e
 |(y,k)::r,a,acc,x,e=>by
  by_cases hk:(k==NameKind.cell)=true
  ·have b:y=x/\(r.filter λp=>p.2== .cell).map (·.1)=[]:=by simpa[List.filter_cons,hk]using e
   obtain⟨rfl,b⟩:=b;obtain⟨c,d⟩:=cf0 (a:=a+1) (acc:=(y,a)::acc) b;unfold cellsFrom pushCells;exact⟨by rw[if_pos hk];exact c,λh=>by rw[if_pos hk];exact d _⟩
  ·have b:(r.filter λp=>p.2== .cell).map (·.1)=[x]:=by simpa[List.filter_cons,hk]using e
   obtain⟨c,d⟩:=cf1 (a:=a) (acc:=acc) b;unfold cellsFrom pushCells;exact⟨by rw[if_neg hk];exact c,λh=>by rw[if_neg hk];exact d h⟩
def clC(X:Cx)(sc:Scope)(L:Addr):List (Str×Addr):=cellsFrom (L+1) sc.names (kX X.env.cells sc.names [])
theorem fO(hc:Cel sc)(h:(clC X sc L).lookup y=some c):(pR sc=[y]/\c=L+1)\/(kX X.env.cells sc.names []).lookup y=some c:=by
 unfold clC at h;rcases hc with e|⟨x,e,_⟩
 ·rw[(cf0 e).1]at h;exact .inr h
 ·rw[(cf1 e).1,List.lookup_cons]at h
  cases q:y==x with
  |true=>rw[q]at h;rw[eq_of_beq q];exact .inl ⟨e,(Option.some.inj h).symm⟩
  |false=>rw[q]at h;exact .inr h
theorem yA(e:pR sc=[x]):(clC X sc L).lookup x=some (L+1):=by
 unfold clC;rw[(cf1 e).1,List.lookup_cons,beq_self_eq_true]
theorem uE(hc:Cel sc)(hy:sc.names.lookup y=some .free)(h:(kX X.env.cells sc.names []).lookup y=some c):(clC X sc L).lookup y=some c:=by
 unfold clC;rcases hc with e|⟨x,e,hx⟩
 ·rw[(cf0 e).1];exact h
 ·rw[(cf1 e).1,List.lookup_cons]
  cases q:y==x with
  |true=>rw[eq_of_beq q,hx]at hy;cases hy
  |false=>exact h
def cX(X:Cx)(N':List Str)(sc:Scope)(s3:Shared)(H3:Hp)(fp:List Addr)(cb:ce):Cx:=
 {X with N:=N',s₀:=s3,H₀:=H3,env:=compEnvC sc (clC X sc s3.heap.objs.size) s3.heap.objs.size X.env,outer:=X.stack,stack:=X.stack,ex:=fp,fn:=λy=>decide (pR sc=[y]),pn:=X.pn++cb,xe:=λ_ _=>False}
section
variable{ad:Ad}{σ:St}{fp:List Addr}
theorem Br{σ:St}(h:Y.xe=λ_ _=>False):XP Y ad σ (λ_ _=>False):=by
 intro g H s e d I b;obtain⟨j,a,i,f,B,_,_,_,_,_,_,_,_,_,c,_,z⟩:=b;exact z.elim
theorem Un.sameBut(u:Un fs ex H H' h h1)(sb:Heap.SameBut C h1 h2)(hC:h.objs.size<=C):Un fs ex H H' h h2:=by
 have c: ∀b o,h.get? b=some o->b≠C:=λb o e z=>by
  subst z;exact absurd (bf (ag e) hC) (Nat.lt_irrefl _)
 refine⟨λb o e n d a=>?_,λb o e n d a=>?_,u.free,λb o e a=>?_,u.tups,u.frzs,u.tbls⟩
 ·exact(sb.2 b (c b o e)).trans (u.keep b o e n d a)
 ·obtain⟨g,z⟩:=u.slot b o e n d a;exact⟨g,(sb.2 b (c b o e)).trans z⟩
 ·obtain⟨f,z⟩:=u.there b o e a;exact⟨f,(sb.2 b (c b o e)).trans z⟩
theorem Bs{fpO: ∀b∈fp,oY X cb H3 b}(I:Inv X cb σ H3 s3)(hk:sc.kind= .function)(hc:Cel sc)(hfree: ∀x,(x,NameKind.free)∈sc.names->X.env.kindOf x=some .cell\/X.env.kindOf x=some .free)(hnd: ∀x,(x,NameKind.free)∈sc.names->sc.names.lookup x=some .free)(hfo: ∀b∈fp,b<s3.heap.objs.size)(hns:h4.Ns s3.heap.objs.size m)(hkeep: ∀b o,s3.heap.get? b=some o->h4.get? b=some o)(hnew: ∀x,pR sc=[x]->h4.IsCell (s3.heap.objs.size+1) none){σc:St}(hl:σc.length=N'.length)(hσ: ∀(i:Nat) (x:Str) (v:V),N'[i]? =some x->σc[i]? =some (some v)->∃j:Nat,X.N[j]? =some x/\σ[j]? =some (some v)/\(x,NameKind.free)∈sc.names):
  Inv (cX X N' sc s3 H3 fp cb) [] σc H3 {s3 with heap:=h4,toks:=t'}:=by
 have f: ∀x c,(kX X.env.cells sc.names []).lookup x=some c->(x,NameKind.free)∈sc.names/\X.env.cells.lookup x=some c:=λx c e=>by
  rcases j0 e with ⟨k,B,s,h3⟩|h
  ·subst s;refine⟨B,?_⟩;obtain⟨c',g⟩:=I.ok.has x (hfree x B);rw[g]at h3;rw[h3];exact g
  ·cases h
 have K: ∀x c,(kX X.env.cells sc.names []).lookup x=some c->c<s3.heap.objs.size:=λx c e=>by
  obtain⟨v,o,H,_⟩:=I.cell x c (f x c e).2;exact ag H
 have J: ∀b,b∈frs X.stack->b=X.env.locals\/b∈X.fs:=λb A=>au.mp (I.stkSub b A)
 refine⟨⟨I.ok.mod,hk,I.ok.glob,I.ok.blt,ai _,λx y c B s=>?_,λx hx=>?_,λx c B s=>?_,I.ok.hd,I.ok.frames,.inl rfl,λb A=>?_,I.bs,Nat.le_trans I.ok.bsz I.sz,λb o e A=>?_,λb A T=>?_,I.stack,I.stkFree⟩,
  rfl,I.bare,Un.kept hkeep,⟨m,hns,λi x v B s h3=>?_⟩,λx c h=>?_,I.hok.fresh (ai _),λx c h=>?_,λq hq=>?_,I.hok.kept hkeep,hl⟩
 ·rcases fO hc B with ⟨e1,Q⟩|Q
  ·rcases fO hc s with ⟨L,G⟩|G
   ·rw[e1]at L;exact(List.cons.inj L).1
   ·have:=K y c G
    rw[Q]at this;exact absurd this (Nat.not_lt.mpr (Nat.le_succ _))
  ·rcases fO hc s with ⟨L,G⟩|G
   ·have:=K x c Q
    rw[G]at this;exact absurd this (Nat.not_lt.mpr (Nat.le_succ _))
   ·exact I.ok.inj x y c (f x c Q).2 (f y c G).2
 ·-- a name that is a cell here was free in the scope
  have e:(sc.names.lookup x).map (λk=>if(k==NameKind.free&&X.env.scope.kind== .function&&X.env.kindOf x==some .cell)then NameKind.cell else k)=some .cell\/(sc.names.lookup x).map (λk=>if(k==NameKind.free&&X.env.scope.kind== .function&&X.env.kindOf x==some .cell)then NameKind.cell else k)=some .free:=by
   rw[<-b9];exact hx
  cases q:sc.names.lookup x with
  |none=>rw[q]at e;rcases e with e|e<;>cases e
  |some k=>
   have hm:=PySem.mem_of_lookup q
   by_cases E:k= .free
   ·subst E;obtain⟨c,g⟩:=Option.isSome_iff_exists.mp (j4 (cells:=X.env.cells) (acc:=[]) hm);exact⟨c,uE hc q g⟩
   ·have ak:(k==NameKind.free)=false:=by simpa using E
    rw[q]at e;simp only[Option.map,ak,Bool.false_and]at e;rcases e with e|e
    ·have Y:k= .cell:=by simpa using e
     subst Y;have p:x∈pR sc:=aq.mpr ⟨(x,.cell),List.mem_filter.mpr ⟨hm,by simp⟩,rfl⟩
     have C:pR sc=[x]:=by
      rcases hc with z|⟨y,z,_⟩
      ·rw[z]at p;cases p
      ·rw[z]at p ⊢;rw[List.mem_singleton.mp p]
     exact⟨_,yA C⟩
    ·exact absurd (by simpa using e) E
 ·have C:pR sc=[x]:=of_decide_eq_true B
  have:=s.symm.trans (yA C)
  cases this;exact Nat.le_succ _
 ·obtain⟨f0,Z,f2,U,S,f5⟩:=fpO b A;refine⟨bg (hfo b A),λx c h=>?_⟩
  rcases fO hc h with ⟨_,z⟩|z
  ·rw[z];exact(bg (Nat.lt_succ_of_lt (hfo b A))).symm
  ·exact S x c (f x c z).2
 ·obtain⟨f0,Z,f2,U,S,f5⟩:=fpO b A;rcases U with z|z
  ·exact I.ok.noex b o e z
  ·exact absurd (bf (ag e) (Nat.le_trans I.ok.bsz z)) (Nat.lt_irrefl _)
 ·obtain⟨f0,Z,f2,U,S,f5⟩:=fpO b A;rcases J b T with z|z
  ·exact Z z
  ·exact f2 z
 ·obtain⟨j,j1,j2,O⟩:=hσ i x v B s;obtain⟨m0,am,ab⟩:=I.loc;have M:=hfree x O
  have W:Vis X.env.scope x:=by
   rcases M with z|z
   ·exact .inr (.inl z)
   ·exact .inr (.inr z)
  obtain⟨u,r,l⟩:=ab j x v j1 j2 W;refine⟨u,r,.inr ?_⟩;rcases l with ⟨z,_⟩|⟨_,c,ad,t⟩
  ·rcases M with z'|z'
   ·have:X.env.kindOf x=some .local:=z
    rw[z']at this;cases this
   ·have:X.env.kindOf x=some .local:=z
    rw[z']at this;cases this
  ·refine⟨?_,c,?_,?_⟩
   ·have e1:(relabel sc X.env).names.lookup x=(sc.names.lookup x).map (λk=>if(k==NameKind.free&&X.env.scope.kind== .function&&X.env.kindOf x==some .cell)then NameKind.cell else k):=b9
    have L:(relabel sc X.env).names.lookup x=some .cell\/(relabel sc X.env).names.lookup x=some .free:=by
     rw[e1,hnd x O];simp only[Option.map];split
     ·exact .inl rfl
     ·exact .inr rfl
    exact L
   ·obtain⟨c',g⟩:=Option.isSome_iff_exists.mp (j4 (cells:=X.env.cells) (acc:=[]) O)
    have:=(f x c' g).2
    rw[ad]at this;cases this;exact uE hc (hnd x O) g
   ·obtain⟨o,H,hd⟩:=t;exact⟨o,hkeep _ _ H,hd⟩
 ·rcases fO hc h with ⟨e,z⟩|z
  ·rw[z];exact⟨none,hnew x e⟩
  ·obtain⟨v,o,H,hd⟩:=I.cell x c (f x c z).2;exact⟨v,o,hkeep _ _ H,hd⟩
 ·rcases fO hc h with ⟨e,z⟩|z
  ·rw[z];exact I.hok.fresh (Nat.le_succ _)
  ·exact I.freeC x c (f x c z).2
 ·have al:q∈X.pn++cb:=by
   have s:q∈(X.pn++cb)++[]:=hq
   rwa [List.append_nil]at s
  obtain⟨e,n,ne,nf,d⟩:=I.pin q al;refine⟨hkeep _ _ e,n,bg (ag e),λz=>?_,d⟩
  rcases J _ z with z|z
  ·exact ne z
  ·exact nf z
theorem Dg{fpO: ∀b∈fp,oY X cb H3 b}{σc:St}(I:Inv X cb σ H3 s3)(J:Inv (cX X N' sc s3 H3 fp cb) pn' σc H' s')(sb:Heap.SameBut s3.heap.objs.size s'.heap h'):Inv X cb σ H' {s' with heap:=h'}:=by
 have a:H' s3.heap.objs.size=none:=J.free
 refine I.call' (ch:=fp) (s':={s' with heap:=h'}) J.os (Un.sameBut J.base sb (ai _)) (λb u e=>?_) J.bare λb g=>?_
 ·refine(J.hok b u e).stay (λc v l q=>?_) (λ_ q=>q) λ_ _ q=>q
  have h:c≠s3.heap.objs.size:=by
   rintro rfl;rcases l with z|z
   ·rw[<-z]at e;rw[a]at e;cases e
   ·rw[a]at z;cases z
  exact(sb.2 c h).trans q
 ·obtain⟨m,i,n,f,d,j⟩:=fpO b g;exact⟨f,i,d,j⟩
theorem sC(Iv:Nat->Shared->Prop)(turn: ∀n s,Iv n s->wpAny (model prog w) A (pyNext it) (λr s₁=>match r with
   |none=>Rr (.ok .next) s₁
   |some v=>wpAny (model prog w) A (letOwnedTupleGo target it v) (λ_ s₁'=>wpAny (model prog w) A (assign target env v) (λ_ s₂=>
     wpAny (model prog w) A (forIn ifs true λc r=>if r=true then do let ok<-isTrue c env (eval c env);pure (ForInStep.yield ok)else pure (ForInStep.yield r)) (λok s₃=>
      if ok=true then wpAny (model prog w) A (eval elt env) (λx s₄=>
       wpAny (model prog w) A (call (.builtin "list.append") [acc,x]) (λ_ s₅=>∃m,m<n/\Iv m s₅) (λ_ _=>False) s₄) (λ_ _=>False) s₃
      else ∃m,m<n/\Iv m s₃) (λ_ _=>False) s₂) (λ_ _=>False) s₁') (λ_ _=>False) s₁) (λ_ _=>False) s)(n:Nat)(h:Iv n s):
  codeAny (model prog w) A (.compLoop (.ListComp elt [⟨target,iter,ifs,0⟩] scope pos) 0 it acc env) Rr s:=by
 refine codeAny_loop rfl Iv (λn s j=>?_) n h
 show wpAny _ A ((compTurn (.ListComp elt [⟨target,iter,ifs,0⟩] scope pos) 0 it acc env).onRaise (λx=>do noteFrame x env;theTreesLotGoes x)) _ _ s
 refine wpAny_noted (wpAny_noRaise ?_);rw[compTurn_list];refine aa (wpAny_standAt (aa (wpAny_mono (turn n s j) (λr s₁ b=>?_) λ_ _ a=>a)))
 cases r with
 |none=>exact ac b
 |some v=>
  refine aa (wpAny_mono b (λ_ s₁' e=>?_) λ_ _ a=>a)
  refine aa (wpAny_mono e (λ_ s₂ f=>aa (wpAny_mono f (λok s₃ d=>?_) λ_ _ a=>a)) λ_ _ a=>a)
  cases ok with
  |false=>exact ac ⟨rfl,d⟩
  |true=>
   exact aa (aa (wpAny_mono d (λx s₄ g=>aa (wpAny_mono g (λ_ s₅ i=>ac (ac ⟨rfl,i⟩)) λ_ _ a=>a)) λ_ _ a=>a))
theorem kZ(h:bJ f (d::r)=some all):(f d=some none/\bJ f r=some all)\/∃x all',f d=some (some x)/\bJ f r=some all'/\all=x::all':=by
 unfold bJ at h
 cases e:f d with
 |none=>rw[e]at h;cases h
 |some o=>
  rw[e]at h
  cases o with
  |none=>exact .inl ⟨rfl,h⟩
  |some x=>
   obtain⟨a,b,c⟩:=zMd h;exact .inr ⟨x,a,rfl,b,c.symm⟩
theorem yB{K:PySem.W.Frag}{ts cs:List Slot}{σ:St}(h:SL K ad G H (ts++cs) σ):SL K ad G H (aj ts.length .no++cs) σ:=by
 refine⟨by rw[<-h.len];simp,λi b e=>?_⟩
 by_cases a:i<ts.length
 ·rw[bu (by simpa using a),List.getElem?_replicate,if_pos a]at e
  cases e;have c:i<σ.length:=by rw[<-h.len,bn];lia
  exact⟨σ[i],by simp[c],trivial⟩
 ·rw[bj (by simpa using a),List.length_replicate]at e
  refine h.at_ i b ?_;rw[bj (by lia)]
  exact e
theorem Dh{K:PySem.W.Frag}{cs:List Slot}{σ:St}(h:SL K ad G H (aj n .no++cs) σ)(r:aJ K ad G ds vs)(hn:ds.length=n):SL K ad G H (ds.map Slot.sh++cs) (gZ 0 vs σ):=by
 have p:=r.length;have l:=h.len;rw[bn,List.length_replicate]at l;refine⟨by rw[fN,bn,ao];lia,λi f e=>?_⟩
 by_cases q:i<n
 ·rw[bu (by rw[ao];lia),List.getElem?_map]at e
  cases a:ds[i]? with
  |none=>rw[a]at e;cases e
  |some d=>
   rw[a]at e;cases e;obtain⟨v,c,o⟩:=r.get a;refine⟨some v,?_,v,rfl,o⟩
   have:=p6 (j:=0) (σ:=σ) c (by lia)
   rwa [Nat.zero_add]at this
 ·rw[bj (by rw[ao];lia),ao,hn]at e
  obtain⟨g,b,m⟩:=h.at_ i f (by rw[bj (by rw[List.length_replicate];lia),List.length_replicate];exact e)
  exact⟨g,by rw[kY (.inl (by lia))];exact b,m⟩
theorem Iu{K:PySem.W.Frag}{ts cs:List Slot}{σ:St}{W:St->Hp->Prop}(e:tgt k d=some ts)(hn:n=if k=0 then 1 else k)(hG:Same G H)(r:Rep K ad G d v)(h:SL K ad G Hs (aj n .no++cs) σ)(q: ∀σ',σ'.length=σ.length->SL K ad G Hs (ts++cs) σ'->W σ' H):ts.length=n/\gTg K k v σ H W:=by
 cases k with
 |zero=>
  cases e;subst hn;refine⟨rfl,q _ (by rw[List.length_set]) ?_⟩
  have:=Dh (ds:=[d]) (vs:=[v]) h (aJ.cons r aJ.nil) rfl
  exact this
 |succ k=>
  unfold tgt at e
  cases d<;>try (cases e)
  rename_i ds
  simp only at e
  by_cases b:ds.length=k+1
  ·rw[if_pos b]at e;cases e;rw[if_neg (by lia)]at hn
   subst hn;unfold Rep at r;obtain⟨a,vs,rfl,g,f⟩:=r;refine⟨by rw[ao];exact b,a,vs,rfl,hG.seqT g,by rw[f.length];exact b,?_⟩
   have c:vs.length=k+1:=by rw[f.length];exact b
   have:=x9 (vs:=vs) (j:=0) (σ:=σ) (H:=H) (Q:=W) (q _ fN (Dh h f b))
   rwa [c]at this
  ·rw[if_neg b]at e;cases e
end
section
variable{X:Cx}{ad:Ad}{cb:ce}{s2 s3:Shared}{σ:St}{H H2 H3 G2:Hp}{ρ:Rho}{pos:Pos}{sc:Scope}{N':List Str}{fp:List Addr}{tg it elt:Expr}{ifs:List Expr}{k nt:Nat}{cs:List Slot}{fc:Option F}{fe:F}
theorem fP{x:Str}: ∀{N:List Str} {i:Nat},idx x N=some i->N[i]? =some x
 |[],_,e=>by cases e
 |y::r,i,e=>by
  unfold idx at e
  by_cases h:x=y
  ·rw[if_pos h]at e;cases e;subst h;rfl
  ·rw[if_neg h]at e;obtain⟨j,b,a⟩:=zMd e;subst a;simpa using fP b
def MTs(X:Cx)(ad:Ad)(ifs:List Expr)(fc:Option F):Prop:=match ifs,fc with
 |[],none=>True
 |[c],some f=>MT X ad c f
 |_,_=>False
def Ez(K:PySem.W.Frag)(ad:Ad)(H G':Hp)(d:SK.D)(v:V):Prop:= ∃l q ws,d= .lst l/\v= .ref q/\H q=none/\G' q=some (.lst ws)/\aJ K ad G' l ws
def RN(K:PySem.W.Frag)(ad:Ad)(H G':Hp):List SK.D->List V->Prop:=Paired (Ez K ad H G')
theorem Ez.up{K:PySem.W.Frag}{H H1 G' G2:Hp}(h:Ez K ad H1 G' d v)(s:Same H H1)(t:Same G' G2):Ez K ad H G2 d v:=by
 obtain⟨l,q,g,b,f,c,e,a⟩:=h;exact⟨l,q,g,b,f,s.free c,t _ _ e,a.mono t⟩
theorem RN.mono{K:PySem.W.Frag}{H G' G2:Hp}(h:RN K ad H G' ds vs)(t:Same G' G2):RN K ad H G2 ds vs:=Paired.mapP h λ_ _ z=>z.up (Same.refl _) t
theorem RN.snoc{K:PySem.W.Frag}{H G':Hp}{d:SK.D}{v:V}(h:Ez K ad H G' d v): ∀{ds:List SK.D} {vs:List V},RN K ad H G' ds vs->RN K ad H G' (ds++[d]) (vs++[v])
 |_,_,.nil=>.cons h .nil
 |_,_,.cons a r=>.cons a (RN.snoc h r)
theorem ME.val(ha:ME X ad a f)(I:Inv X cb σ H s)(hG:Same G H)(hS:SL X.K ad G H ρ σ)(hx:XP X ad σ E)(hf:f ρ= .ok x\/∃l,f ρ= .ow l/\x= .lst l):
  wpAny (model X.prog X.w) X.A (eval a X.env) (λu s1=>∃v G1 H1,Inv X cb σ H1 s1/\bG v u/\Step G H G1 H1/\Rep X.K ad G1 x v/\((∀y,f ρ≠ .ok y)->Ez X.K ad H G1 x v)) X.xe s:=by
 rcases hf with e|⟨l,e,rfl⟩
 ·exact L2.thn (ha cb s σ H (λv H1=>∃G1,Step G H G1 H1/\Rep X.K ad G1 x v) I ⟨G,ρ,E,hG,hS,hx,by rw[e];exact λv G1 H1 b q=>⟨G1,b,q⟩⟩) λu s1 ⟨v,H1,d,g,G1,b,q⟩=>⟨v,G1,H1,d,g,b,q,λz=>absurd e (z x)⟩
 ·exact L2.thn (ha cb s σ H (λv H1=>∃G1,Step G H G1 H1/\Rep X.K ad G1 (.lst l) v/\Ez X.K ad H G1 (.lst l) v) I ⟨G,ρ,E,hG,hS,hx,by
   rw[e];intro p c G1 H1 b n m j q;have h:=q.mono (Same.upd_new (o:=.lst c) m);exact⟨upd G1 p (.lst c),b.share n m j,by unfold Rep;exact⟨p,c,rfl,SqL.of aH,h⟩,l,p,c,rfl,rfl,n,aH,h⟩⟩) λu s1 ⟨v,H1,d,g,G1,b,q,i⟩=>⟨v,G1,H1,d,g,b,q,λ_=>i⟩
theorem MT.val{k:Bool}(ha:MT X ad a f)(I:Inv X cb σ H s)(hG:Same G H)(hS:SL X.K ad G H ρ σ)(hx:XP X ad σ E)(hf:f ρ= .ok (.bl k)):
  wpAny (model X.prog X.w) X.A (isTrue a X.env (eval a X.env)) (λb s1=>b=k/\∃G1 H1,Inv X cb σ H1 s1/\Step G H G1 H1) X.xe s:=by
 exact L2.thn (ha cb s σ H (λb H1=>b=k/\∃G1,Step G H G1 H1) I ⟨G,ρ,E,hG,hS,hx,.inl ⟨k,hf⟩,by rw[hf];exact λv G1 H1 c q=>⟨k,by unfold Rep at q;exact q,rfl,G1,c⟩⟩) λb s1 ⟨H1,d,e,G1,c⟩=>⟨e,G1,H1,d,c⟩
theorem iF{G1 H1 G2 H2:Hp}{D:Addr}(st:Step G1 H1 G2 H2)(g:G1 D=none)(h:H1 D=some (.lst vs)):G2 D=none/\H2 D=some (.lst vs):=by
 refine⟨?_,st.sh _ _ h⟩
 cases z:G2 D with
 |none=>rfl
 |some o=>
  have:=st.nw D g (by rw[z];exact λz=>nomatch z)
  rw[h]at this;cases this
theorem p8{G1 H1 G2 H2:Hp}{D:Addr}(st:Step G1 H1 G2 H2)(n:H1 D=none)(g:G2 D=none):Step G1 H1 G2 (upd H2 D o):=by
 refine⟨st.sg,λb u e=>?_,λb u e=>?_,st.nw⟩
 ·have a:b≠D:=λz=>by subst z;rw[g]at e;cases e
  rw[aC a];exact st.gh b u e
 ·have a:b≠D:=λz=>by subst z;rw[n]at e;cases e
  rw[aC a];exact st.sh b u e
def hid(D:Addr)(H:Hp):Hp:=λb=>if b=D then none else H b
theorem k9{D b:Addr}{H:Hp}(h:b≠D):hid D H b=H b:=by unfold hid;rw[if_neg h]
theorem gI{D:Addr}{H:Hp}:hid D H D=none:=by unfold hid;rw[if_pos rfl]
theorem yC{D:Addr}{H:Hp}:Same (hid D H) H:=λb o e=>by
 by_cases z:b=D
 ·subst z;rw[gI]at e;cases e
 ·rwa [k9 z]at e
theorem yD{D:Addr}{H:Hp}:hid D (upd H D o)=hid D H:=by
 funext b
 by_cases z:b=D
 ·subst z;rw[gI,gI]
 ·rw[k9 z,k9 z,aC z]
theorem Iw{D:Addr}{H:Hp}(h:H D=none):hid D H=H:=by
 funext b
 by_cases z:b=D
 ·subst z;rw[gI,h]
 ·rw[k9 z]
theorem j5{G1 H1 G2 H2:Hp}{D:Addr}(st:Step G1 H1 G2 H2)(g:G2 D=none):Step G1 (hid D H1) G2 (hid D H2):=by
 refine⟨st.sg,λb u e=>?_,λb u e=>?_,λb c d=>?_⟩
 ·have a:b≠D:=λz=>by subst z;rw[g]at e;cases e
  rw[k9 a];exact st.gh b u e
 ·have a:b≠D:=λz=>by subst z;rw[gI]at e;cases e
  rw[k9 a]at e ⊢;exact st.sh b u e
 ·by_cases z:b=D
  ·subst z;exact gI
  ·rw[k9 z];exact st.nw b c d
theorem SL.up{K:PySem.W.Frag}{G H H':Hp}{ρ:Rho}{σ:St}(h:SL K ad G H ρ σ)(s:Same H H'):SL K ad G H' ρ σ:=by
 refine⟨h.len,λi n e=>?_⟩
 obtain⟨u,v,j⟩:=h.at_ i n e;refine⟨u,v,?_⟩
 cases n with
 |no=>trivial
 |sh d=>exact j
 |ow y=>
  obtain⟨a,x,c,b,g,f⟩:=j;exact⟨a,x,c,b,s _ _ g,f⟩
 |dc m=>
  obtain⟨a,l,c,b,g,f⟩:=j;exact⟨a,l,c,b,s _ _ g,f⟩
 |sd m=>
  obtain⟨a,l,c,b,g,f⟩:=j;exact⟨a,l,c,b,s _ _ g,f⟩
 |rk C r=>
  obtain⟨p,t,d,o,q,c,b⟩:=j;exact⟨p,t,d,o,q,c,b.up s⟩
theorem Bt{Ex:cc}{s:Shared}{sc:Scope}(hc:Cel sc)(h: ∀h4:Heap,h4.Ns s.heap.objs.size (λ_=>none)->(∀b ob,s.heap.get? b=some ob->h4.get? b=some ob)->(∀x,pR sc=[x]->h4.IsCell (s.heap.objs.size+1) none)->
   Q (newEnv sc s.heap.objs.size gl (cellsFrom (s.heap.objs.size+1) sc.names cl) q none .none (some o) builtinsNs) {s with heap:=h4}):
  wpAny M A (newFunctionEnv sc gl cl [] q none .none (some o)) Q Ex s:=by
 simp only[newFunctionEnv,Option.isSome_some,if_true];refine aa (wpAny_alloc ?_);refine aa (wpAny_layCells _ (λl c i=>by cases f:c==NameKind.cell<;>simp[f]) _ _ _ _ ?_)
 have d:(s.heap.push {cls:=.type "dict",data:=.dict #[]}).Ns s.heap.objs.size (λ_=>none):=Heap.Ns.new s.heap (.type "dict")
 have g: ∀b ob,s.heap.get? b=some ob->(pushCells (s.heap.push {cls:=.type "dict",data:=.dict #[]}) sc.names).get? b=some ob:=λb ob e=>pushCells_keeps _ _ b ob (ae _ e)
 have j:(s.heap.push {cls:=.type "dict",data:=.dict #[]}:Heap).objs.size=s.heap.objs.size+1:=ah ..;rw[List.forIn_nil];refine aa (ac (ac ?_))
 have:=h _ (d.keeps (pushCells_keeps _ _)) g λx e=>by
  rw[(cf1 (a:=0) (acc:=[]) e).2];refine⟨{cls:=.type "cell",data:=.cell none},?_,rfl⟩;rw[<-j];exact af _ rfl
 rw[<-j]at this;exact this
theorem p9{W:Prop}(hw:W->∀ρ y,fe ρ≠ .ok y){J:It}{ds all:List D}{itA:Addr}{tn:Nat->Heap->Prop}{RR:Value->Addr->Result->Shared->Prop}{Ex:cc}(hc:X.calm=true)(I2:Inv X cb σ H2 s2)(T:Turn X.prog X.w X.K tg J fp itA tn)(st2:tn 0 s2.heap)
  (f2: ∀b∈fp,oY X cb H2 b) (hit:ItH X ad J G2 H2 ds) (hgo:bJ (dD k cs fc fe) ds=some all) (hG2:Same G2 H2)
  (hk:sc.kind= .function) (hC:Cel sc)
  (hfree: ∀x,(x,NameKind.free)∈sc.names->X.env.kindOf x=some .cell\/X.env.kindOf x=some .free) (hnd: ∀x,(x,NameKind.free)∈sc.names->sc.names.lookup x=some .free)
  {σc:St} (hl:σc.length=N'.length) (hσ: ∀(i:Nat) (x:Str) (v:V),N'[i]? =some x->σc[i]? =some (some v)->∃j:Nat,X.N[j]? =some x/\σ[j]? =some (some v)/\(x,NameKind.free)∈sc.names)
  (hnt:nt=if k=0 then 1 else k) (hsl:SL X.K ad G2 H2 (aj nt .no++cs) σc)
  (hg: ∀s3 H3 pins',PG (cX X N' sc s3 H3 fp pins') tg (gTg X.K k)) (hts: ∀s3 H3 pins',MTs (cX X N' sc s3 H3 fp pins') ad ifs fc) (he: ∀s3 H3 pins',ME (cX X N' sc s3 H3 fp pins') ad elt fe)
  (hEnd: ∀(s3 s':Shared) (H3 H' G':Hp) (σ':St) (D:Addr) (vs:List V),Inv X cb σ H3 s3->(∀b∈fp,oY X cb H3 b)->Inv (cX X N' sc s3 H3 fp cb) [] σ' H' s'->Step G2 H2 G' H'->H2 D=none->G' D=none->H' D=some (.lst vs)->aJ X.K ad G' all vs->(W->RN X.K ad H2 G' all vs)->RR (.ref D) s3.heap.objs.size (.ok .next) s'):
  wpAny (model X.prog X.w) X.A (newList []) (λacc s₃=>wpAny (model X.prog X.w) X.A (newFunctionEnv sc X.env.globals (kX X.env.cells sc.names []) [] X.env.qual none .none (some X.env)) (λcenv s₄=>
   codeAny (model X.prog X.w) X.A (.compStart (.ListComp elt [⟨tg,it,ifs,0⟩] sc pos) 0 (.ref itA) acc {cenv with scope:=relabel sc X.env}) (RR acc cenv.locals) s₄) Ex s₃) Ex s2:=by
 refine wpAny_newObj_type ?_
 have hD:H2 s2.heap.objs.size=none:=I2.fresh
 have I3:Inv X cb σ (upd H2 s2.heap.objs.size (.lst [])) {s2 with heap:=s2.heap.push {cls:=.type "list",data:=.seq ([]:List Value).toArray} }:=I2.lnew (t':=s2.toks) .nil (bt _)
 generalize e3:({s2 with heap:=s2.heap.push {cls:=.type "list",data:=.seq ([]:List Value).toArray} }:Shared)=s3 at I3
 have as:s3.heap.objs.size=s2.heap.objs.size+1:=by rw[<-e3];exact ah ..
 have c6: ∀b o,s2.heap.get? b=some o->s3.heap.get? b=some o:=λb o e=>by rw[<-e3];exact ae _ e
 generalize eD:s2.heap.objs.size=D at hD I3 as ⊢;generalize eH:upd H2 D (.lst [])=H3 at I3
 have b5:H3 D=some (.lst []):=by rw[<-eH];exact aH
 have a1:Step G2 H2 G2 H3:=by rw[<-eH];exact Step.own hG2 hD
 have a5: ∀b∈fp,b<D:=λb B=>by
  obtain⟨o,e,_⟩:=T.obj 0 _ st2 b B;rw[<-eD];exact ag e
 have f3: ∀b∈fp,oY X cb H3 b:=λb B=>by
  obtain⟨f0,fr⟩:=f2 b B;refine⟨?_,fr⟩;rw[<-eH,aC (bg (a5 b B))];exact f0
 refine Bt hC λh4 c8 Q b2=>?_
 have I4:Inv (cX X N' sc s3 H3 fp cb) [] σc H3 {s3 with heap:=h4}:=
  Bs (t':=s3.toks) (fpO:=f3) I3 hk hC hfree hnd (λb B=>bf (a5 b B) (by rw[as];exact Nat.le_succ _)) c8 Q b2 hl hσ
 have ch:tn 0 h4:=T.keep _ _ _ st2 λb B o e=>Q b o (c6 b o e)
 have few:=hit.few
 -- what holds of the iterator's objects in the block
 have ab: ∀{H':Hp},(∀b∈fp,H' b=none)->∀b∈fp,oY (cX X N' sc s3 H3 fp cb) [] H' b:=λ{H'} hn b B=>by
  obtain⟨f0,f1,cw,dg,f4,f5⟩:=f3 b B;refine⟨hn b B,?_,λz=>?_,.inl B,λx c h=>?_,λq hq=>?_⟩
  ·have bm:D<=s3.heap.objs.size:=by rw[as];exact Nat.le_succ _
   exact bg (bf (a5 b B) bm)
  ·rcases au.mp (I3.stkSub b z)with z|z
   ·exact f1 z
   ·exact cw z
  ·rcases fO hC h with ⟨_,z⟩|h'
   ·have bm:D<=s3.heap.objs.size:=by rw[as];exact Nat.le_succ _
    rw[z];exact(bg (Nat.lt_succ_of_lt (bf (a5 b B) bm))).symm
   rcases j0 h' with ⟨kk,h1,h2,h3⟩|h
   ·subst h2;obtain⟨c',cl⟩:=I3.ok.has x (hfree x h1);rw[cl]at h3
    have e:c=c':=h3
    rw[e];exact f4 x c' cl
   ·cases h
  ·have h2:q∈(X.pn++cb)++[]:=hq;rw[List.append_nil]at h2;exact f5 q h2
 have a7: ∀s4:Shared,s4={s3 with heap:=h4}->
   codeAny (model X.prog X.w) X.A (.compLoop (.ListComp elt [⟨tg,it,ifs,0⟩] sc pos) 0 (.ref itA) (.ref D) (cX X N' sc s3 H3 fp cb).env) (RR (.ref D) s3.heap.objs.size) s4:=by
  rintro s4 rfl
  obtain⟨Iv,b1⟩: ∃Iv:Nat->Shared->Prop, ∀n s',Iv n s'↔ ∃(i:Nat) (σ':St) (H' G':Hp) (ys dZ:List SK.D) (vs:List V),Inv (cX X N' sc s3 H3 fp cb) [] σ' H' s'/\tn i s'.heap/\(∀b∈fp,H' b=none)/\Step G2 H2 G' H'/\G' D=none/\H' D=some (.lst vs)/\aJ X.K ad G' ys vs/\
   bJ (dD k cs fc fe) (ds.drop i)=some dZ/\ys++dZ=all/\i<=ds.length/\n=ds.length-i/\ys.length<=i/\SL X.K ad G' (hid D H') (aj nt .no++cs) σ'/\(W->RN X.K ad H2 G' ys vs):=⟨_,λ_ _=>Iff.rfl⟩
  refine sC Iv ?_ ds.length
   ((b1 _ _).mpr ⟨0,σc,H3,G2,[],all,[],I4,ch,λb B=>(f3 b B).1,a1,pT hG2 hD,b5,aJ.nil,hgo,rfl,bt _,rfl,ai _,by rw[<-eH,yD,Iw hD];exact hsl,λ_=>.nil⟩)
  intro n s5 cx;obtain⟨i,a6,H5,G5,ys,dZ,vs,I5,b8,b7,a2,ca,cf,r5,am,ar,dj,rfl,dk,cv,b3⟩:=(b1 _ _).mp cx
  by_cases cm:i<ds.length
  ·-- a turn
   have ed:ds[i]? =some ds[i]:=by simp[cm]
   generalize ds[i]=d at ed
   have bp:ds.drop i=d::ds.drop (i+1):=by
    rw[List.drop_eq_getElem_cons cm]
    congr 1
    have:=ax.mp ed
    exact this.2
   rw[bp]at am;obtain⟨go,yl⟩:=hit.go i G5 H5 d a2 ed;refine L2.thn (T.item (cX X N' sc s3 H3 fp cb) rfl rfl rfl hc i [] s5 a6 H5 (λ_ _=>False) I5 (ab b7) b8 go) λr s6 g=>?_
   obtain⟨u,hr,h6⟩:=g;subst hr;refine L2.thn h6 λ_ s7 g=>?_
   obtain⟨x,H7,I7,r7,y7,b0,c9⟩:=g;obtain⟨G7,p,de⟩:=yl x H7 y7;have c1:=I7.pinned (ab c9) (T.obj _ _ b0);obtain⟨bw,cj⟩:=iF p ca cf;have cr:=cv.step (j5 p bw)
   -- the target
   have bv: ∃G,tgt k d=some G:=by
    cases z:tgt k d with
    |some G=>exact⟨G,rfl⟩
    |none=>
     exfalso;rcases kZ am with ⟨e,_⟩|⟨x',_,e,_,_⟩<;>(unfold dD at e;rw[z]at e;cases e)
   obtain⟨G,b4⟩:=bv;obtain⟨cu,gt⟩:=Iu (W:=λσ' H'=>H'=H7/\SL X.K ad G7 (hid D H7) (G++cs) σ') b4 hnt p.gh de cr (λσ' _ q=>⟨rfl,q⟩)
   refine L2.thn (hg s3 H3 cb _ s7 a6 H7 x u _ c1 r7 gt) λ_ s8 g=>?_
   obtain⟨L,H8,I8,e8,a3⟩:=g;subst e8
   -- M, at the turn's end
   have M: ∀{s9:Shared} {Z Y:Hp} {S C:List SK.D} {ak:List V},Inv (cX X N' sc s3 H3 fp cb) ([]++iA fp s7.heap) L Z s9->Step G2 H2 Y Z->Y D=none->Z D=some (.lst ak)->aJ X.K ad Y S ak->bJ (dD k cs fc fe) (ds.drop (i+1))=some C->S++C=all->S.length<=i+1->
     SL X.K ad Y (hid D Z) (G++cs) L->(W->RN X.K ad H2 Y S ak)->∃m,m<ds.length-i/\Iv m s9:=by
    intro s9 Z Y S C ak I9 f O an r9 df da cn a4 cz;refine⟨ds.length-(i+1),by lia,(b1 _ _).mpr ⟨i+1,L,Z,Y,S,C,ak,I9.unpinned,T.keep _ _ _ b0 λb B o e=>(I9.pin (b,o) (bq _ (bq _ (iU B e)))).1,λb B=>?_,f,O,an,r9,df,da,by lia,rfl,cn,?_,cz⟩⟩
    ·obtain⟨o,e,d'⟩:=T.obj _ _ b0 b B;exact(I9.pin (b,o) (bq _ (bq _ (iU B e)))).2.1
    ·have:=yB a4
     rwa [cu]at this
   have bz:XP (cX X N' sc s3 H3 fp cb) ad L (λ_ _=>False):=Br rfl
   have br:Step G2 H2 G7 H8:=a2.trans p
   -- the element
   have be: ∀{s9:Shared} {Z Y:Hp} (x':SK.D) (s:List SK.D),Inv (cX X N' sc s3 H3 fp cb) ([]++iA fp s7.heap) L Z s9->Step G7 H8 Y Z->(fe (G++cs)= .ok x'\/∃l,fe (G++cs)= .ow l/\x'= .lst l)->bJ (dD k cs fc fe) (ds.drop (i+1))=some s->dZ=x'::s->
     wpAny (model X.prog X.w) X.A (eval elt (cX X N' sc s3 H3 fp cb).env) (λx s₄=>wpAny (model X.prog X.w) X.A (call (.builtin "list.append") [.ref D,x]) (λ_ ck=>∃m,m<ds.length-i/\Iv m ck) (λ_ _=>False) s₄) (λ_ _=>False) s9:=by
    intro s9 Z Y x' s I9 f hf t H;obtain⟨O,an⟩:=iF f bw cj;have a4:=a3.step (j5 f O);refine L2.thn (ME.val (X:=cX X N' sc s3 H3 fp cb) (he s3 H3 cb) I9 f.gh (a4.up yC) bz hf) λc2 ct g=>?_
    obtain⟨U,a0,al,db,cp,I,c3,b6⟩:=g;obtain⟨ap,cd⟩:=iF I O an
    have cg:vs.length<sizeLine:=by
     have:=r5.length
     lia
    refine L2.thn (pM (X:=cX X N' sc s3 H3 fp cb) _ ct L al (.ref D) [U] (.ref D) [c2] (λ_ H'=>H'=upd al D (.lst (vs++[U]))) db rfl (.cons cp .nil) ⟨D,vs,U,rfl,rfl,cd,cg,rfl⟩) λ_ dh g=>?_
    obtain⟨_,dl,c7,_,cq⟩:=g;subst cq;have cy:Step G2 H2 a0 al:=(br.trans f).trans I;have c4:Step G2 H2 a0 (upd al D (.lst (vs++[U]))):=p8 cy hD ap;have rA:aJ X.K ad a0 (ys++[x']) (vs++[U]):=((r5.mono p.sg).mono f.sg).mono I.sg |>.append (aJ.cons c3 aJ.nil)
    have c5:SL X.K ad a0 (hid D (upd al D (.lst (vs++[U])))) (G++cs) L:=by
     rw[yD];exact a4.step (j5 I ap)
    refine M c7 c4 ap aH rA t ?_ (by simp;lia) c5 λw=>((((b3 w).mono p.sg).mono f.sg).mono I.sg).snoc ((b6 (hw w _)).up (br.trans f).sh (Same.refl _))
    rw[List.append_assoc];rw[H]at ar;exact ar
   rcases kZ am with ⟨e,t⟩|⟨x',s,e,t,H⟩
   ·-- left out
    unfold dD at e;rw[b4]at e
    cases fc with
    |none=>
     exfalso
     simp only at e
     cases z:fe (G++cs)<;>rw[z]at e<;>cases e
    |some f0=>
     simp only at e
     have E:=hts s3 H3 cb
     match ifs,E with
     |[c0],E=>
      have hv:f0 (G++cs)= .ok (.bl false):=by
       cases z:f0 (G++cs)with
       |ok dd=>
        rw[z]at e
        cases dd<;>try (cases e)
        rename_i bb
        cases bb with
        |false=>rfl
        |true=>
         exfalso
         simp only at e
         cases z':fe (G++cs)<;>rw[z']at e<;>cases e
       |ow _=>rw[z]at e;cases e
       |ex _=>rw[z]at e;cases e
       |bad=>rw[z]at e;cases e
      refine wpAny_tests_one (L2.thn (MT.val (X:=cX X N' sc s3 H3 fp cb) E I8 p.gh (a3.up yC) bz hv) λok s9 g=>?_)
      obtain⟨eb,Y,Z,I9,f⟩:=g;subst eb;obtain⟨O,an⟩:=iF f bw cj;exact xB (M I9 (br.trans f) O an ((r5.mono p.sg).mono f.sg) t ar (by lia) (a3.step (j5 f O)) λw=>((b3 w).mono p.sg).mono f.sg)
     |[],E=>exact E.elim
     |_::_::_,E=>exact E.elim
   ·-- taken
    unfold dD at e;rw[b4]at e
    cases fc with
    |none=>
     have E:=hts s3 H3 cb
     match ifs,E with
     |[],_=>
      refine wpAny_tests_nil (wK ?_);refine be x' s I8 (Step.refl p.gh) ?_ t H
      simp only at e
      cases z:fe (G++cs)with
      |ok dd=>rw[z]at e;cases e;exact .inl rfl
      |ow l=>rw[z]at e;cases e;exact .inr ⟨l,rfl,rfl⟩
      |ex _=>rw[z]at e;cases e
      |bad=>rw[z]at e;cases e
     |_::r1,E=>cases r1<;>exact az E
    |some f0=>
     simp only at e
     have E:=hts s3 H3 cb
     match ifs,E with
     |[c0],E=>
      have hv:f0 (G++cs)= .ok (.bl true)/\(fe (G++cs)= .ok x'\/∃l,fe (G++cs)= .ow l/\x'= .lst l):=by
       cases z:f0 (G++cs)with
       |ok dd=>
        rw[z]at e
        cases dd<;>try (cases e)
        rename_i bb
        cases bb with
        |false=>simp only at e;cases e
        |true=>
         simp only at e
         refine⟨rfl,?_⟩
         cases z':fe (G++cs)with
         |ok dd=>rw[z']at e;cases e;exact .inl rfl
         |ow l=>rw[z']at e;cases e;exact .inr ⟨l,rfl,rfl⟩
         |ex _=>rw[z']at e;cases e
         |bad=>rw[z']at e;cases e
       |ow _=>rw[z]at e;cases e
       |ex _=>rw[z]at e;cases e
       |bad=>rw[z]at e;cases e
      refine wpAny_tests_one (L2.thn (MT.val (X:=cX X N' sc s3 H3 fp cb) E I8 p.gh (a3.up yC) bz hv.1) λok s9 g=>?_)
      obtain⟨eb,Y,Z,I9,f⟩:=g;subst eb;exact wK (be x' s I9 f hv.2 t H)
     |[],E=>exact E.elim
     |_::_::_,E=>exact E.elim
  ·-- the end
   have ei:i=ds.length:=by lia
   subst ei;rw[List.drop_length]at am;cases am;rw[List.append_nil]at ar;subst ar;refine L2.thn (T.done (cX X N' sc s3 H3 fp cb) rfl rfl rfl hc ds.length [] s5 a6 H5 (λ_ _=>False) I5 (ab b7) b8 (hit.stop G5 H5 a2)) λr s6 g=>?_
   obtain⟨hr,I6⟩:=g;subst hr;exact hEnd s3 s6 H3 H5 G5 a6 D vs I3 f3 I6 a2 hD ca cf r5 b3
 exact codeAny_compStart_list (a7 _ rfl) (T.self _ 0 _ _ _ ch (a7 _ rfl))
theorem mR{cs:List Nat}{nt:Nat}(hxs:xs.length=nt)(hN:X.N=C.N)(hcs:dY (λx=>fA C x) (aX sc)=some cs)(hfr: ∀x∈aX sc,(x,NameKind.free)∈sc.names)(hS:SL X.K ad G H ρ σ)(hlen:σ.length=X.N.length):
  ∃σc:St,σc.length=(xs++aX sc).length/\(∀(i:Nat) (x:Str) (v:V),(xs++aX sc)[i]? =some x->σc[i]? =some (some v)->∃j:Nat,X.N[j]? =some x/\σ[j]? =some (some v)/\(x,NameKind.free)∈sc.names)/\
   SL X.K ad G H (aj nt .no++l6 cs ρ) σc:=by
 have t: ∀(d:List Str) (l:List Nat),dY (λx=>fA C x) d=some l->l.length=d.length/\∀(i:Nat) (y:Str),d[i]? =some y->∃j,l[i]? =some j/\C.N[j]? =some y:=by
  intro d
  induction d with
  |nil=>intro l e;cases e;exact⟨rfl,λi y h=>by simp at h⟩
  |cons y r I=>
   intro l e;unfold dY at e
   cases b:fA C y with
   |none=>rw[b]at e;cases e
   |some j=>
    rw[b]at e;obtain⟨u,L,Y⟩:=zMd e;subst Y;obtain⟨B,T⟩:=I u L;refine⟨by simp[B],λi z h=>?_⟩
    cases i with
    |zero=>
     simp at h
     subst h;refine⟨j,rfl,?_⟩
     have f:idx y C.N=some j:=by
      unfold fA at b;split at b
      ·exact b
      ·exact b
      ·cases b
     exact fP f
    |succ i=>
     obtain⟨E,g,c⟩:=T i z (by simpa using h)
     exact⟨E,by simpa using g,c⟩
 obtain⟨O,W⟩:=t (aX sc) cs hcs;refine⟨aj nt none++cs.map (λj=>(σ[j]?).getD none),by simp[O,hxs],λi x v g c=>?_,?_,λi A e=>?_⟩
 ·by_cases a:i<nt
  ·rw[bu (by simpa using a),List.getElem?_replicate,if_pos a]at c
   cases c
  ·rw[bj (by simpa using a),List.length_replicate,List.getElem?_map]at c
   rw[bj (by lia),hxs]at g
   obtain⟨j,S,J⟩:=W (i-nt) x g;rw[S]at c
   have n:(σ[j]?).getD none=some v:=Option.some.inj c
   refine⟨j,by rw[hN];exact J,?_,hfr x (List.mem_of_getElem? g)⟩
   cases q:σ[j]? with
   |none=>rw[q]at n;cases n
   |some U=>rw[q]at n;exact congrArg some n
 ·simp[l6]
 ·by_cases a:i<nt
  ·rw[bu (by simpa using a),List.getElem?_replicate,if_pos a]at e
   cases e;refine⟨none,?_,trivial⟩;rw[bu (by simpa using a),List.getElem?_replicate,if_pos a]
  ·rw[bj (by simpa using a),List.length_replicate]at e
   unfold l6 at e;rw[List.getElem?_map]at e
   cases q:cs[i-nt]? with
   |none=>rw[q]at e;cases e
   |some j=>
    rw[q]at e
    have o:(ρ[j]?).getD .no=A:=Option.some.inj e
    refine⟨(σ[j]?).getD none,?_,?_⟩
    ·rw[bj (by simpa using a),List.length_replicate,List.getElem?_map,q]
     rfl
    ·cases p:ρ[j]? with
     |none=>rw[p]at o;subst o;trivial
     |some m=>
      rw[p]at o
      have s:m=A:=o
      subst s;obtain⟨U,Q,M⟩:=hS.at_ j m p;rw[Q];exact M
end
open PySem.W
def Its(x:Str):It:=⟨λi _=>i<x.cps.size,λi H v H'=>H'=H/\∃c,x.cps[i]? =some c/\v= .str ⟨#[c]⟩,λi _=>x.cps.size<=i⟩
theorem Bu{K:PySem.W.Frag}{tg:Expr}(it:Addr)(hty:ty="str_ascii_iterator"\/ty="str_iterator"):Turn P w K tg (Its x) [it] it (λi h=>h.IsStrIter it ty x t i) where
 mem:=by simp
 obj:=λi h g b a=>by
  have e:b=it:=by simpa using a
  subst e;obtain⟨o,e,c,d⟩:=g;exact⟨o,e,λv z=>by rw[d]at z;cases z⟩
 keep:=λi h f g k=>by
  obtain⟨o,e,r⟩:=g;exact⟨o,k it (by simp) o e,r⟩
 item:=by
  intro X Z hw Y U i T s S H E I N g O;subst Z hw Y;have n:i<x.cps.size:=O;obtain⟨L,J,f2,G,C,M⟩:=N it (by simp)
  have p: ∀(f:Heap),f.IsStrIter it ty x t (i+1)->(∀b o,b≠it->s.heap.get? b=some o->f.get? b=some o)->∀(B:Nat) (u:Tok), ∃u',(some (Value.str ⟨#[x.cps[i]]⟩ u):Option Value)=some u'/\wpAny (model X.prog X.w) X.A (letOwnedTupleGo tg (.ref it) u') (λ_ s2=>∃y H',Inv X T S H' s2/\bG y u'/\(Its x).yld i H y H'/\s2.heap.IsStrIter it ty x t (i+1)/\∀b∈[it],H' b=none) E {s with heap:=f,toks:=B}:=by
   intro f q sb B u;have I1:Inv X T S H {s with heap:=f,toks:=B}:=I.turned (t':=B) (λb o a e=>sb b o a e) L J G C M
   obtain⟨o,e,c,d⟩:=id q;refine⟨_,rfl,wW (s:={s with heap:=f,toks:=B}) e c d (by rcases hty with rfl|rfl<;>decide) ⟨.str ⟨#[x.cps[i]]⟩,H,I1,⟨u,rfl⟩,⟨rfl,_,by simp[n],rfl⟩,q,λb a=>(N b a).1⟩⟩
  rcases hty with rfl|rfl
  ·exact wpAny_pyNext_ascii_item g (c:=x.cps[i]) (by simp[n]) λf j l=>p f j (λb o a e=>l.extBut b o a e) _ _
  ·exact wpAny_pyNext_wide_item g (c:=x.cps[i]) (by simp[n]) λf j l=>p f j (λb o a e=>l.extBut b o a e) _ _
 done:=by
  intro X Z hw Y U i T s S H E I N g O;subst Z hw Y
  have n:x.cps.size<=i:=O
  obtain⟨L,J,f2,G,C,M⟩:=N it (by simp)
  rcases hty with rfl|rfl
  ·exact wpAny_pyNext_ascii_end (I.ok.hd U) g (by simp[n]) λf m=>⟨rfl,I.turned (t':=s.toks) (λb o a e=>m b o a e) L J G C M⟩
  ·exact wpAny_pyNext_wide_end (I.ok.hd U) g (by simp[n]) λf m=>⟨rfl,I.turned (t':=s.toks) (λb o a e=>m b o a e) L J G C M⟩
 self:=λA i s Q E g h=>by
  rcases hty with rfl|rfl
  ·exact wpAny_pyIter_striter_ascii g h
  ·exact wpAny_pyIter_striter_wide g h
def Itk(a:Addr)(o:Obj)(es:List (Key×V)):It:=⟨λi H=>i<es.length/\H a=some (.frz o (.dK es)),λi H v H'=>H'=H/\∃e,es[i]? =some e/\v=kV e.1,λi H=>es.length<=i/\H a=some (.frz o (.dK es))⟩
theorem i0{α β:Type}{R:α->β->Prop}: ∀{l:List α} {m:List β},Paired R l m->∀{i:Nat} {a:α},l[i]? =some a->∃b,m[i]? =some b/\R a b
 |_,_,.nil,i,b,h=>by simp at h
 |_,_,.cons r t,0,b,h=>by simp at h;subst h;exact⟨_,rfl,r⟩
 |_,_,.cons r t,i+1,b,h=>by
  obtain⟨a,e,r⟩:=i0 t (i:=i) (a:=b) (by simpa using h)
  exact⟨a,by simpa using e,r⟩
theorem uF{σ:St}(I:Inv X cb σ H s)(ha:H a=some (.frz o (.dK es))):(a==sysModules)=false/\∃vs ep,KV es vs/\s.heap.DictAt (bE X.prog X.w) a vs ep/\∃ar,o.data= .dict ar ep:=by
 obtain⟨e,z,g,vs,d,h,ar,ep,c,f,b,r⟩:=I.hok a _ ha;rw[e]at c;cases c;exact⟨g,vs,ep,d,⟨o,ar,e,f,b,r⟩,ar,b⟩
theorem uG{K:PySem.W.Frag}{tg:Expr}(it:Addr):Turn P w K tg (Itk a o es) [it] it (λi h=>∃ep ar,o.data= .dict ar ep/\h.IsKeyIter it a i es.length ep) where
 mem:=by simp
 obj:=λi h g b r=>by
  have e:b=it:=by simpa using r
  subst e;obtain⟨_,_,_,o,e,c,d⟩:=g;exact⟨o,e,λv z=>by rw[d]at z;cases z⟩
 keep:=λi h A g k=>by
  obtain⟨ep,ar,d,g⟩:=g;exact⟨ep,ar,d,g.at λo e=>k it (by simp) o e⟩
 item:=by
  intro X O hw Z hc i cb s σ H E I B g J;subst O hw Z;obtain⟨hi,G⟩:=J;obtain⟨ep,ar,l,g⟩:=g;obtain⟨hd,vs,ab,m,da,T,f⟩:=uF I G;rw[l]at f;cases f;obtain⟨U,N,f2,L,C,f5⟩:=B it (by simp)
  obtain⟨e,he⟩: ∃e,es[i]? =some e:=⟨es[i],by simp[hi]⟩
  obtain⟨q,hq,r1,r2⟩:=i0 m he
  have y:es.length=vs.length:=KV.length m
  obtain⟨qk,qv⟩:=q;refine wpAny_pyNext_dict_item (knd:=bE X.prog X.w) (by rw[<-y];exact g) da hq λM A u n Q=>?_
  have I1:Inv X cb σ H {s with heap:=A}:=I.turned (t':=s.toks) (λb o r e=>(Q.2 b r).trans e) U N L C f5
  obtain⟨oi,e1,c,d⟩:=id n;refine⟨_,rfl,wW (s:={s with heap:=A}) e1 c d (by decide) ⟨kV e.1,H,I1,?_,⟨rfl,e,he,rfl⟩,⟨ep,ar,l,by rw[y];exact n⟩,λb r=>(B b r).1⟩⟩
  have Y:e.1=qk:=r1
  rw[Y]
  have p:rM qk M=true:=u
  rcases bO p with ⟨j,t,rfl,rfl⟩|⟨x,t,rfl,rfl⟩<;>exact⟨t,rfl⟩
 done:=by
  intro X O hw Z hc i cb s σ H E I B g J;subst O hw Z;obtain⟨hi,G⟩:=J;obtain⟨ep,ar,l,g⟩:=g;obtain⟨hd,vs,ab,m,da,T,f⟩:=uF I G;rw[l]at f;cases f
  have y:es.length=vs.length:=KV.length m
  obtain⟨U,N,f2,L,C,f5⟩:=B it (by simp)
  exact wpAny_pyNext_dict_end (knd:=bE X.prog X.w) (I.ok.hd hc) (by rw[<-y];exact g) da (List.getElem?_eq_none (by rw[<-y];exact hi)) λA S=>⟨rfl,I.turned (t':=s.toks) (λb o r e=>S b o r e) U N L C f5⟩
 self:=λ_ _ _ _ _ g h=>by
  obtain⟨_,_,_,g⟩:=g;exact wpAny_pyIter_keyiter g h
section
variable{X:Cx}{ad:Ad}{H G:Hp}
theorem EA(hG:Same G H)(few:x.cps.size<=1000):ItH X ad (Its x) G H (vU x):=by
 have h:(vU x).length=x.cps.size:=by simp[vU]
 refine⟨λi b m d a e=>?_,λb m a=>by rw[h];exact ai _,by rw[h];exact Nat.le_trans few (by decide)⟩
 have n: ∃c,x.cps.toList[i]? =some c/\D.str ⟨#[c]⟩=d:=by simpa[vU]using e
 obtain⟨c,j,rfl⟩:=n
 have g:x.cps[i]? =some c:=by simpa using j
 refine⟨(Array.getElem?_eq_some_iff.mp g).1,λv o l=>?_⟩
 obtain⟨rfl,p,f,rfl⟩:=l;rw[g]at f;cases f;exact⟨b,Step.refl a.gh,by unfold Rep;rfl⟩
theorem yE{ks:List Str}{es:List (Key×V)}{i:Nat}(h:es.map (·.1)=ks.map Sum.inr)(e:(ks.map D.str)[i]? =some d): ∃q,es[i]? =some q/\∃x,q.1=Sum.inr x/\d= .str x:=by
 rw[List.getElem?_map]at e;obtain⟨k,b,f⟩:=zMd e;have a:=congrArg (λl:List Key=>l[i]?) h
 simp only[List.getElem?_map,b,Option.map_some]at a;obtain⟨q,q1,c⟩:=zMd a;exact⟨q,q1,k,c,f.symm⟩
theorem EB{a:Addr}{o:Obj}{ks:List Str}{es:List (Key×V)}(ha:G a=some (.frz o (.dK es)))(h:es.map (·.1)=ks.map Sum.inr)(hG:Same G H)(few:ks.length<=1000):ItH X ad (Itk a o es) G H (ks.map D.str):=by
 have l:es.length=ks.length:=by have:=congrArg List.length h;simpa using this
 refine⟨λi c j d b e=>?_,λc j b=>⟨by rw[ao,l];exact ai _,b.sh _ _ (hG _ _ ha)⟩,by rw[ao];exact Nat.le_trans few (by decide)⟩
 obtain⟨q,q1,x,g,rfl⟩:=yE h e;refine⟨⟨(ax.mp q1).1,b.sh _ _ (hG _ _ ha)⟩,λv n m=>?_⟩
 obtain⟨rfl,p,f,rfl⟩:=m;rw[q1]at f;cases f;rw[g];exact⟨c,Step.refl b.gh,by unfold Rep;rfl⟩
end
section
variable{X:Cx}{ad:Ad}{s3:Shared}{σ:St}{H H2 H3 G G2:Hp}{ρ:Rho}{Q:VK}{E:Nat->Hp->Prop}{pos:Pos}{sc:Scope}{fp:List Addr}{tg it elt:Expr}{ifs:List Expr}{k:Nat}{xs:List Str}{cs:List Nat}{fc:Option F}{fi fe:F}
theorem EC(h: ∀a b c,it≠ .Set a b c): ∀x,foldedSetIterable it X.env x=pure x:=by
 intro x
 cases it<;>first|rfl|exact absurd rfl (h _ _ _)
structure CompSc(X:Cx)(C:Ctx)(sc:Scope)(xs:List Str)(cs:List Nat):Prop where
 kind:sc.kind= .function
 cell:Cel sc
 names: ∀y∈sc.names,y.2= .local->sc.names.lookup y.1=some .local
 fre: ∀x,(x,NameKind.free)∈sc.names->X.env.kindOf x=some .cell\/X.env.kindOf x=some .free
 frl: ∀x,(x,NameKind.free)∈sc.names->sc.names.lookup x=some .free
 N:X.N=C.N
 cs:dY (λx=>fA C x) (aX sc)=some cs
theorem qA(h:x∈aX sc):(x,NameKind.free)∈sc.names:=by
 unfold aX at h;obtain⟨p,c,rfl⟩:=aq.mp h;obtain⟨b,d⟩:=List.mem_filter.mp c;obtain⟨y,a⟩:=p
 have:a= .free:=by simpa using d
 subst this;exact b
def RKW(K:PySem.W.Frag)(ad:Ad)(W:Prop)(G H:Hp)(r:R)(Q:VK)(E:Nat->Hp->Prop):Prop:=match r with
 |.ow xs=>∀p vs G' H',Step G H G' H'->H p=none->G' p=none->H' p=some (.lst vs)->aJ K ad G' xs vs->(W->RN K ad H G' xs vs)->Q (.ref p) H'
 |r=>RK K ad G H r Q E
theorem RK.w{K:PySem.W.Frag}(h:RK K ad G H r Q E):RKW K ad W G H r Q E:=by
 cases r with
 |ow f=>exact λp c b d a n m e q _=>h p c b d a n m e q
 |_=>exact h
theorem RKW.step{K:PySem.W.Frag}(h:RKW K ad W G H r Q E)(st:Step G H G' H'):RKW K ad W G' H' r Q E:=by
 cases r with
 |ow i=>exact λp b f a g n m e q w=>h p b f a (st.trans g) (st.sh.free n) m e q λz=>Paired.mapP (w z) λ_ _ y=>y.up st.sh (Same.refl _)
 |ok d=>exact RK.step (K:=K) (ad:=ad) (r:=.ok d) (E:=E) h st
 |ex c=>exact RK.step (K:=K) (ad:=ad) (r:=.ex c) (Q:=Q) h st
 |bad=>exact h
theorem Ix{U:Prop}{W:It->Hp->Prop}(hr:RKW X.K ad U G H (bL k cs fi fc fe ρ) Q E)
  (q: ∀J G2 H2 ds all,Step G H G2 H2->ItH X ad J G2 H2 ds->bJ (dD k (l6 cs ρ) fc fe) ds=some all->RKW X.K ad U G2 H2 (.ow all) Q E->W J H2):IK X ad G H (fi ρ) W E:=by
 unfold bL at hr
 cases e:fi ρ with
 |ok d=>
  rw[e]at hr
  have b:RKW X.K ad U G H (match jJ d with|some ds=>(match bJ (dD k (l6 cs ρ) fc fe) ds with|some xs=>.ow xs|none=>.bad)|none=>.bad) Q E:=hr
  cases m:jJ d with
  |none=>rw[m]at b;exact b.elim
  |some ds=>
   rw[m]at b
   have a:RKW X.K ad U G H (match bJ (dD k (l6 cs ρ) fc fe) ds with|some xs=>.ow xs|none=>.bad) Q E:=b
   cases f:bJ (dD k (l6 cs ρ) fc fe) ds with
   |none=>rw[f]at a;exact a.elim
   |some all=>
    rw[f]at a;exact⟨ds,m,λJ i j g h=>q J i j ds all g h f (RKW.step a g)⟩
 |ow l=>
  rw[e]at hr
  have a:RKW X.K ad U G H (match bJ (dD k (l6 cs ρ) fc fe) l with|some xs=>.ow xs|none=>.bad) Q E:=hr
  cases f:bJ (dD k (l6 cs ρ) fc fe) l with
  |none=>rw[f]at a;exact a.elim
  |some all=>
   rw[f]at a;exact λJ i j g h=>q J i j l all g h f (RKW.step a g)
 |ex c=>rw[e]at hr;exact hr
 |bad=>rw[e]at hr;exact hr
def tEW(X:Cx)(ad:Ad)(W:Prop)(f:F):TE:=λσ H Q=>∃G ρ E,Same G H/\SL X.K ad G H ρ σ/\XP X ad σ E/\RKW X.K ad W G H (f ρ) Q E
theorem Bv{U:Prop}(hw:U->∀ρ y,fe ρ≠ .ok y){C:Ctx}(hc:X.calm=true)(S:CompSc X C sc xs cs)(hi:MI X ad tg it fi)(hset: ∀a b c,it≠ .Set a b c)(hxs:xs.length=if k=0 then 1 else k)
  (hg: ∀fp s3 H3 pins',PG (cX X (xs++aX sc) sc s3 H3 fp pins') tg (gTg X.K k)) (hts: ∀fp s3 H3 pins',MTs (cX X (xs++aX sc) sc s3 H3 fp pins') ad ifs fc) (he: ∀fp s3 H3 pins',ME (cX X (xs++aX sc) sc s3 H3 fp pins') ad elt fe):
  PE X (.ListComp elt [⟨tg,it,ifs,0⟩] sc pos) (tEW X ad U (bL k cs fi fc fe)):=by
 rintro cb s σ H Q I ⟨G,ρ,E,hG,O,l,Z⟩;rw[eval_ListComp]
 have t:closureFor sc X.env=pure (kX X.env.cells sc.names []):=iZ λx l=>by
  obtain⟨c,h⟩:=I.ok.has x (S.fre x l);rw[h];rfl
 refine wpAny_comprehension_free (use:=none) rfl (EC hset) t S.kind S.names ?_;show wpAny (model X.prog X.w) X.A (eval it X.env) _ X.xe s
 refine L2.thn (hi cb s σ H _ I ⟨G,ρ,E,hG,O,l,Ix (W:=λJ i=>∃f g all,Step G H f i/\ItH X ad J f i g/\bJ (dD k (l6 cs ρ) fc fe) g=some all/\RKW X.K ad U f i (.ow all) Q E) Z λJ f i g all a b c d=>⟨f,g,all,a,b,c,d⟩⟩) λv s1 h1=>
  L2.thn h1 λal s2 r=>?_
 obtain⟨ab,fp,tn,J,i,e,L,T,st2,f2,f,g,all,B,hit,q,p⟩:=r;subst e;obtain⟨σc,Y,l2,l3⟩:=mR (xs:=xs) (sc:=sc) (nt:=if k=0 then 1 else k) hxs S.N S.cs (λx h=>qA h) (O.step B) L.len
 refine p9 (σc:=σc) hw hc L T st2 f2 hit q B.gh S.kind S.cell S.fre S.frl Y l2 rfl l3 (hg fp) (hts fp) (he fp) λs3 s' H3 z G' ak D vs I3 f3 M u hD gD n r' j=>?_
 obtain⟨m,o,_⟩:=M.loc;refine⟨m,o,λh' sb=>⟨.ref D,z,Dg (fpO:=f3) I3 M sb,rfl,p D vs G' z u hD gD n r' j⟩⟩
theorem ED{C:Ctx}(hc:X.calm=true)(S:CompSc X C sc xs cs)(hi:MI X ad tg it fi)(hset: ∀a b c,it≠ .Set a b c)(hxs:xs.length=if k=0 then 1 else k)
  (hg: ∀fp s3 H3 pins',PG (cX X (xs++aX sc) sc s3 H3 fp pins') tg (gTg X.K k)) (hts: ∀fp s3 H3 pins',MTs (cX X (xs++aX sc) sc s3 H3 fp pins') ad ifs fc) (he: ∀fp s3 H3 pins',ME (cX X (xs++aX sc) sc s3 H3 fp pins') ad elt fe):
  ME X ad (.ListComp elt [⟨tg,it,ifs,0⟩] sc pos) (bL k cs fi fc fe):=
 PE.imp (Bv (U:=False) az hc S hi hset hxs hg hts he) λi H Q ⟨G,h,E,g,f,e,d⟩=>⟨G,h,E,g,f,e,d.w⟩
theorem EE(hq:SqT X.K H a vs)(r:aJ X.K ad G ds vs)(hG:Same G H)(few:vs.length<=sizeLine):ItH X ad (Itt X.K a) G H ds:=by
 refine⟨λi f g d b e=>?_,λf g b=>⟨vs,b.sh.seqT hq,by rw[r.length];exact ai _⟩,by rw[<-r.length];exact few⟩
 obtain⟨v,c,h⟩:=r.get e;refine⟨⟨vs,v,b.sh.seqT hq,c⟩,?_⟩;rintro x j ⟨rfl,y⟩
 have:=y vs (b.sh.seqT hq)
 rw[c]at this;cases this;exact⟨f,Step.refl b.gh,h.mono b.sg⟩
theorem EF(hq:SqL X.K H a vs)(r:aJ X.K ad G ds vs)(hG:Same G H)(few:vs.length<=sizeLine):ItH X ad (Itl X.K a) G H ds:=by
 refine⟨λi f g d b e=>?_,λf g b=>⟨vs,b.sh.seq hq,by rw[r.length];exact ai _⟩,by rw[<-r.length];exact few⟩
 obtain⟨v,c,h⟩:=r.get e;refine⟨⟨vs,v,b.sh.seq hq,c⟩,?_⟩;rintro x j ⟨rfl,y⟩
 have:=y vs (b.sh.seq hq)
 rw[c]at this;cases this;exact⟨f,Step.refl b.gh,h.mono b.sg⟩
theorem yF(ha:ML X ad a f):MI X ad tg a f:=by
 rintro O s N H W I ⟨G,ρ,E,hG,hS,hx,M⟩
 -- the value, then T iterator
 have Q: ∀(d:D) (y:List D),items d=some y->(∀J G' H',Step G H G' H'->ItH X ad J G' H' y->W J H')->∀u g v h i,Inv X O N h g->bG v u->Step G H i h->Seq X ad i h d v->wpAny (model X.prog X.w) X.A (pyIter u) (PIE X O N tg W) X.xe g:=by
  intro d y e L u g v h i j B r q;obtain⟨p,vs,rfl,S,rq⟩:=q.items r.gh e
  cases (show u=Value.ref p from B)
  rcases S with ⟨_,S⟩|⟨_,S⟩
  ·obtain⟨T,rv,pt,hz⟩:=j.tuple S;refine wpAny_pyIter_tuple (show g.heap.IsTuple p T.toArray from pt) ?_
   refine⟨g.heap.objs.size,[g.heap.objs.size],_,_,h,rfl,j.kept (t':=g.toks) λb o e=>ae _ e,mC p _,⟨_,af _ rfl,rfl,rfl⟩,λb Y=>?_,L _ i h r (EE S rq r.gh hz)⟩
   have e:b=g.heap.objs.size:=by simpa using Y
   subst e;exact j.fpOk (ai _) (j.hok.fresh (ai _))
  ·obtain⟨T,rv,pt,hz⟩:=j.list S;refine wpAny_pyIter_list pt.isList ?_;refine⟨g.heap.objs.size,[g.heap.objs.size],_,_,h,rfl,j.kept (t':=g.toks) λb o e=>ae _ e,o9 p _,⟨_,af _ rfl,rfl,rfl⟩,λb Y=>?_,L _ i h r (EF S rq r.gh hz)⟩
   have e:b=g.heap.objs.size:=by simpa using Y
   subst e;exact j.fpOk (ai _) (j.hok.fresh (ai _))
 have ab: ∀(d:D) (y:List D),jJ d=some y->(∀J G' H',Step G H G' H'->ItH X ad J G' H' y->W J H')->∀u g v h i,Inv X O N h g->bG v u->Step G H i h->Seq X ad i h d v->wpAny (model X.prog X.w) X.A (pyIter u) (PIE X O N tg W) X.xe g:=by
  intro d y e L u g v h i j B r q
  cases d with
  |tup Z=>exact Q (.tup Z) y (show items (.tup Z)=some y from e) L u g v h i j B r q
  |lst Z=>exact Q (.lst Z) y (show items (.lst Z)=some y from e) L u g v h i j B r q
  |str x=>
   have C:(if x.cps.size<=1000 then some (vU x)else none)=some y:=e
   by_cases U:x.cps.size<=1000
   ·rw[if_pos U]at C;cases C
    have q':Rep X.K ad i (.str x) v:=by
     rcases q with q|⟨_,_,_,z,_⟩
     ·exact q
     ·cases z
    unfold Rep at q';subst q';obtain⟨t,rfl⟩:=(show ∃t,u=Value.str x t from B)
    have go: ∀(ty:String) (o:Obj),(ty="str_ascii_iterator"\/ty="str_iterator")->(g.heap.push o).IsStrIter g.heap.objs.size ty x t 0->PIE X O N tg W (.ref g.heap.objs.size) {g with heap:=g.heap.push o}:=λty o al an=>by
     refine⟨g.heap.objs.size,[g.heap.objs.size],_,_,h,rfl,j.kept (t':=g.toks) λb o e=>ae _ e,Bu _ al,an,λb Y=>?_,L _ i h r (EA r.gh U)⟩
     have e:b=g.heap.objs.size:=by simpa using Y
     subst e;exact j.fpOk (ai _) (j.hok.fresh (ai _))
    cases hA:x.cps.all (· <128)
    ·exact wpAny_pyIter_wide hA (go _ _ (.inr rfl) ⟨_,af _ rfl,rfl,rfl⟩)
    ·exact wpAny_pyIter_ascii hA (go _ _ (.inl rfl) ⟨_,af _ rfl,rfl,rfl⟩)
   ·rw[if_neg U]at C;cases C
  |dct ks vs=>
   have C:(if ks.length<=1000 then some (ks.map D.str)else none)=some y:=e
   by_cases U:ks.length<=1000
   ·rw[if_pos U]at C;cases C
    have q':Rep X.K ad i (.dct ks vs) v:=by
     rcases q with q|⟨_,_,_,z,_⟩
     ·exact q
     ·cases z
    unfold Rep at q';obtain⟨a,o,es,rfl,ga,a1,a2⟩:=q'
    cases (show u=Value.ref a from B)
    obtain⟨hd,ap,ep,am,da,ar,ak⟩:=uF j (r.gh _ _ ga);refine wpAny_pyIter_dict (knd:=bE X.prog X.w) hd da ?_;refine⟨g.heap.objs.size,[g.heap.objs.size],_,_,h,rfl,j.kept (t':=g.toks) λb o e=>ae _ e,uG _,⟨ep,ar,ak,_,af _ rfl,rfl,by rw[KV.length am];rfl⟩,λb Y=>?_,L _ i h r (EB ga a1 r.gh U)⟩
    have e:b=g.heap.objs.size:=by simpa using Y
    subst e;exact j.fpOk (ai _) (j.hok.fresh (ai _))
   ·rw[if_neg U]at C;cases C
  |_=>cases e
 cases e:f ρ with
 |ok d=>
  rw[e]at M;obtain⟨y,e2,L⟩:=M;exact L2.thn (ha O s N H (λv h=>∃i,Step G H i h/\Seq X ad i h d v) I ⟨G,ρ,E,hG,hS,hx,by rw[e];exact λv i h r q=>⟨i,r,q⟩⟩) λu g ⟨v,h,j,B,i,r,q⟩=>ab d y e2 L u g v h i j B r q
 |ow l=>
  rw[e]at M;exact L2.thn (ha O s N H (λv h=>∃i,Step G H i h/\Rep X.K ad i (.lst l) v) I ⟨G,ρ,E,hG,hS,hx,by rw[e];exact λp vs i h r n m C q=>dA r n m C q⟩) λu g ⟨v,h,j,B,i,r,q⟩=>ab (.lst l) l rfl M u g v h i j B r (.inl q)
 |ex c=>
  rw[e]at M;exact L2.thn (ha O s N H (λv h=>False) I ⟨G,ρ,E,hG,hS,hx,by rw[e];exact M⟩) λu g ⟨v,h,j,B,q⟩=>q.elim
 |bad=>
  rw[e]at M;exact az M
theorem EG{lo:Int}(hG:Same G H)(few:n<=sizeLine):ItH X ad (Itr lo n) G H ((List.range n).map λ(i:Nat)=>D.int (lo+(i:Int))):=by
 refine⟨λi f g d b e=>?_,λf g b=>by simp[Itr],by simpa using few⟩
 rw[List.getElem?_map]at e
 cases q:(List.range n)[i]? with
 |none=>rw[q]at e;cases e
 |some j=>
  rw[q]at e;obtain⟨c,a⟩:=ax.mp q;rw[List.length_range]at c;rw[List.getElem_range]at a;subst a;cases e;refine⟨c,?_⟩;rintro x h ⟨rfl,rfl⟩;exact⟨f,Step.refl b.gh,bQ⟩
theorem yG(n:Nat):rH n=(List.range n).map λ(i:Nat)=>D.int (0+(i:Int)):=by
 unfold rH
 congr 1
 funext i
 rw[Int.zero_add]
theorem sD{k:D->R}(hG:Same G H)(hS:SL X.K ad G H ρ σ)(hx:XP X ad σ E)(hr:IK X ad G H ((f ρ).bind k) W E)(q: ∀v d G1 H1,Step G H G1 H1->Rep X.K ad G1 d v->IK X ad G1 H1 (k d) W E->Q' v H1):tE X ad f σ H Q':=by
 have g: ∀{r:R} {G1 H1:Hp},IK X ad G H r W E->Step G H G1 H1->IK X ad G1 H1 r W E:=λ{r G1 H1} h b=>by
  cases r with
  |ok d=>obtain⟨s,e,h⟩:=h;exact⟨s,e,λJ i j a o=>h J i j (b.trans a) o⟩
  |ow l=>exact λJ i j a o=>h J i j (b.trans a) o
  |ex c=>exact λi j a=>h i j (b.trans a)
  |bad=>exact h
 refine⟨G,ρ,E,hG,hS,hx,?_⟩
 cases e:f ρ with
 |ok d=>
  rw[e]at hr;exact λv G1 H1 b r=>q v d G1 H1 b r (g hr b)
 |ow y=>
  rw[e]at hr;intro p z G1 H1 b n m x r;obtain⟨t,st2,u⟩:=dA (X:=X) (ad:=ad) b n m x r;exact q _ _ t H1 st2 u (g hr st2)
 |ex c=>
  rw[e]at hr;exact hr
 |bad=>
  rw[e]at hr;exact hr
theorem Bw(hg:L2.Gl X "range")(hm:X.mg "range"=none)(ha:ME X ad a f)(hs:starEach [a] X.env=(false,eval a X.env)::starEach [] X.env):MI X ad tg (.Call (.Name "range" p) [a] [] pos) (cZ f):=by
 rintro q s l H W I ⟨G,y,E,t,u,o,n⟩;refine pA (ta:=rR (tE X ad f) GQ) hg hm (cN ha eL hs) hs q s l H W I ?_;show tE X ad f l H λv c=>∃j:Int,[v]=[.int j]/\ -(2^62)<=j/\j<2^62/\W (Itr 0 j.toNat) c
 refine sD t u o n λv d h c g r k=>?_
 cases d<;>try exact az k
 rename_i i;unfold Rep at r;subst r
 have b:IK X ad h c (if -100000<=i/\i<=100000 then .ok (.lst (rH i.toNat))else .bad) W E:=k
 by_cases m: -100000<=i/\i<=100000
 ·rw[if_pos m]at b;obtain⟨z,e,x⟩:=b;cases e;refine⟨i,rfl,by lia,by lia,x _ h c (Step.refl g.gh) ?_⟩
  rw[yG];exact EG g.gh (by rw[sizeLine_eq];lia)
 ·rw[if_neg m]at b;exact b.elim
end
def gJ(H:Hp)(ρ:Rho)(σ:St)(i:Nat)(as:List Addr):Prop:= ∃C r p dx d l1 l2,ρ[i]? =some (Slot.rk C r)/\σ[i]? =some (some (V.ref p))/\H p=some (HO.ins C dx [("held",V.ref d),("done",V.ref l1),("undone",V.ref l2)])/\as=[p,dx,d,l1,l2]
structure RS(H₀ H:Hp)(ρ:Rho)(σ:St):Prop where
 h0: ∀i as,gJ H ρ σ i as->∀a∈as,H₀ a=none
 ow: ∀i as,gJ H ρ σ i as->∀a∈as, ∀(j:Nat) (sl:Slot),ρ[j]? =some sl->sl.owns=true->σ[j]? ≠some (some (.ref a))
 rr: ∀i j as as' a,gJ H ρ σ i as->gJ H ρ σ j as'->a∈as->a∈as'->i=j
section
variable{K:PySem.W.Frag}{ad:Ad}
theorem gJ.in(h:SL K ad G H ρ σ)(f:gJ H ρ σ i as): ∃C r p dx d l1 l2,ρ[i]? =some (.rk C r)/\σ[i]? =some (some (V.ref p))/\RackIn K ad C G H p r dx d l1 l2/\as=[p,dx,d,l1,l2]:=by
 obtain⟨C,r,p,dx,d,l1,l2,a,c,l,e⟩:=f;obtain⟨n,m,o,g,j,q1,b⟩:=h.rk a;rw[c]at q1;cases q1
 have:=b.ins
 rw[l]at this;cases this;exact⟨C,r,p,dx,d,l1,l2,a,c,b,e⟩
theorem gJ.at(h:SL K ad G H ρ σ)(f:gJ H ρ σ i as): ∀a∈as,G a=none/\H a≠none:=by
 obtain⟨C,r,p,s,d,l,n,u,t,q,rfl⟩:=f.in h;obtain⟨g,b,o⟩:=q.held;obtain⟨x,c,v⟩:=q.done;obtain⟨j,e,y⟩:=q.undone;intro a m;simp only[au,List.not_mem_nil,or_false]at m;rcases m with rfl|rfl|rfl|rfl|rfl
 ·exact⟨q.gp,by rw[q.ins];exact λz=>nomatch z⟩
 ·exact⟨q.gx,by rw[q.own];exact λz=>nomatch z⟩
 ·exact⟨q.gd,by rw[b];exact λz=>nomatch z⟩
 ·exact⟨q.g1,by rw[c];exact λz=>nomatch z⟩
 ·exact⟨q.g2,by rw[e];exact λz=>nomatch z⟩
theorem gJ.back(h:SL K ad G H ρ σ)(s:Same H H1)(f:gJ H1 ρ σ i as):gJ H ρ σ i as:=by
 obtain⟨C,r,p,n,d,e,g,a,c,o,j⟩:=f;obtain⟨t,q,u,l,m,q1,b⟩:=h.rk a;rw[c]at q1;cases q1
 have:=s _ _ b.ins
 rw[o]at this;cases this;exact⟨C,r,p,n,d,e,g,a,c,b.ins,j⟩
theorem RS.same(R:RS H₀ H ρ σ)(h:SL K ad G H ρ σ)(s:Same H H1):RS H₀ H1 ρ σ:=
 ⟨λi b f=>R.h0 i b (f.back h s),λi b f=>R.ow i b (f.back h s),λi j b c a f d=>R.rr i j b c a (f.back h s) (d.back h s)⟩
theorem gJ.unset(w:sn.isRk=false)(f:gJ H (ρ.set i sn) (σ.set i ov) k as):k≠i/\gJ H ρ σ k as:=by
 obtain⟨C,r,p,j,d,e,g,a,c,l,h⟩:=f
 have b:k≠i:=λz=>by
  subst z;have m:k<ρ.length:=by have:=(ax.mp a).1;rwa [List.length_set]at this
  rw[bh m]at a;cases a;cases w
 rw[ba (Ne.symm b)]at a c;exact⟨b,C,r,p,j,d,e,g,a,c,l,h⟩
theorem RS.set(R:RS H₀ H ρ σ)(w:sn.isRk=false)(n: ∀a,sn.owns=true->ov=some (.ref a)->∀k as,gJ H ρ σ k as->a∉as):RS H₀ H (ρ.set i sn) (σ.set i ov):=by
 refine⟨λk as f=>R.h0 k as (f.unset w).2,λk as f a g j m b h c=>?_,λk l as e a f o=>R.rr k l as e a (f.unset w).2 (o.unset w).2⟩
 by_cases z:j=i
 ·subst z;have p:j<ρ.length:=by have:=(ax.mp b).1;rwa [List.length_set]at this
  have d:j<σ.length:=by have:=(ax.mp c).1;rwa [List.length_set]at this
  rw[bh p]at b;rw[bh d]at c;cases b;cases c;exact n a h rfl k as (f.unset w).2 g
 ·rw[ba (Ne.symm z)]at b c;exact R.ow k as (f.unset w).2 a g j m b h c
theorem gJ.reset(w:sn.isRk=false)(f:gJ H (ρ.set i sn) σ k as):gJ H ρ σ k as:=by
 obtain⟨C,r,p,h,d,c,e,a,l,j,g⟩:=f
 have b:k≠i:=λz=>by
  subst z;have m:k<ρ.length:=by have:=(ax.mp a).1;rwa [List.length_set]at this
  rw[bh m]at a;cases a;cases w
 rw[ba (Ne.symm b)]at a;exact⟨C,r,p,h,d,c,e,a,l,j,g⟩
theorem RS.re(R:RS H₀ H ρ σ)(w:sn.isRk=false)(e:ρ[i]? =some sl₀)(w₀:sl₀.owns=true):RS H₀ H (ρ.set i sn) σ:=by
 refine⟨λk b f=>R.h0 k b (f.reset w),λk b f a g j o d n h=>?_,λk m b c a f l=>R.rr k m b c a (f.reset w) (l.reset w)⟩
 by_cases z:j=i
 ·subst z;exact R.ow k b (f.reset w) a g j sl₀ e w₀ h
 ·rw[ba (Ne.symm z)]at d;exact R.ow k b (f.reset w) a g j o d n h
theorem RackIn.ups(h:RackIn K ad C G H p r dx d l1 l2)(ha:a∉[p,dx,d,l1,l2]):RackIn K ad C G (upd H a o) p r dx d l1 l2:=by
 simp only[au,List.not_mem_nil,or_false,not_or]at ha;obtain⟨c,n,e,j,q⟩:=ha;obtain⟨b,s,l⟩:=h.held;obtain⟨t,u,f⟩:=h.done;obtain⟨g,m,i⟩:=h.undone;exact⟨by rw[aC (Ne.symm c)];exact h.ins,by rw[aC (Ne.symm n)];exact h.own,⟨b,by rw[aC (Ne.symm e)];exact s,l⟩,⟨t,by rw[aC (Ne.symm j)];exact u,f⟩,⟨g,by rw[aC (Ne.symm q)];exact m,i⟩,h.ne,h.gp,h.gx,h.gd,h.g1,h.g2⟩
theorem RackIn.shr(h:RackIn K ad C G H p r dx d l1 l2)(ha:a∉[p,dx,d,l1,l2])(le:Same G (upd G a o)):RackIn K ad C (upd G a o) H p r dx d l1 l2:=by
 simp only[au,List.not_mem_nil,or_false,not_or]at ha;obtain⟨c,n,e,j,q⟩:=ha;obtain⟨b,s,l⟩:=h.held;obtain⟨t,u,f⟩:=h.done;obtain⟨g,m,i⟩:=h.undone;exact⟨h.ins,h.own,⟨b,s,l.mono le⟩,⟨t,u,f.mono le⟩,⟨g,m,i.mono le⟩,h.ne,by rw[aC (Ne.symm c)];exact h.gp,by rw[aC (Ne.symm n)];exact h.gx,by rw[aC (Ne.symm e)];exact h.gd,by rw[aC (Ne.symm j)];exact h.g1,by rw[aC (Ne.symm q)];exact h.g2⟩
end
structure SS(X:Cx)(ad:Ad)(G₀ G H:Hp)(ρ:Rho)(σ:St):Prop where
 st:Step G₀ X.H₀ G H
 sl:SL X.K ad G H ρ σ
 ow: ∀(i:Nat) (sl:Slot) (a:Addr),ρ[i]? =some sl->sl.owns=true->σ[i]? =some (some (.ref a))->X.H₀ a=none
 dj: ∀(i j:Nat) (sl sl':Slot) (a:Addr),ρ[i]? =some sl->ρ[j]? =some sl'->sl.owns=true->sl'.owns=true->σ[i]? =some (some (.ref a))->σ[j]? =some (some (.ref a))->i=j
 rs:RS X.H₀ H ρ σ
def OKo(X:Cx)(ad:Ad)(G₀:Hp)(o:Out)(D':Ends)(E:St->Nat->Hp->Prop):Prop:=match o with
 |.nx ρ=>∀σ G H,SS X ad G₀ G H ρ σ->D'.nx σ H
 |.bk ρ=>∀σ G H,SS X ad G₀ G H ρ σ->D'.bk σ H
 |.ct ρ=>∀σ G H,SS X ad G₀ G H ρ σ->D'.ct σ H
 |.ex c ρ=>∀σ G H,SS X ad G₀ G H ρ σ->E σ c H
 |.rt (.ok d)=>∀v G H,Step G₀ X.H₀ G H->Rep X.K ad G d v->D'.rt v H
 |.rt (.ow xs)=>∀p vs G H,Step G₀ X.H₀ G H->X.H₀ p=none->G p=none->H p=some (.lst vs)->aJ X.K ad G xs vs->D'.rt (.ref p) H
 |.rt _=>False
def XA(X:Cx)(ad:Ad)(Z:(St->Nat->Hp->Prop)->Prop)(E:St->Nat->Hp->Prop):Prop:=(∀σ,XP X ad σ (E σ))/\Z E
def tS(X:Cx)(ad:Ad)(Z:(St->Nat->Hp->Prop)->Prop)(g:FS):TS:=λD' σ H=>∃G₀ G ρ E,SS X ad G₀ G H ρ σ/\XA X ad Z E/\OKo X ad G₀ (g ρ) D' E
abbrev MS(X:Cx)(ad:Ad)(Z:(St->Nat->Hp->Prop)->Prop)(st:Stmt)(g:FS):Prop:=PS X st (tS X ad Z g)
abbrev MSs(X:Cx)(ad:Ad)(Z:(St->Nat->Hp->Prop)->Prop)(st:List Stmt)(g:FS):Prop:=PSs X st (tS X ad Z g)
section
variable{X:Cx}{ad:Ad}{σ:St}{H G G₀:Hp}{ρ:Rho}{st:Stmt}
theorem SS.step(S:SS X ad G₀ G H ρ σ)(t:Step G H G1 H1):SS X ad G₀ G1 H1 ρ σ:=⟨S.st.trans t,S.sl.step t,S.ow,S.dj,S.rs.same S.sl t.sh⟩
theorem i3{G₀ Gs G H H₀ Hs:Hp}(a:Step G₀ H₀ Gs Hs)(b:Step Gs H₀ G H):Step G₀ H₀ G H:=
 ⟨a.sg.trans b.sg,b.gh,b.sh,λx c d=>by
  cases q:Gs x with
  |none=>exact b.nw x q d
  |some o=>exact a.nw x c (by rw[q];exact λz=>nomatch z)⟩
theorem SS.up(a:Step G₀ X.H₀ Gs Hs)(S:SS X ad Gs G H ρ σ):SS X ad G₀ G H ρ σ:=⟨i3 a S.st,S.sl,S.ow,S.dj,S.rs⟩
theorem SS.here(S:SS X ad G₀ G H ρ σ):SS X ad G G H ρ σ:=⟨⟨Same.refl _,S.st.gh,S.st.sh,λb c a=>absurd c a⟩,S.sl,S.ow,S.dj,S.rs⟩
theorem OKo.rebase(h:OKo X ad G₀ o D' E)(a:Step G₀ X.H₀ Gs Hs):OKo X ad Gs o D' E:=by
 cases o with
 |nx g=>exact λb G H S=>h b G H (S.up a)
 |bk g=>exact λb G H S=>h b G H (S.up a)
 |ct g=>exact λb G H S=>h b G H (S.up a)
 |ex c g=>exact λb G H S=>h b G H (S.up a)
 |rt r=>
  cases r with
  |ok d=>exact λv G H f q=>h v G H (i3 a f) q
  |ow j=>exact λp i G H f n m e q=>h p i G H (i3 a f) n m e q
  |ex c=>exact h
  |bad=>exact h
theorem g0(S:SS X ad G₀ G H ρ σ)(hx:XA X ad Z E)(hr:OKo X ad G₀ (fS ρ (f ρ) k) D' E)(q: ∀v d G1 H1,Step G H G1 H1->Rep X.K ad G1 d v->OKo X ad G₀ (k d) D' E->Q' v H1):tE X ad f σ H Q':=by
 refine⟨G,ρ,E σ,S.st.gh,S.sl,hx.1 σ,?_⟩;unfold fS at hr
 cases e:f ρ with
 |ok d=>rw[e]at hr;exact λv G1 H1 st r=>q v d G1 H1 st r hr
 |ow i=>
  rw[e]at hr;intro p h G1 H1 st n m g r;obtain⟨a,st2,b⟩:=dA (X:=X) (ad:=ad) st n m g r;exact q _ _ a H1 st2 b hr
 |ex c=>rw[e]at hr;exact λG1 H1 st=>hr σ G1 H1 (S.step st)
 |bad=>rw[e]at hr;exact hr
theorem EH:MS X ad Z (.Pass pos) aQ:=PS.imp wS λe c H ⟨a,G,f,E,S,d,b⟩=>b c G H S
theorem sE:MSs X ad Z [] aQ:=PSs.imp kG λe c H ⟨a,G,f,E,S,d,b⟩=>b c G H S
theorem EI(h1:MS X ad Z st g):MSs X ad Z [st] g:=rP h1
theorem uH(h1:MS X ad Z st g)(h2:MSs X ad Z sts h):MSs X ad Z (st::sts) (a8 g h):=by
 refine PSs.imp (jV h1 h2) ?_;rintro o n H ⟨d,G,i,E,S,f,a⟩;refine⟨d,G,i,E,S,f,?_⟩;unfold a8 at a
 cases e:g i with
 |nx b=>rw[e]at a;exact λm l p j=>⟨d,l,b,E,j,f,a⟩
 |bk b=>rw[e]at a;exact a
 |ct b=>rw[e]at a;exact a
 |ex c b=>rw[e]at a;exact a
 |rt r=>
  rw[e]at a
  cases r<;>exact a
theorem uI(he:ME X ad e f):MS X ad Z (.Return (some e) pos) (dP f):=by
 refine PS.imp (wT he) ?_;rintro t h H ⟨i,G,j,E,S,l,a⟩;refine⟨G,j,E h,S.st.gh,S.sl,l.1 h,?_⟩;unfold dP at a
 cases e:f j with
 |ok d=>rw[e]at a;exact λv b g st r=>a v b g (S.st.trans st) r
 |ow s=>rw[e]at a;exact λp o b g st n m q r=>a p o b g (S.st.trans st) (S.st.sh.free n) m q r
 |ex c=>rw[e]at a;exact λb g st=>a h b g (S.step st)
 |bad=>rw[e]at a;exact a
theorem EJ(he:ME X ad e f)(hs:swapsWith e none pos.line X.env=pure false):MS X ad Z (.Expr e pos) (jS f):=by
 refine PS.imp (nE he hs) ?_;rintro l i H ⟨a,G,m,E,S,g,c⟩;exact g0 S g c λv d h j b r k=>k i h j (S.step b)
theorem SS.set(S:SS X ad G₀ G H ρ σ)(r:Rep X.K ad G d v):SS X ad G₀ G H (ρ.set i (.sh d)) (σ.set i (some v)):=by
 have b: ∀(j:Nat) (sl:Slot),(ρ.set i (.sh d))[j]? =some sl->(j=i/\sl= .sh d/\i<ρ.length)\/(j≠i/\ρ[j]? =some sl):=λj sl e=>by
  by_cases z:j=i
  ·subst z;have c:j<ρ.length:=by have:=(ax.mp e).1;rwa [List.length_set]at this
   rw[bh c]at e;cases e;exact .inl ⟨rfl,rfl,c⟩
  ·rw[ba (Ne.symm z)]at e;exact .inr ⟨z,e⟩
 refine⟨S.st,⟨by rw[List.length_set,List.length_set];exact S.sl.len,λj sl e=>?_⟩,λj f a e w h=>?_,λj n f s a e l w m h o=>?_,S.rs.set rfl λ_ z=>nomatch z⟩
 ·rcases b j sl e with ⟨rfl,rfl,c⟩|⟨z,e⟩
  ·exact⟨some v,bh (by rw[<-S.sl.len];exact c),v,rfl,r⟩
  ·obtain⟨p,q,t⟩:=S.sl.at_ j sl e;exact⟨p,by rw[ba (Ne.symm z)];exact q,t⟩
 ·rcases b j _ e with ⟨_,z,_⟩|⟨z,e⟩
  ·subst z;exact(bd w).elim
  ·rw[ba (Ne.symm z)]at h;exact S.ow j f a e w h
 ·rcases b j _ e with ⟨_,z,_⟩|⟨z,e⟩
  ·subst z;exact(bd w).elim
  ·rcases b n _ l with ⟨_,g,_⟩|⟨g,l⟩
   ·subst g;exact(bd m).elim
   ·rw[ba (Ne.symm z)]at h;rw[ba (Ne.symm g)]at o;exact S.dj j n f s a e l w m h o
theorem SL.own_at{K:PySem.W.Frag}{j:Nat}(h:SL K ad G H ρ σ)(e:ρ[j]? =some sl)(w:sl.owns=true)(hj:σ[j]? =some (some (.ref p))):G p=none/\H p≠none:=by
 obtain⟨n,i,g⟩:=h.at_ j sl e;rw[hj]at i;cases i
 cases sl with
 |no=>exact(bd w).elim
 |sh d=>exact(bd w).elim
 |sd m=>obtain⟨a,l,b,f,c,_⟩:=g;cases b;exact⟨f,by rw[c];exact λz=>nomatch z⟩
 |rk _ _=>exact(bd w).elim
 |ow m=>obtain⟨a,l,b,f,c,_⟩:=g;cases b;exact⟨f,by rw[c];exact λz=>nomatch z⟩
 |dc m=>obtain⟨a,l,b,f,c,_⟩:=g;cases b;exact⟨f,by rw[c];exact λz=>nomatch z⟩
theorem SS.setNew{i:Nat}{sn:Slot}{p:Addr}{G1 H1:Hp}(S:SS X ad G₀ G H ρ σ)(st:Step G H G1 H1)(n:H p=none)(r:SLi X.K ad G1 H1 sn (some (.ref p)))(wr:sn.isRk=false:=by rfl):
  SS X ad G₀ G1 H1 (ρ.set i sn) (σ.set i (some (.ref p))):=by
 have v:=S.step st
 have c: ∀(j:Nat) (sl:Slot),(ρ.set i sn)[j]? =some sl->(j=i/\sl=sn/\i<ρ.length)\/(j≠i/\ρ[j]? =some sl):=λj sl e=>by
  by_cases z:j=i
  ·subst z;have d:j<ρ.length:=by have:=(ax.mp e).1;rwa [List.length_set]at this
   rw[bh d]at e;cases e;exact .inl ⟨rfl,rfl,d⟩
  ·rw[ba (Ne.symm z)]at e;exact .inr ⟨z,e⟩
 -- no b slot holds the new list
 have b: ∀(j:Nat) (sl:Slot),ρ[j]? =some sl->sl.owns=true->σ[j]? ≠some (some (.ref p)):=λj sl M w I=>(S.sl.own_at M w I).2 n
 refine⟨v.st,⟨by rw[List.length_set,List.length_set];exact S.sl.len,λj sl o=>?_⟩,λj t a o w h=>?_,λj s t y a L B E A g l=>?_,v.rs.set wr λa _ z k N f m=>by
  cases z;exact((f.back S.sl st.sh).at S.sl p m).2 n⟩
 ·rcases c j sl o with ⟨q1,q,d⟩|⟨z,o⟩
  ·rw[q1,q];exact⟨some (.ref p),bh (by rw[<-S.sl.len];exact d),r⟩
  ·obtain⟨J,g,l⟩:=v.sl.at_ j sl o;exact⟨J,by rw[ba (Ne.symm z)];exact g,l⟩
 ·rcases c j _ o with ⟨q1,_,d⟩|⟨z,o⟩
  ·rw[q1,bh (by rw[<-S.sl.len];exact d)]at h
   cases h;exact S.st.sh.free n
  ·rw[ba (Ne.symm z)]at h;exact S.ow j t a o w h
 ·rcases c j _ L with ⟨q1,_,d⟩|⟨z,C⟩
  ·rcases c s _ B with ⟨q,_,_⟩|⟨x,u⟩
   ·rw[q1,q]
   ·rw[q1,bh (by rw[<-S.sl.len];exact d)]at g
    cases g;rw[ba (Ne.symm x)]at l;exact absurd l (b s y u A)
  ·rcases c s _ B with ⟨q,_,d⟩|⟨x,u⟩
   ·rw[q,bh (by rw[<-S.sl.len];exact d)]at l
    cases l;rw[ba (Ne.symm z)]at g;exact absurd g (b j t C E)
   ·rw[ba (Ne.symm z)]at g;rw[ba (Ne.symm x)]at l;exact S.dj j s t y a C u E A g l
theorem SS.setOw(S:SS X ad G₀ G H ρ σ)(st:Step G H G1 H1)(n:H p=none)(m:G1 p=none)(e:H1 p=some (.lst vs))(r:aJ X.K ad G1 xs vs):
  SS X ad G₀ G1 H1 (ρ.set i (.ow xs)) (σ.set i (some (.ref p))):=S.setNew st n ⟨p,vs,rfl,m,e,r⟩
theorem Iy(S:SS X ad G₀ G H ρ σ)(hx:XA X ad Z E)(hr:OKo X ad G₀ (vW i f ρ) D' E):tE X ad f σ H λv H1=>D'.nx (σ.set i (some v)) H1:=by
 refine⟨G,ρ,E σ,S.st.gh,S.sl,hx.1 σ,?_⟩;unfold vW at hr
 cases e:f ρ with
 |ok d=>rw[e]at hr;exact λv a H1 st r=>hr _ a H1 ((S.step st).set r)
 |ow h=>rw[e]at hr;exact λp g a H1 st n m b r=>hr _ a H1 (S.setOw st n m b r)
 |ex c=>rw[e]at hr;exact λa H1 st=>hr σ a H1 (S.step st)
 |bad=>rw[e]at hr;exact hr
theorem Iz(hc:MT X ad c f)(ha:MSs X ad Z a g)(hb:MSs X ad Z b h):MS X ad Z (.If c a b pos) (sIf f g h):=by
 refine PS.imp (Hr hc ha hb) ?_;rintro s l H ⟨j,G,m,E,S,o,i⟩;unfold sIf at i
 cases e:f m with
 |ok d=>
  rw[e]at i
  cases d<;>try exact i.elim
  rename_i k;refine⟨G,m,E l,S.st.gh,S.sl,o.1 l,.inl ⟨k,e⟩,?_⟩;rw[e];intro v n p st r;unfold Rep at r;subst r;refine⟨k,rfl,?_⟩
  cases k with
  |true=>exact wK ⟨j,n,m,E,S.step st,o,i⟩
  |false=>exact xB ⟨j,n,m,E,S.step st,o,i⟩
 |ow q=>rw[e]at i;exact i.elim
 |ex k=>
  rw[e]at i;refine⟨G,m,E l,S.st.gh,S.sl,o.1 l,.inr ⟨k,e⟩,?_⟩;rw[e];exact λn p st=>i l n p (S.step st)
 |bad=>rw[e]at i;exact i.elim
theorem SS.shareG{i:Nat}{sl₀ sn:Slot}{a:Addr}{o:HO}(S:SS X ad G₀ G H ρ σ)(e:ρ[i]? =some sl₀)(w₀:sl₀.owns=true)(h1:σ[i]? =some (some (.ref a)))(h3:H a=some o)(hst:Step G₀ X.H₀ (upd G a o) H)(wn:sn.owns=false)
  (r:SLi X.K ad (upd G a o) H sn (some (.ref a))) (wr:sn.isRk=false:=by rfl):SS X ad G₀ (upd G a o) H (ρ.set i sn) σ:=by
 have h2:G a=none:=(S.sl.own_at e w₀ h1).1
 have x:Same G (upd G a o):=Same.upd_new h2;have Y:i<ρ.length:=(ax.mp e).1
 have l: ∀(j:Nat) (sl:Slot),(ρ.set i sn)[j]? =some sl->(j=i/\sl=sn)\/(j≠i/\ρ[j]? =some sl):=λj sl e=>by
  by_cases z:j=i
  ·subst z;rw[bh Y]at e;cases e;exact .inl ⟨rfl,rfl⟩
  ·rw[ba (Ne.symm z)]at e;exact .inr ⟨z,e⟩
 refine⟨hst,⟨by show(ρ.set i _).length=_;rw[List.length_set];exact S.sl.len,λj sl f=>?_⟩,λj t b f w h=>?_,λj T t zs b L N Q I s n=>?_,S.rs.re wr e w₀⟩
 ·rcases l j sl f with ⟨q1,Z⟩|⟨z,f⟩
  ·rw[q1,Z];exact⟨some (.ref a),h1,r⟩
  ·obtain⟨W,s,n⟩:=S.sl.at_ j sl f;refine⟨W,s,?_⟩
   cases sl with
   |no=>trivial
   |sh d=>obtain⟨v,c,g⟩:=n;exact⟨v,c,g.mono x⟩
   |ow t=>
    obtain⟨b,u,c,g,B,A⟩:=n
    have y:b≠a:=λq=>by
     subst q;subst c;exact z (S.dj j i _ _ b f e rfl w₀ s h1)
    exact⟨b,u,c,by rw[aC y];exact g,B,A.mono x⟩
   |dc t=>
    obtain⟨b,u,c,g,B,A,O⟩:=n
    have y:b≠a:=λq=>by
     subst q;subst c;exact z (S.dj j i _ _ b f e rfl w₀ s h1)
    exact⟨b,u,c,by rw[aC y];exact g,B,A.mono x,O⟩
   |sd t=>
    obtain⟨b,u,c,g,B,A,O⟩:=n
    have y:b≠a:=λq=>by
     subst q;subst c;exact z (S.dj j i _ _ b f e rfl w₀ s h1)
    exact⟨b,u,c,by rw[aC y];exact g,B,A.mono x,O⟩
   |rk C r=>
    obtain⟨p,J,d,E,M,c,g⟩:=n;have ft:gJ H ρ σ j [p,J,d,E,M]:=⟨C,r,p,J,d,E,M,f,by rw[s,c],g.ins,rfl⟩
    exact⟨p,J,d,E,M,c,g.shr (λm=>S.rs.ow j _ ft a m i sl₀ e w₀ h1) x⟩
 ·rcases l j _ f with ⟨_,z⟩|⟨z,f⟩
  ·rw[z,wn]at w;exact(bd w).elim
  ·exact S.ow j t b f w h
 ·rcases l j _ L with ⟨_,z⟩|⟨z,L⟩
  ·rw[z,wn]at Q;exact(bd Q).elim
  ·rcases l T _ N with ⟨_,U⟩|⟨U,N⟩
   ·rw[U,wn]at I;exact(bd I).elim
   ·exact S.dj j T t zs b L N Q I s n
end
section
variable{X:Cx}{ad:Ad}{cb:ce}{s:Shared}{σ:St}{H G G₀:Hp}{ρ:Rho}{E:St->Nat->Hp->Prop}{e:Expr}{f:F}{st:Stmt}
theorem SS.updG{i:Nat}{sl₀ sn:Slot}{a:Addr}{o:HO}(S:SS X ad G₀ G H ρ σ)(e:ρ[i]? =some sl₀)(w₀:sl₀.owns=true)(h1:σ[i]? =some (some (.ref a)))(r:SLi X.K ad G (upd H a o) sn (some (.ref a)))(wr:sn.isRk=false:=by rfl):SS X ad G₀ G (upd H a o) (ρ.set i sn) σ:=by
 have n0:X.H₀ a=none:=S.ow i sl₀ a e w₀ h1
 have h2:G a=none:=(S.sl.own_at e w₀ h1).1
 have hl:i<ρ.length:=(ax.mp e).1
 have l: ∀(j:Nat) (sl:Slot),(ρ.set i sn)[j]? =some sl->(j=i/\sl=sn)\/(j≠i/\ρ[j]? =some sl):=λj sl e=>by
  by_cases z:j=i
  ·subst z;rw[bh hl]at e;cases e;exact .inl ⟨rfl,rfl⟩
  ·rw[ba (Ne.symm z)]at e;exact .inr ⟨z,e⟩
 refine⟨p8 S.st n0 h2,⟨by rw[List.length_set];exact S.sl.len,λj sl Y=>?_⟩,λj B b Y w h=>?_,λj W B U b e1 e2 w1 w2 u t=>?_,?_⟩
 ·rcases l j sl Y with ⟨q1,y⟩|⟨z,g⟩
  ·rw[q1,y];exact⟨some (.ref a),h1,r⟩
  ·obtain⟨ov,u,t⟩:=S.sl.at_ j sl g;refine⟨ov,u,?_⟩
   cases sl with
   |no=>trivial
   |sh d=>exact t
   |ow B=>
    obtain⟨b,n,s,x,T,Q⟩:=t
    have E:b≠a:=λq=>by
     subst q;subst s;exact z (S.dj j i _ _ b g e rfl w₀ u h1)
    exact⟨b,n,s,x,by rw[aC E];exact T,Q⟩
   |dc B=>
    obtain⟨b,n,s,x,T,Q⟩:=t
    have E:b≠a:=λq=>by
     subst q;subst s;exact z (S.dj j i _ _ b g e rfl w₀ u h1)
    exact⟨b,n,s,x,by rw[aC E];exact T,Q⟩
   |sd B=>
    obtain⟨b,n,s,x,T,Q⟩:=t
    have E:b≠a:=λq=>by
     subst q;subst s;exact z (S.dj j i _ _ b g e rfl w₀ u h1)
    exact⟨b,n,s,x,by rw[aC E];exact T,Q⟩
   |rk C r=>
    obtain⟨p,J,d,I,N,s,x⟩:=t;have Z:gJ H ρ σ j [p,J,d,I,N]:=⟨C,r,p,J,d,I,N,g,by rw[u,s],x.ins,rfl⟩
    exact⟨p,J,d,I,N,s,x.ups (λm=>S.rs.ow j _ Z a m i sl₀ e w₀ h1)⟩
 ·rcases l j _ Y with ⟨q1,y⟩|⟨z,g⟩
  ·rw[q1,h1]at h;cases h;exact n0
  ·exact S.ow j B b g w h
 ·rcases l j _ e1 with ⟨q1,_⟩|⟨z,g⟩
  ·rcases l W _ e2 with ⟨y,_⟩|⟨z',A⟩
   ·rw[q1,y]
   ·rw[q1]at u ⊢;exact S.dj i W _ U b e A w₀ w2 u t
  ·rcases l W _ e2 with ⟨y,_⟩|⟨z',A⟩
   ·rw[y]at t ⊢;exact S.dj j i B _ b g e w1 w₀ u t
   ·exact S.dj j W B U b g A w1 w2 u t
 ·refine RS.re (H:=upd H a o) ?_ wr e w₀
  have bk: ∀{k:Nat} {v:List Addr},gJ (upd H a o) ρ σ k v->gJ H ρ σ k v:=λ{k v} f=>by
   obtain⟨C,r,p,J,d,I,N,g,A,f3,f4⟩:=f;obtain⟨p',M,d',L,O,q1,y⟩:=S.sl.rk g;rw[A]at q1;cases q1;have Z:gJ H ρ σ k [p,M,d',L,O]:=⟨C,r,p,M,d',L,O,g,A,y.ins,rfl⟩;have E:p≠a:=λz=>S.rs.ow k _ Z p (by simp) i sl₀ e w₀ (by rw[z];exact h1)
   rw[aC E]at f3;exact⟨C,r,p,J,d,I,N,g,A,f3,f4⟩
  exact⟨λk v f=>S.rs.h0 k v (bk f),λk v f=>S.rs.ow k v (bk f),λk k' v ab c f f'=>S.rs.rr k k' v ab c (bk f) (bk f')⟩
theorem HR.rep{K:PySem.W.Frag}(h:HR K ad G kvs es):es.map (·.1)=(kvs.map (·.1)).map Sum.inr/\aJ K ad G (kvs.map (·.2)) (es.map (·.2)):=by
 unfold HR at h
 induction h with
 |nil=>exact⟨rfl,aJ.nil⟩
 |@cons p q d e h t c=>
  obtain⟨b,a⟩:=c;refine⟨?_,aJ.cons h.2 a⟩;rw[List.map_cons,List.map_cons,List.map_cons,h.1,b]
theorem EK{K:PySem.W.Frag}(g:G a=some (.frz o (.dK es)))(h:HR K ad G kvs es):Rep K ad G (.dct (kvs.map (·.1)) (kvs.map (·.2))) (.ref a):=by
 obtain⟨c,b⟩:=h.rep;unfold Rep;exact⟨a,o,es,rfl,g,c,b⟩
theorem Inv.frzD(I:Inv X cb σ H s)(e:H a=some (.dK es)): ∃o,Inv X cb σ (upd H a (.frz o (.dK es))) s:=by
 obtain⟨z,d,f,b,dd⟩:=xN I.hok e;obtain⟨o,c⟩: ∃o,s.heap.get? a=some o:=let ⟨o,_,_,h,_⟩:=dd;⟨o,h⟩;exact⟨o,iY (h':=s.heap) (t':=s.toks) I (by rw[e];exact True.intro) ⟨rfl,λ_ _=>rfl⟩ ⟨o,c⟩ ⟨c,mK z d b dd⟩⟩
theorem SS.frz1(S:SS X ad G₀ G H ρ σ)(I:Inv X cb σ H s): ∃G' H',SS X ad G₀ G' H' (SK.frz1 i ρ) σ/\Same G G'/\Inv X cb σ H' s:=by
 unfold SK.frz1
 cases e:ρ[i]? with
 |none=>exact⟨G,H,S,Same.refl _,I⟩
 |some sl=>
  cases sl with
  |no=>exact⟨G,H,S,Same.refl _,I⟩
  |sd d=>exact⟨G,H,S,Same.refl _,I⟩
  |rk _ _=>exact⟨G,H,S,Same.refl _,I⟩
  |sh d=>exact⟨G,H,S,Same.refl _,I⟩
  |dc b=>
   obtain⟨a,l,c,f,h,j,u⟩:=S.sl.dc e;obtain⟨o,r⟩:=Inv.frzD I h;have v:i<ρ.length:=(ax.mp e).1;have n:SS X ad G₀ G (upd H a (sdO a (o,l))) (ρ.set i (.sd b)) σ:=S.updG e rfl c ⟨a,(o,l),rfl,f,aH,j,u⟩
   have t:(ρ.set i (.sd b))[i]? =some (.sd b):=bh v
   have g:Same G (upd G a (sdO a (o,l))):=Same.upd_new f;have q:=n.shareG (sn:=Slot.sh (D.dct (b.map λp:Str×D=>p.1) (b.map λp:Str×D=>p.2))) t rfl c aH (n.st.shareO (S.ow i _ a e rfl c) f aH) rfl ⟨.ref a,rfl,EK aH (j.mono g)⟩
   rw[List.set_set]at q;exact⟨_,_,q,g,r⟩
  |ow x=>
   obtain⟨a,m,c,f,h,j⟩:=S.sl.ow e;have g:Same G (upd G a (.lst m)):=Same.upd_new f;exact⟨_,H,S.shareG e rfl c h (S.st.share (S.ow i _ a e rfl c) f h) rfl ⟨.ref a,rfl,by unfold Rep;exact⟨a,m,rfl,SqL.of aH,j.mono g⟩⟩,g,I⟩
theorem SS.frz{is:List Nat}: ∀{ρ:Rho} {G H:Hp},SS X ad G₀ G H ρ σ->Inv X cb σ H s->∃G' H',SS X ad G₀ G' H' (SK.frz is ρ) σ/\Same G G'/\Inv X cb σ H' s:=by
 induction is with
 |nil=>intro ρ G H S I;exact⟨G,H,S,Same.refl _,I⟩
 |cons i is f=>
  intro ρ G H S I;obtain⟨l,m,g,b,d⟩:=S.frz1 (i:=i) I;obtain⟨j,a,h,c,e⟩:=f g d;exact⟨j,a,h,b.trans c,e⟩
theorem iG(h1:MS X ad Z st g):MS X ad Z st (eY is g):=by
 cases is with
 |nil=>exact h1
 |cons i is=>
  rintro f s d H j I ⟨a,G,n,E,S,c,b⟩;obtain⟨h,l,m,_,e⟩:=S.frz (is:=i::is) I;exact h1 f s d l j e ⟨a,h,_,E,m,c,b⟩
theorem SS.upd(S:SS X ad G₀ G H ρ σ)(e:ρ[i]? =some (.ow xs))(h1:σ[i]? =some (some (.ref a)))(h2:G a=none)(r:aJ X.K ad G ys ws):SS X ad G₀ G (L2.upd H a (.lst ws)) (ρ.set i (.ow ys)) σ:=
 S.updG e rfl h1 ⟨a,ws,rfl,h2,aH,r⟩
theorem uJ(hs:starEach [e] X.env=(false,eval e X.env)::starEach [] X.env):((backTo cpos (starEach [e] X.env)).all (fun x=> !x.1)&&(backToKw cpos (keywordEach [] X.env)).all (fun x=>x.1.isSome)
   &&decide ([e].length+([]:List Keyword).length+(if([]:List Keyword).isEmpty then 0 else 1)<30))=true:=by
 rw[hs];rfl
structure ItG(X:Cx)(ad:Ad)(J:It)(G:Hp)(ds:List D):Prop where
 go: ∀(i:Nat) (G1 H1:Hp) (d:D),Same G G1->Same G1 H1->ds[i]? =some d->J.go i H1/\∀x H2,J.yld i H1 x H2->∃G2,Step G1 H1 G2 H2/\Rep X.K ad G2 d x
 stop: ∀(G1 H1:Hp),Same G G1->Same G1 H1->J.stop ds.length H1
def IGK(X:Cx)(ad:Ad)(G H:Hp)(r:R)(W:It->Hp->Prop)(E:Nat->Hp->Prop):Prop:=match r with
 |.ok d=>∃ds,mH d=some ds/\∀J G' H',Step G H G' H'->ItG X ad J G' ds->W J H'
 |.ow xs=>∀J G' H',Step G H G' H'->ItG X ad J G' xs->W J H'
 |.ex c=>∀G' H',Step G H G' H'->E c H'
 |.bad=>False
def tIG(X:Cx)(ad:Ad)(f:F):TI:=λσ H W=>∃G ρ E,Same G H/\SL X.K ad G H ρ σ/\XP X ad σ E/\IGK X ad G H (f ρ) W E
abbrev MIG(X:Cx)(ad:Ad)(tg e:Expr)(f:F):Prop:=PI X tg e (tIG X ad f)
theorem EL(hq:SqT X.K G a vs)(r:aJ X.K ad G ds vs):ItG X ad (Itt X.K a) G ds:=by
 refine⟨λi g h d b c e=>?_,λg h b c=>⟨vs,c.seqT (b.seqT hq),by rw[r.length];exact ai _⟩⟩
 obtain⟨v,f,j⟩:=r.get e;refine⟨⟨vs,v,c.seqT (b.seqT hq),f⟩,?_⟩;rintro x l ⟨rfl,y⟩
 have:=y vs (c.seqT (b.seqT hq))
 rw[f]at this;cases this;exact⟨g,Step.refl c,j.mono b⟩
theorem EM(hq:SqL X.K G a vs)(r:aJ X.K ad G ds vs):ItG X ad (Itl X.K a) G ds:=by
 refine⟨λi g h d b c e=>?_,λg h b c=>⟨vs,c.seq (b.seq hq),by rw[r.length];exact ai _⟩⟩
 obtain⟨v,f,j⟩:=r.get e;refine⟨⟨vs,v,c.seq (b.seq hq),f⟩,?_⟩;rintro x l ⟨rfl,y⟩
 have:=y vs (c.seq (b.seq hq))
 rw[f]at this;cases this;exact⟨g,Step.refl c,j.mono b⟩
theorem EN{lo:Int}:ItG X ad (Itr lo n) G ((List.range n).map λ(i:Nat)=>D.int (lo+(i:Int))):=by
 refine⟨λi c g d h f e=>?_,λc g h f=>by simp[Itr]⟩
 rw[List.getElem?_map]at e
 cases q:(List.range n)[i]? with
 |none=>rw[q]at e;cases e
 |some j=>
  rw[q]at e;obtain⟨b,a⟩:=ax.mp q;rw[List.length_range]at b;rw[List.getElem_range]at a;subst a;cases e;refine⟨b,?_⟩;rintro x l ⟨rfl,rfl⟩;exact⟨c,Step.refl f,bQ⟩
theorem EO{a:Addr}{o:Obj}{ks:List Str}{es:List (Key×V)}(ha:G a=some (.frz o (.dK es)))(h:es.map (·.1)=ks.map Sum.inr):ItG X ad (Itk a o es) G (ks.map D.str):=by
 have n:es.length=ks.length:=by have:=congrArg List.length h;simpa using this
 refine⟨λi f m d c b e=>?_,λf m c b=>⟨by rw[ao,n];exact ai _,b _ _ (c _ _ ha)⟩⟩
 obtain⟨q,q1,x,j,rfl⟩:=yE h e;refine⟨⟨(ax.mp q1).1,b _ _ (c _ _ ha)⟩,λv p l=>?_⟩
 obtain⟨rfl,r,g,rfl⟩:=l;rw[q1]at g;cases g;rw[j];exact⟨f,Step.refl b,by unfold Rep;rfl⟩
theorem sF{tg a:Expr}{f:F}(ha:ME X ad a f):MIG X ad tg a f:=by
 rintro L s C H W I ⟨G,Z,E,hG,hS,hx,y⟩
 have Q: ∀(d:D) (t:List D),items d=some t->(∀J G' H',Step G H G' H'->ItG X ad J G' t->W J H')->∀u g v h i,Inv X L C h g->bG v u->Step G H i h->Rep X.K ad i d v->wpAny (model X.prog X.w) X.A (pyIter u) (PIE X L C tg W) X.xe g:=by
  intro d t e M u g v h i j x r q;obtain⟨p,vs,rfl,B,rq⟩:=pX e q
  cases (show u=Value.ref p from x)
  rcases B with B|B
  ·obtain⟨O,rv,pt,hz⟩:=j.tuple (r.gh.seqT B);refine wpAny_pyIter_tuple (show g.heap.IsTuple p O.toArray from pt) ?_
   refine⟨g.heap.objs.size,[g.heap.objs.size],_,_,h,rfl,j.kept (t':=g.toks) λb o e=>ae _ e,mC p _,⟨_,af _ rfl,rfl,rfl⟩,λb S=>?_,M _ i h r (EL B rq)⟩
   have e:b=g.heap.objs.size:=by simpa using S
   subst e;exact j.fpOk (ai _) (j.hok.fresh (ai _))
  ·obtain⟨O,rv,pt,hz⟩:=j.list (r.gh.seq B);refine wpAny_pyIter_list pt.isList ?_;refine⟨g.heap.objs.size,[g.heap.objs.size],_,_,h,rfl,j.kept (t':=g.toks) λb o e=>ae _ e,o9 p _,⟨_,af _ rfl,rfl,rfl⟩,λb S=>?_,M _ i h r (EM B rq)⟩
   have e:b=g.heap.objs.size:=by simpa using S
   subst e;exact j.fpOk (ai _) (j.hok.fresh (ai _))
 have N: ∀(d:D) (t:List D),mH d=some t->(∀J G' H',Step G H G' H'->ItG X ad J G' t->W J H')->∀u g v h i,Inv X L C h g->bG v u->Step G H i h->Rep X.K ad i d v->wpAny (model X.prog X.w) X.A (pyIter u) (PIE X L C tg W) X.xe g:=by
  intro d t e M u g v h i j x r q
  by_cases Y: ∃U vs,d= .dct U vs
  ·obtain⟨U,vs,rfl⟩:=Y
   have z:(if U.length<=1000 then some (U.map D.str)else none)=some t:=e
   by_cases hl:U.length<=1000
   ·rw[if_pos hl]at z;cases z;unfold Rep at q;obtain⟨a,o,es,rfl,ga,a1,a2⟩:=q
    cases (show u=Value.ref a from x)
    obtain⟨Y,ak,ep,ab,da,ar,T⟩:=uF j (r.gh _ _ ga);refine wpAny_pyIter_dict (knd:=bE X.prog X.w) Y da ?_;refine⟨g.heap.objs.size,[g.heap.objs.size],_,_,h,rfl,j.kept (t':=g.toks) λb o e=>ae _ e,uG _,⟨ep,ar,T,_,af _ rfl,rfl,by rw[KV.length ab];rfl⟩,λb S=>?_,M _ i h r (EO ga a1)⟩
    have e:b=g.heap.objs.size:=by simpa using S
    subst e;exact j.fpOk (ai _) (j.hok.fresh (ai _))
   ·rw[if_neg hl]at z;cases z
  ·have z:items d=some t:=by
    cases d<;>first|exact e|exact absurd ⟨_,_,rfl⟩ Y
   exact Q d t z M u g v h i j x r q
 cases e:f Z with
 |ok d=>
  rw[e]at y;obtain⟨t,e2,M⟩:=y;exact L2.thn (ha L s C H (λv h=>∃i,Step G H i h/\Rep X.K ad i d v) I ⟨G,Z,E,hG,hS,hx,by rw[e];exact λv i h r q=>⟨i,r,q⟩⟩) λu g ⟨v,h,j,x,i,r,q⟩=>N d t e2 M u g v h i j x r q
 |ow l=>
  rw[e]at y;exact L2.thn (ha L s C H (λv h=>∃i,Step G H i h/\Rep X.K ad i (.lst l) v) I ⟨G,Z,E,hG,hS,hx,by rw[e];exact λp vs i h r n m z q=>dA r n m z q⟩) λu g ⟨v,h,j,x,i,r,q⟩=>N (.lst l) l rfl y u g v h i j x r q
 |ex c=>
  rw[e]at y;exact L2.thn (ha L s C H (λv h=>False) I ⟨G,Z,E,hG,hS,hx,by rw[e];exact y⟩) λu g ⟨v,h,j,x,q⟩=>q.elim
 |bad=>
  rw[e]at y;exact az y
theorem yH{tg a:Expr}{f:F}(hg:L2.Gl X "range")(hm:X.mg "range"=none)(ha:ME X ad a f)(hs:starEach [a] X.env=(false,eval a X.env)::starEach [] X.env):MIG X ad tg (.Call (.Name "range" p) [a] [] pos) (cZ f):=by
 rintro x s m H W I ⟨G,n,E,y,z,u,b⟩;refine pA (ta:=rR (tE X ad f) GQ) hg hm (cN ha eL hs) hs x s m H W I ?_;show tE X ad f m H λv h=>∃j:Int,[v]=[.int j]/\ -(2^62)<=j/\j<2^62/\W (Itr 0 j.toNat) h
 refine⟨G,n,E,y,z,u,?_⟩;unfold cZ at b
 cases e:f n with
 |ok d=>
  rw[e]at b
  cases d<;>try exact az b
  rename_i i
  have g:IGK X ad G H (if -100000<=i/\i<=100000 then .ok (.lst (rH i.toNat))else .bad) W E:=b
  by_cases o: -100000<=i/\i<=100000
  ·rw[if_pos o]at g;obtain⟨B,e,A⟩:=g;cases e;intro v t h q r;unfold Rep at r;subst r;refine⟨i,rfl,by lia,by lia,A _ t h q ?_⟩
   rw[yG];exact EN
  ·rw[if_neg o]at g;exact g.elim
 |ow l=>rw[e]at b;exact az b
 |ex c=>rw[e]at b;exact b
 |bad=>rw[e]at b;exact b
end
def gIs:List Nat->TGs
 |[]=>KP
 |i::is=>DV (jQ i) (gIs is)
def Bx:List Nat->List V->St->St
 |i::is,v::vs,σ=>Bx is vs (σ.set i (some v))
 |_,_,σ=>σ
theorem uK: ∀{is:List Nat} {vs:List V} {σ:St} {H:Hp} {Q:St->Hp->Prop},vs.length=is.length->Q (Bx is vs σ) H->gIs is vs σ H Q
 |[],[],_,_,_,_,h=>⟨rfl,h⟩
 |i::is,v::vs,σ,H,Q,e,h=>⟨v,vs,rfl,uK (is:=is) (vs:=vs) (by simpa using e) h⟩
 |[],_::_,_,_,_,e,_=>by simp at e
 |_::_,[],_,_,_,e,_=>by simp at e
def gTs(K:PySem.W.Frag)(k:Nat)(is:List Nat):TG:=match k,is with
 |0,[i]=>jQ i
 |k,is=>Ht K is.length (gIs is)
def IA(X:Cx)(x:Str)(i:Nat):Prop:=X.N[i]? =some x/\Loc X.env.scope x/\(X.fn x=true\/X.env.scope.names.lookup x=some .local)
inductive NmsOk(X:Cx):List Str->List Nat->Prop
 |nil:NmsOk X [] []
 |cons {x:Str} {i:Nat} {xs:List Str} {is:List Nat}:IA X x i->NmsOk X xs is->NmsOk X (x::xs) (i::is)
section
variable{X:Cx}{ad:Ad}{Z:(St->Nat->Hp->Prop)->Prop}{σ:St}{H G G₀:Hp}{ρ:Rho}{D':Ends}{E:St->Nat->Hp->Prop}{e tg:Expr}{f:F}{g h:FS}
theorem NmsOk.len: ∀{xs:List Str} {is:List Nat},NmsOk X xs is->is.length=xs.length
 |_,_,.nil=>rfl
 |_,_,.cons _ h=>by simp[NmsOk.len h]
theorem yI(hN:X.N.Nodup): ∀{es:List Expr} {xs:List Str} {is:List Nat},dY (λ(e:Expr)=>match e with|.Name x _=>some x|_=>none) es=some xs->NmsOk X xs is->PGs X es (gIs is)
 |[],xs,is,e,h=>by
  cases e;cases h;exact wU
 |a::es,xs,is,e,h=>by
  unfold dY at e
  cases a<;>try (cases e)
  rename_i x g
  simp only at e
  obtain⟨r,c,d⟩:=zMd e;subst d
  cases h with
  |cons b f=>exact tG (kH hN b.1 b.2.1 b.2.2) (yI hN c f) rfl
theorem i4: ∀{es:List Expr} {xs:List Str},dY (λ(e:Expr)=>match e with|.Name x _=>some x|_=>none) es=some xs->(assignEach es X.env).length=xs.length/\(assignEach es X.env).findIdx? (·.1)=none
 |[],xs,e=>by cases e;exact⟨rfl,rfl⟩
 |a::es,xs,e=>by
  unfold dY at e
  cases a<;>try (cases e)
  rename_i x b
  simp only at e
  obtain⟨r,c,f⟩:=zMd e;subst f;obtain⟨d,g⟩:=i4 c
  have q:assignEach (.Name x b::es) X.env=(false,assign (.Name x b) X.env)::assignEach es X.env:=rfl
  rw[q];refine⟨by simp[d],?_⟩
  rw[List.findIdx?_cons];simp[g]
theorem EQ(hc:X.calm=true)(hN:X.N.Nodup)(e:cO tg=some (xs,k))(h:NmsOk X xs is):PG X tg (gTs X.K k is)/\(k=0/\is.length=1\/k≠0/\k=is.length):=by
 cases tg<;>try (cases e)
 ·rename_i x d
  cases h with
  |cons b m=>
   cases m;exact⟨kH hN b.1 b.2.1 b.2.2,.inl ⟨rfl,rfl⟩⟩
 ·rename_i o j d;unfold cO at e;obtain⟨l,c,a⟩:=zBd e
  by_cases f:2<=l.length
  ·rw[if_pos f]at a;cases a;obtain⟨q1,g⟩:=i4 (X:=X) c;have hk:=h.len;refine⟨?_,.inr ⟨by lia,hk.symm⟩⟩
   have P:=CN (pos:=d) (k:=j) (n:=is.length) hc (yI hN c h) (by rw[q1,hk]) g
   have:gTs X.K xs.length is=Ht X.K is.length (gIs is):=by
    unfold gTs
    cases is with
    |nil=>simp at hk;lia
    |cons i is=>
     cases p:xs.length with
     |zero=>lia
     |succ n=>rfl
   rw[this];exact P
  ·rw[if_neg f]at a;cases a
theorem SS.setN: ∀{is:List Nat} {ds:List D} {vs:List V} {ρ:Rho} {σ:St},SS X ad G₀ G H ρ σ->aJ X.K ad G ds vs->SS X ad G₀ G H (SK.setN is ds ρ) (Bx is vs σ)
 |[],ds,vs,ρ,σ,S,r=>by
  have a:SK.setN [] ds ρ=ρ:=by cases ds<;>rfl
  have c:Bx [] vs σ=σ:=by cases vs<;>rfl
  rw[a,c];exact S
 |i::is,[],vs,ρ,σ,S,r=>by
  unfold aJ at r;subst r;exact S
 |i::is,d::ds,vs,ρ,σ,S,r=>by
  unfold aJ at r;obtain⟨v,b,rfl,f,e⟩:=r;exact SS.setN (is:=is) (ds:=ds) (vs:=b) (ρ:=ρ.set i (.sh d)) (σ:=σ.set i (some v)) (S.set f) e
theorem Di{Q:St->Hp->Prop}(hk:k=0/\is.length=1\/k≠0/\k=is.length)(e:tQ is (k==0) d ρ=some ρ1)(S:SS X ad G₀ G H ρ σ)(r:Rep X.K ad G d v)(q: ∀σ1,SS X ad G₀ G H ρ1 σ1->Q σ1 H):gTs X.K k is v σ H Q:=by
 rcases hk with ⟨rfl,c⟩|⟨c,p⟩
 ·obtain⟨i,rfl⟩:=List.length_eq_one_iff.mp c;cases e;exact q _ (S.set r)
 ·have n:(k==0)=false:=by simpa using c
  rw[n]at e
  have o:tQ is false d ρ=match(generalizing:=false) d with|.tup f=>if f.length=is.length then some (SK.setN is f ρ)else none|_=>none:=by
   cases is with
   |nil=>rfl
   |cons _ _=>rfl
  have b:=o.symm.trans e
  have j:gTs X.K k is=Ht X.K is.length (gIs is):=by
   unfold gTs
   cases k with
   |zero=>exact absurd rfl c
   |succ k=>rfl
  rw[j]
  cases d<;>try (cases b)
  rename_i f
  simp only at b
  by_cases g:f.length=is.length
  ·rw[if_pos g]at b;cases b;unfold Rep at r;obtain⟨a,l,rfl,m,h⟩:=r;exact⟨a,l,rfl,S.st.gh.seqT m,by rw[h.length,g],uK (by rw[h.length,g]) (q _ (S.setN h))⟩
  ·rw[if_neg g]at b;cases b
theorem ER{α:Type}{ds:List α}{d:α}(e:ds[i]? =some d):ds.drop i=d::ds.drop (i+1):=by
 obtain⟨h,rfl⟩:=ax.mp e;exact List.drop_eq_getElem_cons h
theorem uL{J:It}{G' H':Hp}{ds:List D}{k:Nat}{is:List Nat}(hk:k=0/\is.length=1\/k≠0/\k=is.length)(S:SS X ad G₀ G' H' ρ σ)(hx:XA X ad Z E)(it:ItG X ad J G' ds)(hr:OKo X ad G₀ (iW (tQ is (k==0)) g ds ρ) D' E):
  ∃W:Nat->Nat->St->Hp->Prop,(∃m,W 0 m σ H')/\∀i m σ H,W i m σ H->
   (J.stop i H/\D'.nx σ H)\/(J.go i H/\∃N:St->Hp->Prop,(∀σ' H',N σ' H'->∃m',m'<m/\W (i+1) m' σ' H')/\∀x H',J.yld i H x H'->gTs X.K k is x σ H' λσ2 H2=>tS X ad Z g {D' with nx:=N,ct:=N,bk:=D'.nx} σ2 H2):=by
 refine⟨λi m σ H=>m=ds.length-i/\i<=ds.length/\∃G ρ,SS X ad G₀ G H ρ σ/\Same G' G/\OKo X ad G₀ (iW (tQ is (k==0)) g (ds.drop i) ρ) D' E,⟨_,rfl,bt _,G',ρ,S,Same.refl _,hr⟩,?_⟩
 rintro i m z t ⟨rfl,Y,p,v,o,n,e⟩
 cases q:ds[i]? with
 |none=>
  have U:ds.length<=i:=List.getElem?_eq_none_iff.mp q
  have:i=ds.length:=by lia
  subst this;refine .inl ⟨it.stop p t n o.st.gh,?_⟩;rw[List.drop_length]at e;exact e z p t o
 |some d=>
  have u:i<ds.length:=(ax.mp q).1;obtain⟨go,I⟩:=it.go i p t d n o.st.gh q;refine .inr ⟨go,λσ' H'=>∃G ρ,SS X ad G₀ G H' ρ σ'/\Same G' G/\OKo X ad G₀ (iW (tQ is (k==0)) g (ds.drop (i+1)) ρ) D' E,λσ' H' ⟨T,s,M,Q,C⟩=>⟨_,by lia,rfl,u,T,s,M,Q,C⟩,λx H2 y=>?_⟩
  obtain⟨B,st,O⟩:=I x H2 y;rw[ER q]at e;unfold iW at e
  cases A:tQ is (k==0) d v with
  |none=>rw[A]at e;exact e.elim
  |some a=>
   rw[A]at e;have L:=o.step st;refine Di hk A L O λσ2 j=>?_
   refine⟨B,B,a,E,j.here,hx,?_⟩
   have b:OKo X ad G₀ (match g a with
    |.nx a=>iW (tQ is (k==0)) g (ds.drop (i+1)) a
    |.ct a=>iW (tQ is (k==0)) g (ds.drop (i+1)) a
    |.bk a=>.nx a
    |.rt r=>.rt r
    |.ex c a=>.ex c a) D' E:=e
   cases l:g a with
   |nx f=>
    rw[l]at b;exact λσ G H h=>⟨G,f,h.up j.st,(n.trans st.sg).trans h.st.sg,b⟩
   |ct f=>
    rw[l]at b;exact λσ G H h=>⟨G,f,h.up j.st,(n.trans st.sg).trans h.st.sg,b⟩
   |bk f=>
    rw[l]at b;exact λσ G H h=>b σ G H (h.up j.st)
   |ex c f=>
    rw[l]at b;exact λσ G H h=>b σ G H (h.up j.st)
   |rt r=>
    rw[l]at b
    have:=b.rebase j.st
    cases r<;>exact this
theorem IB{st:Stmt}:MS X ad Z st Kt:=λ_ _ _ _ _ _ ⟨_,_,_,_,_,_,a⟩=>az a
end
section
variable{X:Cx}{ad:Ad}{s3:Shared}{σ σ2:St}{H3:Hp}{ρ:Rho}{pos pos' cpos:Pos}{elt it tg:Expr}{ifs:List Expr}{fi fe:F}{fc:Option F}{sc:Scope}{k:Nat}{cs:List Nat}{xs:List Str}
theorem sH(I3:Inv X cb σ H3 s3)(I2:Inv X cb σ2 H' s2)(hf:H' s3.heap.objs.size=none)(sb:Heap.SameBut s3.heap.objs.size s2.heap h'):Inv X cb σ2 H' {s2 with heap:=h'}:=by
 refine I2.turned (t':=s2.toks) (it:=s3.heap.objs.size) (λb o d e=>(sb.2 b d).trans e) hf ?_ (.inr I3.sz) (λx c h z=>?_) λp g z=>?_
 ·intro z;obtain⟨m,f,_⟩:=I3.loc;obtain⟨o,_,_,a,_⟩:=f;exact absurd (ag a) (by rw[<-z];exact Nat.lt_irrefl _)
 ·obtain⟨v,o,a,_⟩:=I3.cell x c h;exact absurd (ag a) (by rw[z];exact Nat.lt_irrefl _)
 ·obtain⟨a,_⟩:=I3.pin p g;exact absurd (ag a) (by rw[z];exact Nat.lt_irrefl _)
theorem By(n:h.Ns C m)(sb:Heap.SameBut a h h')(ne:C≠a):h'.Ns C m:=by
 obtain⟨o,b,c,d,r⟩:=n;exact⟨o,b,c,(sb.2 C ne).trans d,r⟩
theorem Bz{U:Prop}(hw:U->∀ρ y,fe ρ≠ .ok y){C:Ctx}{i:Nat}{x:Str}(hN:X.N.Nodup)(hi:IA X x i)(hc:X.calm=true)(S:CompSc X C sc xs cs)(hit:MI X ad tg it fi)(hset: ∀a b c,it≠ .Set a b c)(hxs:xs.length=if k=0 then 1 else k)
  (hg: ∀fp s3 H3 pins',PG (cX X (xs++aX sc) sc s3 H3 fp pins') tg (gTg X.K k)) (hts: ∀fp s3 H3 pins',MTs (cX X (xs++aX sc) sc s3 H3 fp pins') ad ifs fc) (he: ∀fp s3 H3 pins',ME (cX X (xs++aX sc) sc s3 H3 fp pins') ad elt fe)
  (hs:swapsWith (.ListComp elt [⟨tg,it,ifs,0⟩] sc cpos) (some (.Name x pos')) pos.line X.env=pure true):
  PS X (.Assign [.Name x pos'] (.ListComp elt [⟨tg,it,ifs,0⟩] sc cpos) pos) (CO (tEW X ad U (bL k cs fi fc fe)) (jQ i)):=by
 rintro B s n H D' I ⟨G,ρ,E,hG,hS,r,hr⟩;rw[exec_Assign_Name_used _ _ _ _ hs]
 have O:closureFor sc X.env=pure (kX X.env.cells sc.names []):=iZ λx r=>by
  obtain⟨c,h⟩:=I.ok.has x (S.fre x r);rw[h];rfl
 refine aa (wpAny_standAt (aa ?_));show wpAny _ X.A (do let _<-comprehension (.ListComp elt [⟨tg,it,ifs,0⟩] sc cpos) sc X.env _ (newList []) false (eval it X.env) (some (assign (.Name x pos') X.env))) _ _ s
 refine aa (wpAny_mono (wpAny_comprehension_free (use:=some (assign (.Name x pos') X.env)) (Q:=λ_ p=>SP X B D' .next p) rfl (EC hset) O S.kind S.names ?_) (λ_ p hq=>ac (ac hq)) λ_ _ e=>e)
 refine L2.thn (hit B s n H _ I ⟨G,ρ,E,hG,hS,r,Ix (W:=λJ j=>∃f g all,Step G H f j/\ItH X ad J f j g/\bJ (dD k (l6 cs ρ) fc fe) g=some all/\RKW X.K ad U f j (.ow all) (λv H1=>jQ i v n H1 D'.nx) E) hr λJ f j g all a b c d=>⟨f,g,all,a,b,c,d⟩⟩) λv s1 h1=>
  L2.thn h1 λar s2 M=>?_
 obtain⟨ap,fp,tn,J,j,e,I2,T,st2,f2,f,g,all,sp,hit,al,L⟩:=M;subst e;obtain⟨σc,l1,l2,l3⟩:=mR (xs:=xs) (sc:=sc) (nt:=if k=0 then 1 else k) hxs S.N S.cs (λx h=>qA h) (hS.step sp) I2.len
 refine p9 (σc:=σc) hw hc I2 T st2 f2 hit al sp.gh S.kind S.cell S.fre S.frl l1 l2 rfl l3 (hg fp) (hts fp) (he fp) λs3 p H3 H' G' an D vs l f3 J' Y hD gD ak r' q=>?_
 obtain⟨m,ab,_⟩:=J'.loc;have I4:Inv X B n H' p:=Dg (fpO:=f3) l J' ⟨rfl,λ_ _=>rfl⟩
 show wpAny _ X.A (assign (.Name x pos') X.env (.ref D)) _ _ _;refine wpAny_assign_Name (o7 I4 hN hi.1 hi.2.1 (v:=.ref D) rfl (λam I5 ⟨a,sb,Z⟩=>?_) hi.2.2)
 have ne:s3.heap.objs.size≠a:=by
  rcases Z with rfl|Z
  ·intro z;obtain⟨m',hn,_⟩:=l.loc;obtain⟨o,_,_,t,_⟩:=hn;exact absurd (ag t) (by rw[<-z];exact Nat.lt_irrefl _)
  ·intro z;obtain⟨v,o,t,_⟩:=l.cell x a Z;exact absurd (ag t) (by rw[<-z];exact Nat.lt_irrefl _)
 refine⟨m,By ab sb ne,λh' u=>?_⟩
 exact⟨n.set i (some (.ref D)),H',sH l I5 J'.free u,L D vs G' H' Y hD gD ak r' q⟩
theorem ES{C:Ctx}{i:Nat}{x:Str}(hN:X.N.Nodup)(hi:IA X x i)(hc:X.calm=true)(S:CompSc X C sc xs cs)(hit:MI X ad tg it fi)(hset: ∀a b c,it≠ .Set a b c)(hxs:xs.length=if k=0 then 1 else k)
  (hg: ∀fp s3 H3 pins',PG (cX X (xs++aX sc) sc s3 H3 fp pins') tg (gTg X.K k)) (hts: ∀fp s3 H3 pins',MTs (cX X (xs++aX sc) sc s3 H3 fp pins') ad ifs fc) (he: ∀fp s3 H3 pins',ME (cX X (xs++aX sc) sc s3 H3 fp pins') ad elt fe)
  (hs:swapsWith (.ListComp elt [⟨tg,it,ifs,0⟩] sc cpos) (some (.Name x pos')) pos.line X.env=pure true):
  PS X (.Assign [.Name x pos'] (.ListComp elt [⟨tg,it,ifs,0⟩] sc cpos) pos) (CO (tE X ad (bL k cs fi fc fe)) (jQ i)):=
 PS.imp (Bz (U:=False) az hN hi hc S hit hset hxs hg hts he hs) λl j H ⟨G,h,E,g,f,e,d⟩=>⟨G,h,E,g,f,e,RK.w d⟩
end
open PySem.Calls Builtin Builtin.ObjectAttr Builtin.Getset_descriptor
section
variable{E:cc}{K:Frag}{R:Result->Shared->Prop}
theorem nM.ty(I:nM h x C):Looks M h (typeOf (.ref x)) (.ref C):=by
 obtain⟨o,d,a,b,c⟩:=I;exact b▸(Looks.ld a).andThen .now
theorem ET(X:K.In s.heap)(I:nM s.heap x C)(hm:mroIn K C (.type "object")=some true)(h:R (.ok (.ret (.ref C))) s):
  codeAny (model prog w) A (.call (.builtin "getset_descriptor.__get__") ⟨[.builtin "object.__class__",.ref x,tp],[]⟩) R s:=by
 obtain⟨d,g,dr,t,a⟩:=s;have b:=I.ty (M:=model prog w);have c:=looks_mroIn (M:=model prog w) X hm;refine codeAny_call_builtin KF.slot_gs.plain KF.entry_gs (KF.slot_gs.check _ _ _ _ _ _ _ _ KF.type_class (KF.args_gs _ _ _) ?_);unfold Builtin.«getset_descriptor.__get__» descrGet;rw[dga_obj];refine aa (ac ?_);unfold descrGetter descrCheckInstance descrNameAndClass isInstance;simp only[KF.owner_class]
 repeat lk
 refine⟨Code.quiet_builtin _ (by decide+kernel),codeAny_builtin KF.entry_class ?_⟩
 unfold Builtin.«object.__class__» shownTypeOf
 repeat lk
 exact h
theorem yJ(X:K.In s.heap)(I:nM s.heap x C)(hm:mroIn K C (.type "BaseException")=some true)(hq:Q () s):wpAny M A (checkBuiltinCall "BaseException.__getattribute__" ⟨[.ref x,nameV],[]⟩) Q E s:=by
 obtain⟨e,g,dr,t,f⟩:=s
 have hk:builtinKind "BaseException.__getattribute__"=some .slot:=by decide+kernel
 have a:splitId "BaseException.__getattribute__"=some ("BaseException","__getattribute__"):=by decide+kernel
 have c:=I.ty (M:=M);have b:=looks_mroIn (M:=M) X hm;have d:=F.args_bexc_ga (.ref x) nameV;simp only[checkBuiltinCall,hk,a];refine aa ?_;unfold isInstance;refine aa (c.at (b.at ?_))
 repeat (any_goals (first|assumption|wp_step))
theorem yK(X:K.In s.heap)(I:nM s.heap x C)(hm:mroIn K C (.type "object")=some true)(ha:findIn K (.ref C) "__class__"=some (some (.builtin "object.__class__")))(hq:Q (.done (.ret (.ref C))) s):
  wpAny (model prog w) A (Builtin.«object.__getattribute__» ⟨[.ref x,.str "__class__" tk],[]⟩) Q E s:=by
 obtain⟨h,g,d,t,e⟩:=s;have c:(⟨h,g,d,t,e⟩:Shared).TypeIs (.builtin "object.__class__") "getset_descriptor":=F.typeOf_object_class;have m:=F.typeOf_object_class;have p:=F.slot_gs_get.lookup;have n:=F.slot_gs_set.lookup;have i:=I.ty (M:=model prog w);have f:=looks_findIn (M:=model prog w) X ha;obtain⟨o,j,a,b,l⟩:=id I
 repeat (any_goals (first|assumption|(with_reducible refine wpAny_loadPart_at a ?_;rw[b])|with_reducible refine f.at ?_|wp_step))
 refine ET X I hm ?_
 repeat (any_goals (first|assumption|wp_step))
theorem yL(X:K.In s.heap)(I:nM s.heap x C)(hm:mroIn K C (.type "object")=some true)(hb:mroIn K C (.type "BaseException")=some true)(ha:findIn K (.ref C) "__class__"=some (some (.builtin "object.__class__")))(hg:findIn K (.ref C) "__getattribute__"=some (some (.builtin "BaseException.__getattribute__")))(hn:findIn K (.ref C) "__getattr__"=some none)(h:Q (some (.ref C)) {s with toks:=s.toks+1}):
  wpAny (model prog w) A (getAttr? (.ref x) "__class__") Q E s:=by
 obtain⟨q,g,d,t,p⟩:=s;have j:=I.ty (M:=model prog w);have i:=looks_findIn (M:=model prog w) X hg;have f:=looks_findIn (M:=model prog w) X hn;have n:=PySem.F.excAttr_ValueError.ga.bind (.ref x)
 have a:(Value.builtin "BaseException.__getattribute__"==Value.builtin "object.__getattribute__")=false:=by decide+kernel
 have b:(onTheHeap (Value.ref C)&&Value.builtin "BaseException.__getattribute__"==Value.builtin "object.__getattribute__")=false:=by rw[a];rfl
 obtain⟨o,l,c,e,m⟩:=id I;unfold getAttr? getAttrBy? getAttrBy
 repeat (any_goals (first|assumption|(with_reducible refine wpAny_loadPart_at c ?_;rw[e])|with_reducible refine i.at ?_|with_reducible refine f.at ?_|wp_step))
 refine codeAny_call_builtin PySem.F.excAttr_ValueError.ga.plain F.entry_bexc_ga (yJ X I hb (yK X I hm ha ?_))
 repeat (any_goals (first|assumption|wp_step))
end
theorem _root_.L2.ObjOk.there(x:ObjOk P w H h a o): ∃ob,h.get? a=some ob:=by
 cases o with
 |lst c=>obtain⟨_,_,_,_,e⟩:=x;exact⟨_,e⟩
 |tup c=>obtain⟨_,_,_,⟨ob,e,_⟩,_⟩:=x;exact⟨_,e⟩
 |dK b=>obtain⟨_,_,_,_,o,_,_,e,_⟩:=x;exact⟨_,e⟩
 |dT b=>obtain⟨_,_,_,_,o,_,_,e,_⟩:=x;exact⟨_,e⟩
 |set S n=>obtain⟨o,_,_,_,e,_⟩:=x;exact⟨_,e⟩
 |ins C j fs=>obtain⟨_,_,_,e,_⟩:=x;exact⟨_,e⟩
 |own y=>exact x
 |xd fs=>obtain⟨_,⟨_,_,_,e,_⟩,_⟩:=x;exact⟨_,e⟩
 |rng g d=>obtain⟨_,_,_,e⟩:=x;exact⟨_,e⟩
 |frz ob u=>obtain⟨e,_⟩:=x;exact⟨_,e⟩
 |tbl i=>exact⟨_,(show h.get? a=some _ from x)⟩
 |met f y=>exact⟨_,(show h.get? a=some _ from x)⟩
 |ext l=>obtain⟨_,e,_⟩:=x;exact e
section
variable{X:Cx}{ad:Ad}{σ:St}{E₀:XK}
structure DefX(X:Cx)(E₀:XK):Prop where
 ex:X.ex=[]
 stk:X.stack=X.env::X.outer
 fr:X.env.frame=some X.env.locals
 xe: ∀e s',wpAny (model X.prog X.w) X.A (leaving X.env e) (λ_ s''=>CXe X.prog X.w X.outer X.H₀ X.s₀ E₀ e s'') (λe' s''=>CXe X.prog X.w X.outer X.H₀ X.s₀ E₀ e' s'') s'->X.xe e s'
theorem uM(J:Inv X cb σ H s)(e:X.s₀.heap.get? b=some o):b≠X.env.locals:=λz=>by
 have:=ag e
 rw[z]at this;exact absurd (bf this J.ok.above) (Nat.lt_irrefl _)
theorem yM(J:Inv X cb σ H s)(e:X.s₀.heap.get? b=some o)(nf:b∉X.fs):b∉frs X.stack:=λz=>by
 rcases au.mp (J.stkSub b z)with q|q
 ·exact uM J e q
 ·exact nf q
theorem Dj(T:DefX X E₀)(J:Inv X cb σ H' s)(fly:Heap.FlyingW B X.outer ea cls a0 h')(ff:s.heap.FunFrames B X.stack)(stays:B.StaysIn s.heap)(up:s.heap.UpToSlots h')(c8: ∀b o,X.s₀.heap.get? b=some o->b∉X.fs->∃o',B.get? b=some o')(c9: ∀b o,H' b=some o->∃o',B.get? b=some o')(ne:H' ea=none)(q:E₀ cls none H'):
  CXe X.prog X.w X.outer X.H₀ X.s₀ E₀ (.ref ea) {s with heap:=h'}:=by
 have i: ∀b,b∉X.ex:=λb=>by rw[T.ex];simp
 have st2:B.StaysIn h':=fly.1
 have d: ∀b o,s.heap.get? b=some o->(∃o',B.get? b=some o')->h'.get? b=some o:=λb o e ⟨o',p⟩=>by
  have:=stays b o' p
  rw[e]at this;cases this;exact st2 b o p
 have a: ∀b∈X.fs, ∀o,s.heap.get? b=some o->∃l,h'.get? b=some {o with slots:=l}:=λb t o e=>by
  obtain⟨_,u,h,r⟩:=ff.mem (b:=b) (by rw[T.stk];show b∈frs (X.env::X.outer);unfold frs;rw[List.filterMap_cons,T.fr];exact List.mem_cons_of_mem _ t)
  rw[e]at h;cases h;exact up b o e r
 refine⟨ea,cls,a0,H',B,rfl,J.os,J.bare,fly,⟨λb o e n f _=>?_,λb o e n f _=>?_,λb o e n _=>?_,λb o e _=>?_,J.base.tups,J.base.frzs,J.base.tbls⟩,λb o e=>?_,ne,c8,c9,q⟩
 ·exact d b o (J.base.keep b o e n f (i b)) (c8 b o e f)
 ·obtain⟨l,g⟩:=J.base.slot b o e n f (i b);obtain⟨j,h⟩:=a b f _ g;exact⟨j,h⟩
 ·exact J.base.free b o e n (i b)
 ·obtain⟨o',g⟩:=J.base.there b o e (i b)
  by_cases f:b∈X.fs
  ·obtain⟨l,h⟩:=a b f _ g;exact⟨_,h⟩
  ·exact⟨o',d b o' g (c8 b o e f)⟩
 ·refine(J.hok b o e).stay (λc v m g=>?_) (λ_ z=>z) λ_ _ z=>z
  rcases m with rfl|m
  ·exact d c v g (c9 c o e)
  ·exact d c v g (c9 c _ m)
theorem yN(T:DefX X E₀):XP X ad σ (λc H'=>E₀ (.ref (ad.cls c)) none H'):=by
 intro l H s e u I t;obtain⟨z,cls,y,H',B,rfl,i,h,a,un,f,n,m,v,c,rfl,q⟩:=t;have J:Inv X l σ H' u:=I.call' (ch:=[]) i un f h λb j=>by simp at j
 refine T.xe _ _ ?_
 have g:X.A.frames=some (X.env::X.outer):=by rw[<-T.stk];exact I.ok.frames
 rw[T.stk]at a;refine wpAny_leaves_onW g T.fr a λC d up=>?_
 refine Dj T J d (by rw[T.stk];exact a.2.2.1) a.1 up (λb o e x=>?_) v n q
 obtain⟨r,p⟩:=I.base.there b o e (by rw[T.ex];simp)
 exact m b r p (yM I e x)
theorem uN(T:DefX X E₀)(hc:X.calm=true)(hg:L2.Gl X x)(hm:X.mg x=some (.ref C))(hd:(x==("__debug__":Str))=false)(hi:excIn X.K C [.type "ValueError",.type "Exception",.type "BaseException",.type "object"] "ValueError.__new__"=true)(I:Inv X cb σ H s)(q:E₀ (.ref C) none H):wpAny (model X.prog X.w) X.A (exec (.Raise (some (.Call (.Name x np) [.Constant (.str msg) j kp] [] cpos)) none pos) X.env) (SP X cb D') X.xe s:=by
 have u: ∀c:Heap,X.K.In c->∃bm N nm q bs hdct sn sub ab col dd k0 k1 k2 k3 k5 mN,c.get? C=some (excClassObj nm q C N bs bm hdct sn sub ab col dd k0 k1 k2 k3 k5 "ValueError.__new__")/\c.Ns N mN/\mN "__init__"=none/\OwnTail c [.type "ValueError",.type "Exception",.type "BaseException",.type "object"] bm:=by
  intro c Z;have q:=hi;unfold excIn at q;split at q
  ·rename_i dd cd O W;split at q
   ·rename_i C' bm k0 k1 k2 k3 n k5 hm G;simp only[av,beq_iff_eq,Bool.not_eq_true']at q;obtain⟨⟨⟨⟨⟨rfl,rfl⟩,g⟩,ht⟩,hok⟩,f⟩:=q;obtain⟨nm,bs,Y,ns,B,hd,sn,sub,ab,col,ad⟩:=cd
    dsimp only at hm g hok f
    subst hm g
    have v:O= #[k0,k1,k2,k3,some (.builtin "ValueError.__new__"),k5]:=by
     obtain⟨l⟩:=O
     simp only at G
     rw[G]
    subst v;exact⟨bm,ns,nm,B,bs,hd,sn,sub,ab,col,dd,k0,k1,k2,k3,k5,_,Z _ _ W,.of_isNs (isNs_of_in Z hok),nsMap_none_of_in Z hok f,tail_of_in Z ht⟩
   ·cases q
  ·cases q
 obtain⟨bm,N,nm,B,bs,hdct,sn,sub,ab,col,dd,k0,k1,k2,k3,k5,mN,hC,hN,f,L⟩:=u X.base I.ok.mod.kin
 refine wpAny_Raise_call_subT (C:=C) (nm:=nm) (q:=B) (N:=N) (bs:=bs) (bm:=bm) (hdct:=hdct) (sn:=sn) (sub:=sub) (ab:=ab) (col:=col) (dd:=dd) (k0:=k0) (k1:=k1) (k2:=k2) (k3:=k3) (k5:=k5)
  PySem.F.excBase_ValueError (mN:=mN) (L.hasType PySem.F.excBase_ValueError.hasBase) (I.ok.hd hc) rfl f (fI I hg hm ⟨rfl,?_⟩ hd)
 refine Calls.evalArgs_plain (Calls.spliced_cons (Calls.Constant_str (k:=j) (pos:=kp) (Calls.spliced_nil ⟨rfl,(show 1<=sizeLine from by decide),?_,?_,?_,λS e M=>?_⟩)))
 ·exact I.bk _ _ hC
 ·exact hN.keeps I.bk
 ·exact L.keeps I.bk
 ·-- the frame is left
  have I1:Inv X cb σ H {s with toks:=s.toks+1}:=I.tok _
  have J:Inv X cb σ H {s with heap:=S,toks:=s.toks+1}:=I.kept (t':=s.toks+1) M.keeps
  refine T.xe _ _ ?_
  have r:X.A.frames=some (X.env::X.outer):=by rw[<-T.stk];exact I.ok.frames
  have U:s.heap.FunFrames (hideAll s.heap (frs X.stack)) X.stack:=funFrames_hide I.stack λenv he a ea=>List.mem_filterMap.mpr ⟨env,he,ea⟩
  have Q:S.FunFrames (hideAll s.heap (frs X.stack)) X.stack:=U.of_keeps λb o hb _=>⟨o,M.keeps b o hb,rfl⟩
  have E:(hideAll s.heap (frs X.stack)).StaysIn s.heap:=λb o e=>of_hideAll _ e
  have m:=U;rw[T.stk]at m;have d:(hideAll s.heap (frs (X.env::X.outer))).StaysIn s.heap:=λb o e=>of_hideAll _ e
  refine wpAny_leaves_madeW (h:=s.heap) (base:=hideAll s.heap (frs (X.env::X.outer))) r T.fr d m M λh2 t y _ _ up=>?_
  refine Dj T J y (by rw[T.stk]at Q ⊢;exact Q) (λb o e=>M.keeps b o (of_hideAll _ e)) up (λb o e hf=>?_) (λb o e=>?_) ?_ q
  ·obtain⟨p,i⟩:=I.base.there b o e (by rw[T.ex];simp)
   exact⟨p,hideAll_get _ i (by have:=yM I e hf;rwa [T.stk]at this)⟩
  ·obtain⟨p,i⟩:=(I.hok b o e).there
   exact⟨p,hideAll_get _ i λz=>by
    have:=I.stkFree b (by rw[T.stk];exact z)
    rw[this]at e
    cases e⟩
  ·cases z:H e with
   |none=>rfl
   |some o=>
    obtain⟨p,i⟩:=(I.hok e o z).there;rw[M.new]at i;cases i
end
section
variable{σ:St}{B:Heap}
theorem BA{E:cc}(I:Inv X cb σ H s)(hN:X.N.Nodup)(hi:X.N[i]? =some x)(hk:X.env.scope.names.lookup x=some .local)(hv:σ[i]? =some (some v))(h: ∀s',Inv X cb (σ.set i none) H s'->Q () s'):wpAny M A (unbindName X.env x) Q E s:=by
 obtain⟨m,K,L⟩:=id I.loc
 have l:(X.env.scope.kind== .class||(X.env.scope.kind== .module&&X.env.locals != X.env.globals))=false:=by rw[I.ok.kind];rfl
 have cne:=I.cne;obtain⟨u0,_,l0⟩:=L i x v hi hv (.inl hk)
 have hm:m x=some u0:=by
  rcases l0 with ⟨_,e⟩|⟨k,_⟩
  ·exact e
  ·rcases k with k|k
   ·have:X.env.kindOf x=some .local:=hk
    rw[this]at k;cases k
   ·have:X.env.kindOf x=some .local:=hk
    rw[this]at k;cases k
 refine wpAny_unbindName_local hk K hm l λh' u B a=>?_
 obtain⟨oL,_,_,Y,_⟩:=id K;refine h {s with heap:=h'} ⟨I.ok,I.os,I.bare,⟨λb o e n G g=>?_,λb o e n G g=>?_,I.base.free,λb o e g=>?_,I.base.tups,I.base.frzs,I.base.tbls⟩,⟨_,B,λj y v' f t e3=>?_⟩,λy c e=>?_,I.free,I.freeC,λp Z=>?_,λb T e=>?_,by simpa using I.len⟩
 ·exact(a.2 b (uM I e)).trans (I.base.keep b o e n G g)
 ·obtain⟨sl,f⟩:=I.base.slot b o e n G g;exact⟨sl,(a.2 b (uM I e)).trans f⟩
 ·obtain⟨o',f⟩:=I.base.there b o e g;exact⟨o',(a.2 b (uM I e)).trans f⟩
 ·by_cases C:j=i
  ·subst C;have J:j<σ.length:=(ax.mp hv).1;rw[bh J]at t;cases t
  ·rw[ba (Ne.symm C)]at t;obtain⟨u',W,q⟩:=L j y v' f t e3;refine⟨u',W,?_⟩;rcases q with ⟨k,e⟩|⟨k,c,e,z⟩
   ·refine .inl ⟨k,?_⟩
    have:y≠x:=λe=>C (nD hN f (e▸hi))
    simp[this,e]
   ·exact .inr ⟨k,c,e,z.sameBut a (cne y c e)⟩
 ·obtain⟨O,z⟩:=I.cell y c e;exact⟨O,z.sameBut a (cne y c e)⟩
 ·obtain⟨e,n,S,U,d⟩:=I.pin p Z;exact⟨(a.2 p.1 S).trans e,n,S,U,d⟩
 ·refine(I.hok b T e).stay (λc O r q=>(a.2 c ?_).trans q) (λ_ q=>q) λ_ _ q=>q
  rintro rfl;rcases r with rfl|r
  ·rw[I.free]at e;cases e
  ·rw[I.free]at r;cases r
theorem Li(un:Un fs [] H H' h h1)(stays:B.StaysIn h1)(st2:B.StaysIn h2)(up:h1.UpToSlots h2)(nf: ∀b∈fs, ∀o,h1.get? b=some o->∀vs,o.data≠ .fields vs)(c8: ∀b o,h.get? b=some o->b∉fs->∃o',B.get? b=some o'):Un fs [] H H' h h2:=by
 have f: ∀b o,h1.get? b=some o->(∃o',B.get? b=some o')->h2.get? b=some o:=λb o e ⟨o',j⟩=>by
  have:=stays b o' j
  rw[e]at this;cases this;exact st2 b o j
 refine⟨λb o e n a d=>f b o (un.keep b o e n a d) (c8 b o e a),λb o e n a d=>?_,un.free,λb o e d=>?_,un.tups,un.frzs,un.tbls⟩
 ·obtain⟨l,c⟩:=un.slot b o e n a d;obtain⟨g,i⟩:=up b _ c (nf b a _ c);exact⟨g,i⟩
 ·obtain⟨o',c⟩:=un.there b o e d
  by_cases a:b∈fs
  ·obtain⟨l,i⟩:=up b _ c (nf b a _ c);exact⟨_,i⟩
  ·exact⟨o',f b o' c (c8 b o e a)⟩
theorem IC(hok:HOk P w H' h1)(stays:B.StaysIn h1)(st2:B.StaysIn h2)(c9: ∀b o,H' b=some o->∃o',B.get? b=some o'):HOk P w H' h2:=by
 have a: ∀b o,h1.get? b=some o->(∃o',B.get? b=some o')->h2.get? b=some o:=λb o e ⟨o',g⟩=>by
  have:=stays b o' g
  rw[e]at this;cases this;exact st2 b o g
 intro b o e;refine(hok b o e).stay (λc v d f=>?_) (λ_ z=>z) λ_ _ z=>z
 rcases d with rfl|d
 ·exact a c v f (c9 c o e)
 ·exact a c v f (c9 c _ d)
theorem _root_.L2.Inv.track(J:Inv X cb σ H s)(hn:H a=none)(n0:X.s₀.heap.get? a=none)(hL:a≠X.env.locals)(hC: ∀x c,X.env.cells.lookup x=some c->c≠a)(hp: ∀p∈X.pn++cb,p.1≠a)(new:ObjOk X.prog X.w (upd H a o) s.heap a o):Inv X cb σ (upd H a o) s:=by
 refine⟨J.ok,J.os,J.bare,⟨J.base.keep,J.base.slot,λb g e n r=>?_,J.base.there,λb j e=>?_,λb g u e=>?_,λb v e=>?_⟩,J.loc,J.cell,?_,λx c e=>?_,λp h=>?_,λb u e=>?_,J.len⟩
 ·have:b≠a:=λz=>by rw[z,n0]at e;cases e
  rw[aC this];exact J.base.free b g e n r
 ·have f:=J.base.tups b j e;rw[aC (aN f hn)];exact f
 ·have f:=J.base.frzs b g u e;rw[aC (aN f hn)];exact f
 ·obtain⟨m,f⟩:=J.base.tbls b v e;exact⟨m,by rw[aC (aN f hn)];exact f⟩
 ·rw[aC (Ne.symm hL)];exact J.free
 ·rw[aC (hC x c e)];exact J.freeC x c e
 ·obtain⟨e,n,t,l,d⟩:=J.pin p h;exact⟨e,by rw[aC (hp p h)];exact n,t,l,d⟩
 ·by_cases i:b=a
  ·subst i;rw[aH]at e;cases e;exact new
  ·rw[aC i]at e;exact(J.hok b u e).stay (λ_ _ _ q=>q) (λc q=>by rw[aC (aN q hn)];exact q) λc j q=>by rw[aC (aN q hn)];exact q
end
def tX(X:Cx)(cb:ce)(D':Ends)(hd:ExceptHandler):Cx:=
 {X with pn:=X.pn++cb,xe:=λe s₁=>wpAny (model X.prog X.w) X.A (noteFrame e X.env) (λ_ s₂=>wpAny (model X.prog X.w) X.A (setFlight e none) (λ_ s₃=>wpAny (model X.prog X.w) X.A (handleBy e X.env [hd]) (SP X cb D') X.xe s₃) X.xe s₂) X.xe s₁}
section
variable{X:Cx}{ad:Ad}{σ:St}{H:Hp}
theorem Lj(I:Inv X cb σ H s):Inv (tX X cb D' hd) [] σ H s:=
 ⟨⟨I.ok.mod,I.ok.kind,I.ok.glob,I.ok.blt,I.ok.above,I.ok.inj,I.ok.has,I.ok.cab,I.ok.hd,I.ok.frames,I.ok.stk,I.ok.exf,I.ok.bs,I.ok.bsz,I.ok.noex,I.ok.exfs,I.ok.funs,I.ok.frf⟩,I.os,I.bare,I.base,I.loc,I.cell,I.free,I.freeC,
  λp a=>I.pin p (by have:p∈(X.pn++cb)++[]:=a;rwa [List.append_nil]at this),I.hok,I.len⟩
theorem ID(I:Inv (tX X cb D' hd) pins' σ H s):Inv X cb σ H s:=
 ⟨⟨I.ok.mod,I.ok.kind,I.ok.glob,I.ok.blt,I.ok.above,I.ok.inj,I.ok.has,I.ok.cab,I.ok.hd,I.ok.frames,I.ok.stk,I.ok.exf,I.ok.bs,I.ok.bsz,I.ok.noex,I.ok.exfs,I.ok.funs,I.ok.frf⟩,I.os,I.bare,I.base,I.loc,I.cell,I.free,I.freeC,
  λp a=>I.pin p (List.mem_append_left _ a),I.hok,I.len⟩
structure Fram(X:Cx):Prop where
 ex:X.ex=[]
 stk:X.stack=X.env::X.outer
 fr:X.env.frame=some X.env.locals
theorem BB{E₀:XK}{x:Str}{c:Nat}{np cpos pos kp:Pos}{msg:Str}{j:Nat}(T:DefX X E₀)(hc:X.calm=true)(hg:L2.Gl X x)(hm:X.mg x=some (.ref (ad.cls c)))(hd:(x==("__debug__":Str))=false)(hi:excIn X.K (ad.cls c) [.type "ValueError",.type "Exception",.type "BaseException",.type "object"] "ValueError.__new__"=true):
  MS X ad (λE=>∀σ c H,E σ c H->E₀ (.ref (ad.cls c)) none H) (.Raise (some (.Call (.Name x np) [.Constant (.str msg) j kp] [] cpos)) none pos) (mF c):=by
 rintro f s σ H e I ⟨b,G,g,E,S,a,d⟩;exact uN T hc hg hm hd hi I (a.2 σ c H (d σ G H S))
end
structure ExcCls(K:Frag)(C:Addr):Prop where
 is:(clsIn K C).isSome=true
 ob:mroIn K C (.type "object")=some true
 be:mroIn K C (.type "BaseException")=some true
 ca:findIn K (.ref C) "__class__"=some (some (.builtin "object.__class__"))
 ga:findIn K (.ref C) "__getattribute__"=some (some (.builtin "BaseException.__getattribute__"))
 gn:findIn K (.ref C) "__getattr__"=some none
theorem BC{K:Frag}(T:ExcCls K C):KitX K (.ref x) (.ref C) (λh=>nM h x C) where
 ty:=λ_ _ _ I=>I.ty
 it:=λ_ _ Z _=>by
  obtain⟨g,a⟩:=Option.isSome_iff_exists.mp T.is;unfold clsIn at a;split at a
  ·rename_i m i f c b;intro o r s t k q;unfold isType loadHead;exact aa (wpAny_loadPart (k _ _ (Z _ _ b)) (ac q))
  ·cases a
 ne:=λh l dd j n p Z d=>by
  obtain⟨g,a⟩:=Option.isSome_iff_exists.mp T.is;refine Bool.eq_false_iff.mpr λq=>?_
  have e:C=l:=Value.ref.inj (beq_iff_eq.mp q)
  subst e;unfold clsIn at a;split at a
  ·rename_i m i f c b;have z:=(Z _ _ b).symm.trans d;cases z
  ·cases a
 ca:=λZ I k=>yL Z I T.ob T.be T.ca T.ga T.gn k
def tyD(ad:Ad):D->Option Value
 |.non=>some (.type "NoneType")
 |.bl _=>some (.type "bool")
 |.int _=>some (.type "int")
 |.str _=>some (.type "str")
 |.tup _=>some (.type "tuple")
 |.lst _=>some (.type "list")
 |.exc c=>some (.ref (ad.cls c))
 |.fn _=>none
 |.dct _ _=>none
def Ll(X:Cx)(ad:Ad)(cv:Value)(p:D->Option Bool):Prop:= ∀d b,p d=some b->∃t,tyD ad d=some t/\kitOne X.K t cv=some b
section
variable{X:Cx}{ad:Ad}{σ:St}
theorem yO{Q:cc}{Ex:cc}(hx: ∀c,ExcCls X.K (ad.cls c))(I:Inv X cb σ H s)(hG:Same G H)(q:Rep X.K ad G d v)(r:bG v u)(ht:tyD ad d=some t)(e:kitOne X.K t cv=some b)(h: ∀tk,Q (.bool b) {s with toks:=tk}):wpAny (model X.prog X.w) A (call (.builtin "isinstance") [u,cv]) Q Ex s:=by
 cases d with
 |non=>unfold Rep at q;subst q;cases (show u=Value.none from r);cases ht;exact kia_one kitx_none I.kIn True.intro e (by intro z;cases z) h
 |bl k=>unfold Rep at q;subst q;cases (show u=Value.bool k from r);cases ht;exact kia_one kitx_bool I.kIn True.intro e (by intro z;cases z) h
 |int k=>unfold Rep at q;subst q;obtain⟨x,rfl⟩:=r;cases ht;exact kia_one kitx_int I.kIn True.intro e (by intro z;cases z) h
 |str k=>unfold Rep at q;subst q;obtain⟨x,rfl⟩:=r;cases ht;exact kia_one kitx_str I.kIn True.intro e (by intro z;cases z) h
 |tup l=>
  unfold Rep at q;obtain⟨p,m,rfl,a,_⟩:=q
  cases (show u=Value.ref p from r)
  cases ht;obtain⟨f,_,⟨o,g,i,_⟩,_⟩:=I.tuple (hG.seqT a);exact kia_one kitx_tuple I.kIn ⟨o,g,i⟩ e (by intro z;cases z) h
 |lst l=>
  unfold Rep at q;obtain⟨p,m,rfl,a,_⟩:=q
  cases (show u=Value.ref p from r)
  cases ht;obtain⟨f,_,⟨o,n,g,i,_⟩,_⟩:=I.list (hG.seq a);exact kia_one kitx_list I.kIn ⟨o,g,i⟩ e (by intro z;cases z) h
 |exc c=>
  unfold Rep at q;obtain⟨p,rfl,a⟩:=q
  cases (show u=Value.ref p from r)
  cases ht;obtain⟨j,_,_⟩:=(show ObjOk X.prog X.w H s.heap p (C2 (ad.cls c) p) from I.hok p _ (hG _ _ a))
  exact kia_one (BC (hx c)) I.kIn j e (by intro z;cases z) h
 |fn k=>cases ht
 |dct _ _=>cases ht
inductive ClNm(X:Cx)(t:Str)(cv:Value):Prop
 |blt (T:String):cv= .type T->L2.Gl X t->X.mg t=none->bootBuiltins t=some (.type T)->t≠"__name__"->(t==("__debug__":Str))=false->ClNm X t cv
 |own (C:Addr):cv= .ref C->L2.Gl X t->X.mg t=some (.ref C)->(t==("__debug__":Str))=false->ClNm X t cv
theorem ClNm.ev{Ex:cc}{Q:cc}(c:ClNm X t cv)(I:Inv X cb σ H s)(h:Q cv s):wpAny (model X.prog X.w) X.A (eval (.Name t tp) X.env) Q Ex s:=by
 cases c with
 |blt T e g m b n d=>subst e;exact fX I g m b h n d
 |own C e g m d=>subst e;exact fI I g m h d
theorem sI(hx: ∀c,ExcCls X.K (ad.cls c))(hg:L2.Gl X "isinstance")(hm:X.mg "isinstance"=none)(c:ClNm X t cv)(k:Ll X ad cv P)(ha:ML X ad a f)(he:starEach [a,.Name t tp] X.env=(false,eval a X.env)::starEach [.Name t tp] X.env):ME X ad (.Call (.Name "isinstance" p) [a,.Name t tp] [] pos) (rIs P f):=by
 refine λy s x H Q I T=>T.el λG O E M U n L=>?_
 refine wpAny_Call_Name_kw (fX (u:=.builtin "isinstance") I hg hm (by decide+kernel) ?_ (by decide) (by decide))
 refine PyProof.Rows.callWith_builtin1 ?_ he rfl;rw[he];refine Calls.spliced_cons (L2.thn (ha.lk y s x H G O _ Q E I M U n L) λu N l=>?_)
 obtain⟨v,d,r,J,i,B,j,q,S⟩:=l;refine Calls.spliced_cons (c.ev i (Calls.spliced_nil ?_))
 have g:RK X.K ad r J (match P d with|some b=>.ok (.bl b)|none=>.bad) Q E:=S
 cases e:P d with
 |none=>rw[e]at g;exact g.elim
 |some b=>
  rw[e]at g;obtain⟨ty,C,A⟩:=k d b e;have h: ∀m,EP X y x Q (.bool b) {N with toks:=m}:=λm=>⟨.bl b,J,i.tok m,rfl,g.ok_now j.gh cQ⟩
  rcases q with q|⟨a',vs,ds,rfl,rfl,g1,h1,rp⟩
  ·exact yO hx i j.gh q B C A h
  ·refine yO (G:=upd r a' (.lst vs)) hx i (λb o e=>?_) ?_ B C A h
   ·by_cases z:b=a'
    ·subst z;rw[aH]at e;rw[h1];exact e
    ·rw[aC z]at e;exact j.gh b o e
   ·unfold Rep;exact⟨a',vs,rfl,SqL.of aH,rp.mono (Same.upd_new g1)⟩
end
structure RkC(K:Frag)(A:Addr):Prop where
 cl:Cls K A
 n1:gU K A "held"
 n2:gU K A "done"
 n3:gU K A "undone"
structure StepR(foot:List Addr)(G H G' H':Hp):Prop where
 sg:Same G G'
 gh:Same G' H'
 sh: ∀b o,b∉foot->H b=some o->H' b=some o
 nw: ∀b,G b=none->G' b≠none->H b=none
 th: ∀b,H b≠none->H' b≠none
def RMK(K:Frag)(ad:Ad)(A:Nat)(G H:Hp)(p dx d l1 l2:Addr)(m:RM)(Q:VK)(E:Nat->Hp->Prop):Prop:=match m with
 |.pure x=>RK K ad G H x Q E
 |.chg x r'=>∀v G' H' l2',StepR [p,dx,d,l1,l2] G H G' H'->RackIn K ad A G' H' p r' dx d l1 l2'->(l2'=l2\/H l2'=none)->Rep K ad G' x v->Q v H'
def spM(K:Frag)(ad:Ad)(A n:Nat)(m:FM):Sp:=λvs H Q E=>∃G p r dx d l1 l2 ds ws,vs=V.ref p::ws/\Same G H/\RackIn K ad A G H p r dx d l1 l2/\aJ K ad G ds ws/\ds.length=n/\RMK K ad A G H p dx d l1 l2 (m r ds) Q (λc H'=>E (.ref (ad.cls c)) none H')
structure MetOk(X:Cx)(ad:Ad)(A:Addr)(m:Str)(n:Nat)(M:FM):Prop where
 no:m≠"held"/\m≠"done"/\m≠"undone"
 ok: ∃f k fd ps,Meth X.K A m f/\FnOk X.prog X.w X.K X.mg X.base (CXe X.prog X.w) k f fd ps (spM X.K ad A n M)/\Room k X.A/\d6 X.K fd ps []
section
variable{ad:Ad}{G:Hp}{p:Pos}{o:Expr}
def IE(P:Program)(w:World)(K:PySem.W.Frag)(ad:Ad)(A:Addr)(kvs:List (Str×D)):Prop:=
 (A==sysModules)=false/\∃vs:List (Str×Value),(∃o es ep,K.lookup A=some o/\o.ExactDict/\o.data= .dict es ep/\KeysOf (PySem.strKind P w) es/\Pairs (PySem.strKind P w) es.toList vs/\(vs.map (·.1)).Nodup)/\
  Paired (λ(p:Str×D) (q:Str×Value)=>p.1=q.1/\∃v,bG v q.2/\∀G,Rep K ad G p.2 v) kvs vs
end
noncomputable def dC:Py->Str
 |.len=>"len"|.range=>"range"|.enum=>"enumerate"|.zip=>"zip"|.isin=>"isinstance"|.int=>"int"|.bool=>"bool"|.str=>"str"|.tuple=>"tuple"|.list=>"list"
 |.sum=>"sum"|.all=>"all"|.any=>"any"|.sorted=>"sorted"|.min=>"min"|.max=>"max"|.abs=>"abs"|.set=>"set"|.dict=>"dict"
def Lm(X:Cx)(ad:Ad)(x:Str):SK.Gl->Prop
 |.fn k n F=>∃r f,FnGood X ad r x n F f/\Room r X.A/\f=ad.fnA k
 |.exc c=>X.mg x=some (.ref (ad.cls c))/\c<ad.nb
 |.verr=>x="ValueError"/\X.mg x=none
 |.val d=>∃u v,X.mg x=some u/\bG v u/\∀G,Rep X.K ad G d v
 |.py p=>x=dC p/\X.mg x=none
 |.tbl kvs=>∃A,X.mg x=some (.ref A)/\IE X.prog X.w X.K ad A kvs
 |.cls A ms=>X.mg x=some (.ref A)/\RkC X.K A/\∀m n M,ms.lookup m=some (n,M)->MetOk X ad A m n M
structure CtxOk(X:Cx)(ad:Ad)(C:SK.Ctx):Prop where
 N:X.N=C.N
 nd:X.N.Nodup
 vis: ∀x i,loc C x=some i->X.N[i]? =some x/\Vis X.env.scope x/\(x==("__debug__":Str))=false/\(x==("__classdict__":Str))=false
 gk: ∀x,C.sc.names.lookup x=some .globalImplicit->L2.Gl X x
 gt: ∀x g,C.tab.lookup x=some g->(x==("__debug__":Str))=false/\Lm X ad x g
 cap: ∀x i,fA C x=some i->X.env.kindOf x=some .cell\/X.env.kindOf x=some .free
 calm:X.calm=true
 un:X.A.units+62<cLine
 hd:X.A.handled=none
 exc: ∀c,ExcCls X.K (ad.cls c)
 kin: ∀c e,c<ad.nb->kitOne X.K (.ref (ad.cls e)) (.ref (ad.cls c))=some (hit c e)
 kve: ∀e,kitOne X.K (.ref (ad.cls e)) (.type "ValueError")=some true
 fnv: ∀j n F,C.fns[j]? =some (n,F)->∃r,FnAt X ad r n F (ad.fnA j)/\Room r X.A
section
variable{ad:Ad}
theorem EU(h:glo C x=some g):C.sc.names.lookup x=some .globalImplicit/\C.tab.lookup x=some g:=by
 unfold glo at h;split at h
 ·rename_i e;exact⟨e,h⟩
 ·cases h
theorem CtxOk.gl(O:CtxOk X ad C)(h:glo C x=some g):L2.Gl X x/\(x==("__debug__":Str))=false/\Lm X ad x g:=
 let ⟨a,b⟩:=EU h
 ⟨O.gk x a,(O.gt x g b).1,(O.gt x g b).2⟩
theorem Dk(O:CtxOk X ad C)(h:glo C t=some g)(e:isP g=some P): ∃cv,ClNm X t cv/\Ll X ad cv P:=by
 obtain⟨i,j,hk⟩:=O.gl h
 cases g with
 |fn _ _ _=>cases e
 |cls _ _=>cases e
 |val _=>cases e
 |tbl _=>cases e
 |exc c=>
  cases e;obtain⟨f,m⟩:=hk;refine⟨.ref (ad.cls c),.own _ rfl i f j,λd b a=>?_⟩
  cases d<;>try (cases a;done)
  rename_i k;cases a;exact⟨_,rfl,O.kin c k m⟩
 |verr=>
  cases e;obtain⟨l,f⟩:=hk;subst l;refine⟨.type "ValueError",.blt "ValueError" rfl i f (by decide+kernel) (by decide) j,λd b a=>?_⟩
  cases d<;>try (cases a;done)
  rename_i k;cases a;refine⟨_,rfl,?_⟩;rw[O.kve k]
  congr 1
  unfold hit;simp
 |py p=>
  obtain⟨l,f⟩:=hk
  cases p<;>try (cases e;done)
  all_goals
   cases e;subst l
  ·refine⟨.type "int",.blt "int" rfl i f (by decide+kernel) (by decide) j,λd b a=>?_⟩
   cases d<;>first|(cases a;done)|(cases a;exact⟨_,rfl,by rfl⟩)
  ·refine⟨.type "bool",.blt "bool" rfl i f (by decide+kernel) (by decide) j,λd b a=>?_⟩
   cases d<;>first|(cases a;done)|(cases a;exact⟨_,rfl,by rfl⟩)
  ·refine⟨.type "str",.blt "str" rfl i f (by decide+kernel) (by decide) j,λd b a=>?_⟩
   cases d<;>first|(cases a;done)|(cases a;exact⟨_,rfl,by rfl⟩)
  ·refine⟨.type "tuple",.blt "tuple" rfl i f (by decide+kernel) (by decide) j,λd b a=>?_⟩
   cases d<;>first|(cases a;done)|(cases a;exact⟨_,rfl,by rfl⟩)
  ·refine⟨.type "list",.blt "list" rfl i f (by decide+kernel) (by decide) j,λd b a=>?_⟩
   cases d<;>first|(cases a;done)|(cases a;exact⟨_,rfl,by rfl⟩)
theorem cD{l:List (Str×NameKind)}(h:(l.lookup x==some k)=true):l.lookup x=some k:=by simpa using h
theorem i5(h:kQ sc xs=true):sc.kind= .function/\(pR sc=[]\/(pR sc=xs/\xs.length=1))/\(∀x∈xs,sc.names.lookup x=some (if(pR sc).isEmpty then .local else .cell))/\(∀y∈sc.names,y.2= .local->sc.names.lookup y.1=some .local)/\
  (xs++aX sc).Nodup/\(∀x∈xs++aX sc,(x==("__debug__":Str))=false/\(x==("__classdict__":Str))=false)/\∀x∈aX sc,sc.names.lookup x=some .free:=by
 unfold kQ at h;simp only[av]at h;obtain⟨⟨⟨⟨⟨⟨c,j⟩,d⟩,e⟩,b⟩,i⟩,g⟩:=h;refine⟨by simpa using c,by simpa using j,λx a=>?_,λy f z=>?_,of_decide_eq_true b,λx a=>?_,λx a=>?_⟩
 ·exact cD (zAd d x a)
 ·have:=zAd e y f
  rw[z]at this;simpa using this
 ·have:=zAd i x a
  simpa using this
 ·exact cD (zAd g x a)
theorem lA(h:idx x N=some i):x∈N:=List.mem_of_getElem? (fP h)
theorem lB(h:loc C x=some i):idx x C.N=some i/\(C.sc.names.lookup x=some .local\/C.sc.names.lookup x=some .cell\/C.sc.names.lookup x=some .free):=by
 unfold loc at h;split at h
 ·rename_i e;exact⟨h,.inl e⟩
 ·rename_i e;exact⟨h,.inr (.inl e)⟩
 ·rename_i e;exact⟨h,.inr (.inr e)⟩
 ·cases h
theorem eF(h:fA C x=some i):idx x C.N=some i/\(C.sc.names.lookup x=some .cell\/C.sc.names.lookup x=some .free):=by
 unfold fA at h;split at h
 ·rename_i e;exact⟨h,.inl e⟩
 ·rename_i e;exact⟨h,.inr e⟩
 ·cases h
theorem nU{α β:Type}{f:α->Option β}: ∀{l:List α} {r:List β},dY f l=some r->∀a∈l, ∃b,f a=some b
 |[],_,_,a,ha=>by cases ha
 |x::l,r,h,a,ha=>by
  unfold dY at h
  cases e:f x with
  |none=>rw[e]at h;cases h
  |some y=>
   rw[e]at h;obtain⟨d,c,_⟩:=zMd h;rcases au.mp ha with rfl|ha
   ·exact⟨y,e⟩
   ·exact nU c a ha
theorem eG{l:List (Str×NameKind)}(h:l.lookup x=some k):(x,k)∈l:=PySem.mem_of_lookup h
theorem nV(h:(x,NameKind.free)∈sc.names):x∈aX sc:=by
 unfold aX;exact aq.mpr ⟨(x,.free),List.mem_filter.mpr ⟨h,by simp⟩,rfl⟩
theorem yP(O:CtxOk X ad C)(h:kQ sc xs=true)(hc:dY (λx=>fA C x) (aX sc)=some cs):CompSc X C sc xs cs:=by
 obtain⟨b,g,c,d,m,n,f⟩:=i5 h
 have j:Cel sc:=by
  rcases g with z|⟨z,l⟩
  ·exact .inl z
  ·obtain⟨x,rfl⟩:=List.length_eq_one_iff.mp l
   have:=c x (.head _)
   rw[z]at this;exact .inr ⟨x,z,this⟩
 refine⟨b,j,d,λx a=>?_,λx a=>f x (nV a),O.N,hc⟩
 obtain⟨i,e⟩:=nU hc x (nV a);exact O.cap x i e
theorem EV{tg:Expr}(hN:X.N.Nodup)(e:cO tg=some (xs,k))(hx:xs=[x])(h1:X.N[0]? =some x)(h2:X.env.scope.names.lookup x=some .cell)(h3:X.fn x=true):PG X tg (gTg X.K k):=by
 subst hx
 cases tg<;>try (cases e)
 ·exact kH hN h1 (.inr h2) (.inl h3)
 ·rename_i f j g;unfold cO at e;obtain⟨c,d,a⟩:=zBd e
  by_cases b:2<=c.length
  ·rw[if_pos b]at a;cases a;exact absurd b (by simp)
  ·rw[if_neg b]at a;cases a
theorem IF(O:CtxOk X ad C)(h:kQ sc xs=true)(hc:dY (λx=>fA C x) (aX sc)=some cs):
  CtxOk (cX X (xs++aX sc) sc s3 H3 fp cb) ad {C with sc:=sc,N:=xs++aX sc}:=by
 obtain⟨G,H,J,K,y,t,E⟩:=i5 h
 have o: ∀x,(relabel sc X.env).names.lookup x=(sc.names.lookup x).map (λk=>if(k==NameKind.free&&X.env.scope.kind== .function&&X.env.kindOf x==some .cell)then NameKind.cell else k):=λx=>b9
 have s: ∀x,sc.names.lookup x=some .free->(relabel sc X.env).names.lookup x=some .cell\/(relabel sc X.env).names.lookup x=some .free:=λx e=>by
  rw[o x,e];simp only[Option.map];split
  ·exact .inl rfl
  ·exact .inr rfl
 have u: ∀x,sc.names.lookup x=some .cell->(relabel sc X.env).names.lookup x=some .cell:=λx e=>by rw[o x,e];rfl
 refine⟨rfl,y,λx i e=>?_,λx e=>?_,λx g e=>?_,λx i e=>?_,O.calm,O.un,O.hd,O.exc,O.kin,O.kve,λj n F e=>let ⟨r,T,q⟩:=O.fnv j n F e;⟨r,⟨T.kp,T.ok⟩,q⟩⟩
 ·obtain⟨b,a⟩:=lB e;have l:=lA b;refine⟨fP b,?_,(t x l).1,(t x l).2⟩;rcases a with a|a|a
  ·refine .inl ?_
   show(relabel sc X.env).names.lookup x=some .local
   rw[o x]
   have:sc.names.lookup x=some .local:=a
   rw[this];rfl
  ·exact .inr (.inl (u x a))
  ·rcases s x a with z|z
   ·exact .inr (.inl z)
   ·exact .inr (.inr z)
 ·show(relabel sc X.env).names.lookup x=some .globalImplicit
  rw[o x]
  have:sc.names.lookup x=some .globalImplicit:=e
  rw[this];rfl
 ·obtain⟨b,a⟩:=O.gt x g e;refine⟨b,?_⟩
  cases g with
  |fn k n F=>
   obtain⟨r,f,T,q,B⟩:=a;exact⟨r,f,⟨T.mg,T.kp,T.ok⟩,q,B⟩
  |exc c=>exact a
  |verr=>exact a
  |val d=>exact a
  |tbl v=>exact a
  |py p=>exact a
  |cls A I=>exact⟨a.1,a.2.1,λm n M l=>let z:=a.2.2 m n M l;⟨z.no,z.ok⟩⟩
 ·obtain⟨b,a⟩:=eF e;rcases a with a|a
  ·exact .inl (u x a)
  ·exact s x a
end
section
variable{Ex:cc}
theorem vY{items:Array Value}{Q:cc}(hit:s.heap.IsTupleIter it t i)(ht:s.heap.IsTuple t items)(hx:items[i]? =some x)(hQ: ∀h',h'.IsTupleIter it t (i+1)->Heap.SameBut it s.heap h'->Q x {s with heap:=h'}):wpAny (model prog w) A (Builtin.SmallTypes.nextOf (.ref it)) Q Ex s:=by
 obtain⟨o,b,e,a⟩:=id hit;obtain⟨u,d,_,f,c⟩:=ht;unfold Builtin.SmallTypes.nextOf;refine aa (wpAny_callSpecial?_slot (name:=Str.ofString "__next__") hit.typeIs F.slot_tuple_iterator_next (wpAny_call_entry F.slot_tuple_iterator_next hit.typeIs F.entry_tuple_iterator_next ?_ (F.args_tuple_iterator_next_1 _)));show wpAny _ _ (field (.ref it) 0 >>= _) _ _ s;refine aa (wpAny_field b a (x:=.ref t) rfl ?_);show wpAny _ _ (if(Value.ref t==Value.none)=true then _ else _) _ _ s;rw[if_neg (show ¬((Value.ref t==Value.none)=true) from bd)]
 show wpAny _ _ (field (.ref it) 1 >>= _) _ _ s;refine aa (wpAny_field b a (x:=.int i 0) rfl ?_);show wpAny _ _ (seqItems? (.ref t) >>= _) _ _ s;refine aa (wpAny_seqItems d c ?_);simp only[Int.toNat_natCast,hx];refine aa (wpAny_setField b a (by simp) (ac ⟨x,rfl,ac (hQ _ ?_ (Heap.SameBut.update ..))⟩))
 exact⟨_,Heap.get?_update_self _ b (Obj.isFreed_of_fields (Obj.data_mapFields a _)),(Obj.cls_mapFields ..).trans e,by rw[Obj.data_mapFields a];simp[rawInt]⟩
theorem yQ{items:Array Value}{Q:cc}(hh:A.handled=none)(hit:s.heap.IsTupleIter it t i)(ht:s.heap.IsTuple t items)(hx:items[i]? =none)(hE: ∀h' e,Heap.ExtBut it s.heap h'->(∃o,h'.get? e=some o/\o.cls= .type "StopIteration")->Ex (.ref e) {s with heap:=h'}):wpAny (model prog w) A (Builtin.SmallTypes.nextOf (.ref it)) Q Ex s:=by
 obtain⟨o,c,n,d⟩:=id hit;obtain⟨u,h,_,j,g⟩:=ht;unfold Builtin.SmallTypes.nextOf;refine aa (wpAny_callSpecial?_slot (name:=Str.ofString "__next__") hit.typeIs F.slot_tuple_iterator_next (wpAny_call_entry F.slot_tuple_iterator_next hit.typeIs F.entry_tuple_iterator_next ?_ (F.args_tuple_iterator_next_1 _)));show wpAny _ _ (field (.ref it) 0 >>= _) _ _ s;refine aa (wpAny_field c d (x:=.ref t) rfl ?_);show wpAny _ _ (if(Value.ref t==Value.none)=true then _ else _) _ _ s;rw[if_neg (show ¬((Value.ref t==Value.none)=true) from bd)]
 show wpAny _ _ (field (.ref it) 1 >>= _) _ _ s;refine aa (wpAny_field c d (x:=.int i 0) rfl ?_);show wpAny _ _ (seqItems? (.ref t) >>= _) _ _ s;refine aa (wpAny_seqItems h g ?_);simp only[Int.toNat_natCast,hx];refine aa (wpAny_rule (aa (wpAny_setField c d (by simp) ?_)))
 show wpAny _ _ (newExc (.type "StopIteration") [] >>= _) _ _ _;refine aa ?_;simp only[newExc,newTuple];refine aa (wpAny_newObj_type ?_ (by size_fits));refine aa (m:=firstArgMember _ _) (wpAny_of_eq (a:=Value.none) (by first|rfl|(simp only[firstArgMember];rfl)) ?_)
 refine wpAny_newObj_type ?_ (by size_fits);simp only[raiseNew]
 refine aa (wpAny_handled ?_)
 first|rw[show A.in1.handled=none from hh]|rw[hh]
 refine aa (ac (wpAny_throw ?_));refine hE _ _ (λb l f e=>?_) ⟨_,af _ rfl,rfl⟩
 exact ae _ (ae _ ((Heap.get?_update_other _ _ (Ne.symm f)).trans e))
end
theorem qB{n l m:Nat}(a:l<n)(b:m<n):ZipApart (n+4) (n+2) (n+3) n (n+1) l m:=by
 constructor<;>(intro h;have c:(_:Nat)=_:=h;revert c;lia)
theorem f8{σ:L2.St}{fp:List Addr}(I:Inv X cb σ H s)(k: ∀b o,b∉fp->s.heap.get? b=some o->h'.get? b=some o)(hf: ∀b∈fp,oY X cb H b):Inv X cb σ H {s with heap:=h',toks:=t'}:=by
 have d: ∀b u,H b=some u->b∉fp:=λb u e z=>by rw[(hf b z).1]at e;cases e
 refine I.step (g':=s.gens) (d':=s.drawn) (ch:=fp) (λb l=>?_) (λb o _ _ a e _=>k b o a e) (λb o _ _ a e _=>⟨o.slots,k b o a e⟩) (λ_ _ _ _ n=>n)
  (λb o a e=>⟨o,k b o a e⟩) (λ_ _ e=>e) (λ_ _ _ e=>e) (λb y e=>⟨#[],by rw[e];simp⟩) (λm p=>?_) (λb u e=>?_) I.bare
 ·obtain⟨_,t,_,i,f,x⟩:=hf b l;exact⟨i,t,f,x⟩
 ·obtain⟨o,g,h,j,r⟩:=p;exact⟨o,g,h,k _ o (λz=>(hf _ z).2.1 rfl) j,r⟩
 ·refine(I.hok b u e).stay (λc v a q=>k c v ?_ q) (λ_ q=>q) λ_ _ q=>q
  rcases a with z|z
  ·rw[z];exact d b u e
  ·exact d c _ z
def SqA(t:Bool)(K:PySem.W.Frag)(H:Hp)(a:Addr)(xs:List V):Prop:=match t with
 |true=>SqT K H a xs
 |false=>SqL K H a xs
def ItA(t:Bool)(h:Heap)(it l:Addr)(i:Nat):Prop:=match t with
 |true=>h.IsTupleIter it l i
 |false=>h.IsListIter it l i
def SeA(t:Bool)(h:Heap)(l:Addr)(xs:Array Value):Prop:=match t with
 |true=>h.IsTuple l xs
 |false=>h.IsList l xs
section
variable{σ:L2.St}
theorem d7(I:Inv X cb σ H s)(h:SqA t X.K H a xs): ∃its:List Value,bS xs its/\SeA t s.heap a its.toArray/\xs.length<=sizeLine:=by
 cases t with
 |true=>
  obtain⟨its,r,p,z⟩:=I.tuple h;exact⟨its,r,p,z⟩
 |false=>
  obtain⟨its,r,p,z⟩:=I.list h;exact⟨its,r,p.isList,z⟩
theorem lC(I:Inv X cb σ H s)(h:SqA t X.K H a xs)(h':SqA t X.K H a ys):xs=ys:=by
 cases t with
 |true=>exact I.tuple_inj h h'
 |false=>exact I.list_inj h h'
theorem a9{K:PySem.W.Frag}(e:Same H H')(h:SqA t K H a xs):SqA t K H' a xs:=by
 cases t with
 |true=>exact e.seqT h
 |false=>exact e.seq h
theorem bR(q:ItA t h it l i)(k: ∀o,h.get? it=some o->h'.get? it=some o):ItA t h' it l i:=by
 cases t with
 |true=>obtain⟨o,e,r⟩:=q;exact⟨o,k o e,r⟩
 |false=>obtain⟨o,e,r⟩:=q;exact⟨o,k o e,r⟩
theorem eI{Ex:cc}{Q:cc}(q:ItA t s.heap it l i)(hl:SeA t s.heap l xs)(hx:xs[i]? =some x)(hQ: ∀h',ItA t h' it l (i+1)->Heap.SameBut it s.heap h'->Q x {s with heap:=h'}):wpAny (model prog w) A (Builtin.SmallTypes.nextOf (.ref it)) Q Ex s:=by
 cases t with
 |true=>exact vY q hl hx hQ
 |false=>exact wpAny_nextOf_list_item q hl hx hQ
theorem iH{Ex:cc}{Q:cc}(hh:A.handled=none)(q:ItA t s.heap it l i)(hl:SeA t s.heap l xs)(hx:xs[i]? =none)(hE: ∀h' e,Heap.ExtBut it s.heap h'->(∃o,h'.get? e=some o/\o.cls= .type "StopIteration")->Ex (.ref e) {s with heap:=h'}):wpAny (model prog w) A (Builtin.SmallTypes.nextOf (.ref it)) Q Ex s:=by
 cases t with
 |true=>exact yQ hh q hl hx hE
 |false=>exact wpAny_nextOf_list_end hh q hl hx hE
end
theorem nW(q:SeA t h l it)(k: ∀o,h.get? l=some o->h'.get? l=some o):SeA t h' l it:=by
 cases t with
 |true=>obtain⟨o,a,b⟩:=q;exact⟨o,k o a,b⟩
 |false=>obtain⟨o,a,b⟩:=q;exact⟨o,k o a,b⟩
theorem nX(x:ItA t h it l k): ∃o,h.get? it=some o/\o.data= .fields #[.ref l,.int k 0]:=by
 cases t with
 |true=>obtain⟨o,a,_,c⟩:=x;exact⟨o,a,c⟩
 |false=>obtain⟨o,a,_,c⟩:=x;exact⟨o,a,c⟩
section
variable{Ex:cc}
theorem qC{z TI TO i1 i2 l1 l2:Addr}(D:ZipApart z TI TO i1 i2 l1 l2)(hz:IsZip s.heap z TI TO .none)(hTI:IsPair s.heap TI (.ref i1) (.ref i2))(hTO:IsPair s.heap TO a b)(h1:ItA t s.heap i1 l1 k1)(h2:ItA t2 s.heap i2 l2 k2)(hl1:SeA t s.heap l1 xs)(hl2:SeA t2 s.heap l2 ys)(hx:xs[k1]? =some x)(hy:ys[k2]? =some y)(hQ: ∀h',IsZip h' z TI TO (rawInt s.heap.objs.size)->IsPair h' TO x y->ItA t h' i1 l1 (k1+1)->ItA t2 h' i2 l2 (k2+1)->IsPair h' s.heap.objs.size x y->h'.objs.size=s.heap.objs.size+1->
   (∀c o,c≠z->c≠TO->c≠i1->c≠i2->s.heap.get? c=some o->h'.get? c=some o)->Q (some (.ref s.heap.objs.size)) {s with heap:=h'}):wpAny (model prog w) A (pyNext (.ref z)) Q Ex s:=by
 have U:s.TypeIs (.ref z) "zip":=⟨_,hz,rfl⟩;have d: ∀{t:Bool} {h h':Heap} {it l:Addr} {k:Nat} {c:Addr},ItA t h it l k->Heap.SameBut c h h'->it≠c->ItA t h' it l k:=λq J L=>bR q λo e=>(J.2 _ L).trans e
 have g: ∀{t:Bool} {h h':Heap} {l:Addr} {it:Array Value} {c:Addr},SeA t h l it->Heap.SameBut c h h'->l≠c->SeA t h' l it:=λq J L=>nW q λo e=>(J.2 _ L).trans e
 unfold pyNext;refine aa (wpAny_attempt (wpAny_callSpecial?_slot (name:=Str.ofString "__next__") U F.slot_zip_next (wpAny_call_entry F.slot_zip_next U F.entry_zip_next ?_ (F.args_zip_next_1 _))));show wpAny _ _ (field (.ref z) 2 >>= _) _ _ _;refine aa (wpAny_field hz rfl (x:=.bool false) rfl ?_);show wpAny _ _ (field (.ref z) 3 >>= _) _ _ _;refine aa (wpAny_field hz rfl (x:=.ref TI) rfl (aa (wpAny_seqItems hTI rfl ?_)));show wpAny _ _ (Builtin.SmallTypes.ownedTupleIsFree (.ref z) >>= _) _ _ _;refine aa ?_;unfold Builtin.SmallTypes.ownedTupleIsFree;refine aa (wpAny_field hz rfl (x:=.none) rfl (ac ?_));simp only[if_true];refine aa (wpAny_rule (aa (wpAny_field hz rfl (x:=.ref TO) rfl (aa (wpAny_setField_rec hz (by simp) λg1 M i=>?_)))))
 replace M:IsZip g1 z TI TO .ellipsis:=M;refine aa ?_;simp only[List.zipIdx_cons,List.zipIdx_nil,List.forIn_cons,List.forIn_nil];refine aa (aa (wpAny_onRaise ?_));show wpAny _ _ (Builtin.SmallTypes.nextOf (.ref i1) >>= _) _ _ _;refine aa (eI (d h1 i D.i1z) (g hl1 i D.l1z) hx λg2 p2 m=>ac ?_)
 have T:IsPair g2 TO a b:=(m.2 _ D.TOi1).trans ((i.2 _ D.TOz).trans hTO);refine aa (wpAny_seqItems T rfl (aa (wpAny_updateSeq_pair T λg3 K n=>?_)))
 replace K:IsPair g3 TO x b:=K;refine aa (wpAny_letGo (ac (aa (aa (wpAny_onRaise ?_)))));show wpAny _ _ (Builtin.SmallTypes.nextOf (.ref i2) >>= _) _ _ _;refine aa (eI (d (d (d h2 i D.i2z) m D.i12.symm) n D.TOi2.symm) (g (g (g hl2 i D.l2z) m D.l2i1) n D.l2TO) hy λg4 p4 v=>ac ?_)
 have X:IsPair g4 TO x b:=(v.2 _ D.TOi2).trans K;refine aa (wpAny_seqItems X rfl (aa (wpAny_updateSeq_pair X λf C u=>?_)))
 replace C:IsPair f TO x y:=C;refine aa (wpAny_letGo (ac (ac (aa (wpAny_seqItems C rfl (aa (wpAny_newTuple ?_)))))))
 have p:f.objs.size=s.heap.objs.size:=by rw[u.1,v.1,n.1,m.1,i.1]
 have Z:IsZip f z TI TO .ellipsis:=(u.2 _ D.TOz.symm).trans ((v.2 _ D.i2z.symm).trans ((n.2 _ D.TOz.symm).trans ((m.2 _ D.i1z.symm).trans M)))
 have k5: ∀c o,c≠z->c≠TO->c≠i1->c≠i2->s.heap.get? c=some o->f.get? c=some o:=λc o j E G H e=>(u.2 _ E).trans ((v.2 _ H).trans ((n.2 _ E).trans ((m.2 _ G).trans ((i.2 _ j).trans e))))
 have q1:ItA t f i1 l1 (k1+1):=d (d (d p2 n D.TOi1.symm) v D.i12) u D.TOi1.symm;have q2:ItA t2 f i2 l2 (k2+1):=d p4 u D.TOi2.symm;have S:z<f.objs.size:=ag Z;show wpAny _ _ (Builtin.SmallTypes.ownedTupleHandOut (.ref z) (.ref f.objs.size) >>= _) _ _ _;refine aa ?_;unfold Builtin.SmallTypes.ownedTupleHandOut;have z6:IsZip (f.push {cls:=.type "tuple",data:=.seq #[x,y]}) z TI TO .ellipsis:=ae _ Z;refine aa (wpAny_setField_rec z6 (by simp) λg7 N I=>?_)
 replace N:IsZip g7 z TI TO (rawInt f.objs.size):=N;refine wpAny_setField_rec N (by simp) λr B O=>?_
 replace B:IsZip r z TI TO (rawInt f.objs.size):=B
 have up: ∀c o,c≠z->f.get? c=some o->r.get? c=some o:=λc o j e=>(O.2 _ j).trans ((I.2 _ j).trans (ae _ e))
 have W:IsPair r f.objs.size x y:=(O.2 _ (Nat.ne_of_gt S)).trans ((I.2 _ (Nat.ne_of_gt S)).trans (af _ rfl))
 have Y:r.objs.size=f.objs.size+1:=by rw[O.1,I.1,ah]
 rw[p]at B W Y;refine ac ⟨_,rfl,ac ?_⟩;show Q (some (.ref f.objs.size)) _;rw[p];refine hQ r B (up _ _ D.TOz C) ?_ ?_ W Y λc o j E G H e=>up c o j (k5 c o j E G H e)
 ·exact bR q1 λo e=>up _ o D.i1z e
 ·exact bR q2 λo e=>up _ o D.i2z e
theorem uO{z TI TO i1 i2 l1 l2:Addr}(hh:A.handled=none)(D:ZipApart z TI TO i1 i2 l1 l2)(hz:IsZip s.heap z TI TO .none)(hTI:IsPair s.heap TI (.ref i1) (.ref i2))(hTO:IsPair s.heap TO a b)(h1:ItA t s.heap i1 l1 k1)(h2:ItA t2 s.heap i2 l2 k2)(hl1:SeA t s.heap l1 xs)(hl2:SeA t2 s.heap l2 ys)(he:xs[k1]? =none\/ys[k2]? =none)(hQ: ∀h',(∀c o,c≠z->c≠TO->c≠i1->c≠i2->s.heap.get? c=some o->h'.get? c=some o)->Q none {s with heap:=h'}):wpAny (model prog w) A (pyNext (.ref z)) Q Ex s:=by
 have J:s.TypeIs (.ref z) "zip":=⟨_,hz,rfl⟩;have d: ∀{t:Bool} {h h':Heap} {it l:Addr} {k:Nat} {c:Addr},ItA t h it l k->Heap.SameBut c h h'->it≠c->ItA t h' it l k:=λq B C=>bR q λo e=>(B.2 _ C).trans e
 have f: ∀{t:Bool} {h h':Heap} {l:Addr} {it:Array Value} {c:Addr},SeA t h l it->Heap.SameBut c h h'->l≠c->SeA t h' l it:=λq B C=>nW q λo e=>(B.2 _ C).trans e
 unfold pyNext
 have m: ∀(h':Heap) (e:Addr),(∀c o,c≠z->c≠TO->c≠i1->c≠i2->s.heap.get? c=some o->h'.get? c=some o)->(∃o,h'.get? e=some o/\o.cls= .type "StopIteration")->wpAny (model prog w) A (do if(<-isInstance (.ref e) (.type "StopIteration"))=true then pure none else throw (.ref e)) Q Ex {s with heap:=h'}:=λh' e kk he=>by
  obtain⟨o,O,Y⟩:=he;exact aa (wpAny_isInstance (T:="StopIteration") (b:=true) ⟨o,O,Y⟩ isSubtype_stop (ac (hQ _ kk)))
 refine aa (wpAny_attempt (wpAny_callSpecial?_slot (name:=Str.ofString "__next__") J F.slot_zip_next (wpAny_call_entry F.slot_zip_next J F.entry_zip_next ?_ (F.args_zip_next_1 _))));show wpAny _ _ (field (.ref z) 2 >>= _) _ _ _;refine aa (wpAny_field hz rfl (x:=.bool false) rfl ?_);show wpAny _ _ (field (.ref z) 3 >>= _) _ _ _;refine aa (wpAny_field hz rfl (x:=.ref TI) rfl (aa (wpAny_seqItems hTI rfl ?_)));show wpAny _ _ (Builtin.SmallTypes.ownedTupleIsFree (.ref z) >>= _) _ _ _;refine aa ?_;unfold Builtin.SmallTypes.ownedTupleIsFree;refine aa (wpAny_field hz rfl (x:=.none) rfl (ac ?_));simp only[if_true];refine aa (wpAny_rule (aa (wpAny_field hz rfl (x:=.ref TO) rfl (aa (wpAny_setField_rec hz (by simp) λU r g=>?_)))))
 replace r:IsZip U z TI TO .ellipsis:=r;refine aa ?_;simp only[List.zipIdx_cons,List.zipIdx_nil,List.forIn_cons,List.forIn_nil];refine aa (aa (wpAny_onRaise ?_));show wpAny _ _ (Builtin.SmallTypes.nextOf (.ref i1) >>= _) _ _ _
 cases v:xs[k1]? with
 |none=>
  refine aa (iH hh (d h1 g D.i1z) (f hl1 g D.l1z) v λG e i he=>?_)
  obtain⟨E,q1,p⟩:=he;have L:IsZip G z TI TO .ellipsis:=i _ _ D.i1z.symm r;have u:e≠z:=λx=>by subst x;rw[L]at q1;cases q1;simp at p
  exact wpAny_setField_rec L (by simp) λH _ j=>m H e (λc o n _ y _ x=>(j.2 _ n).trans (i _ _ y ((g.2 _ n).trans x))) ⟨E,(j.2 _ u).trans q1,p⟩
 |some x=>
  have Z:ys[k2]? =none:=he.resolve_left λh=>by rw[v]at h;cases h
  refine aa (eI (d h1 g D.i1z) (f hl1 g D.l1z) v λG p2 i=>ac ?_)
  have I:IsPair G TO a b:=(i.2 _ D.TOi1).trans ((g.2 _ D.TOz).trans hTO);refine aa (wpAny_seqItems I rfl (aa (wpAny_updateSeq_pair I λH o3 j=>?_)))
  refine aa (wpAny_letGo (ac (aa (aa (wpAny_onRaise ?_)))));show wpAny _ _ (Builtin.SmallTypes.nextOf (.ref i2) >>= _) _ _ _;refine aa (iH hh (d (d (d h2 g D.i2z) i D.i12.symm) j D.TOi2.symm) (f (f (f hl2 g D.l2z) i D.l2i1) j D.l2TO) Z λS e M he=>?_)
  obtain⟨E,q1,p⟩:=he;have N:IsZip S z TI TO .ellipsis:=M _ _ D.i2z.symm ((j.2 _ D.TOz.symm).trans ((i.2 _ D.i1z.symm).trans r));have u:e≠z:=λx=>by subst x;rw[N]at q1;cases q1;simp at p
  exact wpAny_setField_rec N (by simp) λX _ K=>m X e (λc o n c2 y W x=>(K.2 _ n).trans (M _ _ W ((j.2 _ c2).trans ((i.2 _ y).trans ((g.2 _ n).trans x))))) ⟨E,(K.2 _ u).trans q1,p⟩
end
noncomputable def itC(t:Bool):String:=if t then "tuple_iterator" else "list_iterator"
abbrev zg1(t:Bool)(h:Heap)(l:Addr):Heap:=h.push {cls:=.type (itC t),data:=.fields #[.ref l,.int 0 0]}
abbrev zg3(t t2:Bool)(h:Heap)(l m:Addr):Heap:=(zg1 t2 (zg1 t h l) m).push {cls:=.type "tuple",data:=.seq #[.ref h.objs.size,.ref (zg1 t h l).objs.size]}
abbrev zg4(t t2:Bool)(h:Heap)(l m:Addr):Heap:=(zg3 t t2 h l m).push {cls:=.type "tuple",data:=.seq #[.none,.none]}
abbrev zg5(t t2:Bool)(h:Heap)(l m:Addr):Heap:=(zg4 t t2 h l m).push {cls:=.type "zip",data:=.fields #[.none,.bool false,.bool false,.ref (zg1 t2 (zg1 t h l) m).objs.size,.ref (zg3 t t2 h l m).objs.size]}
theorem BD(t t2:Bool)(l m:Addr)(xs ys:Array Value):Meets (Builtin.«zip.__new__» ⟨[.type "zip",.ref l,.ref m],[]⟩) (λ_ R s=>SeA t s.heap l xs/\SeA t2 s.heap m ys/\R (.ok (.ret (.ref (zg4 t t2 s.heap l m).objs.size))) {s with heap:=zg5 t t2 s.heap l m}):=
 .of_wp λi w A R s h=>by
  obtain⟨c,g,d,e,f⟩:=s;obtain⟨j,a,h⟩:=h;have n:=sub_zip
  cases t with
  |true=>
   have q1:Heap.IsTuple (Shared.heap ⟨c,g,d,e,f⟩) l xs:=j
   cases t2 with
   |true=>
    have b:Heap.IsTuple (Shared.heap ⟨c.push {cls:=.type "tuple_iterator",data:=.fields #[.ref l,.int 0 0]},g,d,e,f⟩) m ys:=Heap.IsTuple.push a _
    wp_walk using wpAny_pyIter_tuple q1,wpAny_pyIter_tuple b
    exact⟨_,rfl,h⟩
   |false=>
    have b:Heap.IsList (Shared.heap ⟨c.push {cls:=.type "tuple_iterator",data:=.fields #[.ref l,.int 0 0]},g,d,e,f⟩) m ys:=Heap.IsList.push a _
    wp_walk using wpAny_pyIter_tuple q1,wpAny_pyIter_list b
    exact⟨_,rfl,h⟩
  |false=>
   have q1:Heap.IsList (Shared.heap ⟨c,g,d,e,f⟩) l xs:=j
   cases t2 with
   |true=>
    have b:Heap.IsTuple (Shared.heap ⟨c.push {cls:=.type "list_iterator",data:=.fields #[.ref l,.int 0 0]},g,d,e,f⟩) m ys:=Heap.IsTuple.push a _
    wp_walk using wpAny_pyIter_list q1,wpAny_pyIter_tuple b
    exact⟨_,rfl,h⟩
   |false=>
    have b:Heap.IsList (Shared.heap ⟨c.push {cls:=.type "list_iterator",data:=.fields #[.ref l,.int 0 0]},g,d,e,f⟩) m ys:=Heap.IsList.push a _
    wp_walk using wpAny_pyIter_list q1,wpAny_pyIter_list b
    exact⟨_,rfl,h⟩
section
variable{Ex:cc}{s:Shared}
theorem yR(e:h.get? it=some {cls:=.type (itC t),data:=.fields #[.ref l,.int 0 0]}):ItA t h it l 0:=by
 cases t with
 |true=>exact⟨_,e,rfl,rfl⟩
 |false=>exact⟨_,e,rfl,rfl⟩
theorem qD{Q:cc}(t1:SeA t s.heap l xs)(t2':SeA t2 s.heap m ys)(h: ∀h',IsZip h' (s.heap.objs.size+4) (s.heap.objs.size+2) (s.heap.objs.size+3) .none->IsPair h' (s.heap.objs.size+2) (.ref s.heap.objs.size) (.ref (s.heap.objs.size+1))->IsPair h' (s.heap.objs.size+3) .none .none->
   ItA t h' s.heap.objs.size l 0->ItA t2 h' (s.heap.objs.size+1) m 0->h'.objs.size=s.heap.objs.size+5->(∀c o,s.heap.get? c=some o->h'.get? c=some o)->Q (.ref (s.heap.objs.size+4)) {s with heap:=h'}):
  wpAny (model prog w) A (call (.type "zip") [.ref l,.ref m]) Q Ex s:=by
 refine callType_new F.called_zip (by decide) (F.typeCall_zip_2 _ _) (F.newCall_zip_2 _ _) (λg=>F.args_object_init_3 g _ _) F.entry_zip_new (BD t t2 l m xs ys) ⟨t1,t2',?_⟩
 have a:(zg1 t s.heap l).objs.size=s.heap.objs.size+1:=ah ..
 have i:(zg1 t2 (zg1 t s.heap l) m).objs.size=s.heap.objs.size+2:=by rw[ah,a]
 have b:(zg3 t t2 s.heap l m).objs.size=s.heap.objs.size+3:=by rw[ah,i]
 have d:(zg4 t t2 s.heap l m).objs.size=s.heap.objs.size+4:=by rw[ah,b]
 have q:(zg5 t t2 s.heap l m).objs.size=s.heap.objs.size+5:=by rw[ah,d]
 have up: ∀{h:Heap} {o:Obj} {c:Addr} {x:Obj},h.get? c=some x->(h.push o).get? c=some x:=λe=>ae _ e
 have f:(zg5 t t2 s.heap l m).get? (zg4 t t2 s.heap l m).objs.size=some _:=af _ rfl
 have n:(zg5 t t2 s.heap l m).get? (zg3 t t2 s.heap l m).objs.size=some _:=up (af _ rfl)
 have p:(zg5 t t2 s.heap l m).get? (zg1 t2 (zg1 t s.heap l) m).objs.size=some _:=up (up (af _ rfl))
 have j:(zg5 t t2 s.heap l m).get? (zg1 t s.heap l).objs.size=some _:=up (up (up (af _ rfl)))
 have r:(zg5 t t2 s.heap l m).get? s.heap.objs.size=some _:=up (up (up (up (af _ rfl))))
 show _/\_;rw[i,b,d]at f;rw[a,i]at p;rw[b]at n;rw[a]at j;rw[d];exact⟨⟨_,f,rfl⟩,h _ f p n (yR r) (yR j) q λc o x=>up (up (up (up (up x))))⟩
end
def EW(t t2:Bool)(K:PySem.W.Frag)(l m:Addr):It:=
 ⟨λi H=>∃xs ys x y,SqA t K H l xs/\SqA t2 K H m ys/\xs[i]? =some x/\ys[i]? =some y,
  λi H v H'=>∃p x y,H p=none/\v= .ref p/\(∀xs,SqA t K H l xs->xs[i]? =some x)/\(∀ys,SqA t2 K H m ys->ys[i]? =some y)/\H'=upd H p (.tup [x,y]),
  λi H=>∃xs ys,SqA t K H l xs/\SqA t2 K H m ys/\(xs.length<=i\/ys.length<=i)⟩
theorem yS{K:PySem.W.Frag}{z TI TO i1 i2 l m:Addr}(D:ZipApart z TI TO i1 i2 l m):
  Turn P w K (.Tuple es x1 tp) (EW t t2 K l m) [z,TI,TO,i1,i2] z (λi h=>IsZip h z TI TO .none/\IsPair h TI (.ref i1) (.ref i2)/\(∃a b,IsPair h TO a b)/\ItA t h i1 l i/\ItA t2 h i2 m i) where
 mem:=by simp
 obj:=λi h f b d=>by
  obtain⟨j,g,⟨a,c,n⟩,Y,y5⟩:=f;obtain⟨o4,r,d4⟩:=nX Y;obtain⟨o5,A,d5⟩:=nX y5;simp only[au,List.not_mem_nil,or_false]at d;rcases d with rfl|rfl|rfl|rfl|rfl
  ·exact⟨_,j,λv e=>by cases e⟩
  ·exact⟨_,g,λv e=>by cases e⟩
  ·exact⟨_,n,λv e=>by cases e⟩
  ·exact⟨_,r,λv e=>by rw[d4]at e;cases e⟩
  ·exact⟨_,A,λv e=>by rw[d5]at e;cases e⟩
 keep:=λi h N f k=>by
  obtain⟨j,g,⟨a,c,n⟩,Y,y5⟩:=f;exact⟨k _ (by simp) _ j,k _ (by simp) _ g,⟨a,c,k _ (by simp) _ n⟩,bR Y λo e=>k _ (by simp) o e,bR y5 λo e=>k _ (by simp) o e⟩
 item:=by
  intro X Z hw U hc i B s M H E I L f hg;subst Z hw U;obtain⟨xs,ys,x,y,q1,J,G,hy⟩:=hg;obtain⟨us,r1,p1,_⟩:=d7 I q1;obtain⟨vs,r2,T,_⟩:=d7 I J;obtain⟨u,hu,ru⟩:=r1.get G;obtain⟨v,hv,rv⟩:=r2.get hy;obtain⟨j,g,⟨a,c,n⟩,r,A⟩:=f;have tI:TI<s.heap.objs.size:=ag g;have tz:z<s.heap.objs.size:=ag j;have tO:TO<s.heap.objs.size:=ag n;have t4:i1<s.heap.objs.size:=by obtain⟨o,e,_⟩:=nX r;exact ag e
  have t5:i2<s.heap.objs.size:=by obtain⟨o,e,_⟩:=nX A;exact ag e
  refine qC D j g n r A p1 T (x:=u) (y:=v) (by simpa using hu) (by simpa using hv) λN a1 a2 a3 a4 a5 a6 a7=>⟨_,rfl,?_⟩
  have O:H s.heap.objs.size=none:=I.hok.fresh (ai _)
  -- the pair, laid
  have Ia:Inv X B M (upd H s.heap.objs.size (.tup [x,y])) {s with heap:=s.heap.push {cls:=.type "tuple",data:=.seq #[u,v]} }:=
   I.laid (t':=s.toks) (λb o e=>ae _ e) (ai _) (show ObjOk X.prog X.w _ _ _ (.tup [x,y]) from⟨by rw[sizeLine_eq];simp,[u,v],.cons ru (.cons rv .nil),⟨_,af _ rfl,rfl,_,rfl⟩,⟨_,af _ rfl,rfl⟩⟩)
  have ab: ∀b∈[z,TI,TO,i1,i2],b≠s.heap.objs.size:=λb d=>by
   simp only[au,List.not_mem_nil,or_false]at d;rcases d with rfl|rfl|rfl|rfl|rfl
   ·exact bg tz
   ·exact bg tI
   ·exact bg tO
   ·exact bg t4
   ·exact bg t5
  have p: ∀b∈[z,TI,TO,i1,i2],oY X B (upd H s.heap.objs.size (.tup [x,y])) b:=λb d=>⟨by rw[aC (ab b d)];exact(L b d).1,(L b d).2⟩
  have Ib:Inv X B M (upd H s.heap.objs.size (.tup [x,y])) {s with heap:=N}:=by
   refine f8 (s:={s with heap:=s.heap.push {cls:=.type "tuple",data:=.seq #[u,v]} }) (t':=s.toks) Ia (λb o d e=>?_) p
   simp only[au,List.not_mem_nil,or_false,not_or]at d
   by_cases hq:b=s.heap.objs.size
   ·subst hq;rw[show(s.heap.push {cls:=.type "tuple",data:=.seq #[u,v]}).get? s.heap.objs.size=some _ from af _ rfl]at e
    cases e;exact a5
   ·have e2:s.heap.get? b=some o:=by
     exact(Heap.get?_push_ne _ b _ hq).symm.trans e
    exact a7 b o d.1 d.2.2.1 d.2.2.2.1 d.2.2.2.2 e2
  refine wpAny_letOwnedTupleGo_zip a1 λh2 b1 C=>?_
  have Ic:Inv X B M (upd H s.heap.objs.size (.tup [x,y])) {s with heap:=h2}:=f8 (s:={s with heap:=N}) (t':=s.toks) Ib (λb o d e=>(C.2 b (λq=>d (by simp[q]))).trans e) p
  refine⟨.ref s.heap.objs.size,_,Ic,rfl,⟨_,x,y,O,rfl,λad Q=>by rw[lC I Q q1];exact G,λak S=>by rw[lC I S J];exact hy,rfl⟩,⟨b1,?_,⟨u,v,?_⟩,?_,?_⟩,λb d=>(p b d).1⟩
  ·exact(C.2 _ D.TIz).trans (a7 _ _ D.TIz D.TITO D.TIi1 D.TIi2 g)
  ·exact(C.2 _ D.TOz).trans a2
  ·exact bR a3 λo e=>(C.2 _ D.i1z).trans e
  ·exact bR a4 λo e=>(C.2 _ D.i2z).trans e
 done:=by
  intro X Z hw U hc i B s M H E I L f hg;subst Z hw U;obtain⟨xs,ys,q1,J,G⟩:=hg;obtain⟨us,r1,p1,_⟩:=d7 I q1;obtain⟨vs,r2,T,_⟩:=d7 I J;obtain⟨j,g,⟨a,c,n⟩,r,A⟩:=f;have n1:=r1.length;have n2:=r2.length;refine uO (I.ok.hd hc) D j g n r A p1 T (G.elim (λh=>.inl (by simp;lia)) λh=>.inr (by simp;lia)) λN k=>⟨rfl,f8 (t':=s.toks) I (λb o d e=>?_) L⟩
  simp only[au,List.not_mem_nil,or_false,not_or]at d;exact k b o d.1 d.2.2.1 d.2.2.2.1 d.2.2.2.2 e
 self:=λ_ _ _ _ _ f h=>wpAny_pyIter_zip f.1 h
section
variable{X:Cx}{ad:Ad}{cb:ce}{s:Shared}{σ:St}{H G:Hp}{Q:VK}{E:Nat->Hp->Prop}{ap cp:Pos}{o a:Expr}{f g:F}
theorem EX(e:Same G1 H1)(q:Seq X ad G1 H1 (.lst ds) x): ∃l xs,x= .ref l/\SqL X.K H1 l xs/\aJ X.K ad G1 ds xs:=by
 rcases q with q|⟨l,a,ds',e1,e2,e3,e4,e5⟩
 ·unfold Rep at q;obtain⟨l,a,rfl,b,c⟩:=q;exact⟨l,a,rfl,e.seq b,c⟩
 ·cases e1;exact⟨l,a,e2,SqL.of e4,e5⟩
theorem yT{m:Str}{id:String}{r:Fn}(slot:PySem.Slot "list" m id)(hty:typeOf (.builtin id)=pure (.type "method_descriptor"))
  (ho:ML X ad o f) (ha:ME X ad a g) (hs:starEach [a] X.env=(false,eval a X.env)::starEach [] X.env) (hbase:attributeBase o m X.env (eval o X.env)=eval o X.env) (hline:(ap.endLine==cp.line)=true)
  (hm: ∀(cb:ce) (s:Shared) (σ:St) (H G:Hp) (l:Addr) (xs:List V) (ds:List D) (y:D) (v:V) (u:Value) (Q:VK) (E:Nat->Hp->Prop),Inv X cb σ H s->Same G H->SqL X.K H l xs->aJ X.K ad G ds xs->Rep X.K ad G y v->bG v u->
   RK X.K ad G H (r [.lst ds,y]) Q E->wpAny (model X.prog X.w) X.A (call (.builtin id) [.ref l,u]) (EP X cb σ Q) X.xe s):ME X ad (.Call (.Attribute o m ap) [a] [] cp) (rV r f g):=by
 refine λcb s σ H Q I J=>J.el λG U E z q e t=>?_
 refine wpAny_Call_method_late hbase (uJ hs) hline rfl (L2.thn (ho.lk cb s σ H G U _ Q E I z q e t) λv s1 b=>?_)
 obtain⟨x,d,G1,H1,i,Y,st1,q1,p⟩:=b
 cases d<;>try exact az p
 rename_i ds;obtain⟨l,xs,rfl,h,Z⟩:=EX st1.gh q1
 cases (show v=Value.ref l from Y)
 obtain⟨C,rv,pl,_⟩:=i.list h;obtain⟨c,n,j,T,e3,e4⟩:=pl;refine⟨"list",id,PySem.F.plainAttrs_list,slot,hty,⟨c,j,T⟩,λa' W=>by cases W;exact⟨c,j,e3⟩,?_⟩
 rw[hs];refine Calls.callWith_builtin rfl (Calls.evalArgs_plain (Calls.spliced_cons (L2.thn (ha.thn i st1.gh (q.step st1) e p) λu B ⟨w,y,G2,N,S,M,st2,O,L⟩=>Calls.spliced_nil ?_)))
 exact hm cb B σ N G2 l xs ds y w u Q E S st2.gh (st2.sh.seq h) (Z.mono st2.sg) O M L
theorem BE(hu:X.A.units+62<cLine)(ho:ML X ad o f)(ha:ME X ad a g)(hs:starEach [a] X.env=(false,eval a X.env)::starEach [] X.env)(hbase:attributeBase o "count" X.env (eval o X.env)=eval o X.env)(hline:(ap.endLine==cp.line)=true):
  ME X ad (.Call (.Attribute o "count" ap) [a] [] cp) (rV xD f g):=by
 refine yT PySem.F.slot_list_count PySem.F.type_list_count ho ha hs hbase hline ?_;intro U s S H G l T h y v u Q E I j B M q r k
 have c:RK X.K ad G H (if tP y h then .ok (.int ((h.countP λz=>deq z y):Nat))else .bad) Q E:=k
 by_cases i:tP y h=true
 ·rw[if_pos i]at c;obtain⟨d,O,⟨⟨L,dd,p,J⟩,n,m,x,N,t⟩,_⟩:=I.list B
  simp only at x N t
  subst x t;obtain⟨e,C,_,b,_⟩:=uA hu I j i q r M O;refine call_meets PySem.F.slot_list_count ⟨_,m,rfl⟩ PySem.F.entry_list_count (PySem.F.args_list_count_2 _ _) (SeqAt.list_countAt l d.toArray n dd J u e) ⟨m,C,?_⟩;refine⟨.int _,H,I.tok _,⟨_,rfl⟩,?_⟩;rw[<-b]at c;exact c.ok_now j bQ
 ·rw[if_neg i]at c;exact c.elim
theorem BF(hu:X.A.units+62<cLine)(ho:ML X ad o f)(ha:ME X ad a g)(hs:starEach [a] X.env=(false,eval a X.env)::starEach [] X.env)(hbase:attributeBase o "index" X.env (eval o X.env)=eval o X.env)(hline:(ap.endLine==cp.line)=true):
  ME X ad (.Call (.Attribute o "index" ap) [a] [] cp) (rV xE f g):=by
 refine yT PySem.F.slot_list_index PySem.F.type_list_index ho ha hs hbase hline ?_;intro cb s σ H G l xs d y v u Q E I x O Y q r k
 have c:RK X.K ad G H (if tP y d then(match d.findIdx? λz=>deq z y with|some k=>.ok (.int (k:Nat))|none=>.bad)else .bad) Q E:=k
 by_cases p:tP y d=true
 ·rw[if_pos p]at c;obtain⟨i,M,⟨⟨W,dd,C,U⟩,n,B,L,Z,J⟩,hz⟩:=I.list O
  simp only at L Z J
  subst L J;obtain⟨e,T,_,_,b⟩:=uA hu I x p q r Y M
  cases N:d.findIdx? λz=>deq z y with
  |none=>rw[N]at c;exact c.elim
  |some j=>
   rw[N]at c b;obtain⟨S,hit,h⟩:=List.findIdx?_eq_some_iff_getElem.mp b;have hl:=M.length;refine call_meets PySem.F.slot_list_index ⟨_,B,rfl⟩ PySem.F.entry_list_index (PySem.F.args_list_index_2 _ _) (SeqAt.list_indexAt l i.toArray n dd U u e j (by simpa using S) ?_ (by simpa using hit) (λm hm t=>by simpa using h m t)) ⟨B,T,?_⟩
   ·have:(sizeLine:Nat)<2^63-1:=by decide
    lia
   ·exact⟨.int _,H,I.tok _,⟨_,rfl⟩,c.ok_now x bQ⟩
 ·rw[if_neg p]at c;exact c.elim
def iZp(K:PySem.W.Frag)(ta:TA):TI:=λσ H R=>ta σ H λvs H1=>∃t t2 l m xs ys,vs=[.ref l,.ref m]/\SqA t K H1 l xs/\SqA t2 K H1 m ys/\(xs.length<=sizeLine->R (EW t t2 K l m) H1)
theorem IG{kt}(hg:L2.Gl X "zip")(hm:X.mg "zip"=none)(ha:PA X [a,b] ta)(he:starEach [a,b] X.env=(false,eval a X.env)::starEach [b] X.env)(he2:starEach [b] X.env=(false,eval b X.env)::starEach [] X.env):
  PI X (.Tuple es kt tp) (.Call (.Name "zip" p) [a,b] [] pos) (iZp X.K ta):=by
 intro G s E H R I h;refine Call_ (fX (u:=.type "zip") I hg hm (by decide+kernel) (PyProof.Rows.callWith_type1 (L2.thn (ha pos G s E H _ I h) λY c ⟨vs,L,f,S,q1⟩=>?_) he (by rw[he2];rfl)) (by decide) (by decide))
 obtain⟨t,z,l,m,Z,ys,rfl,g,i,q⟩:=q1;obtain⟨u,v,rfl,U,W⟩:=S.two
 cases (show u=Value.ref l from U)
 cases (show v=Value.ref m from W)
 obtain⟨J,_,j,T⟩:=d7 f g;obtain⟨n,_,r,_⟩:=d7 f i;refine qD j r λh' y C M O B a6 Q=>wpAny_pyIter_zip y ?_
 have A:l<c.heap.objs.size:=by cases t<;>(obtain⟨o,e,_⟩:=j;exact ag e)
 have N:m<c.heap.objs.size:=by cases z<;>(obtain⟨o,e,_⟩:=r;exact ag e)
 refine⟨c.heap.objs.size+4,[c.heap.objs.size+4,c.heap.objs.size+2,c.heap.objs.size+3,c.heap.objs.size,c.heap.objs.size+1],_,EW t z X.K l m,L,rfl,f.kept (t':=c.toks) Q,yS (qB A N),⟨y,C,⟨_,_,M⟩,O,B⟩,λb x=>?_,q T⟩
 have d:c.heap.objs.size<=b:=by
  simp only[au,List.not_mem_nil,or_false]at x;rcases x with rfl|rfl|rfl|rfl|rfl
  ·exact Nat.le_add_right _ 4
  ·exact Nat.le_add_right _ 2
  ·exact Nat.le_add_right _ 3
  ·exact ai _
  ·exact Nat.le_add_right _ 1
 exact f.fpOk d (f.hok.fresh d)
theorem yU{ds es:List D}{i:Nat}{d:D}(e:((ds.zip es).map λp=>D.tup [p.1,p.2])[i]? =some d): ∃x y,ds[i]? =some x/\es[i]? =some y/\d= .tup [x,y]:=by
 rw[List.getElem?_map]at e
 cases q:(ds.zip es)[i]? with
 |none=>rw[q]at e;cases e
 |some p=>
  rw[q]at e;rw[List.getElem?_zip_eq_some]at q;exact⟨p.1,p.2,q.1,q.2,(Option.some.inj e).symm⟩
def isA:Bool->List D->D->Prop
 |true,ds,d=>d= .tup ds
 |false,ds,d=>d= .lst ds
theorem nY(c:isA t ds d)(r:Rep X.K ad G1 d v): ∃l vs,v= .ref l/\SqA t X.K G1 l vs/\aJ X.K ad G1 ds vs:=by
 cases t with
 |true=>cases c;unfold Rep at r;exact r
 |false=>cases c;unfold Rep at r;exact r
theorem BG{t t2:Bool}{G1 H1 H2:Hp}{l m:Addr}{i:Nat}{vs ws:List V}{ds es:List D}{d:D}{x:V}(h1:SqA t X.K G1 l vs)(r1:aJ X.K ad G1 ds vs)(h2:SqA t2 X.K G1 m ws)(r2:aJ X.K ad G1 es ws)(hg:Same G1 H1)(e:((ds.zip es).map λp=>D.tup [p.1,p.2])[i]? =some d):
  (EW t t2 X.K l m).go i H1/\∀x H2,(EW t t2 X.K l m).yld i H1 x H2->∃G2,Step G1 H1 G2 H2/\Rep X.K ad G2 d x:=by
 obtain⟨x,y,q,n,rfl⟩:=yU e;obtain⟨v,b,q1⟩:=r1.get q;obtain⟨w,g,j⟩:=r2.get n;refine⟨⟨vs,ws,v,w,a9 hg h1,a9 hg h2,b,g⟩,?_⟩;rintro u s ⟨p,z,A,c,rfl,o,r,rfl⟩;have f:=o vs (a9 hg h1);rw[b]at f;cases f;have h:=r ws (a9 hg h2);rw[g]at h;cases h;refine⟨upd G1 p (.tup [v,w]),Step.new hg c,?_⟩;have a:Same G1 (upd G1 p (.tup [v,w])):=Same.upd_new (hg.free c);unfold Rep;exact⟨p,[v,w],rfl,SqT.of aH,aJ.cons (q1.mono a) (aJ.cons (j.mono a) aJ.nil)⟩
theorem BH{t t2:Bool}{G1 H1:Hp}{l m:Addr}{vs ws:List V}{ds es:List D}(h1:SqA t X.K H1 l vs)(n1:vs.length=ds.length)(h2:SqA t2 X.K H1 m ws)(n2:ws.length=es.length):(EW t t2 X.K l m).stop ((ds.zip es).map λp=>D.tup [p.1,p.2]).length H1:=by
 refine⟨vs,ws,h1,h2,?_⟩;simp only[ao,List.length_zip]
 lia
theorem IH{kt}(hg:L2.Gl X "zip")(hm:X.mg "zip"=none)(ha:ME X ad a f)(hb:ME X ad b g)(he:starEach [a,b] X.env=(false,eval a X.env)::starEach [b] X.env)(he2:starEach [b] X.env=(false,eval b X.env)::starEach [] X.env):
  MI X ad (.Tuple es kt tp) (.Call (.Name "zip" p) [a,b] [] pos) (pQ f g):=by
 rintro Y s u H W I ⟨G,ρ,E,Z,Q,J,T⟩;refine IG (ta:=rR (tE X ad f) (rR (tE X ad g) GQ)) hg hm (cN ha (cN hb eL he2) he) he he2 Y s u H W I ?_;show tE X ad f u H λv M=>tE X ad g u M λB H2=>∃t q l m xs ys,[v,B]=[.ref l,.ref m]/\SqA t X.K H2 l xs/\SqA q X.K H2 m ys/\(xs.length<=sizeLine->W (EW t q X.K l m) H2)
 refine sD Z Q J T λv d G1 M C r k=>?_
 refine sD C.gh (Q.step C) J k λB A O H2 st2 r2 c=>?_
 obtain⟨t,q,y,n,c1,c2,c⟩: ∃t q y n,isA t y d/\isA q n A/\IK X ad O H2 (.ok (.lst ((y.zip n).map λp=>D.tup [p.1,p.2]))) W E:=by
  cases d<;>try exact az c
  ·cases A<;>try exact az c
   ·exact⟨true,true,_,_,rfl,rfl,c⟩
   ·exact⟨true,false,_,_,rfl,rfl,c⟩
  ·cases A<;>try exact az c
   ·exact⟨false,true,_,_,rfl,rfl,c⟩
   ·exact⟨false,false,_,_,rfl,rfl,c⟩
 obtain⟨al,e,hw⟩:=c;cases e;obtain⟨l,vs,rfl,q1,y1⟩:=nY c1 r;obtain⟨m,ws,rfl,z,S⟩:=nY c2 r2;have o:=a9 st2.sg q1;have j:=y1.mono st2.sg;refine⟨t,q,l,m,vs,ws,rfl,a9 st2.gh o,a9 st2.gh z,λU=>hw _ O H2 (Step.refl st2.gh) ⟨λi L N d' h e=>?_,λL N h=>BH (G1:=L) (a9 h.sh (a9 st2.gh o)) j.length (a9 h.sh (a9 st2.gh z)) S.length,?_⟩⟩
 ·exact BG (H2:=N) (x:=.ref l) (a9 h.sg o) (j.mono h.sg) (a9 h.sg z) (S.mono h.sg) h.gh e
 ·have:=j.length
  simp only[ao,List.length_zip]
  lia
theorem BI(hc:MT X ad c h)(ha:MT X ad a f)(hb:MT X ad b g):MT X ad (.IfExp c a b pos) (rIf h f g):=by
 refine λu s t H Q I M=>M.el λG l E J y q O L=>?_
 have j:RK X.K ad G H ((h l).bind λx=>match x with|.bl true=>f l|.bl false=>g l|_=>.bad) (λv N=>∃b,v= .bl b/\Q b N) E:=L
 have C:jN ((h l).bind λx=>match x with|.bl true=>f l|.bl false=>g l|_=>.bad):=O
 have e:isTrue (.IfExp c a b pos) X.env (eval (.IfExp c a b pos) X.env)=(do if<-isTrue c X.env (eval c X.env)then isTrue a X.env (eval a X.env)else isTrue b X.env (eval b X.env)):=rfl
 rw[e];refine aa ?_;rcases fM C with ⟨d,n,i⟩|⟨T,n,i⟩|⟨k,n⟩
 ·cases d<;>try exact(bW i).elim
  rename_i k;rw[n]at j;refine L2.thn (hc u s t H (λb o=>b=k/\∃p,Step G H p o) I ⟨G,l,E,J,y,q,.inl ⟨k,n⟩,?_⟩) λb B ⟨o,A,S,p,m⟩=>?_
  ·rw[n];intro v p o m r;unfold Rep at r;subst r;exact⟨k,rfl,rfl,p,m⟩
  ·subst S
   cases b with
   |true=>exact wpAny_ite_true (by decide) (ha u B t o Q A ⟨p,l,E,m.gh,y.step m,q,i,RK.step j m⟩)
   |false=>exact wpAny_ite_false (by decide) (hb u B t o Q A ⟨p,l,E,m.gh,y.step m,q,i,RK.step j m⟩)
 ·exact(bW i).elim
 ·rw[n]at j;refine L2.thn (hc u s t H (λb o=>False) I ⟨G,l,E,J,y,q,.inr ⟨k,n⟩,?_⟩) λb B ⟨o,A,z⟩=>z.elim
  rw[n];exact j
end
section
open AutoSeq1 (wpAny_loadPart')
open MeetsSeq MeetsSeq2 MeetsSeq3 SeqRoads2 SeqAt
end
abbrev lD(h:Heap)(z TI TO T:Addr)(f:Bool):Prop:=h.get? z=some {cls:=.type "zip",dict:=none,data:=.fields #[rawInt T,.bool f,.bool false,.ref TI,.ref TO],slots:= #[]}
section
variable{Ex:cc}
theorem II(ho:s.heap.get? a=some o)(h:Q (some o) s):wpAny (model prog w) A (loadIfAlive a) Q Ex s:=by
 have b:Q (s.heap.get? a) s:=by rw[ho];exact h
 exact λ_ _ _=>b
theorem IJ{z TI TO T:Addr}(hz:lD s.heap z TI TO T f)(hT:s.heap.get? T=some o)(hQ: ∀h',lD h' z TI TO T true->Heap.SameBut z s.heap h'->Q false {s with heap:=h'}):
  wpAny (model prog w) A (Builtin.SmallTypes.ownedTupleIsFree (.ref z)) Q Ex s:=by
 unfold Builtin.SmallTypes.ownedTupleIsFree;refine aa (wpAny_field hz rfl (x:=rawInt T) rfl ?_);show wpAny _ _ (loadIfAlive ((T:Int).toNat) >>= _) _ _ _;rw[Int.toNat_natCast];refine aa (II hT ?_);simp only[Option.isNone_some,ay,if_false];refine aa (wpAny_field hz rfl (x:=.bool f) rfl ?_)
 cases f with
 |true=>
  rw[if_neg (show ¬((Value.bool true != Value.bool true)=true) from bd)]
  exact ac (hQ s.heap hz (Heap.SameBut.refl _ _))
 |false=>
  rw[if_pos (show(Value.bool false != Value.bool true)=true from rfl)]
  refine aa (wpAny_setField_rec hz (by simp) λc a b=>?_)
  exact ac (hQ c a b)
theorem yV{z TI TO i1 i2 l1 l2 T:Addr}(D:ZipApart z TI TO i1 i2 l1 l2)(hz:lD s.heap z TI TO T f)(hT:s.heap.get? T=some o)(hTI:IsPair s.heap TI (.ref i1) (.ref i2))(h1:ItA t s.heap i1 l1 k1)(h2:ItA t2 s.heap i2 l2 k2)(hl1:SeA t s.heap l1 xs)(hl2:SeA t2 s.heap l2 ys)(hx:xs[k1]? =some x)(hy:ys[k2]? =some y)(hQ: ∀h',lD h' z TI TO T true->ItA t h' i1 l1 (k1+1)->ItA t2 h' i2 l2 (k2+1)->IsPair h' s.heap.objs.size x y->h'.objs.size=s.heap.objs.size+1->
   (∀c o,c≠z->c≠i1->c≠i2->s.heap.get? c=some o->h'.get? c=some o)->Q (some (.ref s.heap.objs.size)) {s with heap:=h'}):wpAny (model prog w) A (pyNext (.ref z)) Q Ex s:=by
 have i:s.TypeIs (.ref z) "zip":=⟨_,hz,rfl⟩;have a: ∀{t:Bool} {h h':Heap} {it l:Addr} {k:Nat} {c:Addr},ItA t h it l k->Heap.SameBut c h h'->it≠c->ItA t h' it l k:=λq n u=>bR q λo e=>(n.2 _ u).trans e
 have b: ∀{t:Bool} {h h':Heap} {l:Addr} {it:Array Value} {c:Addr},SeA t h l it->Heap.SameBut c h h'->l≠c->SeA t h' l it:=λq n u=>nW q λo e=>(n.2 _ u).trans e
 unfold pyNext;refine aa (wpAny_attempt (wpAny_callSpecial?_slot (name:=Str.ofString "__next__") i F.slot_zip_next (wpAny_call_entry F.slot_zip_next i F.entry_zip_next ?_ (F.args_zip_next_1 _))));show wpAny _ _ (field (.ref z) 2 >>= _) _ _ _;refine aa (wpAny_field hz rfl (x:=.bool false) rfl ?_);show wpAny _ _ (field (.ref z) 3 >>= _) _ _ _;refine aa (wpAny_field hz rfl (x:=.ref TI) rfl (aa (wpAny_seqItems hTI rfl ?_)));show wpAny _ _ (Builtin.SmallTypes.ownedTupleIsFree (.ref z) >>= _) _ _ _;refine aa (IJ hz hT λI C g=>?_)
 simp only[ay,if_false];refine aa ?_;simp only[Array.forIn_toList,List.forIn_toArray,List.forIn_cons,List.forIn_nil];refine aa (aa (wpAny_holding ?_));show wpAny _ _ (Builtin.SmallTypes.nextOf (.ref i1) >>= _) _ _ _;refine aa (eI (a h1 g D.i1z) (b hl1 g D.l1z) hx λJ B j=>ac ?_)
 refine ac (aa (aa (wpAny_holding ?_)));show wpAny _ _ (Builtin.SmallTypes.nextOf (.ref i2) >>= _) _ _ _;refine aa (eI (a (a h2 g D.i2z) j D.i12.symm) (b (b hl2 g D.l2z) j D.l2i1) hy λd G m=>ac ?_)
 refine ac (ac (aa (wpAny_newTuple (hsz:=by rw[sizeLine_eq];simp) ?_)))
 have hsz:d.objs.size=s.heap.objs.size:=by rw[m.1,j.1,g.1]
 have H:lD d z TI TO T true:=(m.2 _ D.i2z.symm).trans ((j.2 _ D.i1z.symm).trans C)
 have E: ∀c o,c≠z->c≠i1->c≠i2->s.heap.get? c=some o->d.get? c=some o:=λc o v p r e=>(m.2 _ r).trans ((j.2 _ p).trans ((g.2 _ v).trans e))
 have up: ∀{c:Addr} {x':Obj},d.get? c=some x'->(d.push {cls:=.type "tuple",data:=.seq #[x,y]}).get? c=some x':=λe=>ae _ e
 refine ac ⟨_,rfl,ac ?_⟩;show Q (some (.ref d.objs.size)) _;rw[hsz];refine hQ _ (up H) ?_ ?_ (by rw[<-hsz];exact af _ rfl) (by rw[ah,hsz]) λc o v p r e=>up (E c o v p r e)
 ·exact bR (a B m D.i12) λo e=>up e
 ·exact bR G λo e=>up e
theorem BJ{z TI TO i1 i2 l1 l2 T:Addr}(hh:A.handled=none)(D:ZipApart z TI TO i1 i2 l1 l2)(hz:lD s.heap z TI TO T f)(hT:s.heap.get? T=some o)(hTI:IsPair s.heap TI (.ref i1) (.ref i2))(h1:ItA t s.heap i1 l1 k1)(h2:ItA t2 s.heap i2 l2 k2)(hl1:SeA t s.heap l1 xs)(hl2:SeA t2 s.heap l2 ys)(he:xs[k1]? =none\/ys[k2]? =none)(hQ: ∀h',(∀c o,c≠z->c≠TO->c≠i1->c≠i2->s.heap.get? c=some o->h'.get? c=some o)->Q none {s with heap:=h'}):wpAny (model prog w) A (pyNext (.ref z)) Q Ex s:=by
 have i:s.TypeIs (.ref z) "zip":=⟨_,hz,rfl⟩;have a: ∀{t:Bool} {h h':Heap} {it l:Addr} {k:Nat} {c:Addr},ItA t h it l k->Heap.SameBut c h h'->it≠c->ItA t h' it l k:=λq n u=>bR q λo e=>(n.2 _ u).trans e
 have d: ∀{t:Bool} {h h':Heap} {l:Addr} {it:Array Value} {c:Addr},SeA t h l it->Heap.SameBut c h h'->l≠c->SeA t h' l it:=λq n u=>nW q λo e=>(n.2 _ u).trans e
 unfold pyNext
 have j: ∀(h':Heap) (e:Addr),(∀c o,c≠z->c≠TO->c≠i1->c≠i2->s.heap.get? c=some o->h'.get? c=some o)->(∃o,h'.get? e=some o/\o.cls= .type "StopIteration")->wpAny (model prog w) A (do if(<-isInstance (.ref e) (.type "StopIteration"))=true then pure none else throw (.ref e)) Q Ex {s with heap:=h'}:=λh' e G he=>by
  obtain⟨o,C,I⟩:=he;exact aa (wpAny_isInstance (T:="StopIteration") (b:=true) ⟨o,C,I⟩ isSubtype_stop (ac (hQ _ G)))
 refine aa (wpAny_attempt (wpAny_callSpecial?_slot (name:=Str.ofString "__next__") i F.slot_zip_next (wpAny_call_entry F.slot_zip_next i F.entry_zip_next ?_ (F.args_zip_next_1 _))));show wpAny _ _ (field (.ref z) 2 >>= _) _ _ _;refine aa (wpAny_field hz rfl (x:=.bool false) rfl ?_);show wpAny _ _ (field (.ref z) 3 >>= _) _ _ _;refine aa (wpAny_field hz rfl (x:=.ref TI) rfl (aa (wpAny_seqItems hTI rfl ?_)));show wpAny _ _ (Builtin.SmallTypes.ownedTupleIsFree (.ref z) >>= _) _ _ _;refine aa (IJ hz hT λL M g=>?_)
 simp only[ay,if_false];refine aa ?_;simp only[Array.forIn_toList,List.forIn_toArray,List.forIn_cons,List.forIn_nil];refine aa (aa (wpAny_holding ?_));show wpAny _ _ (Builtin.SmallTypes.nextOf (.ref i1) >>= _) _ _ _
 cases p:xs[k1]? with
 |none=>
  refine aa (iH hh (a h1 g D.i1z) (d hl1 g D.l1z) p λy e m he=>?_)
  exact j y e (λc o v _ r _ x=>m _ _ r ((g.2 _ v).trans x)) he
 |some x=>
  have B:ys[k2]? =none:=he.resolve_left λh=>by rw[p]at h;cases h
  refine aa (eI (a h1 g D.i1z) (d hl1 g D.l1z) p λy K m=>ac ?_)
  refine ac (aa (aa (wpAny_holding ?_)));show wpAny _ _ (Builtin.SmallTypes.nextOf (.ref i2) >>= _) _ _ _;refine aa (iH hh (a (a h2 g D.i2z) m D.i12.symm) (d (d hl2 g D.l2z) m D.l2i1) B λE e J he=>?_)
  exact j E e (λc o v N r H x=>J _ _ H ((m.2 _ r).trans ((g.2 _ v).trans x))) he
end
def ZS(t t2:Bool)(z TI TO i1 i2 l m N:Addr)(i:Nat)(h:Heap):Prop:=
 (IsZip h z TI TO .none\/∃T f o,lD h z TI TO T f/\N<=T/\h.get? T=some o)/\IsPair h TI (.ref i1) (.ref i2)/\(∃a b,IsPair h TO a b)/\ItA t h i1 l i/\ItA t2 h i2 m i
structure ZB(z TI TO i1 i2 N:Addr):Prop where
 z:z<N
 TI:TI<N
 TO:TO<N
 i1:i1<N
 i2:i2<N
section
variable{Ex:cc}{TI TO:Addr}
theorem ZS.keep(B:ZB z TI TO i1 i2 N)(q:ZS t t2 z TI TO i1 i2 l m N i h)(k: ∀c o,(c=z\/c=TI\/c=TO\/c=i1\/c=i2\/N<=c)->h.get? c=some o->h'.get? c=some o):ZS t t2 z TI TO i1 i2 l m N i h':=by
 obtain⟨d,q1,⟨a,b,g⟩,n,j⟩:=q;refine⟨?_,k _ _ (by simp) q1,⟨a,b,k _ _ (by simp) g⟩,bR n λo e=>k _ o (by simp) e,bR j λo e=>k _ o (by simp) e⟩
 rcases d with d|⟨T,f,o,d,hN,hT⟩
 ·exact .inl (k _ _ (by simp) d)
 ·exact .inr ⟨T,f,o,k _ _ (by simp) d,hN,k _ _ (by simp[hN]) hT⟩
theorem EY(D:ZipApart z TI TO i1 i2 l m)(B:ZB z TI TO i1 i2 N)(hN:N<=s.heap.objs.size)(q:ZS t t2 z TI TO i1 i2 l m N i s.heap)(hl1:SeA t s.heap l xs)(hl2:SeA t2 s.heap m ys)(hx:xs[i]? =some x)(hy:ys[i]? =some y)(hQ: ∀h',ZS t t2 z TI TO i1 i2 l m N (i+1) h'->IsPair h' s.heap.objs.size x y->h'.objs.size=s.heap.objs.size+1->
   (∀c o,c≠z->c≠TO->c≠i1->c≠i2->s.heap.get? c=some o->h'.get? c=some o)->Q (some (.ref s.heap.objs.size)) {s with heap:=h'}):wpAny (model prog w) A (pyNext (.ref z)) Q Ex s:=by
 obtain⟨g,q1,⟨a,b,u⟩,v,C⟩:=q;rcases g with g|⟨T,f,o,g,hT,hTo⟩
 ·refine qC D g q1 u v C hl1 hl2 hx hy λh' n E r p h j d=>hQ h' ⟨.inr ⟨_,false,_,n,hN,h⟩,d _ _ D.TIz D.TITO D.TIi1 D.TIi2 q1,⟨_,_,E⟩,r,p⟩ h j d
 ·have L:=B.z;have H:=B.i1;have J:=B.i2;have M:=B.TO;refine yV D g hTo q1 v C hl1 hl2 hx hy λh' n r p h j d=>hQ h' ⟨.inr ⟨T,true,_,n,hT,d _ _ ?_ ?_ ?_ hTo⟩,d _ _ D.TIz D.TIi1 D.TIi2 q1,⟨_,_,d _ _ D.TOz D.TOi1 D.TOi2 u⟩,r,p⟩ h j λc o K O G I e=>d c o K G I e
  ·exact Nat.ne_of_gt (bf L hT)
  ·exact Nat.ne_of_gt (bf H hT)
  ·exact Nat.ne_of_gt (bf J hT)
theorem IL(hh:A.handled=none)(D:ZipApart z TI TO i1 i2 l m)(q:ZS t t2 z TI TO i1 i2 l m N i s.heap)(hl1:SeA t s.heap l xs)(hl2:SeA t2 s.heap m ys)(he:xs[i]? =none\/ys[i]? =none)(hQ: ∀h',(∀c o,c≠z->c≠TO->c≠i1->c≠i2->s.heap.get? c=some o->h'.get? c=some o)->Q none {s with heap:=h'}):wpAny (model prog w) A (pyNext (.ref z)) Q Ex s:=by
 obtain⟨d,q1,⟨a,b,h⟩,g,e⟩:=q;rcases d with d|⟨T,f,o,d,hT,hTo⟩
 ·exact uO hh D d q1 h g e hl1 hl2 he hQ
 ·exact BJ hh D d hTo q1 g e hl1 hl2 he hQ
end
theorem Step.put(st:Step G H G' H')(n:H S=none)(g:G' S=none):Step G H G' (upd H' S o):=
 ⟨st.sg,λb u e=>by rw[aC (aN e g)];exact st.gh b u e,λb u e=>by rw[aC (aN e n)];exact st.sh b u e,st.nw⟩
section
variable{ad:Ad}{σ:L2.St}{TI TO:Addr}{R:Result->Shared->Prop}
noncomputable abbrev pD(ds es:List D):List D:=(ds.zip es).map λp=>D.tup [p.1,p.2]
theorem BK(hh:A.handled=none)(D:ZipApart z TI TO i1 i2 l m)(B:ZB z TI TO i1 i2 N)(hSN:S<N)(res:Value)(hq1:SqA t X.K G0 l xs)(hq2:SqA t2 X.K G0 m ys)(hr1:aJ X.K ad G0 ds xs)(hr2:aJ X.K ad G0 es ys)(hS0:H0 S=none):
  ∀(k i:Nat) (G H:Hp) (s:Shared) (acc:Array Value) (c:Nat) (vs:List V),(pD ds es).length-i=k->i<=(pD ds es).length->N<=s.heap.objs.size->Inv X cb σ H s->(∀b∈[z,TI,TO,i1,i2],oY X cb H b)->Step G0 H0 G H->G S=none->H S=some (.lst vs)->
   ZS t t2 z TI TO i1 i2 l m N i s.heap->s.heap.get? S=some {cls:=.type "list",dict:=none,data:=.seq acc c,slots:= #[]}->bS vs acc.toList->aJ X.K ad G ((pD ds es).take i) vs->
   (∀s' G' H' vs',Inv X cb σ H' s'->Step G0 H0 G' H'->G' S=none->H' S=some (.lst vs')->aJ X.K ad G' (pD ds es) vs'->R (.ok (.ret res)) s')->
   codeAny (model X.prog X.w) A (.builtin "list.extend.loop" ⟨[.ref S,.ref z,res],[]⟩) R s:=by
 intro k
 induction k with
 |zero=>
  intro i G H s acc c vs hk hi j I J f gS Q zs M hv L hR
  have E:i=(pD ds es).length:=by lia
  obtain⟨us,r1,Z,_⟩:=d7 I (a9 f.gh (a9 f.sg hq1));obtain⟨ws,r2,W,_⟩:=d7 I (a9 f.gh (a9 f.sg hq2));have n1:=r1.length;have n2:=r2.length;have n3:=hr1.length;have n4:=hr2.length;refine codeAny_builtin F.entry_extend_loop ?_;rw[Around.under_plainId F.plain_extend_loop _];show wpAny _ A.in1 (pyNext (.ref z) >>= _) _ _ s;refine aa (IL hh D zs Z W ?_ λO kp=>?_)
  ·simp only[pD,ao,List.length_zip]at E
   by_cases q:us.length<=i
   ·exact .inl (by simpa using q)
   ·exact .inr (by simp;lia)
  ·have I2:Inv X cb σ H {s with heap:=O}:=f8 (t':=s.toks) I (λb o a e=>by
    simp only[au,List.not_mem_nil,or_false,not_or]at a;exact kp b o a.1 a.2.2.1 a.2.2.2.1 a.2.2.2.2 e) J
   refine ac (hR _ G H vs I2 f gS Q ?_);rw[E,List.take_length]at L;exact L
 |succ k ih=>
  intro i G H s acc c vs hk hi j I J f gS Q zs M hv L hR;have n:i<(pD ds es).length:=by lia
  obtain⟨us,r1,Z,z1⟩:=d7 I (a9 f.gh (a9 f.sg hq1));obtain⟨ws,r2,W,_⟩:=d7 I (a9 f.gh (a9 f.sg hq2));obtain⟨d1,d2,e1,Y,hd⟩:=yU (bc n);obtain⟨x,g1,q1⟩:=hr1.get e1;obtain⟨y,g2,q2⟩:=hr2.get Y;obtain⟨u,hu,ru⟩:=r1.get g1;obtain⟨v,hw,rv⟩:=r2.get g2;have n3:=hr1.length
  have nv:vs.length=i:=by rw[L.length,List.length_take];lia
  have na:acc.size=i:=by have:=hv.length;simp at this;lia
  have il:i+1<=sizeLine:=by simp only[pD,ao,List.length_zip]at n;lia
  refine codeAny_builtin F.entry_extend_loop ?_;rw[Around.under_plainId F.plain_extend_loop _];show wpAny _ A.in1 (pyNext (.ref z) >>= _) _ _ s;refine aa (EY D B j zs Z W (x:=u) (y:=v) (by simpa using hu) (by simpa using hw) λO ak a5 a6 a7=>?_)
  have T:H s.heap.objs.size=none:=I.hok.fresh (ai _)
  have Ia:Inv X cb σ (upd H s.heap.objs.size (.tup [x,y])) {s with heap:=s.heap.push {cls:=.type "tuple",data:=.seq #[u,v]} }:=
   I.laid (t':=s.toks) (λb o e=>ae _ e) (ai _) (show ObjOk X.prog X.w _ _ _ (.tup [x,y]) from⟨by rw[sizeLine_eq];simp,[u,v],.cons ru (.cons rv .nil),⟨_,af _ rfl,rfl,_,rfl⟩,⟨_,af _ rfl,rfl⟩⟩)
  have bz:=B.z;have b1:=B.i1;have b2:=B.i2;have b3:=B.TO;have b4:=B.TI
  have ab: ∀b∈[z,TI,TO,i1,i2],b≠s.heap.objs.size:=λb a=>by
   simp only[au,List.not_mem_nil,or_false]at a;rcases a with rfl|rfl|rfl|rfl|rfl
   ·exact bg (bf bz j)
   ·exact bg (bf b4 j)
   ·exact bg (bf b3 j)
   ·exact bg (bf b1 j)
   ·exact bg (bf b2 j)
  have C:S≠s.heap.objs.size:=bg (bf hSN j)
  have d: ∀b∈[z,TI,TO,i1,i2],b≠S:=λb a e=>by
   have:=(J b a).1
   rw[e,Q]at this;cases this
  have p: ∀b∈[z,TI,TO,i1,i2],oY X cb (upd H s.heap.objs.size (.tup [x,y])) b:=λb a=>⟨by rw[aC (ab b a)];exact(J b a).1,(J b a).2⟩
  have Ib:Inv X cb σ (upd H s.heap.objs.size (.tup [x,y])) {s with heap:=O}:=by
   refine f8 (s:={s with heap:=s.heap.push {cls:=.type "tuple",data:=.seq #[u,v]} }) (t':=s.toks) Ia (λb o a e=>?_) p
   simp only[au,List.not_mem_nil,or_false,not_or]at a
   by_cases hq:b=s.heap.objs.size
   ·subst hq;rw[show(s.heap.push {cls:=.type "tuple",data:=.seq #[u,v]}).get? s.heap.objs.size=some _ from af _ rfl]at e
    cases e;exact a5
   ·have Y:s.heap.get? b=some o:=by
     exact(Heap.get?_push_ne _ b _ hq).symm.trans e
    exact a7 b o a.1 a.2.2.1 a.2.2.2.1 a.2.2.2.2 Y
  have U:(upd H s.heap.objs.size (.tup [x,y])) S=some (.lst vs):=by rw[aC C];exact Q
  have g:O.get? S=some {cls:=.type "list",dict:=none,data:=.seq acc c,slots:= #[]}:=a7 S _ (Ne.symm (d z (by simp))) (Ne.symm (d TO (by simp))) (Ne.symm (d i1 (by simp))) (Ne.symm (d i2 (by simp))) M
  have st1:Step G H (upd G s.heap.objs.size (.tup [x,y])) (upd H s.heap.objs.size (.tup [x,y])):=Step.new f.gh T
  have rp:Rep X.K ad (upd G s.heap.objs.size (.tup [x,y])) (.tup [d1,d2]) (.ref s.heap.objs.size):=by
   unfold Rep;exact⟨_,[x,y],rfl,SqT.of aH,aJ.cons (q1.mono (f.sg.trans st1.sg)) (aJ.cons (q2.mono (f.sg.trans st1.sg)) aJ.nil)⟩
  have r:(upd G s.heap.objs.size (.tup [x,y])) S=none:=by rw[aC C];exact gS
  show wpAny _ A.in1 (updateSeq S (·.push (.ref s.heap.objs.size)) >>= _) _ _ _
  refine aa ?_
  have wX:bS (vs++[.ref s.heap.objs.size]) (acc.push (.ref s.heap.objs.size)).toList:=by
   rw[Array.toList_push];exact hv.append (.cons rfl .nil)
  refine wpAny_updateSeq g rfl (ac ⟨plainId_quiet F.plain_extend_loop _,ih (i+1) (upd G s.heap.objs.size (.tup [x,y])) (upd (upd H s.heap.objs.size (.tup [x,y])) S (.lst (vs++[.ref s.heap.objs.size]))) _ (acc.push (.ref s.heap.objs.size)) _ (vs++[.ref s.heap.objs.size]) (by lia) n ?_ ?_ ?_ ((f.trans st1).put hS0 r) r aH (ZS.keep B ak λc o h e=>?_) (Heap.get?_update_self _ g rfl) wX ?_ hR⟩)
   (by rw[na];lia) (by show(acc.push _).size<=sizeLine+1;rw[Array.size_push,na];lia)
  ·show N<=(O.update S _).objs.size;rw[Heap.size_update,a6];exact Nat.le_succ_of_le j
  ·refine Inv.write (t':=s.toks) Ib (x:=S) (e:=S) (by rw[U];trivial) (.inl rfl) (λb o a e=>(Heap.get?_update_other _ _ (Ne.symm a)).trans e) ⟨_,Heap.get?_update_self _ g rfl⟩ ?_
   exact show ObjOk X.prog X.w _ _ _ (.lst _) from⟨by simp;lia,(acc.push (.ref s.heap.objs.size)).toList,_,wX,by rw[Array.toArray_toList];exact Heap.get?_update_self (Obj.mapSeq (·.push (.ref s.heap.objs.size))) g rfl⟩
  ·intro b a;refine⟨?_,(p b a).2⟩;rw[aC (d b a)];exact(p b a).1
  ·refine(Heap.get?_update_other _ _ (λq:S=c=>?_)).trans e
   subst q;rcases h with h|h|h|h|h|h
   ·exact d z (by simp) h.symm
   ·exact d TI (by simp) h.symm
   ·exact d TO (by simp) h.symm
   ·exact d i1 (by simp) h.symm
   ·exact d i2 (by simp) h.symm
   ·exact absurd hSN (Nat.not_lt.mpr h)
  ·rw[List.take_succ,bc n,hd];exact(L.mono st1.sg).append (aJ.cons rp aJ.nil)
end
theorem vZ:typeLookup (.type "zip") "__len__"=pure none:=by rw[typeLookup_type,builtinLookup_eq_fast];kernel_rfl
theorem sJ:typeLookup (.type "zip") "__length_hint__"=pure none:=by rw[typeLookup_type,builtinLookup_eq_fast];kernel_rfl
section
variable{R:Result->Shared->Prop}
theorem EZ{z TI TO S:Addr}(hz:IsZip s.heap z TI TO .none)(hS:s.heap.get? S=some {cls:=.type "list",data:=.seq #[] c₀})(hL: ∀h' c,(∀b o,b≠S->s.heap.get? b=some o->h'.get? b=some o)->h'.objs.size=s.heap.objs.size->h'.get? S=some {cls:=.type "list",dict:=none,data:=.seq #[] c,slots:= #[]}->codeAny (model prog w) A (.builtin "list.extend.loop" ⟨[.ref S,.ref z,res],[]⟩) R {s with heap:=h'}):
  wpAny (model prog w) A.in1 (Builtin.List.listExtendWith (.ref S) (.ref z) res)
   (λfin s'=>match fin with|.done f=>R (.ok f) s'|.again c'=>c'.quiet=true/\codeAny (model prog w) A c' R s') (λe s'=>R (.error e) s') s:=by
 have h:S≠z:=λe=>by rw[e,hz]at hS;simp at hS
 have i:s.TypeIs (.ref z) "zip":=⟨_,hz,rfl⟩;unfold Builtin.List.listExtendWith;refine aa (wpAny_typeOf i ?_)
 have l:Builtin.List.listSameRef (.ref S) (.ref z)=false:=by simp[Builtin.List.listSameRef,h]
 have n:(Value.type "zip"==Value.type "list")=false:=by decide
 have m:(Value.type "zip"==Value.type "tuple")=false:=by decide
 simp only[l,n,m,Bool.or_false,ay,if_false];refine aa (wpAny_pyIter_zip hz ?_);refine aa (wpAny_holding ?_);unfold Builtin.List.listLengthHint;refine aa (wpAny_specialOf i vZ ?_);show wpAny _ A.in1 (specialOf (Value.ref z) (Str.ofString "__length_hint__") >>= _) _ _ _;refine aa (wpAny_specialOf i sJ ?_);refine ac ?_
 show wpAny _ A.in1 (rule "list.extend.makes-room" >>= λ_=>Builtin.List.listTouch (.ref S) >>= λ_=>
  again (.builtin "list.extend.loop" ⟨[.ref S,.ref z,res],[]⟩)) _ _ _
 refine aa (wpAny_rule ?_);refine aa ?_;show wpAny _ A.in1 (updateSeq S (·.push .none) >>= λ_=>updateSeq S (·.pop)) _ _ _
 refine aa (wpAny_updateSeq hS rfl ?_);have a:=Heap.get?_update_self (Obj.mapSeq (·.push Value.none)) hS rfl
 refine wpAny_updateSeq (hz:=by seq_fits) a rfl ?_
 have d:=Heap.get?_update_self (Obj.mapSeq (·.pop)) a rfl
 have g: ∀b o,b≠S->s.heap.get? b=some o->((s.heap.update S (Obj.mapSeq (·.push Value.none))).update S (Obj.mapSeq (·.pop))).get? b=some o:=
  λb o j e=>(Heap.get?_update_other _ _ (Ne.symm j)).trans ((Heap.get?_update_other _ _ (Ne.symm j)).trans e)
 exact ac ⟨plainId_quiet F.plain_extend_loop _,hL _ _ g (by rw[Heap.size_update,Heap.size_update]) d⟩
theorem BL{z TI TO S:Addr}(hz:IsZip s.heap z TI TO .none)(hS:s.heap.get? S=some {cls:=.type "list",data:=.seq #[]})(hL: ∀h' c,(∀b o,b≠S->s.heap.get? b=some o->h'.get? b=some o)->h'.objs.size=s.heap.objs.size->h'.get? S=some {cls:=.type "list",dict:=none,data:=.seq #[] c,slots:= #[]}->codeAny (model prog w) A (.builtin "list.extend.loop" ⟨[.ref S,.ref z,.none],[]⟩) R {s with heap:=h'}):
  wpAny (model prog w) A.in1 (Builtin.«list.__init__» ⟨[.ref S,.ref z],[]⟩)
   (λfin s'=>match fin with|.done f=>R (.ok f) s'|.again c'=>c'.quiet=true/\codeAny (model prog w) A c' R s') (λe s'=>R (.error e) s') s:=by
 have i:S≠z:=λe=>by rw[e,hz]at hS;simp at hS
 show wpAny _ _ (do let old<-Builtin.List.listItems (.ref S);Builtin.List.listUpdate (.ref S) (λ_=> #[]);letGo old.toList.reverse;Builtin.List.listExtendWith (.ref S) (.ref z) .none) _ _ s
 refine aa ?_;unfold Builtin.List.listItems;refine aa (wpAny_seqItems hS rfl (ac ?_));show wpAny _ _ (updateSeq S (λ_=> #[]) >>= λ_=>letGo (#[]:Array Value).toList.reverse >>= λ_=>Builtin.List.listExtendWith (.ref S) (.ref z) .none) _ _ s
 refine aa (wpAny_updateSeq hS rfl ?_);have a:=Heap.get?_update_self (Obj.mapSeq (λ_=>(#[]:Array Value))) hS rfl
 have d: ∀b o,b≠S->s.heap.get? b=some o->(s.heap.update S (Obj.mapSeq (λ_=>(#[]:Array Value)))).get? b=some o:=
  λb o g e=>(Heap.get?_update_other _ _ (Ne.symm g)).trans e
 refine aa (wpAny_letGo ?_);refine EZ (d z _ (Ne.symm i) hz) a λh' c hk j h=>?_
 exact hL h' c (λb o g e=>hk b o g (d b o g e)) (by rw[j];exact Heap.size_update ..) h
end
section
variable{ad:Ad}{σ:St}
theorem nZ(hc:X.calm=true)(I:Inv X cb σ H s)(hG:Same G H)(hq1:SqA t X.K G l xs)(hq2:SqA t2 X.K G m ys)(hr1:aJ X.K ad G ds xs)(hr2:aJ X.K ad G es ys)(k:RK X.K ad G H (.ow (pD ds es)) Q E):
  wpAny (model X.prog X.w) X.A (call (.type "zip") [.ref l,.ref m]) (λv s1=>wpAny (model X.prog X.w) X.A (call (.type "list") [v]) (EP X cb σ Q) X.xe s1) X.xe s:=by
 obtain⟨us,_,C,_⟩:=d7 I (a9 hG hq1);obtain⟨ws,_,L,_⟩:=d7 I (a9 hG hq2);refine qD C L λa M U a3 a4 T n a7=>?_
 have S:l<s.heap.objs.size:=by cases t<;>(obtain⟨o,e,_⟩:=C;exact ag e)
 have l2:m<s.heap.objs.size:=by cases t2<;>(obtain⟨o,e,_⟩:=L;exact ag e)
 refine callType_codes (Q₁:=λh d=>h= .ref a.objs.size/\d={s with heap:=a.push {cls:=.type "list",data:=.seq #[]} }) F.called_list (F.typeCall_list_1 _) F.entry_list_init
  (code_list_new _ ⟨rfl,rfl⟩) λh d g=>?_
 obtain⟨rfl,rfl⟩:=g;have O:(a.push {cls:=.type "list",data:=.seq #[]}).get? a.objs.size=some {cls:=.type "list",data:=.seq #[]}:=af _ rfl;have r:IsZip (a.push {cls:=.type "list",data:=.seq #[]}) _ _ _ .none:=ae _ M;refine⟨⟨_,O,rfl⟩,F.args_list_init_2 _ _,BL (A:=X.A.in1) r O λj c hk Z i=>?_⟩
 have ge: ∀b,s.heap.objs.size<=b->oY X cb H b:=λb p=>I.fpOk p (I.hok.fresh p)
 have q:H a.objs.size=none:=I.hok.fresh (by rw[n];exact Nat.le_add_right _ _)
 have up: ∀b o,a.get? b=some o->j.get? b=some o:=λb o e=>hk b o (bg (ag e)) (ae _ e)
 have I2:Inv X cb σ (upd H a.objs.size (.lst [])) {s with heap:=j}:=
  I.laid (t':=s.toks) (λb o e=>up b o (a7 b o e)) (by rw[n];exact Nat.le_add_right _ _) (show ObjOk X.prog X.w _ j _ (.lst []) from⟨by simp,[],c,.nil,i⟩)
 have y:j.objs.size=s.heap.objs.size+6:=by rw[Z,ah,n]
 refine BK (A:=X.A.in1) (ad:=ad) (G0:=G) (H0:=H) (N:=s.heap.objs.size+6) (I.ok.hd hc) (qB S l2) ⟨?_,?_,?_,?_,?_⟩ ?_ .none hq1 hq2 hr1 hr2 q _ 0 G _ {s with heap:=j} #[] c [] rfl (bt _) (Nat.le_of_eq y.symm) I2 (λb p=>?_) (Step.own hG q) (hG.free q) aH
  ⟨.inl (up _ _ M),up _ _ U,⟨_,_,up _ _ a3⟩,bR a4 λo e=>up _ o e,bR T λo e=>up _ o e⟩ i .nil aJ.nil λs' G' J u Y z B x W=>?_
 ·exact Nat.add_lt_add_left (by decide) _
 ·exact Nat.add_lt_add_left (by decide) _
 ·exact Nat.add_lt_add_left (by decide) _
 ·exact Nat.lt_add_of_pos_right (by decide)
 ·exact Nat.add_lt_add_left (by decide) _
 ·rw[n];exact Nat.add_lt_add_left (by decide) _
 ·have f:s.heap.objs.size<=b/\b≠s.heap.objs.size+5:=by
   simp only[au,List.not_mem_nil,or_false]at p;rcases p with rfl|rfl|rfl|rfl|rfl<;>exact⟨by simp,by simp⟩
  exact⟨by rw[aC (by rw[n];exact f.2)];exact(ge b f.1).1,(ge b f.1).2⟩
 ·exact⟨rfl,.ref a.objs.size,J,Y,rfl,k _ u G' J z q B x W⟩
def zl:D->D->R
 |.tup xs,.tup ys=>.ow (pD xs ys)
 |.lst xs,.lst ys=>.ow (pD xs ys)
 |.lst xs,.tup ys=>.ow (pD xs ys)
 |.tup xs,.lst ys=>.ow (pD xs ys)
 |_,_=>.bad
theorem E0:aF vV [pQ f g] ρ=(f ρ).bind λx=>(g ρ).bind λy=>zl x y:=by
 unfold aF l4 args args pQ
 cases f ρ with
 |ok x=>
  cases g ρ with
  |ok y=>cases x<;>cases y<;>rfl
  |ow a=>cases x<;>rfl
  |ex c=>rfl
  |bad=>rfl
 |ow b=>
  cases g ρ with
  |ok y=>cases y<;>rfl
  |ow a=>rfl
  |ex c=>rfl
  |bad=>rfl
 |ex c=>rfl
 |bad=>rfl
theorem sK(hg:L2.Gl X "zip")(hm:X.mg "zip"=none)(hgl:L2.Gl X "list")(hml:X.mg "list"=none)(hc:X.calm=true)(ha:ME X ad a f)(hb:ME X ad b g)(he:starEach [a,b] X.env=(false,eval a X.env)::starEach [b] X.env)(he2:starEach [b] X.env=(false,eval b X.env)::starEach [] X.env):
  ME X ad (.Call (.Name "list" p) [.Call (.Name "zip" p2) [a,b] [] pos2] [] pos) (aF vV [pQ f g]):=by
 refine λcb s σ H Q I N=>N.el λG ρ E L z y x=>?_
 rw[E0]at x;refine Call_ (fX (u:=.type "list") I hgl hml (by decide+kernel) (PyProof.Rows.callWith_type1 ?_ rfl rfl) (by decide) (by decide))
 refine Calls.spliced_cons ?_;refine Call_ (fX (u:=.type "zip") I hg hm (by decide+kernel) (PyProof.Rows.callWith_type1 ?_ he (by rw[he2];rfl)) (by decide) (by decide))
 rw[he];refine Calls.spliced_cons (L2.thn (ha.thn I L z y x) λu s1 h=>?_)
 obtain⟨v,d,G1,H1,J,Z,r,q,k1⟩:=h;rw[he2];refine Calls.spliced_cons (L2.thn (hb.thn J r.gh (z.step r) y k1) λC s2 ⟨v2,o,G2,T,Y,S,st2,U,c⟩=>Calls.spliced_nil ?_)
 obtain⟨t,A,e,i,M,c2,O⟩: ∃t A e i,isA t e d/\isA A i o/\RK X.K ad G2 T (.ow (pD e i)) Q E:=by
  cases d<;>try exact az c
  ·cases o<;>try exact az c
   ·exact⟨true,true,_,_,rfl,rfl,c⟩
   ·exact⟨true,false,_,_,rfl,rfl,c⟩
  ·cases o<;>try exact az c
   ·exact⟨false,true,_,_,rfl,rfl,c⟩
   ·exact⟨false,false,_,_,rfl,rfl,c⟩
 obtain⟨l,xs,rfl,j,w1⟩:=nY M (q.mono st2.sg);obtain⟨m,ys,rfl,n,B⟩:=nY c2 U
 cases (show u=Value.ref l from Z)
 cases (show C=Value.ref m from S)
 exact L2.thn (nZ hc Y st2.gh j n w1 B O) λv s3 W=>Calls.spliced_nil W
end
noncomputable def tab(m mv:Nat)(ps:List Nat):SetTable:={mask:=m,place:=ps.toArray,dummies:= #[],finger:=0,led:=true,moves:=mv,plain:=true}
noncomputable def tbl(m mv:Nat)(led:Bool)(ps:List Nat):SetTable:={mask:=m,place:=ps.toArray,dummies:= #[],finger:=0,led:=led,moves:=mv,plain:=true}
def adv(m:Nat)(p:SetTable.Probe):SetTable.Probe:=(tab m 0 []).advance p
def pr(m:Nat)(h:Int):Nat->SetTable.Probe
 |0=>(tab m 0 []).probeStart h
 |k+1=>adv m (pr m h k)
def lp(m:Nat)(h:Int):Nat->Nat×Nat
 |0=>(SetTable.bits h % (m+1),SetTable.bits h)
 |r+1=>SetTable.leap m (lp m h r).1 (lp m h r).2
def Rch(m:Nat)(h:Int)(ps:List Nat)(p:Nat):Prop:= ∃k,k<10*SetTable.turns m/\(pr m h k).j=p/\∀b,b<k->(pr m h b).j∈ps
structure TI(m:Nat)(L:List (Nat×Int×Value)):Prop where
 up:(L.map (·.1)).Pairwise (· < ·)
 le: ∀x∈L,x.1<=m
 rch: ∀x∈L,Rch m x.2.1 (L.map (·.1)) x.1
mutual
noncomputable def hk:PyData->Bool
 |.none=>true
 |.int _=>true
 |.tuple xs=>hks xs
 |_=>false
noncomputable def hks:List PyData->Bool
 |[]=>true
 |x::xs=>hk x&&hks xs
end
mutual
def hsh:PyData->Int
 |.none=>0xFCA86420
 |.int i=>hashInt i
 |.tuple xs=>reduceHash (Builtin.Tuple.tupleHashOf (Mo xs))
 |_=>0
def Mo:List PyData->List Int
 |[]=>[]
 |x::xs=>hsh x::Mo xs
end
mutual
def dr:PyData->Nat
 |.tuple xs=>drs xs+1
 |_=>1
def drs:List PyData->Nat
 |[]=>0
 |x::xs=>dr x+drs xs
end
noncomputable def Key(h:Heap)(d:PyData)(v:Value):Prop:=(∃b,v= .ref b)/\hk d=true/\d.depth<=8/\∃as,Reads h v d as
noncomputable def ddS(acc:List Nat)(n:Nat):List Nat:=if n∈acc then acc else n::acc
def dd(ns:List Nat):List Nat:=ns.foldl ddS []
def iv:Value->Int
 |.int n _=>n
 |_=>0
section
variable{X:Cx}{ad:Ad}{cb:ce}{s:Shared}{σ:St}{H G:Hp}{ρ:Rho}{E:St->Nat->Hp->Prop}{pos:Pos}
def Ln:V->V->V->Hp->(Hp->Prop)->Prop:=λo i v H Q=>HG o i v H Q\/∃a x es,o= .ref a/\i= .str x/\H a=some (.dK es)/\es.length<sizeLine/\Q (upd H a (.dK (L2.putK es (.inr x) v)))
theorem BM(hu:X.A.units+62<cLine):KO X Ln:=λj s f H o i v c iv u Q I d b e h=>by
 rcases h with h|⟨a,x,es,rfl,rfl,ha,hl,q⟩
 ·exact A7 j s f H o i v c iv u Q I d b e h
 ·cases (show c=Value.ref a from d)
  exact pW (by lia) I (GW.k (k:=.inr x) ha hl) b e λl g=>⟨_,g,q⟩
theorem IM{K:PySem.W.Frag}(h:HR K ad G held kvs)(x:Str):(kvs.any λq=>decide (q.1=(Sum.inr x:L2.Key)))=held.any λp=>decide (p.1=x):=by
 induction h with
 |nil=>rfl
 |@cons p q c d a t b=>
  rw[List.any_cons,List.any_cons,b]
  have e:decide (q.1=(Sum.inr x:L2.Key))=decide (p.1=x):=by
   rw[a.1]
   by_cases z:p.1=x
   ·rw[z];simp
   ·simp[z]
  rw[e]
theorem yW{K:PySem.W.Frag}(h:HR K ad G held kvs)(rv:Rep K ad G y v)(x:Str):HR K ad G (fK held x y) (L2.putK kvs (Sum.inr x) v):=by
 unfold fK L2.putK;rw[IM h x]
 by_cases a:(held.any λp=>decide (p.1=x))=true
 ·rw[if_pos a,if_pos a];clear a
  induction h with
  |nil=>exact .nil
  |@cons p q e f b t d=>
   rw[List.map_cons,List.map_cons];refine .cons ?_ d
   by_cases z:p.1=x
   ·have c:q.1=(Sum.inr x:L2.Key):=by rw[b.1,z]
    rw[if_pos z,if_pos c];exact⟨b.1,rv⟩
   ·have c: ¬q.1=(Sum.inr x:L2.Key):=λy=>z (by rw[b.1]at y;exact Sum.inr.inj y)
    rw[if_neg z,if_neg c];exact b
 ·rw[if_neg a,if_neg a];clear a
  induction h with
  |nil=>exact .cons ⟨rfl,rv⟩ .nil
  |cons b t d=>exact .cons b d
theorem IN(hu:X.A.units+62<cLine)(hN:X.N[i]? =some x)(hv:Vis X.env.scope x)(hd:(x==("__debug__":Str))=false)(hcd:(x==("__classdict__":Str))=false)(he:ME X ad e f)(hk:ME X ad kx fk)(ha: ∀v,assign (.Subscript (.Name x p) kx tp) X.env v=(do
   let ov<-holding [v] (eval (.Name x p) X.env);let iv<-holding [v,ov] (eval kx X.env)
   standAt tp
   holding [v,ov,iv] (setItem ov iv v)
   release [v,ov,iv] []))(hs:swapsWithSole [.Subscript (.Name x p) kx tp] e pos.line X.env=pure false)(hw:swappedStores [.Subscript (.Name x p) kx tp] e X.env=pure none):
  MS X ad Z (.Assign [.Subscript (.Name x p) kx tp] e pos) (wM i fk f):=by
 refine PS.imp (wV he (Hu (cM hN hv hd hcd) hk (BM hu) ha) hs hw rfl) ?_;rintro Y W H ⟨g,G,M,E,S,C,U⟩;unfold wM at U;refine g0 S C U λv d G1 H1 l r k=>?_
 cases q:M[i]? with
 |none=>rw[q]at k;exact k.elim
 |some sl=>
  rw[q]at k
  cases sl with
  |no=>exact k.elim
  |sh d=>exact k.elim
  |sd d=>exact k.elim
  |rk _ _=>exact k.elim
  |ow I=>
   obtain⟨a,vs,n,h2,h3,O⟩:=(S.step l).sl.ow q;refine⟨.ref a,n,?_⟩;refine g0 (S.step l) C k λv2 y T H2 st2 t s=>?_
   obtain⟨g2,h⟩:=iF st2 h2 h3
   cases y<;>try exact az s
   rename_i j;unfold Rep at t;subst t
   have c:OKo X ad g (match ixD I.length j with|some m=>.nx (M.set i (.ow (I.set m d)))|none=>.rt .bad) Y E:=s
   cases K:ixD I.length j with
   |none=>rw[K]at c;exact c.elim
   |some m=>
    rw[K]at c;have r4:=O.mono st2.sg;refine .inl ⟨a,vs,j,m,rfl,rfl,h,by rw[O.length, <-Df];exact K,?_⟩
    exact c W T _ (((S.step l).step st2).upd q n g2 (aJ.set (r.mono st2.sg) m r4))
  |dc b=>
   obtain⟨a,es,n,h2,h3,O,h5⟩:=(S.step l).sl.dc q;refine⟨.ref a,n,?_⟩;refine g0 (S.step l) C k λv2 y T H2 st2 t s=>?_
   have S2:=(S.step l).step st2;obtain⟨Q,u,B,h,L,o,ab⟩:=S2.sl.dc q
   have ea:Q=a:=by rw[n]at B;cases B;rfl
   subst ea
   cases y<;>try exact az s
   rename_i z;have c:OKo X ad g (if b.length<LIM then .nx (M.set i (.dc (fK b z d)))else .rt .bad) Y E:=s
   by_cases J:b.length<LIM
   ·rw[if_pos J]at c;unfold Rep at t;subst t
    have hl:u.length=b.length:=(Paired.length o).symm
    refine .inr ⟨Q,z,u,rfl,rfl,L,by rw[hl];exact bf J (by decide),?_⟩
    exact c W T _ (S2.updG q rfl n ⟨Q,_,rfl,h,aH,yW o (r.mono st2.sg) z,trivial⟩)
   ·rw[if_neg J]at c;exact c.elim
theorem RK.bool_share{E:Nat->Hp->Prop}(hb:(∃b,r= .ok (.bl b))\/r= .bad)(g:G a=none)(k:RK X.K ad G H r Q E):RK X.K ad (upd G a (.lst vs)) H r Q E:=by
 rcases hb with ⟨b,rfl⟩|rfl
 ·intro v h m f q
  have n:v= .bl b:=by unfold Rep at q;exact q
  subst n;refine k (.bl b) (λc=>if c=a then none else h c) m ⟨λc u e=>?_,λc u e=>?_,f.sh,λc l j=>?_⟩ cQ
  ·have i:c≠a:=aN e g
   show(if c=a then none else h c)=some u
   rw[if_neg i];exact f.sg c u (by rw[aC i];exact e)
  ·have d:(if c=a then none else h c)=some u:=e
   by_cases z:c=a
   ·rw[if_pos z]at d;cases d
   ·rw[if_neg z]at d;exact f.gh c u d
  ·have d:(if c=a then none else h c)≠none:=j
   by_cases z:c=a
   ·rw[if_pos z]at d;exact absurd rfl d
   ·rw[if_neg z]at d;exact f.nw c (by rw[aC z];exact l) d
 ·exact k
theorem E3{E:Nat->Hp->Prop}(hu:X.A.units+62<cLine)(I:Inv X cb σ H s)(hG:Same G H)(qx:Seq X ad G H x v)(qy:Seq X ad G H y w)(ru:bG v u)(rz:bG w z)(k:RK X.K ad G H (dJ op x y) Q E):wpAny (model X.prog X.w) X.A (compareOp op u z) (EP X cb σ Q) X.xe s:=by
 have j:=xW (op:=op) (x:=x) (y:=y)
 -- the left one is shared for the time
 have sh: ∀{G:Hp} {a:Addr} {vs:List V} {ds:List D},Same G H->H a=some (.lst vs)->aJ X.K ad G ds vs->Same (upd G a (.lst vs)) H/\Rep X.K ad (upd G a (.lst vs)) (.lst ds) (.ref a):=λ{G a vs ds} hG h2 h3=>by
  have m:G a=none\/G a=some (.lst vs):=by
   cases q:G a with
   |none=>exact .inl rfl
   |some o=>rw[hG a o q]at h2;exact .inr h2
  have n:Same G (upd G a (.lst vs)):=λb o e=>by
   by_cases d:b=a
   ·subst d;rcases m with q|q
    ·rw[q]at e;cases e
    ·rw[aH, <-q];exact e
   ·rw[aC d];exact e
  refine⟨λb o e=>?_,?_⟩
  ·by_cases d:b=a
   ·subst d;rw[aH]at e;cases e;exact h2
   ·rw[aC d]at e;exact hG b o e
  ·unfold Rep;exact⟨a,vs,rfl,SqL.of aH,h3.mono n⟩
 have f: ∀{G:Hp} {a:Addr} {vs:List V},G a=none->Same G (upd G a (.lst vs)):=λg=>Same.upd_new g
 have c: ∀{G:Hp},Same G H->Rep X.K ad G x v->Seq X ad G H y w->RK X.K ad G H (dJ op x y) Q E->wpAny (model X.prog X.w) X.A (compareOp op u z) (EP X cb σ Q) X.xe s:=λ{G} hG rx qy k=>by
  rcases qy with ry|⟨a,vs,ds,rfl,rfl,g1,h2,h3⟩
  ·exact fZ op hu cb s σ H G x y v w u z Q E I hG rx ry ru rz k
  ·obtain⟨h,i⟩:=sh hG h2 h3;exact fZ op hu cb s σ H _ x _ v _ u z Q E I h (rx.mono (f g1)) i ru rz (k.bool_share j g1)
 rcases qx with rx|⟨a,vs,ds,rfl,rfl,g1,h2,h3⟩
 ·exact c hG rx qy k
 ·obtain⟨h,i⟩:=sh hG h2 h3;refine c h i ?_ (k.bool_share j g1);rcases qy with ry|⟨a',vs',ds',rfl,rfl,g1',h2',h3'⟩
  ·exact .inl (ry.mono (f g1))
  ·by_cases l:a'=a
   ·subst l;rw[h2]at h2';cases h2';refine .inl ?_;unfold Rep;exact⟨a',vs,rfl,SqL.of aH,h3'.mono (f g1)⟩
   ·exact .inr ⟨a',vs',ds',rfl,rfl,by rw[aC l];exact g1',h2',h3'.mono (f g1)⟩
theorem yX{E:Nat->Hp->Prop}(hu:X.A.units+62<cLine)(ha:MLk X ad a f)(hb:MLk X ad b g)(I:Inv X cb σ H s)(hG:Same G H)(hS:SL X.K ad G H ρ σ)(hx:XP X ad σ E)(hr:RK X.K ad G H (aZ op f g ρ) Q E):
  wpAny (model X.prog X.w) X.A (eval a X.env) (λu s1=>wpAny (model X.prog X.w) X.A (eval b X.env) (λz s2=>wpAny (model X.prog X.w) X.A (compareOp op u z) (EP X cb σ Q) X.xe s2) X.xe s1) X.xe s:=by
 refine L2.thn (ha cb s σ H G ρ (λx=>(g ρ).bind λy=>dJ op x y) Q E I hG hS hx hr) λu s1 c=>?_
 obtain⟨v,i,h,p,j,m,st1,q1,n⟩:=c;refine L2.thn (hb cb s1 σ p h ρ (λy=>dJ op i y) Q E j st1.gh (hS.step st1) hx n) λz s2 d=>?_
 obtain⟨w,t,B,r,l,q,st2,e,o⟩:=d;exact E3 hu l st2.gh (Seq.step q1 st2) e m q o
theorem E4(hu:X.A.units+62<cLine)(ha:MLk X ad a f)(hb:MLk X ad b g)(hm:behindInMarks op b=false):ME X ad (.Compare a [op] [b] pos) (aZ op f g):=by
 refine λl s j H Q I e=>e.el λG m E i h d c=>?_
 exact wpAny_Compare1 (yX hu ha hb I i h d c) hm
theorem uP{op:CmpOp}{a b:Expr}{F':F}(hm:behindInMarks op b=false)
  (go: ∀{cb:ce} {s:Shared} {σ:St} {H G:Hp} {ρ:Rho} {Q:VK} {E:Nat->Hp->Prop},Inv X cb σ H s->Same G H->SL X.K ad G H ρ σ->XP X ad σ E->RK X.K ad G H (F' ρ) Q E->
   wpAny (model X.prog X.w) X.A (eval a X.env) (λu s1=>wpAny (model X.prog X.w) X.A (eval b X.env) (λz s2=>wpAny (model X.prog X.w) X.A (compareOp op u z) (EP X cb σ Q) X.xe s2) X.xe s1) X.xe s):MT X ad (.Compare a [op] [b] pos) F':=by
 refine λcb s σ H Q I m=>m.el λG ρ E i o g t d=>?_
 refine wpAny_isTrue_Compare1 (L2.thn (go I i o g d) λv s1 l=>L2.thn l λu s2 p=>L2.thn p λc r f=>?_) hm
 obtain⟨x,n,h,j,k,e,q⟩:=f;subst e;cases j;exact wpAny_truthy_bool ⟨n,h,q⟩
theorem E5(hu:X.A.units+62<cLine)(ha:MLk X ad a f)(hb:MLk X ad b g)(hm:behindInMarks op b=false):MT X ad (.Compare a [op] [b] pos) (aZ op f g):=
 uP hm λI h e d c=>yX hu ha hb I h e d c
end
section
variable{X:Cx}{ad:Ad}{σ:St}{A:Nat}
theorem lE(hr:RK X.K ad G H (A9 A i k ρ) Q E): ∃r,ρ[i]? =some (.rk A r)/\RK X.K ad G H (k r) Q E:=by
 unfold A9 at hr
 cases e:ρ[i]? with
 |none=>rw[e]at hr;exact hr.elim
 |some c=>
  rw[e]at hr
  cases c with
  |rk C r=>
   have a:RK X.K ad G H (if C=A then k r else .bad) Q E:=hr
   by_cases b:C=A
   ·rw[if_pos b]at a;subst b;exact⟨r,rfl,a⟩
   ·rw[if_neg b]at a;exact a.elim
  |no=>exact hr.elim
  |sh d=>exact hr.elim
  |ow d=>exact hr.elim
  |dc d=>exact hr.elim
  |sd d=>exact hr.elim
theorem j6{K:Frag}(h:HR K ad G held kvs)(x:Str):match bC held x with|none=>kU kvs (Sum.inr x)=none|some d=>∃v,kU kvs (Sum.inr x)=some v/\Rep K ad G d v:=by
 induction h with
 |nil=>exact Bg
 |@cons p q f g a t c=>
  unfold bC;rw[List.find?_cons]
  by_cases e:p.1=x
  ·rw[decide_eq_true e];exact⟨q.2,iC (by rw[a.1,e]),a.2⟩
  ·rw[decide_eq_false e]
   have b: ¬q.1=(Sum.inr x:L2.Key):=λz=>e (by rw[a.1]at z;exact Sum.inr.inj z)
   rw[gG b];exact c
theorem g6(RC:RkC X.K A)(h:RackIn X.K ad A G H p0 r dx d l1 l2)(hi:σ[i]? =some (some (.ref p0)))(hf:[(("held":Str),V.ref d),("done",.ref l1),("undone",.ref l2)].lookup fd=some v)(na:gU X.K A fd)(q:Q v H):Kp X.K (Hf i) fd σ H Q:=
 ⟨.ref p0,hi,p0,A,dx,_,v,rfl,h.ins,RC.cl,na,hf,q⟩
theorem Dl(RC:RkC X.K A)(hN:X.N[i]? =some x)(hv:Vis X.env.scope x)(hd:(x==("__debug__":Str))=false)(hcd:(x==("__classdict__":Str))=false)(bb:Bool):
  ML X ad (.Attribute (.Name x p) (if bb then "done" else "undone") pos) (CW A i bb):=by
 refine PE.imp (gW (cM hN hv hd hcd) rfl) λJ H Q f=>?_
 obtain⟨G,s,E,h,z,B,b⟩:=f;unfold CW A9 at b
 cases e:s[i]? with
 |none=>rw[e]at b;exact b.elim
 |some q=>
  rw[e]at b
  cases q with
  |rk C r=>
   have a:LK X ad G H (if C=A then .ok (.lst (AY bb r))else .bad) Q E:=b
   by_cases g:C=A
   ·rw[if_pos g]at a;subst g;obtain⟨L,I,d,m,n,j,c⟩:=z.rk e;obtain⟨y,o,t⟩:=c.done;obtain⟨l,v,u⟩:=c.undone;cases bb
    ·exact g6 RC c j (fd:="undone") rfl RC.n3 (a _ G H (Step.refl h) (.inr ⟨n,l,_,rfl,rfl,c.g2,v,u⟩))
    ·exact g6 RC c j (fd:="done") rfl RC.n2 (a _ G H (Step.refl h) (.inr ⟨m,y,_,rfl,rfl,c.g1,o,t⟩))
   ·rw[if_neg g]at a;exact a.elim
  |no=>exact b.elim
  |sh d=>exact b.elim
  |ow d=>exact b.elim
  |dc d=>exact b.elim
  |sd d=>exact b.elim
theorem E6(hu:X.A.units+62<cLine)(RC:RkC X.K A)(hN:X.N[i]? =some x)(hv:Vis X.env.scope x)(hd:(x==("__debug__":Str))=false)(hcd:(x==("__classdict__":Str))=false)(hf:ME X ad a f)(hs:K8 a):
  ME X ad (.Subscript (.Attribute (.Name x p) "held" ap) a pos) (Ba A i f):=by
 refine PE.imp (Em (by lia) (gW (cM hN hv hd hcd) rfl) hf hs) λU H Q g=>?_
 obtain⟨G,W,E,C,m,s,b⟩:=g;unfold Ba at b;obtain⟨r,e,b⟩:=lE b;obtain⟨Y,T,d,O,S,J,n⟩:=m.rk e;refine g6 RC n J (fd:="held") rfl RC.n1 ?_;refine eZ C m s b λv z o M h l k=>?_
 obtain⟨L,u,t⟩:=(n.step h).held
 cases z with
 |str y=>
  unfold Rep at l;subst l;have j:=j6 t y
  have c:RK X.K ad o M (match bC r.held y with|some d=>.ok d|none=>.bad) Q E:=k
  cases q:bC r.held y with
  |none=>rw[q]at c;exact c.elim
  |some dd=>
   rw[q]at c j;obtain⟨v,I,B⟩:=j;refine⟨d,v,rfl,?_,c.ok_now h.gh B⟩;rw[<-I];exact oZ.k (k:=Sum.inr y) u
 |_=>exact az k
theorem E7(hu:X.A.units+62<cLine)(RC:RkC X.K A)(hN:X.N[i]? =some x)(hv:Vis X.env.scope x)(hd:(x==("__debug__":Str))=false)(hcd:(x==("__classdict__":Str))=false)(hf:ME X ad a f)(hm:M1 X (.Attribute (.Name x p) "held" pos) "get" ap a cp):
  ME X ad (.Call (.Attribute (.Attribute (.Name x p) "held" pos) "get" ap) [a] [] cp) (Bb A i f):=by
 refine PE.imp (Bi (by lia) (gW (cM hN hv hd hcd) rfl) hf hm) λW H Q m=>?_
 obtain⟨G,ρ,E,I,s,u,c⟩:=m;unfold Bb at c;obtain⟨r,e,c⟩:=lE c;obtain⟨Y,U,d,T,Z,L,n⟩:=s.rk e;obtain⟨b,C,_⟩:=n.held;refine g6 RC n L (fd:="held") rfl RC.n1 ⟨d,rfl,.inl ⟨b,.inl C⟩,?_⟩;refine eZ I s u c λv B t M j o k=>?_
 obtain⟨l,O,z⟩:=(n.step j).held
 cases B with
 |str y=>
  unfold Rep at o;subst o;have h:=j6 z y;have g:RK X.K ad t M (.ok ((bC r.held y).getD .non)) Q E:=k;refine⟨kU l (Sum.inr y),oZ.k (k:=Sum.inr y) O,?_⟩
  cases q:bC r.held y with
  |none=>
   rw[q]at g h;rw[h];exact g.ok_now j.gh (by unfold Rep;rfl)
  |some dd=>
   rw[q]at g h;obtain⟨v,J,S⟩:=h;rw[J];exact g.ok_now j.gh S
 |_=>exact az k
theorem IO(hu:X.A.units+62<cLine)(RC:RkC X.K A)(hN:X.N[i]? =some x)(hv:Vis X.env.scope x)(hd:(x==("__debug__":Str))=false)(hcd:(x==("__classdict__":Str))=false)(hf:ME X ad a f)(neg:Bool):
  PC X (if neg then .NotIn else .In) a (.Attribute (.Name x p) "held" ap) (tE X ad (GT neg A i f)):=by
 have L: ∀(b:Bool) (c:St) (H:Hp) (Q:VK),tE X ad (GT b A i f) c H Q->tE X ad f c H λy B=>Kp X.K (Hf i) "held" c B λz M=>∃a o,z= .ref a/\oZ M a y o/\Q (.bl (b != o.isSome)) M:=λb c H Q g=>by
  obtain⟨G,u,E,m,j,l,h⟩:=g;unfold GT at h;refine eZ m j l h λv W T B C O k=>?_
  obtain⟨r,e,k⟩:=lE k;obtain⟨p0,dx,d,l1,l2,Z,S⟩:=(j.step C).rk e;refine g6 RC S Z (fd:="held") rfl RC.n1 ?_;obtain⟨n,a1,U⟩:=S.held
  cases W with
  |str y=>
   unfold Rep at O;subst O;have t:=j6 U y
   have k':RK X.K ad T B (.ok (.bl (b != (bC r.held y).isSome))) Q E:=k
   refine⟨d,kU n (Sum.inr y),rfl,oZ.k (k:=Sum.inr y) a1,?_⟩
   have es:(kU n (Sum.inr y)).isSome=(bC r.held y).isSome:=by
    cases q:bC r.held y with
    |none=>rw[q]at t;rw[t];rfl
    |some dd=>rw[q]at t;obtain⟨v,Y,_⟩:=t;rw[Y];rfl
   rw[es];exact k'.ok_now C.gh (by unfold Rep;rfl)
  |_=>exact az k
 intro J s c H Q I g;cases neg
 ·refine HX (by lia) hf (gW (cM hN hv hd hcd) rfl) J s c H Q I ?_
  obtain⟨G,u,E,m,j,l,h⟩:=L false c H Q g;exact⟨G,u,E,m,j,l,by simpa using h⟩
 ·refine xQ (by lia) hf (gW (cM hN hv hd hcd) rfl) J s c H Q I ?_
  obtain⟨G,u,E,m,j,l,h⟩:=L true c H Q g;exact⟨G,u,E,m,j,l,by simpa using h⟩
end
theorem Dm(h1:ltS b a=false)(h2:ltS c b=false):ltS c a=false:=by
 unfold ltS at *;rw[decide_eq_false_iff_not]at *;rw[List.not_lt]at *;exact List.le_trans h1 h2
theorem yY(h1:ltS a b=false)(h2:ltS b a=false):a=b:=by
 unfold ltS at *;rw[decide_eq_false_iff_not]at *;rw[List.not_lt]at *;have e:=List.le_antisymm h2 h1;obtain⟨⟨x⟩⟩:=a;obtain⟨⟨y⟩⟩:=b;cases e;rfl
theorem BN(h:ltS a b=true):ltS b a=false:=by
 unfold ltS at *;rw[decide_eq_true_iff]at h;rw[decide_eq_false_iff_not,List.not_lt];exact List.le_of_lt h
theorem lF(x:Str): ∀l,(Bc x l).Perm (x::l)
 |[]=>List.Perm.refl _
 |y::l=>by
  unfold Bc;split
  ·exact((lF x l).cons y).trans (List.Perm.swap x y l)
  ·exact List.Perm.refl _
theorem i6: ∀l,(gP l).Perm l
 |[]=>List.Perm.refl _
 |x::l=>(lF x _).trans ((i6 l).cons x)
theorem mT(x:Str): ∀{l:List Str},l.Pairwise (λa b=>ltS b a=false)->(Bc x l).Pairwise (λa b=>ltS b a=false)
 |[],_=>by simp[Bc]
 |y::l,h=>by
  rw[List.pairwise_cons]at h;unfold Bc;split
  ·rename_i e;rw[List.pairwise_cons];refine⟨λz c=>?_,mT x h.2⟩
   rcases au.mp ((lF x l).mem_iff.mp c)with rfl|c
   ·exact BN e
   ·exact h.1 z c
  ·rename_i e
   have d:ltS y x=false:=by simpa using e
   rw[List.pairwise_cons];refine⟨λz c=>?_,List.pairwise_cons.mpr h⟩
   rcases au.mp c with rfl|c
   ·exact d
   ·exact Dm d (h.1 z c)
theorem lG: ∀l,(gP l).Pairwise (λa b=>ltS b a=false)
 |[]=>.nil
 |x::l=>mT x (lG l)
theorem uQ: ∀{l:List Str} {p:Str},risingS p l=true->(p::l).Pairwise (λa b=>ltS b a=false)
 |[],p,_=>by simp
 |x::r,p,h=>by
  unfold risingS at h;rw[av]at h;have d:=uQ h.2
  have e:ltS x p=false:=by
   have:=h.1
   rw[ltCps_eq]at this;simpa[ltS]using this
  rw[List.pairwise_cons];refine⟨λz c=>?_,d⟩
  rcases au.mp c with rfl|c
  ·exact e
  ·exact Dm e ((List.pairwise_cons.mp d).1 z c)
theorem v5(p:m.Perm l)(h:sortedS m=true):m=gP l:=by
 have c:m.Pairwise (λa b=>ltS b a=false):=by
  cases m with
  |nil=>exact .nil
  |cons x r=>exact uQ h
 exact List.Perm.eq_of_pairwise (λa b _ _ x y=>yY y x) c (lG l) (p.trans (i6 l).symm)
section
variable{Ex:cc}
theorem sL(S:KdlSrc prog w T r d n P OK)(hh:A.handled=none)(hok:OK s.heap)(hn:n<=sizeLine)(h: ∀h' tk (vs:List Value),(∀b o,s.heap.get? b=some o->h'.get? b=some o)->vs.length=n->(∀j v,vs[j]? =some v->P j v)->Q vs {s with heap:=h',toks:=tk}):wpAny (model prog w) A (collect (.ref r)) Q Ex s:=by
 have lt:=S.there _ hok;unfold collect;refine aa (wpAny_runValue (codeAny_builtin entry_proto_collect' ?_));refine aa (wpAny_newList (ac ⟨Code.quiet_builtin _ (by decide+kernel),codeAny_builtin entry_list_iadd' ?_⟩))
 refine kdl_extend (A:=A) (R:=λq i=>match q with
  |.ok (.ret v)=>wpAny (model prog w) A (match v with
   |.ref a=>(do
    let o<-load a
    match o.data with
    |.seq l _=>pure l.toList
    |_=>unsupported "internal:collect")
   |_=>unsupported "internal:collect") Q Ex i
  |.ok _=>False
  |.error e=>Ex e i) (s:={s with heap:=s.heap.push (seqObj "list" #[] 0)}) S hh (S.keep _ _ hok λb _ o e=>ae _ e) s.heap.objs.size (Nat.ne_of_gt lt.1) (Nat.ne_of_gt lt.2) (.ref s.heap.objs.size) 0 (af _ rfl) (λh' tk g c hk m f=>?_) hn
 refine aa (wpAny_load m (ac ?_));refine h h' tk g.toList (λb o e=>hk b o (bg (ag e)) (ae _ e)) (by rw[Array.length_toList];exact f.1) λj v e=>f.2 j v (by rw[<-Array.getElem?_toList];exact e)
theorem v6{Q:cc}(S:KdlSrc prog w T r d n P OK)(hh:A.handled=none)(hok:OK s.heap)(h64:n<64)(hP: ∀vs:List Value,vs.length=n->(∀j v,vs[j]? =some v->P j v)->StrsAre vs ss)(h: ∀(h1 h':Heap) tk (out:List Value) e,(∀b o,s.heap.get? b=some o->h1.get? b=some o)->(∀b o,h1.get? b=some o->h'.get? b=some o)->h'.get? h1.objs.size=some (seqObj "list" out.toArray e)->StrsAre out (gP ss)->Q (.ref h1.objs.size) {s with heap:=h',toks:=tk}):
  wpAny (model prog w) A (call (.builtin "sorted") [.ref r]) Q Ex s:=by
 refine Calls.call_function_entry kind_sorted plain_sorted entry_sorted (args_sorted1 _) ?_;unfold Builtin.«sorted»;refine aa (m:=checkCount "sorted" 1 1 _) (ac ?_);refine aa (sL (A:=A.in1) S hh hok (by rw[sizeLine_eq];lia) λh1 tk vs hk C z=>?_)
 have f:=hP vs C z;refine aa (wpAny_newList ?_ (by rw[sizeLine_eq];lia))
 have c:(h1.push (seqObj "list" vs.toArray 0)).get? h1.objs.size=some (seqObj "list" vs.toArray 0):=af _ rfl
 refine aa (wpAny_holding (wpAny_call_entry slot_list_sort ⟨_,c,rfl⟩ entry_list_sort (list_sort_treeK (s:={s with heap:=h1.push (seqObj "list" vs.toArray 0),toks:=tk}) strKind_oneLt c f.keysOf (λi l dZ e=>keyKind_strs (by rw[<-e];exact f)) (by lia) λa q p=>⟨_,rfl,?_⟩) (args_list_sort _)))
 obtain⟨B,u,y,x⟩:=sorted_out_str f q p;obtain⟨e,t⟩:=sortedHeap_at (out:=(arrOf a).map (·.2)) c
 have g: ∀b o,h1.get? b=some o->(sortedHeap (h1.push (seqObj "list" vs.toArray 0)) h1.objs.size vs ((arrOf a).map (·.2))).get? b=some o:=λb o q1=>by
  have lt:b<h1.objs.size:=ag q1;rw[sortedHeap_old (bg lt) (by rw[ah];exact Nat.lt_succ_of_lt lt),Heap.get?_push_ne _ _ _ (bg lt)]
  exact q1
 exact ac ⟨_,rfl,h h1 _ tk ((arrOf a).map (·.2)).toList e hk g (by rw[Array.toArray_toList];exact t) (by rw[<-v5 y x];exact u)⟩
end
def IP:List V->Hp->VK->Prop:=λxs H Q=>∃d kvs ks,xs=[V.ref d]/\Rd H d (.dK kvs)/\kvs.map (·.1)=ks.map (λk:Str=>(Sum.inr k:L2.Key))/\ks.length<64/\∀p,H p=none->Q (.ref p) (upd H p (.lst ((gP ks).map V.str)))
theorem yZ(h:StrsAre vs ss):bS (ss.map V.str) vs:=by
 induction h with
 |nil=>exact .nil
 |cons y t _ a=>exact .cons ⟨t,rfl⟩ a
theorem mU(hc:X.calm=true):lY X (.builtin "sorted") IP:=by
 intro O s N H xs us Q I r h;obtain⟨d,kvs,a,rfl,hd,hk,C,q⟩:=h;obtain⟨u,rfl,ru⟩:=bS.one r;cases ru;obtain⟨z,lo,E,U,dd⟩:=iX I.hok hd;obtain⟨o,Z,ep,m1,M,T,Y,m5,m6⟩:=dd
 have b:E.map (·.1)=a.map (λk:Str=>(Sum.inr k:L2.Key)):=by rw[<-U.keys];exact hk
 have L:E.length=a.length:=by simpa using congrArg List.length b
 refine v6 (ss:=a) (kdl_dict (knd:=bE X.prog X.w) (kvs:=E) (ep:=ep) lo) (I.ok.hd hc) ⟨o,Z,m1,M,T,Y,m5,m6⟩ (by lia) (λc g m=>?_) λA h' K B e k1 W f i=>?_
 ·have p: ∀(c:List Value) (a:List Str),c.length=a.length->(∀(j:Nat) (v:Value),c[j]? =some v->∃k,a[j]? =some k/\∃t,v=Value.str k t)->StrsAre c a:=by
   intro c
   induction c with
   |nil=>intro a g _;cases a with|nil=>exact .nil|cons _ _=>cases g
   |cons v c S=>
    intro a g m
    cases a with
    |nil=>cases g
    |cons k a=>
     obtain⟨k',f,t,i⟩:=m 0 v rfl;cases f;subst i;exact .cons k t (S a (by simpa using g) λj v e=>m (j+1) v e)
  refine p c a (by lia) λj v e=>?_
  obtain⟨k,x,f,i⟩:=m j v e
  have l:(a.map (λk:Str=>(Sum.inr k:L2.Key)))[j]? =some k:=by rw[<-b,List.getElem?_map,f];rfl
  rw[List.getElem?_map]at l
  cases J:a[j]? with
  |none=>rw[J]at l;cases l
  |some y=>
   rw[J]at l;cases l;refine⟨y,rfl,?_⟩;exact Value.isStrOf_shape i
 ·have G:Inv X O N H {s with heap:=A,toks:=K}:=I.kept k1
  have n:=G.hok.fresh (ai A.objs.size)
  have hz:((gP a).map V.str).length<=sizeLine:=by
   rw[ao,(i6 a).length_eq];exact Nat.le_trans (Nat.le_of_lt C) (by decide)
  exact⟨.ref A.objs.size,_,G.laid (o:=.lst ((gP a).map V.str)) (t':=K) W (ai _) ⟨hz,B,e,yZ i,f⟩,rfl,q _ n⟩
section
variable{ad:Ad}{A:Nat}
theorem E8{K:Frag}(h:HR K ad G held kvs):kvs.map (·.1)=(held.map (·.1)).map (λk:Str=>(Sum.inr k:L2.Key)):=by
 induction h with
 |nil=>rfl
 |cons a t b=>rw[List.map_cons,List.map_cons,List.map_cons,b,a.1]
theorem lH{K:Frag}{G:Hp}: ∀ss:List Str,aJ K ad G (ss.map D.str) (ss.map V.str)
 |[]=>aJ.nil
 |s::ss=>aJ.cons (by unfold Rep;rfl) (lH ss)
theorem E9(hc:X.calm=true)(RC:RkC X.K A)(hg:L2.Gl X "sorted")(hm:X.mg "sorted"=none)(hN:X.N[i]? =some x)(hv:Vis X.env.scope x)(hd:(x==("__debug__":Str))=false)(hcd:(x==("__classdict__":Str))=false):
  ME X ad (.Call (.Name "sorted" p) [.Attribute (.Name x np) "held" ap] [] pos) (Eb A i):=by
 refine PE.imp (tN (mU hc) hg hm (by decide+kernel) (cN (gW (cM hN hv hd hcd) rfl) eL rfl)) λy H Q b=>?_
 obtain⟨G,z,E,l,o,u,a⟩:=b;obtain⟨r,e,a⟩:=lE a;obtain⟨B,v,d,s,t,m,g⟩:=o.rk e;obtain⟨c,j,h⟩:=g.held
 by_cases f:r.held.length<64
 ·rw[if_pos f]at a;refine g6 RC g m (fd:="held") rfl RC.n1 ⟨d,c,r.held.map (·.1),rfl,.inl j,E8 h,by simpa using f,λq n=>?_⟩
  exact a.ow_new l (lH _) n
 ·rw[if_neg f]at a;exact a.elim
end
theorem uR{m:Str}(h:m≠"held"/\m≠"done"/\m≠"undone"):[(("held":Str),V.ref d),("done",.ref l1),("undone",.ref l2)].lookup m=none:=by
 have b:(m==("held":Str))=false:=by simpa using h.1
 have a:(m==("done":Str))=false:=by simpa using h.2.1
 have c:(m==("undone":Str))=false:=by simpa using h.2.2
 rw[List.lookup_cons,b,List.lookup_cons,a,List.lookup_cons,c,List.lookup_nil]
theorem iI(hb:attributeBase o m env (eval o env)=eval o env)(hf:methodCallForm (es.length+([]:List Keyword).length) (backTo cp (starEach es env)) (backToKw cp (keywordEach [] env))=true)(hl:(ap.endLine==cp.line)=true):
  eval (.Call (.Attribute o m ap) es [] cp) env=(do
   let ov<-eval o env
   standAt ap.atName
   let (f,first)<-holding [ov] (getMethod ov m (do return (<-importBound o env).getD true))
   callWith cp f first (backTo cp (starEach es env)) (backToKw cp (keywordEach [] env))):=by
 rw[arm_eval_Call,hb];unfold methodCall calleeOf methodCallPos;rw[hf,hl];rfl
section
variable{X:Cx}{ad:Ad}{σ:St}{Q:VK}{E:Nat->Hp->Prop}{p ap cp:Pos}{es:List Expr}{fs:List F}{A i n:Nat}{x m:Str}{M:FM}
theorem y0{m:RM}(h:RK X.K ad G H m.told Q E):RMK X.K ad A G H p0 dx d l1 l2 m Q E:=by
 cases m with
 |pure x=>exact h
 |chg _ _=>exact az h
theorem RMK.impE{G H:Hp}{p0 dx d l1 l2:Addr}{m:RM}{E':Nat->Hp->Prop}(h:RMK X.K ad A G H p0 dx d l1 l2 m Q E)(k: ∀c H',E c H'->E' c H'):RMK X.K ad A G H p0 dx d l1 l2 m Q E':=by
 cases m with
 |pure x=>exact RK.impE h k
 |chg _ _=>exact h
theorem lI(M0:MetOk X ad A m n M)(I:Inv X cb σ H s)(hG:Same G H)(hR:RackIn X.K ad A G H p0 r dx d l1 l2)(rv:bS vs us)(rq:aJ X.K ad G ds vs)(hl:ds.length=n)(hx:XP X ad σ E)(h:RMK X.K ad A G H p0 dx d l1 l2 (M r ds) Q E)(hf:Meth X.K A m f):
  wpAny (model X.prog X.w) X.A (call (.ref f) (.ref p0::us)) (EP X cb σ Q) X.xe s:=by
 obtain⟨i,k,p,q,a,o,b,g⟩:=M0.ok
 have e:i=f:=by
  have z:=a.at_.symm.trans hf.at_;cases z;rfl
 subst e;exact sB (vs:=V.ref p0::vs) (E:=xk ad E) o b g I (.cons rfl rv) ⟨G,p0,r,dx,d,l1,l2,ds,vs,rfl,hG,hR,rq,hl,h.impE λc t e=>⟨c,rfl,e⟩⟩ λe l j=>hx cb H s e l I j
theorem BO(RC:RkC X.K A)(M0:MetOk X ad A m n M)(hN:X.N[i]? =some x)(hv:Vis X.env.scope x)(hd:(x==("__debug__":Str))=false)(hcd:(x==("__classdict__":Str))=false)(ha:MA X ad (a::es) fs)(hn:fs.length=n)(hst:starEach (a::es) X.env=(false,eval a X.env)::starEach es X.env)(hpl:(backTo cp (starEach es X.env)).any (·.1)=false)(hfm:methodCallForm ((a::es).length+([]:List Keyword).length) (backTo cp (starEach (a::es) X.env)) (backToKw cp (keywordEach [] X.env))=true)(hln:(ap.endLine==cp.line)=true)(I:Inv X cb σ H s)(hG:Same G H)(hS:SL X.K ad G H ρ σ)(hx:XP X ad σ E)(h1:σ[i]? =some (some (.ref p0)))(hR:RackIn X.K ad A G H p0 r dx d l1 l2)(hr:RK X.K ad G H (l4 fs ρ W) Q E)(hq: ∀ds G1 H1,Step G H G1 H1->RK X.K ad G1 H1 (W ds) Q E->RMK X.K ad A G1 H1 p0 dx d l1 l2 (M r ds) Q E):
  wpAny (model X.prog X.w) X.A (eval (.Call (.Attribute (.Name x p) m ap) (a::es) [] cp) X.env) (EP X cb σ Q) X.xe s:=by
 obtain⟨f,k,J,O,h,_⟩:=M0.ok;refine PySem.W.methodCall_KW (L2.thn (cM hN hv hd hcd cb s σ H (λv H1=>v= .ref p0/\H1=H) I ⟨.ref p0,h1,rfl,rfl⟩) λu y e=>?_) (iI rfl hfm hln)
 obtain⟨v,H1,g,z,B,t⟩:=e;subst B;subst t
 cases (show u=Value.ref p0 from z)
 refine gF g hR.ins RC.cl h (uR M0.no) ?_
 refine PySem.W.callWith_K (first:=[.ref p0]) (h₀:=X.base) g.ok.mod.kin h.kp (L2.thn (ha cp cb y σ H1 (λj b=>∃ds G1,Step G H1 G1 b/\aJ X.K ad G1 ds j/\ds.length=fs.length/\RK X.K ad G1 b (W ds) Q E) g
  (sA hG hS hx hr λj ds G1 b c l o k=>⟨ds,G1,c,l,o,k⟩)) λS L ⟨j,b,q,C,ds,G1,c,l,o,k⟩=>⟨q.kIn,?_⟩) hst hpl
 exact lI M0 q c.gh (hR.step c) C l (o.trans hn) hx (hq ds G1 b c k) h
theorem y3(RC:RkC X.K A)(M0:MetOk X ad A m 0 M)(hN:X.N[i]? =some x)(hv:Vis X.env.scope x)(hd:(x==("__debug__":Str))=false)(hcd:(x==("__classdict__":Str))=false)(hln:(ap.endLine==cp.line)=true)(I:Inv X cb σ H s)(hG:Same G H)(hx:XP X ad σ E)(h1:σ[i]? =some (some (.ref p0)))(hR:RackIn X.K ad A G H p0 r dx d l1 l2)(hq:RMK X.K ad A G H p0 dx d l1 l2 (M r []) Q E):
  wpAny (model X.prog X.w) X.A (eval (.Call (.Attribute (.Name x p) m ap) [] [] cp) X.env) (EP X cb σ Q) X.xe s:=by
 obtain⟨f,k,l,n,c,_⟩:=M0.ok;refine PySem.W.methodCall_KW (L2.thn (cM hN hv hd hcd cb s σ H (λv e=>v= .ref p0/\e=H) I ⟨.ref p0,h1,rfl,rfl⟩) λu o a=>?_) (iI rfl rfl hln)
 obtain⟨v,e,b,j,g,h⟩:=a;subst g;subst h
 cases (show u=Value.ref p0 from j)
 refine gF b hR.ins RC.cl c (uR M0.no) ?_;exact PySem.W.callWith_K0 (first:=[.ref p0]) b.kIn c.kp (lI M0 b hG hR .nil aJ.nil rfl hx hq c)
theorem IQ(RC:RkC X.K A)(M0:MetOk X ad A m n M)(hN:X.N[i]? =some x)(hv:Vis X.env.scope x)(hd:(x==("__debug__":Str))=false)(hcd:(x==("__classdict__":Str))=false)(ha:MA X ad es fs)(hn:fs.length=n)(hst: ∀a r,es=a::r->starEach (a::r) X.env=(false,eval a X.env)::starEach r X.env/\(backTo cp (starEach r X.env)).any (·.1)=false)(hl:es.length=fs.length)(hfm:methodCallForm (es.length+([]:List Keyword).length) (backTo cp (starEach es X.env)) (backToKw cp (keywordEach [] X.env))=true)(hln:(ap.endLine==cp.line)=true):
  ME X ad (.Call (.Attribute (.Name x p) m ap) es [] cp) (eM A i M fs):=by
 refine λB s z H Q I o=>o.el λG C E g j c b=>?_
 obtain⟨r,e,b⟩:=lE b;obtain⟨O,y,d,t,u,h,l⟩:=j.rk e
 cases es with
 |nil=>
  cases fs with
  |nil=>
   subst hn;exact y3 RC M0 hN hv hd hcd hln I g c h l (y0 b)
  |cons _ _=>cases hl
 |cons a f=>exact BO RC M0 hN hv hd hcd ha hn (hst a f rfl).1 (hst a f rfl).2 hfm hln I g j c h l b λJ v L q k=>y0 k
end
theorem Dn{K:Frag}{ad:Ad}{G:Hp}: ∀{ks:List Str} {ds:List D} {es:List (L2.Key×V)},es.map (·.1)=ks.map Sum.inr->aJ K ad G ds (es.map (·.2))->HR K ad G (ks.zip ds) es
 |[],ds,[],_,_=>.nil
 |[],_,_::_,h,_=>by simp at h
 |_::_,_,[],h,_=>by simp at h
 |k::ks,ds,(q,v)::es,h1,h2=>by
  rw[List.map_cons,List.map_cons]at h1;obtain⟨a,c⟩:=List.cons.inj h1;rw[List.map_cons]at h2
  cases ds with
  |nil=>unfold aJ at h2;cases h2
  |cons d ds=>
   unfold aJ at h2;obtain⟨i,g,b,f,e⟩:=h2;cases b;exact .cons ⟨a,f⟩ (Dn c e)
theorem RK.imp{K:Frag}{ad:Ad}(h:RK K ad G H r Q E)(k: ∀v H,Q v H->Q' v H):RK K ad G H r Q' E:=by
 cases r with
 |ok d=>exact λv b f a q=>k _ _ (h v b f a q)
 |ow i=>exact λp g b f a n m e q=>k _ _ (h p g b f a n m e q)
 |ex c=>exact h
 |bad=>exact h
def Mp:R->Option D
 |.ok d=>some d
 |.ow xs=>some (.lst xs)
 |_=>none
section
variable{X:Cx}{ad:Ad}{cb:ce}{s:Shared}{σ:St}{H G:Hp}{a o:Expr}{f:F}
def IR(X:Cx)(ad:Ad)(f:F):TE:=λσ H Q=>tE X ad f σ H λv H1=>∃a o es,v= .ref a/\H1 a=some (.frz o (.dK es))/\∀q,H1 q=none->Q (.ref q) (upd H1 q (.dK es))
theorem BP(hg:L2.Gl X "dict")(hm:X.mg "dict"=none)(ha:ME X ad a f)(he:starEach [a] X.env=(false,eval a X.env)::starEach [] X.env):PE X (.Call (.Name "dict" p) [a] [] pos) (IR X ad f):=by
 intro t s l H Q I h;refine wpAny_Call_Name_kw (fX I hg hm (u:=.type "dict") (by decide+kernel) ?_ (by decide) (by decide))
 refine PyProof.Rows.callWith_type1 (L2.thn (cN ha eL he pos t s l H (λg b=>∃v,g=[v]/\∃a o c,v= .ref a/\b a=some (.frz o (.dK c))/\∀q,b q=none->Q (.ref q) (upd b q (.dK c))) I ?_) λO M ⟨g,b,m,A,v,B,K,J,c,x,d,q⟩=>?_) he rfl
 ·obtain⟨G,z,E,y,L,j,i⟩:=h;refine⟨G,z,E,y,L,j,?_⟩;exact RK.imp i λv b k=>⟨v,rfl,k⟩
 ·subst B;subst x;obtain⟨u,rfl,C⟩:=lZ A
  cases (show u=Value.ref K from C)
  exact Bl m (.inr ⟨J,d⟩) λe N n r=>⟨.ref e,_,r,rfl,q e n⟩
theorem BQ(hN:X.N.Nodup)(hi:X.N[i]? =some x)(hl:Loc X.env.scope x)(hg:L2.Gl X "dict")(hm:X.mg "dict"=none)(ha:ME X ad a f)(he:starEach [a] X.env=(false,eval a X.env)::starEach [] X.env)(hf:X.fn x=true\/X.env.scope.names.lookup x=some .local):
  MS X ad Z (.Assign [.Name x pos'] (.Call (.Name "dict" p) [a] [] cp) pos) (mG i f):=by
 refine PS.imp (o8 hN hi hl (BP hg hm ha he) rfl hf) ?_;rintro A C H ⟨b,G,s,E,S,j,h⟩;refine g0 S j h λv d g I c r k=>?_
 cases d<;>try exact az k
 rename_i t y;unfold Rep at r;obtain⟨z,u,e,rfl,o,m,l⟩:=r;refine⟨z,u,e,rfl,c.gh _ _ o,λq n=>?_⟩
 have B:g q=none:=c.gh.free n
 exact(show OKo X ad b (.nx (s.set i (.dc (t.zip y)))) A E from k) _ g _ ((S.step c).setNew (Step.own c.gh n) n ⟨q,e,rfl,B,aH,Dn m l,trivial⟩)
theorem sM{q:Addr}{es:List (L2.Key×V)}{ks:List Str}{ds:List D}{Q:VK}(I:Inv X cb σ (upd H q (.dK es)) s)(hG:Same G H)(n:H q=none\/H q=some (.dK []))(gn:G q=none)(h1:es.map (·.1)=ks.map Sum.inr)(h2:aJ X.K ad G ds (es.map (·.2)))(hr: ∀v G' H',(∀c,c≠q->G' c=G c)->Same G G'->Same G' H'->(∀c,c≠q->H' c=H c)->Rep X.K ad G' (.dct ks ds) v->Q v H'):EP X cb σ Q (.ref q) s:=by
 obtain⟨o,b⟩:=Inv.frzD I aH;rw[wQ]at b;refine⟨.ref q,_,b,rfl,hr (.ref q) (upd G q (.frz o (.dK es))) _ (λc a=>aC a) (Same.upd_new gn) (λc u e=>?_) (λc a=>aC a) ?_⟩
 ·by_cases z:c=q
  ·subst z;rw[aH]at e ⊢;exact e
  ·rw[aC z]at e ⊢;exact hG c u e
 ·unfold Rep;exact⟨q,o,es,rfl,aH,h1,h2.mono (Same.upd_new gn)⟩
theorem BR:ME X ad (.Dict [] [] pos) kR:=by
 refine λl s i H Q I t=>t.el λG N E b O L g=>?_
 refine L2.thn (tW l s i H (λv d=>∃q,v= .ref q/\H q=none/\d=upd H q (.dK [])) I λq n=>⟨q,rfl,n,rfl⟩) λu M a=>?_
 obtain⟨v,d,h,C,q,p,n,y⟩:=a;subst p;subst y
 cases (show u=Value.ref q from C)
 refine sM (ad:=ad) (ks:=[]) (ds:=[]) h b (.inl n) (b.free n) rfl aJ.nil λv B x o J m j r=>?_
 exact(show RK X.K ad G H (.ok (.dct [] [])) Q E from g) v B x ⟨J,m,λc w e=>by rw[j c (λz=>by rw[z,n]at e;cases e)];exact e,λc A f=>by
  by_cases z:c=q
  ·rw[z];exact n
  ·rw[o c z,A]at f;exact absurd rfl f⟩ r
theorem Do(hG:Same G H)(hS:SL X.K ad G H ρ σ)(hx:XP X ad σ E)(hv:Mp (f ρ)=some x)(q: ∀v G1 H1,Step G H G1 H1->Rep X.K ad G1 x v->Q v H1):tE X ad f σ H Q:=by
 refine⟨G,ρ,E,hG,hS,hx,?_⟩
 cases e:f ρ with
 |ok d=>rw[e]at hv;cases hv;exact q
 |ow j=>
  rw[e]at hv;cases hv;intro p i G1 H1 a n m h r;obtain⟨b,st2,g⟩:=dA (X:=X) (ad:=ad) a n m h r;exact q _ b H1 st2 g
 |ex c=>rw[e]at hv;cases hv
 |bad=>rw[e]at hv;cases hv
theorem IS(hG:Same G H)(hS:SL X.K ad G H ρ σ)(hx:XP X ad σ E)(hv:f ρ= .ex c)(q: ∀G1 H1,Step G H G1 H1->E c H1):tE X ad f σ H Q:=
 ⟨G,ρ,E,hG,hS,hx,by rw[hv];exact q⟩
theorem uS{r:R}{k:D->R}{Q:VK}{E:Nat->Hp->Prop}(h:RK X.K ad G H (r.bind k) Q E):(∃x,Mp r=some x/\RK X.K ad G H (k x) Q E)\/∃c,r= .ex c/\∀G1 H1,Step G H G1 H1->E c H1:=by
 cases r with
 |ok d=>exact .inl ⟨d,rfl,h⟩
 |ow a=>exact .inl ⟨.lst a,rfl,h⟩
 |ex c=>exact .inr ⟨c,rfl,h⟩
 |bad=>exact h.elim
theorem BS(ha:ME X ad a f)(hb:ME X ad b g):ME X ad (.Dict [some (.Constant (.str k1) j1 p1),some (.Constant (.str k2) j2 p2)] [a,b] pos) (tU k1 k2 f g):=by
 refine λcb s Z H Q I h9=>h9.el λG T E hG C L hr=>?_
 have P:=tY (pos:=pos) (jY (X:=X) (ad:=ad) (k:=.str k1) (j:=j1) (pos:=p1) (d:=.str k1) rfl) ha (tY (jY (X:=X) (ad:=ad) (k:=.str k2) (j:=j2) (pos:=p2) (d:=.str k2) rfl) hb Eo)
 have rk: ∀(k:Str) (m h:Hp),Same m h->SL X.K ad m h T Z->∀(Q':VK),(∀S O,Step m h S O->Q' (.str k) O)->tE X ad (rK (.str k)) Z h Q':=λk m h hg hs Q' q=>⟨m,T,E,hg,hs,L,λv S O J r=>by
  have r':v= .str k:=by unfold Rep at r;exact r
  subst r';exact q S O J⟩
 refine L2.thn (Ep P rfl rfl (by simp) (by simp) cb s Z H (λv h=>∃q p A x y B t,v= .ref q/\H q=none/\Step G (upd H q (.dK [])) p A/\Rep X.K ad p x B/\Rep X.K ad p y t/\RK X.K ad G H (.ok (.dct [k1,k2] [x,y])) Q E/\h=upd A q (.dK [(.inr k1,B),(.inr k2,t)])) I λq n=>?_) λu M hz=>?_
 ·have gq:G q=none:=hG.free n
  have st0:Step G H G (upd H q (.dK [])):=Step.own hG n
  have Y:RK X.K ad G H ((f T).bind λx=>(g T).bind λy=>if k1=k2 then .bad else .ok (.dct [k1,k2] [x,y])) Q E:=hr
  refine rk k1 G _ st0.gh (C.step st0) _ λm h st1=>?_
  have M:=st0.trans st1;rcases uS Y with ⟨x,vx,h1⟩|⟨c,U,W⟩
  ·refine Do st1.gh (C.step M) L vx λB S O st2 r2=>?_
   have s2:=M.trans st2;refine rk k2 S _ st2.gh (C.step s2) _ λG3 H3 l=>?_
   have s3:=s2.trans l;rcases uS h1 with ⟨y,vy,h2⟩|⟨c,U,W⟩
   ·refine Do l.gh (C.step s3) L vy λt p A N r4=>?_
    have o:Step G (upd H q (.dK [])) p A:=((st1.trans st2).trans l).trans N
    have hk: ¬k1=k2:=λz=>by
     have i:RK X.K ad G H (if k1=k2 then .bad else .ok (.dct [k1,k2] [x,y])) Q E:=h2
     rw[if_pos z]at i;exact i.elim
    have i:RK X.K ad G H (if k1=k2 then .bad else .ok (.dct [k1,k2] [x,y])) Q E:=h2
    rw[if_neg hk]at i;refine⟨o.sh _ _ aH,[(.inr k1,B),(.inr k2,t)],rfl,by simp,q,p,A,x,y,B,t,rfl,n,o,(r2.mono l.sg).mono N.sg,r4,i,?_⟩
    have nk: ¬((Sum.inr k1:L2.Key)= .inr k2):=λz=>hk (Sum.inr.inj z)
    simp[iD,L2.putK,nk]
   ·exact IS l.gh (C.step s3) L U λm h J=>W m h (s3.trans J)
  ·exact IS st1.gh (C.step M) L U λm h J=>W m h (M.trans J)
 ·obtain⟨v,h,I1,ru,q,p,A,x,y,B,t,rfl,n,o,r1,r2,hk,rfl⟩:=hz
  cases (show u=Value.ref q from ru)
  have gq:p q=none:=o.gnone (hG.free n) aH
  refine sM (ad:=ad) (ks:=[k1,k2]) (ds:=[x,y]) I1 o.gh (.inr (o.sh _ _ aH)) gq rfl (aJ.cons r1 (aJ.cons r2 aJ.nil)) λv G' H' g1 g2 g3 g4 r=>?_
  refine hk v G' H' ⟨o.sg.trans g2,g3,λc w e=>?_,λc z1 z2=>?_⟩ r
  ·have nc:c≠q:=λz=>by rw[z,n]at e;cases e
   rw[g4 c nc];exact o.sh _ _ (by rw[aC nc];exact e)
  ·by_cases z:c=q
   ·rw[z];exact n
   ·rw[g1 c z]at z2
    have:=o.nw c z1 z2
    rw[aC z]at this;exact this
theorem BU(hu:X.A.units+62<cLine)(ho:ME X ad o f)(ha:ME X ad a g)(hb:ME X ad b h)(m:M2 X o "get" ap a b cp):ME X ad (.Call (.Attribute o "get" ap) [a,b] [] cp) (pS f g h):=by
 refine λcb s Z H Q I h9=>h9.el λG O E hG B l U=>?_
 refine Bj (by lia) ho ha hb m cb s Z H Q I ?_
 refine eZ hG B l U λv d W H1 e r k=>?_
 cases d<;>try exact az k
 rename_i S u;unfold Rep at r;obtain⟨T,p,j,rfl,C,a1,Y⟩:=r;refine⟨T,rfl,.inl ⟨j,.inr ⟨p,e.gh _ _ C⟩⟩,?_⟩;refine eZ e.gh (B.step e) l (show RK X.K ad W H1 ((g O).bind λy=>(h O).bind λz=>(match y with|.str k=>.ok ((bC (S.zip u) k).getD z)|_=>.bad)) Q E from k) λv2 d2 G2 H2 st2 M k2=>?_
 refine eZ st2.gh ((B.step e).step st2) l k2 λv3 d3 J N c r3 L=>?_
 cases d2<;>try exact az L
 rename_i x;unfold Rep at M;subst M
 have g3:N T=some (.frz p (.dK j)):=c.sh _ _ (st2.sh _ _ (e.gh _ _ C))
 refine⟨_,.inl ⟨j,.inr x,.inr ⟨p,g3⟩,rfl,rfl⟩,?_⟩;have i:RK X.K ad J N (.ok ((bC (S.zip u) x).getD d3)) Q E:=L;have q:aJ X.K ad J u (j.map (·.2)):=(Y.mono st2.sg).mono c.sg
 rcases pZ (x:=x) a1 q with ⟨t,n,_⟩|⟨w,d,t,n,b3,_,_⟩
 ·rw[n]at i;rw[t];exact i.ok_now c.gh r3
 ·rw[n]at i;rw[t];exact i.ok_now c.gh b3
theorem Fb(hc:X.calm=true):BOp X ad (.builtin "sorted") tR:=by
 intro t s m H G x v u Q E I h q A d
 by_cases i: ∃c f,x= .dct c f
 ·obtain⟨c,f,rfl⟩:=i;have b:RK X.K ad G H (if c.length<64 then .ow ((gP c).map D.str)else .bad) Q E:=d
  have j:Rep X.K ad G (.dct c f) v:=by
   rcases q with q|⟨_,_,_,z,_⟩
   ·exact q
   ·cases z
  unfold Rep at j;obtain⟨a,o,l,rfl,y,r,B⟩:=j
  by_cases g:c.length<64
  ·rw[if_pos g]at b;exact mU hc t s m H [.ref a] [u] Q I (.cons A .nil) ⟨a,l,c,rfl,.inr ⟨o,h _ _ y⟩,r,g,λp n=>b.ow_new h (lH _) n⟩
  ·rw[if_neg g]at b;exact b.elim
 ·have e:tR [x]= .bad:=by
   cases x<;>first|rfl|exact absurd ⟨_,_,rfl⟩ i
  rw[e]at d;exact d.elim
end
section
variable{E:cc}{h:Heap}{g:Array GenState}{d:Drawn}{os:OsState}
theorem v7{Q:α->Shared->Prop}(hh:A.handled=none)(hm:msg.length<=sizeLine)(hq: ∀e h' t',(∀b o,h.get? b=some o->h'.get? b=some o)->(∃o,h'.get? e=some o/\o.cls= .type "AttributeError")->E (.ref e) ⟨h',g,d,t',os⟩):
  wpAny (model prog w) A (raiseAttrError (.ref a) nm msg) Q E ⟨h,g,d,t,os⟩:=by
 unfold raiseAttrError newExc
 repeat (any_goals (first|assumption|wp_step))
 have l:isSubtype (.type "AttributeError") (.type "AttributeError")=pure true:=by rw[isSubtype_type];kernel_rfl
 have f:((Manifest.find? "AttributeError").elim false λt=>t.mro.contains "StopIteration"||t.mro.contains "SystemExit")=false:=by kernel_rfl
 have j:ownMembersOf (Value.type "AttributeError") [Value.str msg t]= #[unsetMember,unsetMember]:=by rfl
 simp only[f,j,ay,if_false]
 repeat (any_goals (first|assumption|wp_step))
 unfold raiseNew;refine aa (wpAny_handled ?_);rw[hh];refine aa (ac (wpAny_throw ?_));have i:((h.push {cls:=Value.type "tuple",data:=Data.seq #[Value.str msg t]}).push {cls:=Value.type "AttributeError",data:=Data.fields (#[Value.ref h.objs.size,Value.none,Value.none,Value.none,Value.bool false,Value.none]++ #[unsetMember,unsetMember])}).get? (h.push {cls:=Value.type "tuple",data:=Data.seq #[Value.str msg t]}).objs.size=some _:=af _ rfl;refine hq _ _ _ (λb o e=>?_) ⟨_,Heap.get?_update_self _ i rfl,rfl⟩
 have lt:b<h.objs.size:=ag e;refine(Heap.get?_update_other _ _ (λz=>?_)).trans (ae _ (ae _ e))
 have c:b=(h.push {cls:=Value.type "tuple",data:=Data.seq #[Value.str msg t]}).objs.size:=by first|exact z|exact z.symm
 rw[ah]at c;rw[c]at lt;exact absurd lt (Nat.not_lt.mpr (Nat.le_succ _))
theorem qF:typeLookup (.type "list") "keys"=pure none:=by rw[typeLookup_type,builtinLookup_eq_fast];kernel_rfl
theorem qG:typeLookup (.type "list") "__getattr__"=pure none:=by rw[typeLookup_type,builtinLookup_eq_fast];kernel_rfl
def y6(E:cc)(h:Heap)(g:Array GenState)(d:Drawn)(os:OsState):Prop:= ∀e h' t',(∀b o,h.get? b=some o->h'.get? b=some o)->(∃o,h'.get? e=some o/\o.cls= .type "AttributeError")->E (.ref e) ⟨h',g,d,t',os⟩
theorem v8(hh:A.handled=none)(hx:h.get? a=some {cls:=.type "list",dict:=none,data:=.seq its nn,slots:=sl})(hq:y6 E h g d os):
  wpAny (model prog w) A (Builtin.«object.__getattribute__» ⟨[.ref a,.str "keys" tk],[]⟩) Q E ⟨h,g,d,t,os⟩:=by
 have b:(⟨h,g,d,t,os⟩:Shared).TypeIs (.ref a) "list":=⟨_,hx,rfl⟩;have c:=qF
 repeat (any_goals (first|assumption|wp_step))
 exact v7 hh (by decide+kernel) hq
theorem y8{R:Result->Shared->Prop}(hh:A.handled=none)(hx:h.get? a=some {cls:=.type "list",dict:=none,data:=.seq its nn,slots:=sl})(hq:y6 (λe s=>R (.error e) s) h g d os):
  codeAny (model prog w) A (.call (.builtin "list.__getattribute__") ⟨[.ref a,.str "keys" tk],[]⟩) R ⟨h,g,d,t,os⟩:=
 codeAny_call_builtin F.slot_list_getattribute.plain F.entry_list_ga (F.slot_list_getattribute.check _ _ _ _ _ _ _ _ (show(⟨h,g,d,t,os⟩:Shared).TypeIs (.ref a) "list" from⟨_,hx,rfl⟩) (F.args_list_getattribute_2 _ _) (v8 (by exact hh) hx hq))
theorem Fc{Q:cc}(hh:A.handled=none)(hx:h.get? a=some {cls:=.type "list",dict:=none,data:=.seq its nn,slots:=sl})(hq:y6 E h g d os):wpAny (model prog w) A (getAttrBy (.ref a) (.str "keys" tk) false) Q E ⟨h,g,d,t,os⟩:=by
 have r:(⟨h,g,d,t,os⟩:Shared).TypeIs (.ref a) "list":=⟨_,hx,rfl⟩;have p:=F.slot_list_getattribute.lookup;have q:=F.slot_list_getattribute.bind (.ref a);have m:=qG
 have n:isSubtype (.type "AttributeError") (.type "AttributeError")=pure true:=by rw[isSubtype_type];kernel_rfl
 repeat (any_goals (first|assumption|wp_step))
 refine y8 hh hx λe j l hk o=>?_
 obtain⟨c,i,f⟩:=o;have b:(⟨j,g,d,l,os⟩:Shared).TypeIs (.ref e) "AttributeError":=⟨c,i,f⟩;show wpAny _ _ (getattributeRaised _ _ _ _ _ _ _) _ _ _;unfold getattributeRaised;refine aa (wpAny_isInstance b n ?_);rw[if_pos rfl];unfold hookBehind;refine aa ?_;show wpAny _ _ (typeLookup (.type "list") "__getattr__") _ _ _;rw[m];refine ac ?_;exact wpAny_throw (hq e j l hk ⟨c,i,f⟩)
theorem y9(hh:A.handled=none)(hx:h.get? a=some {cls:=.type "list",dict:=none,data:=.seq its nn,slots:=sl})(hq: ∀h' t',(∀b o,h.get? b=some o->h'.get? b=some o)->Q none ⟨h',g,d,t',os⟩):
  wpAny (model prog w) A (getAttr? (.ref a) "keys") Q E ⟨h,g,d,t,os⟩:=by
 have f:isSubtype (.type "AttributeError") (.type "AttributeError")=pure true:=by rw[isSubtype_type];kernel_rfl
 unfold getAttr? getAttrBy?;refine aa (wpAny_mkText ?_);refine aa (wpAny_attempt (Fc hh hx λe h' t' hk m=>?_))
 obtain⟨i,l,j⟩:=m;have c:(⟨h',g,d,t',os⟩:Shared).TypeIs (.ref e) "AttributeError":=⟨i,l,j⟩;refine aa (wpAny_isInstance c f ?_);rw[if_pos rfl];exact ac (hq h' t' hk)
end
theorem g9:entryFor table "dict.update.loop"=some Builtin.«dict.update.loop»:=entryFor_of_tree (by kernel_rfl)
theorem dQ:plainId "dict.update.loop"=true:=by decide+kernel
section
variable{E:cc}
theorem v9(ho:s.heap.get? t=some o)(hc:o.cls= .type "tuple")(hd:o.data= .seq #[x,y] n)(h:Q [x,y] s):wpAny (model prog w) A (Builtin.Dict.pairItems (.ref t)) Q E s:=by
 unfold Builtin.Dict.pairItems;refine aa (wpAny_typeOf (T:="tuple") ⟨o,ho,hc⟩ ?_);rw[if_pos (by decide)]
 exact aa (wpAny_seqItems ho hd (ac h))
end
section
variable{X:Cx}{ad:Ad}{σ:L2.St}{A:Around}{R:Result->Shared->Prop}{G:Hp}{d l:Addr}
theorem BV(hh:A.handled=none)(res:Value)(hG:Same G H)(hn:G d=none)(hl:SqL X.K G l vs)(hp:Paired (λ(v:V) (p:Str×V)=>∃t,v= .ref t/\SqT X.K G t [.str p.1,p.2]) vs pv)(h1000:pv.length<=1000):
  ∀(k i:Nat) (s:Shared) (es:List (L2.Key×V)),pv.length-i=k->i<=pv.length->es.length<=i->Inv X cb σ (upd H d (.dK es)) s->oY X cb (upd H d (.dK es)) it->s.heap.IsListIter it l i->
   (∀s',Inv X cb σ (upd H d (.dK (iD es ((pv.drop i).map λp=>(Sum.inr p.1,p.2))))) s'->R (.ok (.ret res)) s')->
   codeAny (model X.prog X.w) A (.builtin "dict.update.loop" ⟨[.ref d,.ref it,rawInt i,res],[]⟩) R s:=by
 intro k
 have W: ∀es,Same G (upd H d (.dK es)):=λes c u e=>by
  rw[aC (aN e hn)];exact hG c u e
 have ak:vs.length=pv.length:=Paired.length hp
 induction k with
 |zero=>
  intro i s es hk hi he I Z O hR
  have Y:i=pv.length:=by lia
  obtain⟨ab,N,pl,_⟩:=I.list ((W es).seq hl);obtain⟨f,C,f2,L,J,M⟩:=Z;have nl:=N.length;refine codeAny_builtin g9 ?_;rw[Around.under_plainId dQ _];show wpAny _ A.in1 (pyNext (.ref it) >>= _) _ _ s;refine aa (wpAny_pyNext_list_end hh O pl.isList (by simp;lia) λh' S=>?_)
  have j:Inv X cb σ (upd H d (.dK es)) {s with heap:=h'}:=I.turned (t':=s.toks) (λb o U e=>S b o U e) f C L J M
  show wpAny _ A.in1 (Builtin.Dict.addKeywords d [] >>= _) _ _ _;refine aa (ac (ac (hR _ ?_)));rw[Y,List.drop_length];exact j
 |succ k ih=>
  intro i s es hk hi he I Z O hR;have n:i<pv.length:=by lia
  obtain⟨ab,N,pl,_⟩:=I.list ((W es).seq hl)
  obtain⟨v,p,e1,E,t,rfl,ht⟩: ∃v p,vs[i]? =some v/\pv[i]? =some p/\∃t,v= .ref t/\SqT X.K G t [.str p.1,p.2]:=by
   have e:vs[i]? =some (vs[i]'(by lia)):=bc _
   obtain⟨p,E,r⟩:=i0 hp e;exact⟨_,p,e,E,r⟩
  obtain⟨u,hu,ru⟩:=N.get e1
  cases (show u=Value.ref t from ru)
  have nl:=N.length;obtain⟨f,C,f2,L,J,M⟩:=id Z;refine codeAny_builtin g9 ?_;rw[Around.under_plainId dQ _];show wpAny _ A.in1 (pyNext (.ref it) >>= _) _ _ s;refine aa (wpAny_pyNext_list_item O pl.isList (x:=.ref t) (by simpa using hu) λh' T sb=>?_)
  have j:Inv X cb σ (upd H d (.dK es)) {s with heap:=h'}:=I.turned (t':=s.toks) (λb o U e=>(sb.2 b U).trans e) f C L J M
  obtain⟨al,Q,pt,_⟩:=j.tuple ((W es).seqT ht);obtain⟨x,y,rfl,rx,ry⟩:=bS.two Q;obtain⟨tk,rfl⟩:=(show ∃tk,x=Value.str p.1 tk from rx)
  obtain⟨ot,q1,q2,nt,q3⟩:=pt;obtain⟨z,hd,ad,h,dd⟩:=xN j.hok (aH (H:=H) (a:=d) (o:=.dK es))
  have hz:ad.length=es.length:=(KV.length h).symm
  refine aa (wpAny_holding (aa (wpAny_tryCatch (v9 q1 q2 q3 ?_))));refine wpAny_holding (wpAny_dictSet_pairs (knd:=bE X.prog X.w) (k:=.inr p.1) (kF _ _ _ _) dd (λh2 m B=>?_) (by rw[hz,sizeLine_eq];lia))
  have hit:it≠d:=λz=>by rw[z,aH]at f;cases f
  have z2:(L2.putK es (.inr p.1) p.2).length<=es.length+1:=fL _ _ _
  have I3:Inv X cb σ (upd H d (.dK (L2.putK es (.inr p.1) p.2))) {s with heap:=h2,toks:=s.toks+1}:=by
   have:=iY (t':=s.toks+1) (ob:=.dK (L2.putK es (.inr p.1) p.2)) j (by rw[aH];exact True.intro) B (let ⟨q,_,_,hq,_⟩:=m;⟨q,hq⟩) (mK (by rw[sizeLine_eq];lia) hd (h.put (.inr p.1) ry) m)
   rw[wQ]at this;exact this
  refine ac ⟨plainId_quiet dQ _,?_⟩
  have g:=ih (i+1) {s with heap:=h2,toks:=s.toks+1} (L2.putK es (.inr p.1) p.2) (by lia) (by lia) (by lia) I3 ⟨by rw[aC hit]at f ⊢;exact f,C,f2,L,J,M⟩ (T.extBut B.extBut hit) λs' Is=>hR s' (by
   rw[List.drop_eq_getElem_cons n]
   have ep:pv[i]=p:=by rw[bc n]at E;exact Option.some.inj E
   rw[ep,List.map_cons];exact Is)
  exact g
theorem uT: ∀{ds:List D} {ps:List (Str×D)} {vs:List V},jL ds=some ps->aJ X.K ad G ds vs->∃pv:List (Str×V),Paired (λ(v:V) (p:Str×V)=>∃t,v= .ref t/\SqT X.K G t [.str p.1,p.2]) vs pv/\Paired (λ(p:Str×D) (q:Str×V)=>q.1=p.1/\Rep X.K ad G p.2 q.2) ps pv
 |[],ps,vs,h,r=>by
  cases h;unfold aJ at r;subst r;exact⟨[],.nil,.nil⟩
 |d::ds,ps,vs,h,r=>by
  unfold aJ at r;obtain⟨v,o,rfl,e,n⟩:=r;unfold jL at h;split at h
  ·rename_i k x;obtain⟨u,l,rfl⟩:=zMd h;obtain⟨pv,j,i⟩:=uT l n;unfold Rep at e;obtain⟨t,A,rfl,m,c⟩:=e;unfold aJ at c;obtain⟨z,y,rfl,q1,b⟩:=c;unfold aJ at b;obtain⟨f,s,rfl,g,a⟩:=b;unfold aJ at a;subst a;unfold Rep at q1;subst q1;exact⟨(k,f)::pv,.cons ⟨t,rfl,m⟩ j,.cons ⟨rfl,g⟩ i⟩
  ·cases h
theorem uU: ∀{ps:List (Str×D)} {pv:List (Str×V)},Paired (λ(p:Str×D) (q:Str×V)=>q.1=p.1/\Rep X.K ad G p.2 q.2) ps pv->∀{acc:List (Str×D)} {es:List (L2.Key×V)},HR X.K ad G acc es->
  HR X.K ad G (ps.foldl (λacc p=>fK acc p.1 p.2) acc) (iD es (pv.map λp=>(Sum.inr p.1,p.2)))
 |_,_,.nil,_,_,h=>h
 |_,_,.cons (a:=p) (b:=q) r t,acc,es,h=>by
  have c:=yW h r.2 p.1
  have:=uU t c
  rw[List.map_cons];show HR X.K ad G _ (iD (L2.putK es (Sum.inr q.1) q.2) _);rw[r.1];exact this
theorem zA(hc:X.calm=true)(I:Inv X cb σ H s)(hG:Same G H)(r:Rep X.K ad G x v)(ru:bG v u)(hr:RK X.K ad G H (mI x) Q E):
  wpAny (model X.prog X.w) X.A (call (.type "dict") [u]) (EP X cb σ Q) X.xe s:=by
 cases x<;>try exact az hr
 rename_i ds
 have g:RK X.K ad G H (match jL ds with|some i=>if i.length<=1000 then .ok (.dct ((rW i).map (·.1)) ((rW i).map (·.2)))else .bad|none=>.bad) Q E:=hr
 cases e:jL ds with
 |none=>rw[e]at g;exact g.elim
 |some i=>
  rw[e]at g
  have f:RK X.K ad G H (if i.length<=1000 then .ok (.dct ((rW i).map (·.1)) ((rW i).map (·.2)))else .bad) Q E:=g
  by_cases Z:i.length<=1000
  ·rw[if_pos Z]at f;unfold Rep at r;obtain⟨l,vs,rfl,sq,rs⟩:=r
   cases (show u=Value.ref l from ru)
   obtain⟨pv,p1,p2⟩:=uT e rs
   have hh:X.A.handled=none:=I.ok.hd hc
   obtain⟨m,rv,pl,_⟩:=I.list (hG.seq sq);have h:(s.heap.push {cls:=.type "dict",data:=.dict #[]}).DictOf (bE X.prog X.w) s.heap.objs.size []:=Heap.DictOf.new s.heap
   have n:H s.heap.objs.size=none:=I.hok.fresh (ai _)
   have I1:Inv X cb σ (upd H s.heap.objs.size (.dK [])) {s with heap:=s.heap.push {cls:=.type "dict",data:=.dict #[]} }:=I.laid (a:=s.heap.objs.size) (o:=.dK []) (t':=s.toks) (λ_ _ q=>ae _ q) (ai _) (nO s.heap I.bigK)
   refine callType_codes (Q₁:=λy j=>y= .ref s.heap.objs.size/\j={s with heap:=s.heap.push {cls:=.type "dict",data:=.dict #[]} }) F.kt_called_dict (F.kt_typeCall_dict_1 _) F.entry_dict_init (kt_code_dict_new _ ⟨rfl,rfl⟩) ?_
   rintro y j ⟨rfl,rfl⟩;refine⟨h.typeIs,F.args_dict_init_2 _ _,?_⟩;unfold Builtin.«dict.__init__»;refine aa ?_;unfold Builtin.Dict.selfAndRest;refine aa (wpAny_notOrdered_dict h.typeIs ?_);show wpAny _ _ (pure (s.heap.objs.size,[Value.ref l])) _ _ _;refine ac ?_;show wpAny _ _ (Builtin.Dict.updateFrom "dict.__init__" s.heap.objs.size (.ref l) [] .none) _ _ _;unfold Builtin.Dict.updateFrom;obtain⟨ol,C,L,M,ab,O⟩:=pl
   have N:s.heap.get? l=some {cls:=.type "list",dict:=none,data:=.seq m.toArray C,slots:=ol.slots}:=by
    rw[L];obtain⟨c0,d0,a0,s0⟩:=ol
    have c1:c0= .type "list":=M
    have d1:d0=none:=ab
    have a1:a0= .seq m.toArray C:=O
    rw[c1,d1,a1]
   have S:({s with heap:=s.heap.push {cls:=.type "dict",data:=.dict #[]} }:Shared).TypeIs (.ref l) "list":=⟨_,ae _ N,rfl⟩
   refine aa (wpAny_typeOf S ?_);rw[if_pos (by decide)]
   refine aa (y9 (by exact hh) (ae _ N) λt B p=>?_)
   rw[if_pos (show(none:Option Value).isNone=true from rfl)]
   refine aa (wpAny_rule ?_);have T:Inv X cb σ (upd H s.heap.objs.size (.dK [])) {s with heap:=t,toks:=B}:=I1.kept (t':=B) p
   have U:t.IsList l m.toArray:=⟨_,p _ _ (ae _ N),rfl,C,rfl⟩;refine aa (wpAny_pyIter_list (s:={s with heap:=t,toks:=B}) U ?_)
   refine ac ⟨plainId_quiet dQ _,?_⟩;have I3:Inv X cb σ (upd H s.heap.objs.size (.dK [])) {s with heap:=t.push {cls:=.type "list_iterator",data:=.fields #[.ref l,.int 0 0]},toks:=B}:=T.kept (t':=B) λb o e=>ae _ e
   refine BV (A:=X.A.in1) (d:=s.heap.objs.size) (it:=t.objs.size) (l:=l) hh .none hG (hG.free n) sq p1 (by rw[<-Paired.length p2];exact Z) pv.length 0 _ [] (Nat.sub_zero _) (bt _) (ai _) I3 (T.fpOk (ai _) (T.hok.fresh (ai _))) ⟨_,af _ rfl,rfl,rfl⟩ λs' I'=>?_
   rw[List.drop_zero]at I';have J:=uU p2 (acc:=[]) (es:=[]) .nil;obtain⟨W,Y⟩:=J.rep;refine⟨rfl,sM (ad:=ad) I' hG (.inl n) (hG.free n) W Y λv G' H' g1 g2 g3 g4 rr=>?_⟩
   refine f v G' H' ⟨g2,g3,λc w e=>?_,λc z1 z2=>?_⟩ rr
   ·rw[g4 c (λz=>by rw[z,n]at e;cases e)]
    exact e
   ·by_cases z:c=s.heap.objs.size
    ·rw[z];exact n
    ·rw[g1 c z,z1]at z2;exact absurd rfl z2
  ·rw[if_neg Z]at f;exact f.elim
theorem BW(hc:X.calm=true)(hg:L2.Gl X "dict")(hm:X.mg "dict"=none)(ha:ME X ad a f)(he:starEach [a] X.env=(false,eval a X.env)::starEach [] X.env):ME X ad (.Call (.Name "dict" p) [a] [] pos) (mJ f):=by
 refine λm s j H Q I x=>x.el λG A E n y i h=>?_
 refine wpAny_Call_Name_kw (fX I hg hm (u:=.type "dict") (by decide+kernel) ?_ (by decide) (by decide))
 refine PyProof.Rows.callWith_type1 (L2.thn (cN ha eL he pos m s j H (λg c=>∃v d b,g=[v]/\Step G H b c/\Rep X.K ad b d v/\RK X.K ad b c (mI d) Q E) I ?_) λB z ⟨g,c,l,o,v,d,b,q,e,r,k⟩=>?_) he rfl
 ·exact eZ n y i h λv d b c e r k=>⟨v,d,b,rfl,e,r,k⟩
 ·subst q;obtain⟨u,rfl,t⟩:=lZ o;exact zA hc l e.gh r t k
end
theorem cE(h:one l=some a):l=[a]:=by
 unfold one at h;split at h
 ·cases h;rfl
 ·cases h
theorem f9(h:two l=some (a,b)):l=[a,b]:=by
 unfold two at h;split at h
 ·cases h;rfl
 ·cases h
theorem aW(h:bX e=some (x,p)):e= .Name x p:=by
 cases e<;>first|(cases h;rfl)|(cases h;done)
theorem BX(h:bX e=none): ∀x p,e≠ .Name x p:=λx p z=>by subst z;cases h
theorem BY(e:D7 b=some h): ∃p,b= .Slice none (some h) none p:=by
 unfold D7 at e;split at e
 ·split at e
  ·rename_i d f c p a;subst e
   cases d with
   |some _=>cases a
   |none=>
    cases c with
    |some _=>cases a
    |none=>exact⟨p,rfl⟩
  ·cases e
 ·cases e
theorem sN(h:D6 e=some (es,k,p)):e= .Tuple es k p:=by
 cases e<;>first|(cases h;rfl)|(cases h;done)
theorem Kx(h:HM dE C a=some f): ∃x p b q,a= .Call (.Name x p) [b] [] q/\glo C x=some (.py .range)/\dE b=some f:=by
 unfold HM at h;split at h
 ·rename_i j l g q;split at h
  ·rename_i hk;obtain⟨⟨x,p⟩,c,h⟩:=zBd h;obtain⟨b,e,h⟩:=zBd h;split at h
   ·rename_i i d;exact⟨x,p,b,q,by rw[aW c,cE e,List.isEmpty_iff.mp hk],d,h⟩
   ·cases h
  ·cases h
 ·cases h
theorem BZ(e:Ea dE C a=some h): ∃x p b c q f g,a= .Call (.Name x p) [b,c] [] q/\glo C x=some (.py .zip)/\dE b=some f/\dE c=some g/\h=pQ f g:=by
 unfold Ea at e;split at e
 ·rename_i r s n q;split at e
  ·rename_i hk;obtain⟨⟨x,p⟩,d,e⟩:=zBd e;obtain⟨⟨b,c⟩,m,e⟩:=zBd e
   simp only at e
   split at e
   ·rename_i o l;obtain⟨f,i,e⟩:=zBd e;obtain⟨g,j,e⟩:=zMd e;exact⟨x,p,b,c,q,f,g,by rw[aW d,f9 m,List.isEmpty_iff.mp hk],l,i,j,e.symm⟩
   ·cases e
  ·cases e
 ·cases e
theorem eJ{α:Type}{l:List α}(h:l.isEmpty=true):l=[]:=List.isEmpty_iff.mp h
def gQ:Expr->Prop
 |.Starred _ _=>False
 |_=>True
theorem aL(h:gQ e):starEach (e::es) env=(false,eval e env)::starEach es env:=by
 cases e<;>first|rfl|exact h.elim
def mV:Expr->Prop
 |.Set _ _ _=>False
 |_=>True
theorem eB(h:mV e):behindInMarks op e=false:=by
 cases e<;>first|rfl|exact h.elim
theorem qH(h:mV c):lastMarks [op,op'] [b,c]=false:=by
 show behindInMarks op' c=false;exact eB h
theorem n6(h: ∀a b c d,e≠ .Slice a b c d):w8 e:=by
 intro o i
 cases e<;>first|rfl|exact absurd rfl (h _ _ _ _)
theorem aM(h:bP n C e=some f):gQ e/\mV e/\∀a b c d,e≠ .Slice a b c d:=by
 cases n with
 |zero=>cases h
 |succ n=>cases e<;>first|(cases h;done)|(refine⟨trivial,trivial,?_⟩;intro a b c d z;cases z;done)
theorem dS(h:AZ n C e=some f):gQ e/\mV e:=by
 cases n with
 |zero=>cases h
 |succ n=>
  by_cases a: ∃x p,e= .Name x p
  ·obtain⟨x,p,rfl⟩:=a;exact⟨trivial,trivial⟩
  ·have:bP n C e=some f:=by
    rw[<-h]
    cases e<;>first|rfl|exact absurd ⟨_,_,rfl⟩ a
   exact⟨(aM this).1,(aM this).2.1⟩
theorem qI(h:Ed n C tt e=some f):mV e:=by
 cases n with
 |zero=>cases h
 |succ n=>cases e<;>first|trivial|exact(dS h).2
section
variable{ad:Ad}{X:Cx}{C:SK.Ctx}{n:Nat}
def rJ(ad:Ad)(n:Nat):Prop:= ∀(X:Cx) (C:SK.Ctx) (e:Expr) (f:F),CtxOk X ad C->bP n C e=some f->ME X ad e f/\MT X ad e f/\∀op es p,e= .BoolOp op es p->MW X ad e f
def GY(ad:Ad)(n:Nat):Prop:= ∀(X:Cx) (C:SK.Ctx) (e:Expr) (f:F),CtxOk X ad C->AZ n C e=some f->ML X ad e f
def IT(ad:Ad)(n:Nat):Prop:= ∀(X:Cx) (C:SK.Ctx) (tg e:Expr) (tt:Bool) (f:F),CtxOk X ad C->(tt=true->∃es k p,tg= .Tuple es k p)->Ed n C tt e=some f->MI X ad tg e f/\(tt=false->(∀x p,e≠ .Name x p)->MIG X ad tg e f)
theorem mB(hE:rJ ad n)(O:CtxOk X ad C): ∀{es:List Expr} {fs:List F},dY (bP n C) es=some fs->MA X ad es fs/\∀e∈es,gQ e
 |[],fs,h=>by
  cases h;exact⟨xX,λ_ h=>by cases h⟩
 |e::es,fs,h=>by
  unfold dY at h
  cases b:bP n C e with
  |none=>rw[b]at h;cases h
  |some f=>
   rw[b]at h;obtain⟨r,i,j⟩:=zMd h;subst j;obtain⟨q1,g⟩:=mB hE O i;have d:=(aM b).1
   exact⟨nR (hE X C e f O b).1 q1 (aL d),λa c=>by
    rcases au.mp c with rfl|c
    ·exact d
    ·exact g a c⟩
theorem eW{α β:Type}{f:α->Option β}: ∀{l:List α} {r:List β},dY f l=some r->r.length=l.length
 |[],r,h=>by cases h;rfl
 |x::l,r,h=>by
  unfold dY at h
  cases e:f x with
  |none=>rw[e]at h;cases h
  |some y=>
   rw[e]at h;obtain⟨c,a,b⟩:=zMd h;subst b;simp[eW a]
theorem uV{env:PySem.Env}{pos:Pos}: ∀{es:List Expr},(∀e∈es,gQ e)->(backTo pos (starEach es env)).any (·.1)=false
 |[],_=>rfl
 |e::es,h=>by
  rw[aL (h e (.head _))]
  show(false||(backTo pos (starEach es env)).any (·.1))=false
  rw[uV λa b=>h a (.tail _ b)]
  rfl
theorem Lo(hE:rJ ad n)(hL:GY ad n)(O:CtxOk X ad C)(hg:glo C x=some (.py p))(h:Ec (bP n C) (AZ n C) C p as=some f):ME X ad (.Call (.Name x np) as [] pos) f:=by
 obtain⟨q,t,s,o⟩:=O.gl hg;unfold Ec at h;split at h
 ·have e:=zBd h;clear h;obtain⟨a,m,h⟩:=e
  cases cE m
  obtain⟨l,d,rfl⟩:=zMd h;subst s;exact nT x4 q o (by decide+kernel) (hL X C _ l O d) (by decide) t (aL (dS d).1)
 ·have e:=zBd h;clear h;obtain⟨a,m,h⟩:=e
  cases cE m
  obtain⟨l,d,rfl⟩:=zMd h;subst s;exact x3 Eu q o (by decide+kernel) (hL X C _ l O d) (by decide) t (aL (dS d).1)
 ·have e:=zBd h;clear h;obtain⟨a,m,h⟩:=e
  cases cE m
  obtain⟨l,d,rfl⟩:=zMd h;subst s;exact x3 x5 q o (by decide+kernel) (hL X C _ l O d) (by decide) t (aL (dS d).1)
 ·have e:=zBd h;clear h;obtain⟨a,m,h⟩:=e
  cases cE m
  subst s
  cases d:AZ n C a with
  |some l=>
   rw[d]at h;cases h;exact x3 Bq q o (by decide+kernel) (hL X C _ l O d) (by decide) t (aL (dS d).1)
  |none=>
   rw[d]at h;obtain⟨l,v,rfl⟩:=zMd h;obtain⟨y,yp,b,c,yq,L,S,rfl,M,I,J,rfl⟩:=BZ v;obtain⟨U,Z,T,N⟩:=O.gl M;subst T;exact sK U N q o O.calm (hE X C _ L O I).1 (hE X C _ S O J).1 (aL (aM I).1) (aL (aM J).1)
 ·have e:=zBd h;clear h;obtain⟨a,m,h⟩:=e
  cases cE m
  obtain⟨l,d,rfl⟩:=zMd h;subst s;exact nT (Ev O.hd) q o (by decide+kernel) (hL X C _ l O d) (by decide) t (aL (dS d).1)
 ·have e:=zBd h;clear h;obtain⟨a,m,h⟩:=e
  cases cE m
  obtain⟨l,d,rfl⟩:=zMd h;subst s;exact nT (Ew O.hd) q o (by decide+kernel) (hL X C _ l O d) (by decide) t (aL (dS d).1)
 ·cases h
 ·cases h
 ·cases h
 ·have e:=zBd h;clear h;obtain⟨⟨a,b⟩,m,h⟩:=e
  cases f9 m
  obtain⟨l,d,h⟩:=zBd h;obtain⟨z,u,rfl⟩:=zMd h;subst s;exact mQ (r:=Kr) (op:=λi j=>if j<i then j else i) (λ_ _=>rfl) (λx y Q E G H k=>by cases x<;>cases y<;>first|exact⟨_,_,rfl,rfl⟩|exact k.elim) (wZ O.calm) q o (by decide+kernel) (hE X C _ l O d).1 (hE X C _ z O u).1 (by decide) t (aL (aM d).1) (aL (aM u).1)
 ·have e:=zBd h;clear h;obtain⟨⟨a,b⟩,m,h⟩:=e
  cases f9 m
  obtain⟨l,d,h⟩:=zBd h;obtain⟨z,u,rfl⟩:=zMd h;subst s;exact mQ (r:=Kq) (op:=λi j=>if j > i then j else i) (λ_ _=>rfl) (λx y Q E G H k=>by cases x<;>cases y<;>first|exact⟨_,_,rfl,rfl⟩|exact k.elim) (wY O.calm) q o (by decide+kernel) (hE X C _ l O d).1 (hE X C _ z O u).1 (by decide) t (aL (aM d).1) (aL (aM u).1)
 ·have e:=zBd h;clear h;obtain⟨⟨a,b⟩,m,h⟩:=e
  cases f9 m
  have e:=zBd h;clear h;obtain⟨⟨tn,tp⟩,W,h⟩:=e
  cases aW W
  obtain⟨l,d,h⟩:=zBd h;obtain⟨g,u,h⟩:=zBd h;obtain⟨P,v,rfl⟩:=zMd h;subst s;obtain⟨Y,A,K⟩:=Dk O u v
  by_cases B:bsN C a=true
  ·rw[if_pos B]at d;exact sI O.exc q o A K (hL X C _ l O d) (aL (dS d).1)
  ·rw[if_neg B]at d;exact sI O.exc q o A K (hE X C _ l O d).1.ml (aL (aM d).1)
 ·cases h
theorem qJ(h:ME X ad e f)(ht: ∀whole,isTrue e X.env whole=(do let v<-whole;standAt e.pos;holding [v] (truthy v)))(hb: ∀op es p,e≠ .BoolOp op es p):ME X ad e f/\MT X ad e f/\∀op es p,e= .BoolOp op es p->MW X ad e f:=
 ⟨h,Da h ht,λop es p z=>absurd z (hb op es p)⟩
theorem zB(h:MW X ad e f):MT X ad e f:=λa s b H Q I t=>h _ a s b H Q I t
theorem IU{tg:Expr}(h:cO tg=some (xs,k)):xs.length=(if k=0 then 1 else k)/\((k != 0)=true->∃es j p,tg= .Tuple es j p):=by
 cases tg<;>try (cases h;done)
 ·cases h;exact⟨rfl,λz=>absurd z (by decide)⟩
 ·rename_i es j p;unfold cO at h;obtain⟨c,d,a⟩:=zBd h
  by_cases b:2<=c.length
  ·rw[if_pos b]at a;cases a;exact⟨by rw[if_neg (by lia)],λ_=>⟨es,j,p,rfl⟩⟩
  ·rw[if_neg b]at a;cases a
theorem mW(hE:rJ ad n)(hI:IT ad n)(O:CtxOk X ad C){elt tg it:Expr}(h:bP (n+1) C (.ListComp elt [⟨tg,it,ifs,0⟩] sc pos)=some f):
  ∃xs k cs fi fc fe,f=bL k cs fi fc fe/\(cO tg=some (xs,k)/\bP n {C with sc:=sc,N:=xs++aX sc} elt=some fe)/\CompSc X C sc xs cs/\MI X ad tg it fi/\(∀a b c,it≠ .Set a b c)/\xs.length=(if k=0 then 1 else k)/\(∀fp s3 H3 pins',PG (cX X (xs++aX sc) sc s3 H3 fp pins') tg (gTg X.K k))/\
   (∀fp s3 H3 pins',MTs (cX X (xs++aX sc) sc s3 H3 fp pins') ad ifs fc)/\∀fp s3 H3 pins',ME (cX X (xs++aX sc) sc s3 H3 fp pins') ad elt fe:=by
 have H:((cO tg).bind fun(xs,k)=>(Ed n C (k != 0) it).bind fun fi=>if kQ sc xs then
    (dY (λx=>fA C x) (aX sc)).bind λcs=>(match ifs with
    |[]=>some none
    |[c]=>(bP n {C with sc:=sc,N:=xs++aX sc} c).map some
    |_=>none).bind λc=>(bP n {C with sc:=sc,N:=xs++aX sc} elt).map λe=>bL k cs fi c e
   else none)=some f:=h
 clear h;obtain⟨⟨xs,k⟩,p,h⟩:=zBd H;obtain⟨fi,u,h⟩:=zBd h;obtain⟨A,G⟩:=IU p
 by_cases j:kQ sc xs=true
 ·rw[if_pos j]at h;obtain⟨cs,y,h⟩:=zBd h;obtain⟨fc,q,h⟩:=zBd h;obtain⟨fe,v,E⟩:=zMd h;obtain⟨L,I,t,J,s,Q,M⟩:=i5 j;have m: ∀fp s3 H3 pins',CtxOk (cX X (xs++aX sc) sc s3 H3 fp pins') ad {C with sc:=sc,N:=xs++aX sc}:=λfp s3 H3 pins'=>IF O j y
  refine⟨xs,k,cs,fi,fc,fe,E.symm,⟨p,v⟩,yP O j y,(hI X C tg it _ fi O G u).1,λa b c z=>?_,A,λfp s3 H3 pins'=>?_,λfp s3 H3 pins'=>?_,λfp s3 H3 pins'=>(hE _ _ elt fe (m fp s3 H3 pins') v).1⟩
  ·subst z;exact qI u
  ·by_cases d:pR sc=[]
   case neg=>
    rcases I with z|⟨z,l⟩
    ·exact absurd z d
    ·obtain⟨x,rfl⟩:=List.length_eq_one_iff.mp l;refine EV (X:=cX X ([x]++aX sc) sc s3 H3 fp pins') (x:=x) s p rfl rfl ?_ (decide_eq_true z)
     show(relabel sc X.env).names.lookup x=some .cell
     have o:=b9 (env:=X.env) (x:=x) (names:=sc.names);rw[t x (.head _),z]at o;exact o
   refine Lh (X:=cX X (xs++aX sc) sc s3 H3 fp pins') O.calm s p λi x r=>⟨?_,?_⟩
   ·show(xs++aX sc)[i]? =some x
    rw[bu (ax.mp r).1];exact r
   ·show(relabel sc X.env).names.lookup x=some .local
    have o:=b9 (env:=X.env) (x:=x) (names:=sc.names);rw[t x (List.mem_of_getElem? r),d]at o;exact o
  ·split at q
   ·cases q;trivial
   ·obtain⟨g,B,rfl⟩:=zMd q;exact(hE _ _ _ g (m fp s3 H3 pins') B).2.1
   ·cases q
 ·rw[if_neg j]at h;cases h
theorem iJ{C:SK.Ctx}(h:atF C f e=some i): ∃x p q,e= .Attribute (.Name x p) f q/\loc C x=some i:=by
 unfold atF at h;obtain⟨⟨o,g,q⟩,c,l⟩:=zBd h
 have a:(if g=f then(bX o).bind λ(x,_)=>loc C x else none)=some i:=l
 by_cases b:g=f
 ·rw[if_pos b]at a;subst b;obtain⟨⟨x,p⟩,j,d⟩:=zBd a
  cases aW j
  refine⟨x,p,q,?_,d⟩
  cases e<;>first|(cases c;rfl)|(cases c;done)
 ·rw[if_neg b]at a;cases a
theorem n9{C:SK.Ctx}(h:GU C e=some (i,b)): ∃x p q,e= .Attribute (.Name x p) (if b then "done" else "undone") q/\loc C x=some i:=by
 unfold GU at h;split at h
 ·rename_i j a;cases h;exact iJ a
 ·obtain⟨j,c,d⟩:=zMd h;cases d;exact iJ c
theorem oA(hs: ∀e∈es,gQ e)(hl:es.length<20):methodCallForm (es.length+([]:List Keyword).length) (backTo cp (starEach es env)) (backToKw cp (keywordEach [] env))=true:=by
 have all: ∀es:List Expr,(∀e∈es,gQ e)->(backTo cp (starEach es env)).all (!·.1)=true/\(backTo cp (starEach es env)).any (·.1)=false:=by
  intro es
  induction es with
  |nil=>intro _;exact⟨rfl,rfl⟩
  |cons e es d=>
   intro hs;obtain⟨a,b⟩:=d λe c=>hs e (.tail _ c)
   rw[aL (hs e (.head _))];exact⟨a,b⟩
 unfold methodCallForm;rw[(all es hs).1]
 show(true&&true&&decide (es.length+0+0<30))=true
 simp
 lia
theorem gK(hs: ∀e∈es,gQ e):(backTo cp (starEach es env)).any (·.1)=false:=by
 induction es with
 |nil=>rfl
 |cons e es b=>
  rw[aL (hs e (.head _))];exact b λe a=>hs e (.tail _ a)
theorem Lp{X:Cx}(h:gQ e)(hl:(ap.endLine==cp.line)=true):M1 X (.Attribute (.Name x p) "held" pos) "get" ap e cp:=by
 refine⟨rfl,?_,hl,?_⟩
 ·rw[aL h];rfl
 ·rw[aL h];rfl
theorem Fd(hE:rJ ad n)(O:CtxOk X ad C)(h:Ku (bP n C) C e=some f):ME X ad e f/\MT X ad e f/\∀op es p,e= .BoolOp op es p->MW X ad e f:=by
 unfold Ku at h
 cases G:rkc C with
 |none=>rw[G]at h;cases h
 |some am=>
  obtain⟨A,ms⟩:=am;rw[G]at h
  have L:Lm X ad "Rack" (.cls A ms):=by
   unfold rkc at G;split at G
   ·rename_i a' ak e';cases G;exact(O.gt _ _ e').2
   ·cases G
  obtain⟨_,E,MO⟩:=L
  simp only at h
  split at h
  ·rename_i a op cs pos;have c:=zBd h;clear h;obtain⟨b,K,h⟩:=c
   cases cE K
   unfold HN at h;split at h
   ·rename_i J B;have c:=zBd h;clear h;obtain⟨i,l,h⟩:=c;obtain⟨g,u,rfl⟩:=zMd h;obtain⟨x,p,q,rfl,v⟩:=iJ l;obtain⟨t,d,j,s⟩:=O.vis x i v
    have Y:op=if J then .NotIn else .In:=by
     cases op<;>first|(cases B;rfl)|(cases B;done)
    subst Y;have Z:=IO (p:=p) (ap:=q) O.un E t d j s (hE X C _ g O u).1 J;exact⟨Hj Z (eB trivial),uP (eB trivial) λI hG hS c hr=>Z _ _ _ _ _ I ⟨_,_,_,hG,hS,c,hr⟩,λ_ _ _ z=>nomatch z⟩
   ·have c:=zBd h;clear h;obtain⟨⟨i,U⟩,l,h⟩:=c;obtain⟨g,u,rfl⟩:=zMd h;obtain⟨x,p,q,rfl,v⟩:=n9 l;obtain⟨t,d,j,s⟩:=O.vis x i v;have la:=(Dl (ad:=ad) (p:=p) (pos:=q) E t d j s U).lk;have lb:=(hE X C _ g O u).1.look;have m:=(aM u).2.1;exact⟨E4 O.un la lb (eB m),E5 O.un la lb (eB m),λ_ _ _ z=>nomatch z⟩
  ·rename_i a b pos;have c:=zBd h;clear h;obtain⟨i,l,h⟩:=c;obtain⟨g,u,rfl⟩:=zMd h;obtain⟨x,p,q,rfl,v⟩:=iJ l;obtain⟨t,d,j,s⟩:=O.vis x i v;exact qJ (E6 O.un E t d j s (hE X C _ g O u).1 (n6 (aM u).2.2)) (λ_=>rfl) (λ_ _ _ z=>nomatch z)
  ·rename_i fe as ab cp;split at h
   ·rename_i hk
    cases List.isEmpty_iff.mp hk
    split at h
    ·rename_i o m ap;split at h
     ·rename_i hl;unfold HP at h;split at h
      ·rename_i x p hv
       cases aW hv
       have c:=zBd h;clear h;obtain⟨i,l,h⟩:=c;have c:=zBd h;clear h;obtain⟨⟨n0,M⟩,u,h⟩:=c;obtain⟨t,d,j,s⟩:=O.vis x i l
       simp only at h
       split at h
       ·rename_i H;have c:=zBd h;clear h;obtain⟨fs,h3,h⟩:=c;split at h
        ·rename_i hn;cases h;obtain⟨ma,W⟩:=mB hE O h3
         exact qJ (IQ E (MO m n0 M u) t d j s ma hn (λa r e=>by
          subst e;exact⟨aL (W a (.head _)),gK λe he=>W e (.tail _ he)⟩) (eW h3).symm (oA W H) hl) (λ_=>rfl) (λ_ _ _ z=>nomatch z)
        ·cases h
       ·cases h
      ·split at h
       ·rename_i hm;subst hm;have c:=zBd h;clear h;obtain⟨i,l,h⟩:=c;have c:=zBd h;clear h;obtain⟨a,K,h⟩:=c
        cases cE K
        obtain⟨g,u,rfl⟩:=zMd h;obtain⟨x,p,q,rfl,v⟩:=iJ l;obtain⟨t,d,j,s⟩:=O.vis x i v;exact qJ (E7 O.un E t d j s (hE X C _ g O u).1 (Lp (aM u).1 hl)) (λ_=>rfl) (λ_ _ _ z=>nomatch z)
       ·cases h
     ·cases h
    ·rename_i x p;have c:=zBd h;clear h;obtain⟨a,K,h⟩:=c
     cases cE K
     unfold Mg at h;split at h
     ·rename_i N;obtain⟨i,l,rfl⟩:=zMd h;obtain⟨y,py,q,rfl,v⟩:=iJ l;obtain⟨t,d,j,s⟩:=O.vis y i v;obtain⟨T,g2,S,Q⟩:=O.gl N
      cases (show x="sorted" from S)
      exact qJ (E9 O.calm E T Q t d j s) (λ_=>rfl) (λ_ _ _ z=>nomatch z)
     ·rename_i N;have c:=zMd h;clear h;obtain⟨⟨i,U⟩,l,rfl⟩:=c;obtain⟨y,py,q,rfl,v⟩:=n9 l;obtain⟨t,d,j,s⟩:=O.vis y i v;obtain⟨T,g2,S,Q⟩:=O.gl N
      cases (show x="len" from S)
      exact qJ (nT x4 T Q (by decide+kernel) (Dl E t d j s U) (by decide) g2 rfl) (λ_=>rfl) (λ_ _ _ z=>nomatch z)
     ·cases h
    ·cases h
   ·cases h
  ·cases h
theorem Lq{X:Cx}(ha:gQ a)(hb:gQ b)(hl:(ap.endLine==cp.line)=true):M2 X (.Name x p) "get" ap a b cp:=by
 refine⟨rfl,?_,hl,?_⟩
 ·rw[aL ha,aL hb];rfl
 ·rw[aL ha,aL hb];rfl
theorem IV(hE:rJ ad n)(O:CtxOk X ad C)(h:dkE (bP n C) C e=some f):ME X ad e f/\MT X ad e f/\∀op es p,e= .BoolOp op es p->MW X ad e f:=by
 unfold dkE at h;split at h
 ·rename_i H G y K;split at h
  ·rename_i hk
   cases List.isEmpty_iff.mp hk
   split at h
   ·rename_i o m E;split at h
    ·rename_i s;obtain⟨rfl,A,B⟩:=s;have c:=zBd h;clear h;obtain⟨⟨a,b⟩,g,h⟩:=c
     cases f9 g
     have c:=zBd h;clear h;obtain⟨fo,d,h⟩:=c;have c:=zBd h;clear h;obtain⟨i,l,h⟩:=c;obtain⟨q,j,rfl⟩:=zMd h
     cases o<;>try (cases A;done)
     exact qJ (BU O.un (hE X C _ fo O d).1 (hE X C _ i O l).1 (hE X C _ q O j).1 (Lq (aM l).1 (aM j).1 B)) (λ_=>rfl) (λ_ _ _ z=>nomatch z)
    ·cases h
   ·rename_i x p;have c:=zBd h;clear h;obtain⟨a,g,h⟩:=c
    cases cE g
    split at h
    ·rename_i I v;obtain⟨i,d,rfl⟩:=zMd h;obtain⟨u,J,t,r⟩:=O.gl v
     cases (show x="dict" from t)
     exact qJ (BW O.calm u r (hE X C _ i O d).1 (aL (aM d).1)) (λ_=>rfl) (λ_ _ _ z=>nomatch z)
    ·cases h
   ·cases h
  ·cases h
 ·cases h
theorem zC(hE:rJ ad n)(O:CtxOk X ad C)(h:rkE (bP n C) C e=some f):ME X ad e f/\MT X ad e f/\∀op es p,e= .BoolOp op es p->MW X ad e f:=by
 unfold rkE at h
 cases a:Ku (bP n C) C e with
 |some g=>rw[a]at h;cases h;exact Fd hE O a
 |none=>rw[a]at h;exact IV hE O h
theorem Fe(h:K4 l=some (a,b)):l=[a,b]:=by
 unfold K4 at h;split at h
 ·cases h;rfl
 ·cases h
theorem zD(h:Kv o=some x): ∃j p,o=some (.Constant (.str x) j p):=by
 unfold Kv at h;have a:=zBd h;clear h;obtain⟨e,rfl,h⟩:=a;split at h
 ·split at h
  ·cases h;exact⟨_,_,rfl⟩
  ·cases h
 ·cases h
theorem IW(hE:rJ ad n)(O:CtxOk X ad C)(h:dkD (bP n C) ks vs=some f):ME X ad (.Dict ks vs pos) f:=by
 unfold dkD at h;split at h
 ·rename_i hk;rw[av]at hk
  cases List.isEmpty_iff.mp hk.1
  cases List.isEmpty_iff.mp hk.2
  cases h;exact BR
 ·have a:=zBd h;clear h;obtain⟨⟨q,s⟩,c,h⟩:=a
  cases Fe c
  have a:=zBd h;clear h;obtain⟨⟨t,m⟩,i,h⟩:=a
  cases f9 i
  have a:=zBd h;clear h;obtain⟨x,l,h⟩:=a;have a:=zBd h;clear h;obtain⟨y,b,h⟩:=a;have a:=zBd h;clear h;obtain⟨e,j,h⟩:=a;obtain⟨d,g,rfl⟩:=zMd h;obtain⟨u,p,rfl⟩:=zD l;obtain⟨r,o,rfl⟩:=zD b;exact BS (hE X C _ e O j).1 (hE X C _ d O g).1
theorem Lr(hE:rJ ad n)(hL:GY ad n)(hI:IT ad n):rJ ad (n+1):=by
 intro X C e f O h;unfold bP at h;split at h
 ·-- a name
  rename_i x pos;refine qJ ?_ (λ_=>rfl) (λ_ _ _ z=>nomatch z)
  cases M:loc C x with
  |some i=>
   rw[M]at h;cases h;obtain⟨v1,v2,v3,v4⟩:=O.vis x i M;exact xK v1 v2 v3 v4
  |none=>
   rw[M]at h
   simp only at h
   split at h
   ·rename_i d A;cases h;obtain⟨I,K,u,v,g3,g4,g5⟩:=O.gl A;exact xL I g3 g4 g5 K
   ·rename_i k0 n0 f0 A;cases h;obtain⟨I,K,r,f,T,hr,hf⟩:=O.gl A;subst hf;exact xL (v:=.ref (ad.fnA k0)) I T.mg rfl (λG=>by unfold Rep;rfl) K
   ·cases h
 ·obtain⟨d,g,rfl⟩:=zMd h;exact qJ (jY g) (λ_=>rfl) (λ_ _ _ z=>nomatch z)
 ·obtain⟨j,g,h⟩:=zBd h;obtain⟨l,m,rfl⟩:=zMd h;exact qJ (C3 (hE X C _ j O g).1 (hE X C _ l O m).1) (λ_=>rfl) (λ_ _ _ z=>nomatch z)
 ·obtain⟨j,g,h⟩:=zBd h;obtain⟨q1,t,_⟩:=hE X C _ j O g;split at h
  ·cases h;exact⟨Ih q1,Db t,λ_ _ _ z=>nomatch z⟩
  ·cases h
 ·rename_i op es pos;split at h
  ·rename_i a b;obtain⟨j,g,h⟩:=zBd h;obtain⟨l,m,rfl⟩:=zMd h;obtain⟨q1,t,_⟩:=hE X C _ j O g;obtain⟨L,Y,_⟩:=hE X C _ l O m
   cases op with
   |And=>
    have W:MW X ad (.BoolOp .And [a,b] pos) (jX j l):=Dc t (xV Y);exact⟨C8 q1 (C9 L),zB W,λ_ _ _ _=>W⟩
   |Or=>
    have W:MW X ad (.BoolOp .Or [a,b] pos) (rOr j l):=Er t (xV Y);exact⟨Ij q1 (C9 L),zB W,λ_ _ _ _=>W⟩
  ·rename_i a b c r;obtain⟨j,g,h⟩:=zBd h;obtain⟨l,m,rfl⟩:=zMd h;obtain⟨q1,t,_⟩:=hE X C _ j O g;obtain⟨L,Y,r3⟩:=hE X C _ l O m
   cases op with
   |And=>
    have W:MW X ad (.BoolOp .And (a::b::c::r) pos) (jX j l):=Dc t (r3 _ _ _ rfl);exact⟨C8 q1 L,zB W,λ_ _ _ _=>W⟩
   |Or=>
    have W:MW X ad (.BoolOp .Or (a::b::c::r) pos) (rOr j l):=Er t (r3 _ _ _ rfl);exact⟨Ij q1 L,zB W,λ_ _ _ _=>W⟩
  ·cases h
 ·split at h
  ·rename_i fr s;cases h;exact zC hE O s
  rename_i q;clear q;split at h
  ·have E:=zBd h;clear h;obtain⟨b,Z,h⟩:=E
   cases cE Z
   obtain⟨j,g,h⟩:=zBd h;obtain⟨l,m,rfl⟩:=zMd h;exact⟨Im O.un (hE X C _ j O g).1 (hE X C _ l O m).1 (eB (aM m).2.1),Dd O.un (hE X C _ j O g).1 (hE X C _ l O m).1 (eB (aM m).2.1),λ_ _ _ z=>nomatch z⟩
  ·have E:=zBd h;clear h;obtain⟨⟨b,c⟩,Z,h⟩:=E
   cases f9 Z
   obtain⟨j,g,h⟩:=zBd h;obtain⟨l,m,h⟩:=zBd h;obtain⟨J,B,rfl⟩:=zMd h;exact⟨Bm O.un (hE X C _ j O g).1 (hE X C _ l O m).1 (hE X C _ J O B).1 (qH (aM B).2.1),Bn O.un (hE X C _ j O g).1 (hE X C _ l O m).1 (hE X C _ J O B).1 (qH (aM B).2.1),λ_ _ _ z=>nomatch z⟩
  ·cases h
 ·exact qJ (IW hE O h) (λ_=>rfl) (λ_ _ _ z=>nomatch z)
 ·obtain⟨J,g,h⟩:=zBd h;obtain⟨j,m,h⟩:=zBd h;obtain⟨l,B,rfl⟩:=zMd h;obtain⟨_,c2,_⟩:=hE X C _ J O g;obtain⟨a1,a2,_⟩:=hE X C _ j O m;obtain⟨b1,b2,_⟩:=hE X C _ l O B;exact⟨Bo c2 a1 b1,BI c2 a2 b2,λ_ _ _ z=>nomatch z⟩
 ·split at h
  ·rename_i U;obtain⟨fs,g,rfl⟩:=zMd h;exact qJ (Io (mB hE O g).1 (by rw[eW g];exact U)) (λ_=>rfl) (λ_ _ _ z=>nomatch z)
  ·cases h
 ·split at h
  ·rename_i U;obtain⟨fs,g,rfl⟩:=zMd h;exact qJ (De (mB hE O g).1 (by rw[eW g];exact U)) (λ_=>rfl) (λ_ _ _ z=>nomatch z)
  ·cases h
 ·-- o[..]
  rename_i a b pos;split at h
  ·rename_i fr s;cases h;exact zC hE O s
  rename_i q;clear q;have E:=zBd h;clear h;obtain⟨j,g,h⟩:=E;split at h
  ·rename_i e' hv;obtain⟨p,rfl⟩:=BY hv;obtain⟨k,h4,rfl⟩:=zMd h;exact qJ (Et (hL X C _ j O g).lk (hE X C _ k O h4).1) (λ_=>rfl) (λ_ _ _ z=>nomatch z)
  obtain⟨l,m,rfl⟩:=zMd h;exact qJ (Iq (hL X C _ j O g).lk (hE X C _ l O m).1 (n6 (aM m).2.2)) (λ_=>rfl) (λ_ _ _ z=>nomatch z)
 ·-- a comprehension
  rename_i ap al sc pos;refine qJ ?_ (λ_=>rfl) (λ_ _ _ z=>nomatch z)
  split at h
  ·rename_i tg it am as;split at h
   ·rename_i ha;subst ha;obtain⟨xs,k,cs,fi,J,fe,rfl,_,S,hi,H,Q,hg,ak,N⟩:=mW (pos:=pos) hE hI O h;exact ED O.calm S hi H Q hg ak N
   ·cases h
  ·cases h
 ·-- a call
  rename_i f' as an pos;split at h
  ·rename_i fr s;cases h;exact zC hE O s
  rename_i q;clear q;refine qJ ?_ (λ_=>rfl) (λ_ _ _ z=>nomatch z)
  split at h
  ·rename_i ab
   cases eJ ab
   split at h
   ·rename_i x np;split at h
    ·cases h
    ·split at h
     ·rename_i k1 k2 fn A
      by_cases y:as.isEmpty=true
      ·rw[if_pos y]at h;cases h
      rw[if_neg y]at h;obtain⟨fs,g,h⟩:=zBd h;split at h
      ·rename_i hk;cases h;obtain⟨I,K,r,j,T,hr,_⟩:=O.gl A;obtain⟨q1,t⟩:=mB hE O g
       cases as with
       |nil=>exact absurd rfl y
       |cons a es=>exact Ey T hr I K q1 hk (aL (t a (.head _))) (uV λe N=>t e (.tail _ N))
      ·cases h
     ·rename_i p A;exact Lo hE hL O A h
     ·cases h
   ·cases h
  ·cases h
 ·cases h
theorem Ls(hE:rJ ad n):GY ad (n+1):=by
 intro X C e f O h;unfold AZ at h;split at h
 ·rename_i x p
  cases a:loc C x with
  |some i=>
   rw[a]at h;cases h;obtain⟨d,b,c,g⟩:=O.vis x i a;exact xY d b c g
  |none=>
   rw[a]at h;exact(hE X C _ f O h).1.ml
 ·exact(hE X C _ f O h).1.ml
theorem Ff(hE: ∀m,m<n->rJ ad m){X:Cx}{C:SK.Ctx}(O:CtxOk X ad C)(hn: ∀x p,e≠ .Name x p)(h:AZ n C e=some f):ME X ad e f:=by
 cases n with
 |zero=>cases h
 |succ n=>
  have:bP n C e=some f:=by
   rw[<-h]
   cases e<;>first|rfl|exact absurd rfl (hn _ _)
  exact(hE n (Nat.lt_succ_self _) X C e f O this).1
theorem Lu(hE: ∀m,m<n+1->rJ ad m)(hL:GY ad n):IT ad (n+1):=by
 intro X C tg e A f O y h;have c:=hE n (Nat.lt_succ_self _);unfold Ed at h
 have i: ∀{x:Str} {j:List Expr} {v q:Pos},xF (bP n C) C A x j=some f->MI X ad tg (.Call (.Name x v) j [] q) f/\(A=false->MIG X ad tg (.Call (.Name x v) j [] q) f):=by
  intro x j v q h;unfold xF at h;split at h
  ·rename_i a r;obtain⟨u,g,rfl⟩:=zMd h;obtain⟨o,K,s,l⟩:=O.gl r;subst s;have d:=(c X C _ u O g).1;exact⟨Bw o l d (aL (aM g).1),λ_=>yH o l d (aL (aM g).1)⟩
  ·rename_i a b r;split at h
   ·rename_i t;obtain⟨u,g,h⟩:=zBd h;obtain⟨I,B,rfl⟩:=zMd h;obtain⟨o,K,s,l⟩:=O.gl r;subst s;obtain⟨M,k,p,rfl⟩:=y t;have J:=(c X C _ u O g).1;have H:=(c X C _ I O B).1;exact⟨IH o l J H (aL (aM g).1) (aL (aM B).1),λz=>by rw[z]at t;cases t⟩
   ·cases h
  ·cases h
 split at h
 ·rename_i L j E q;split at h
  ·rename_i x p;split at h
   ·exact⟨(i h).1,λz _=>(i h).2 z⟩
   ·exact⟨(i h).1,λz _=>(i h).2 z⟩
   ·exact⟨(i h).1,λz _=>(i h).2 z⟩
   ·have d:=(c X C _ f O h).1;exact⟨yF d.ml,λ_ _=>sF d⟩
  ·have d:=(c X C _ f O h).1;exact⟨yF d.ml,λ_ _=>sF d⟩
 ·refine⟨yF (hL X C _ f O h),λ_ G=>sF (Ff (λm N=>hE m (by lia)) O G h)⟩
theorem dN: ∀n,rJ ad n/\GY ad n/\IT ad n:=by
 have d: ∀n, ∀m,m<=n->rJ ad m/\GY ad m/\IT ad m:=by
  intro n
  induction n with
  |zero=>
   intro m j
   have:m=0:=by lia
   subst this;refine⟨?_,?_,?_⟩
   ·intro X C e f O h;unfold bP at h;cases h
   ·intro X C e f O h;unfold AZ at h;cases h
   ·intro X C tg e l f O _ h;unfold Ed at h;cases h
  |succ n i=>
   intro m j
   by_cases g:m<=n
   ·exact i m g
   ·have:m=n+1:=by lia
    subst this;obtain⟨a,b,c⟩:=i n (ai _);exact⟨Lr a b c,Ls a,Lu (λm j=>(i m (by lia)).1) b⟩
 exact λn=>d n n (ai _)
end
noncomputable abbrev Ky:List Value:=[.type "ValueError",.type "Exception",.type "BaseException",.type "object"]
structure StOk(X:Cx)(ad:Ad)(C:SK.Ctx):Prop where
 cx:CtxOk X ad C
 fn: ∀x,X.fn x=true
 sc:X.env.scope=C.sc
 lc: ∀x i,loc C x=some i->Loc X.env.scope x
 exm: ∀c,exmOne X.K (.ref (ad.cls c)) (.ref (ad.cls 0))=some true
 exi: ∀c,excIn X.K (ad.cls c) Ky "ValueError.__new__"=true
def Zt(ad:Ad)(E₀:XK)(t:Bool):(St->Nat->Hp->Prop)->Prop:=λE=>t=false->∀σ c H,E σ c H->E₀ (.ref (ad.cls c)) none H
section
variable{X:Cx}{ad:Ad}{C:SK.Ctx}{E₀:XK}{t:Bool}{e tg:Expr}{g h:FS}{x:Str}{st:Stmt}
theorem StOk.nm(O:StOk X ad C)(h:loc C x=some i):IA X x i:=⟨(O.cx.vis x i h).1,O.lc x i h,.inl (O.fn x)⟩
theorem StOk.nms(O:StOk X ad C): ∀{xs:List Str} {is:List Nat},dY (λx=>loc C x) xs=some is->NmsOk X xs is
 |[],_,h=>by cases h;exact .nil
 |x::xs,is,h=>by
  unfold dY at h
  cases e:loc C x with
  |none=>rw[e]at h;cases h
  |some j=>
   rw[e]at h;obtain⟨r,a,b⟩:=zMd h;subst b;exact .cons (O.nm e) (O.nms a)
theorem wA: ∃b,swapsWith (.ListComp elt gens sc cpos) (some (.Name x pos')) line env=pure b:=⟨_,rfl⟩
theorem IX{C:SK.Ctx}{e a:Expr}(h:Be C e=some a): ∃y p q,e= .Call (.Name y p) [a] [] q/\glo C y=some (.py .dict):=by
 unfold Be at h;split at h
 ·split at h
  ·rename_i hk
   cases List.isEmpty_iff.mp hk
   have c:=zBd h;clear h;obtain⟨⟨y,p⟩,d,h⟩:=c
   cases aW d
   have c:=zBd h;clear h;obtain⟨b,g,h⟩:=c
   cases cE g
   split at h
   ·rename_i i f;cases h;exact⟨_,_,_,rfl,f⟩
   ·cases h
  ·cases h
 ·cases h
theorem zE(O:StOk X ad C)(h:bP 50 C e=some f)(hi:loc C x=some i):PS X (.Assign [.Name x pos'] e pos) (CO (tE X ad f) (jQ i)):=by
 obtain⟨v,I,r⟩:=dN (ad:=ad) 49;obtain⟨u,_,_⟩:=dN (ad:=ad) 50;have nm:=O.nm hi;have o:=(u X C e f O.cx h).1
 by_cases p: ∃elt gens sc cpos,e= .ListComp elt gens sc cpos
 ·obtain⟨elt,gens,sc,cpos,rfl⟩:=p;obtain⟨b,n⟩:=wA (x:=x) (pos':=pos') (elt:=elt) (gens:=gens) (sc:=sc) (cpos:=cpos) (line:=pos.line) (env:=X.env)
  cases b with
  |false=>exact o8 O.cx.nd nm.1 nm.2.1 o n nm.2.2
  |true=>
   have d: ∃tg m a,gens=[⟨tg,m,a,0⟩]:=by
    unfold bP at h
    simp only at h
    split at h
    ·rename_i tg m a A;split at h
     ·rename_i q;subst q;exact⟨_,_,_,rfl⟩
     ·cases h
    ·cases h
   obtain⟨tg,m,a,rfl⟩:=d;obtain⟨z,k,B,H,G,E,rfl,_,S,j,c,g,s,l,t⟩:=mW v r O.cx h;exact ES O.cx.nd nm O.cx.calm S j c g s l t n
 ·refine o8 O.cx.nd nm.1 nm.2.1 o ?_ nm.2.2;have y:=aM h
  cases e<;>first|rfl|exact absurd ⟨_,_,_,_,rfl⟩ p|(unfold bP at h;cases h;done)
theorem zF(P:PS X st (CO (tE X ad f) (jQ i))):MS X ad Z st (eU i f):=by
 refine PS.imp P ?_;rintro j h H ⟨a,G,l,E,S,c,b⟩;exact g0 S c b λv d e g st r k=>k _ e g ((S.step st).set r)
theorem Fg(P:PS X st (CO (tE X ad f) (jQ i))):MS X ad Z st (vW i f):=by
 refine PS.imp P ?_;rintro e d H ⟨a,G,g,E,S,c,b⟩;exact Iy S c b
def IY(K:PySem.W.Frag)(n:Nat)(t:TGs):TG:=λv σ H Q=>∃a xs,v= .ref a/\SqL K H a xs/\xs.length=n/\t xs σ H Q
theorem Fh{t:TGs}(hc:X.calm=true)(h:PGs X es t)(hn:(assignEach es X.env).length=n)(hst:(assignEach es X.env).findIdx? (·.1)=none):PG X (.Tuple es k pos) (IY X.K n t):=by
 intro i s g H v u Q I r f;obtain⟨a,q,x,m,A,f⟩:=f;subst x;cases r;obtain⟨d,j,z,B⟩:=I.list m
 have c:d.toArray.size=n:=by simp[<-A,j.length]
 rw[assign_Tuple];refine aa (wpAny_standAt ?_);unfold unpack;rw[hn,hst, <-c];refine aa (wpAny_holding (kun_itemsOf (I.ok.hd hc) z.isList λy l=>?_))
 have p:Inv X i g H {s with heap:=y}:=I.kept (t':=s.toks) λb o e=>l b o (bg (ag e)) e
 exact h i _ g H q _ Q p (by simpa using j) f
theorem Lv(h1:PG X tg g1)(h2:PG X tg g2):PG X tg (λv σ H Q=>g1 v σ H Q\/g2 v σ H Q):=by
 intro a s σ H v u Q I r h;rcases h with h|h
 ·exact h1 a s σ H v u Q I r h
 ·exact h2 a s σ H v u Q I r h
theorem zG(O:StOk X ad C)(he:ME X ad e f)(hs:swapsWithSole [.Tuple es j tp] e pos.line X.env=pure false)(hw:swappedStores [.Tuple es j tp] e X.env=pure none)(ht:cO (.Tuple es j tp)=some (xs,k))(hn:NmsOk X xs is):MS X ad Z (.Assign [.Tuple es j tp] e pos) (fT is f):=by
 obtain⟨P,hk⟩:=EQ O.cx.calm O.cx.nd ht hn
 have I:k≠0:=by
  unfold cO at ht;obtain⟨p,n,h⟩:=zBd ht
  by_cases b:2<=p.length
  ·rw[if_pos b]at h;cases h
   lia
  ·rw[if_neg b]at h;cases h
 have L:(k==0)=false:=by simpa using I
 have B:PG X (.Tuple es j tp) (IY X.K is.length (gIs is)):=by
  unfold cO at ht;obtain⟨p,n,h⟩:=zBd ht
  by_cases b:2<=p.length
  ·rw[if_pos b]at h;cases h;obtain⟨q1,J⟩:=i4 (X:=X) n;exact Fh O.cx.calm (yI O.cx.nd n hn) (by rw[q1,hn.len]) J
  ·rw[if_neg b]at h;cases h
 refine PS.imp (wV he (Lv P B) hs hw rfl) ?_;rintro x T H ⟨i,G,l,E,S,z,t⟩;unfold fT at t;refine g0 S z t λv d u y m r q=>?_
 cases d<;>try exact az q
 case lst c=>
  have g:OKo X ad i (if c.length=is.length then .nx (setN is c l)else .rt .bad) x E:=q
  by_cases b:c.length=is.length
  ·rw[if_pos b]at g;unfold Rep at r;obtain⟨a,N,rfl,A,o⟩:=r;exact .inr ⟨a,N,rfl,m.gh.seq A,by rw[o.length,b],uK (by rw[o.length,b]) (g _ u y ((S.step m).setN o))⟩
  ·rw[if_neg b]at g;exact g.elim
 rename_i c;refine .inl ?_
 have g:OKo X ad i (if c.length=is.length then .nx (setN is c l)else .rt .bad) x E:=q
 by_cases b:c.length=is.length
 ·rw[if_pos b]at g;refine Di (ρ1:=setN is c l) hk ?_ (S.step m) r λs Q=>g s u y Q
  rw[L]
  have M:tQ is false (.tup c) l=if c.length=is.length then some (setN is c l)else none:=by
   cases is with
   |nil=>rfl
   |cons _ _=>rfl
  rw[M,if_pos b]
 ·rw[if_neg b]at g;exact g.elim
theorem qK{x y:Str}{kt k2:Nat}(h:((env.scope.names.lookup x=some .cell\/env.scope.names.lookup y=some .cell)/\p)/\q):swappedStores [.Tuple [.Name x px,.Name y py] kt pt] (.Tuple [a,b] k2 pt2) env=pure none:=by
 unfold swappedStores
 have d:env.kindOf x=env.scope.names.lookup x:=rfl
 have f:env.kindOf y=env.scope.names.lookup y:=rfl
 rcases h.1.1 with e|e
 ·simp[d,f,e,List.filterMap,Expr.pos];intro _ _ _ c
  exfalso;revert c
  (repeat' split)<;>simp
 ·simp[d,f,e,List.filterMap,Expr.pos];intro _ _ _ c
  exfalso;revert c
  (repeat' split)<;>simp
theorem sO{x y:Str}{kt k2:Nat}(hb:env.scope.kind= .function)(hx:env.scope.names.lookup x=some .local)(hy:env.scope.names.lookup y=some .local)(hne:x≠y)(hl:px.line=py.line)(sa:gQ a)(sb:gQ b)(h1:[a,b].all (foldedForSure 8)=false)(h2:[a,b].all (constantsAlone 8)=false):swappedStores [.Tuple [.Name x px,.Name y py] kt pt] (.Tuple [a,b] k2 pt2) env=pure (some [x,y]):=by
 have d:env.blockKind= .function:=by unfold PySem.Env.blockKind;rw[hb];rfl
 have g:env.kindOf x=some .local:=hx
 have f:env.kindOf y=some .local:=hy
 have i:[x,y].eraseDups.length=2:=by
  have:(y==x)=false:=by simpa using λz=>hne z.symm
  simp[List.eraseDups_cons,this]
 have e: ¬(foldedForSure 8 a=true/\foldedForSure 8 b=true):=λ⟨p,q⟩=>by simp[p,q]at h1
 have c: ¬(constantsAlone 8 a=true/\constantsAlone 8 b=true):=λ⟨p,q⟩=>by simp[p,q]at h2
 unfold swappedStores;simp[Expr.pos,g,f, <-hl,d,i,e,c,List.filterMap];intro h;rcases h with h|h
 ·cases a<;>first|exact sa.elim|cases h
 ·cases b<;>first|exact sb.elim|cases h
theorem B0:fT [i,j] (dX [fa,fb]) ρ=fS ρ (fa ρ) λx=>fS ρ (fb ρ) λy=>.nx ((ρ.set i (.sh x)).set j (.sh y)):=by
 unfold fT dX l4 args args args
 cases fa ρ<;>simp[fS,RA.then]<;>cases fb ρ<;>simp[RA.cons,setN]
theorem IZ{i j kt k2:Nat}(O:StOk X ad C)(ha:ME X ad a fa)(hb:ME X ad b fb)(sa:gQ a)(sb:gQ b)(hi:loc C x=some i)(hj:loc C y=some j)(ok:Ee C x y px py a b=true):
  MS X ad Z (.Assign [.Tuple [.Name x px,.Name y py] kt pt] (.Tuple [a,b] k2 pt2) pos) (fT [i,j] (dX [fa,fb])):=by
 unfold Ee at ok;simp only[av,Bool.not_eq_true']at ok;obtain⟨⟨⟨⟨⟨⟨⟨K,J⟩,Q⟩,N⟩,L⟩,A⟩,_⟩,_⟩:=ok
 have m:X.env.scope.names.lookup x=some .local:=by rw[O.sc];exact cD K
 have u:X.env.scope.names.lookup y=some .local:=by rw[O.sc];exact cD J
 have c:x≠y:=by simpa using Q
 have nx:=(O.cx.vis x i hi).1;have h:=(O.cx.vis y j hj).1;have f:i≠j:=λz=>by subst z;rw[nx]at h;exact c (Option.some.inj h)
 rintro B s e H p I ⟨t,G,W,E,S,o,n⟩;refine Hv (ta:=rR (tE X ad fa) (rR (tE X ad fb) GQ)) O.cx.calm O.cx.nd nx h f m u (cN ha (cN hb eL (aL sb)) (aL sa)) (sO I.ok.kind m u c (by simpa using N) sa sb L A) rfl B s e H p I ?_
 rw[B0]at n;show tE X ad fa e H λv q=>tE X ad fb e q λw g=>∃v' w',[v,w]=[v',w']/\p.nx ((e.set i (some v')).set j (some w')) g
 exact g0 S o n λv d U q l r k=>g0 (S.step l) o k λw Y T g st2 M k2=>⟨v,w,rfl,k2 _ T g ((((S.step l).step st2).set (r.mono st2.sg)).set M)⟩
theorem Kz(O:StOk X ad C):StOk (tX X cb D' hd) ad C:=by
 refine⟨⟨O.cx.N,O.cx.nd,O.cx.vis,O.cx.gk,λx g e=>?_,O.cx.cap,O.cx.calm,O.cx.un,O.cx.hd,O.cx.exc,O.cx.kin,O.cx.kve,λj n F e=>let ⟨r,T,b⟩:=O.cx.fnv j n F e;⟨r,⟨T.kp,T.ok⟩,b⟩⟩,O.fn,O.sc,O.lc,O.exm,O.exi⟩
 obtain⟨i,a⟩:=O.cx.gt x g e;refine⟨i,?_⟩
 cases g with
 |fn k n F=>
  obtain⟨r,f,T,b,l⟩:=a;exact⟨r,f,⟨T.mg,T.kp,T.ok⟩,b,l⟩
 |exc c=>exact a
 |verr=>exact a
 |val d=>exact a
 |tbl o=>exact a
 |py p=>exact a
 |cls A q=>exact⟨a.1,a.2.1,λm n M h=>let z:=a.2.2 m n M h;⟨z.no,z.ok⟩⟩
theorem Fj{e a b:Expr}{x y:Str}(h:K5 es e=some ⟨x,px,y,py,a,b⟩): ∃k p,es=[.Name x px,.Name y py]/\e= .Tuple [a,b] k p:=by
 unfold K5 at h;obtain⟨⟨u,v⟩,d,h⟩:=zBd h;obtain⟨⟨q,i⟩,m,h⟩:=zBd h;obtain⟨⟨n,l⟩,f,h⟩:=zBd h;obtain⟨⟨o,k,p⟩,g,h⟩:=zBd h;obtain⟨⟨r,s⟩,c,j⟩:=zMd h;cases j;rw[f9 d,aW m,aW f,sN g,f9 c];exact⟨k,p,rfl,rfl⟩
theorem uW{e:Expr}(h:D9 e=true): ∃s k p,e= .Constant (.str s) k p:=by
 cases e<;>try (cases h;done)
 rename_i c k p
 cases c<;>try (cases h;done)
 exact⟨_,k,p,rfl⟩
def Lw(ad:Ad)(E₀:XK)(n:Nat):Prop:= ∀(X:Cx) (C:SK.Ctx) (t:Bool) (s:Stmt) (g:FS),StOk X ad C->(t=false->DefX X E₀/\PassesOwn (model X.prog X.w) X.A X.env X.xe)->CZ n t C s=some g->MS X ad (Zt ad E₀ t) s g
def B1(ad:Ad)(E₀:XK)(n:Nat):Prop:= ∀(X:Cx) (C:SK.Ctx) (t:Bool) (s:List Stmt) (g:FS),StOk X ad C->(t=false->DefX X E₀/\PassesOwn (model X.prog X.w) X.A X.env X.xe)->nI n t C s=some g->MSs X ad (Zt ad E₀ t) s g
theorem Zt.imp(h:MS X ad Z st g)(k: ∀E,Z' E->Z E):MS X ad Z' st g:=PS.imp h λf e H ⟨a,G,d,E,S,b,c⟩=>⟨a,G,d,E,S,⟨b.1,k E b.2⟩,c⟩
theorem Zts.imp(h:MSs X ad Z sts g)(k: ∀E,Z' E->Z E):MSs X ad Z' sts g:=PSs.imp h λf e H ⟨a,G,d,E,S,b,c⟩=>⟨a,G,d,E,S,⟨b.1,k E b.2⟩,c⟩
theorem B2(h:HQ b=some s):b=[s]:=by
 unfold HQ at h;split at h
 ·cases h;rfl
 ·cases h
theorem Lx(hS:B1 ad E₀ n):Lw ad E₀ (n+1):=by
 intro X C t s g O N h;obtain⟨A,kL,kI⟩:=dN (ad:=ad) 50;unfold CZ at h;split at h
 ·cases h;exact EH
 ·-- return
  split at h
  ·cases h
  ·split at h
   ·rename_i x p H
    cases aW H
    split at h
    ·rename_i i I;obtain⟨T,K,L,S⟩:=O.cx.vis x i I
     cases h;exact uI (xK T K L S)
    ·obtain⟨f,d,rfl⟩:=zMd h;exact uI (A X C _ f O.cx d).1
   ·obtain⟨f,d,rfl⟩:=zMd h;exact iG (uI (A X C _ f O.cx d).1)
 ·-- an assignment
  rename_i ts e Y;have m:=zBd h;clear h;obtain⟨tg,J,h⟩:=m
  cases cE J
  split at h
  ·-- x=e
   have m:=zBd h;clear h;obtain⟨i,d,h⟩:=m;split at h
   ·-- o=dict(e)
    rename_i a W;obtain⟨f,l,rfl⟩:=zMd h
    have Q:Be C e=some a:=by
     split at W
     ·exact W
     ·cases W
    obtain⟨y,p,q,rfl,I⟩:=IX Q;obtain⟨M,g2,Z,g4⟩:=O.cx.gl I
    cases (show y="dict" from Z)
    have nm:=O.nm d;exact iG (BQ O.cx.nd nm.1 nm.2.1 M g4 (A X C _ f O.cx l).1 (aL (aM l).1) nm.2.2)
   ·obtain⟨f,l,rfl⟩:=zMd h;refine iG ?_;split
    ·exact Fg (zE O l d)
    ·exact zF (zE O l d)
  ·split at h
   ·-- a,b=x,y
    rename_i x px y py a b hp;obtain⟨k2,ak,rfl,rfl⟩:=Fj hp;split at h
    ·rename_i U;obtain⟨i,d,h⟩:=zBd h;obtain⟨j,l,h⟩:=zBd h;obtain⟨fa,r,h⟩:=zBd h;obtain⟨fb,h4,rfl⟩:=zMd h;exact iG (IZ O (A X C _ fa O.cx r).1 (A X C _ fb O.cx h4).1 (aM r).1 (aM h4).1 d l U)
    ·split at h
     ·rename_i hc;obtain⟨i,d,h⟩:=zBd h;obtain⟨j,l,h⟩:=zBd h;obtain⟨f,r,rfl⟩:=zMd h
      have hm:dY (λx=>loc C x) [x,y]=some [i,j]:=by simp[dY,d,l]
      exact iG (zG (xs:=[x,y]) (k:=2) O (A X C _ f O.cx r).1 rfl (qK (by rw[O.sc];simpa[xI]using hc)) rfl (O.nms hm))
     ·cases h
   ·-- a,b=e
    obtain⟨u,J,h⟩:=zBd h;obtain⟨⟨xs,k⟩,d,h⟩:=zBd h;obtain⟨is,l,h⟩:=zBd h;split at h
    ·obtain⟨f,r,rfl⟩:=zMd h
     have hf:xH e=true:=by
      split at J
      ·assumption
      ·cases J
     exact iG (zG O (A X C _ f O.cx r).1 (by cases e<;>first|rfl|(cases hf;done)) (by cases e<;>first|rfl|(cases hf;done)) d (O.nms l))
    ·cases h
  ·-- x[k]=e
   rename_i o k tp;have m:=zBd h;clear h;obtain⟨⟨x,p⟩,H,h⟩:=m
   cases aW H
   obtain⟨i,d,h⟩:=zBd h;obtain⟨T,K,L,S⟩:=O.cx.vis x i d;split at h
   ·obtain⟨f,l,h⟩:=zBd h;obtain⟨g,r,rfl⟩:=zMd h;refine iG (IN O.cx.un T K L S (A X C _ f O.cx l).1 (A X C _ g O.cx r).1 (λv=>?_) ?_ ?_)
    ·have ns:=(aM r).2.2
     cases k<;>first|rfl|exact absurd rfl (ns _ _ _ _)
    ·cases e<;>rfl
    ·cases e<;>rfl
   ·cases h
  ·cases h
 ·-- an expression
  split at h
  ·rename_i f' as ab cp;split at h
   ·rename_i B
    cases eJ B
    split at h
    ·obtain⟨f,d,rfl⟩:=zMd h;exact iG (EJ (A X C _ f O.cx d).1 rfl)
    ·cases h
   ·cases h
  ·cases h
 ·obtain⟨f,d,h⟩:=zBd h;obtain⟨ga,l,h⟩:=zBd h;obtain⟨gb,r,rfl⟩:=zMd h;exact iG (Iz (A X C _ f O.cx d).2.1 (hS X C t _ ga O N l) (hS X C t _ gb O N r))
 ·-- raise
  rename_i x c Y
  cases t with
  |true=>cases h
  |false=>
   cases c with
   |some _=>cases h
   |none=>
    simp only[Bool.false_or,Option.isSome_none,ay,if_false]at h;have m:=zBd h;clear h;obtain⟨e,rfl,h⟩:=m;split at h
    ·rename_i f' as ab cp;split at h
     ·rename_i B
      cases eJ B
      have m:=zBd h;clear h;obtain⟨⟨x,p⟩,H,h⟩:=m
      cases aW H
      have m:=zBd h;clear h;obtain⟨a,ho,h⟩:=m
      cases cE ho
      split at h
      ·rename_i G;obtain⟨sx,k1,k2,rfl⟩:=uW G;split at h
       ·rename_i c I e2;cases h;obtain⟨M,g2,Z,g4⟩:=O.cx.gl e2;exact Zt.imp (BB (N rfl).1 O.cx.calm M Z g2 (O.exi c)) λE z=>z rfl
       ·cases h
      ·cases h
     ·cases h
    ·cases h
 ·cases h
theorem Ja(hS:Lw ad E₀ n)(hSs:B1 ad E₀ n):B1 ad E₀ (n+1):=by
 intro X C t s g O b h
 have c: ∀a:Stmt,MS X ad (Zt ad E₀ t) a ((CZ n t C a).getD Kt):=λa=>by
  cases e:CZ n t C a with
  |none=>exact IB
  |some f=>exact hS X C t a f O b e
 unfold nI at h;split at h
 ·cases h;exact sE
 ·cases h;exact EI (c _)
 ·obtain⟨r,d,rfl⟩:=zMd h;exact uH (c _) (hSs X C t _ r O b d)
theorem qM: ∀n,Lw ad E₀ n/\B1 ad E₀ n:=by
 intro n
 induction n with
 |zero=>
  refine⟨?_,?_⟩
  ·intro X C t s g O b h;unfold CZ at h;cases h
  ·intro X C t s g O b h;unfold nI at h;cases h
 |succ n a=>exact⟨Lx a.2,Ja a.1 a.2⟩
end
def GlT(P:Program)(w:World)(K:Frag)(mg:Str->Option Value)(base:Heap)(ad:Ad)(k:Nat)(x:Str):SK.Gl->Prop
 |.fn j n F=>∃r f,r<=k/\mg x=some (.ref f)/\keepIn K (.ref f)=true/\(∃fd ps,FnOk P w K mg base (CXe P w) r f fd ps (vX K ad n F)/\d6 K fd ps [])/\f=ad.fnA j
 |.exc c=>mg x=some (.ref (ad.cls c))/\c<ad.nb
 |.verr=>x="ValueError"/\mg x=none
 |.val d=>∃u v,mg x=some u/\bG v u/\∀G,Rep K ad G d v
 |.py p=>x=dC p/\mg x=none
 |.tbl kvs=>∃A,mg x=some (.ref A)/\IE P w K ad A kvs
 |.cls A ms=>mg x=some (.ref A)/\RkC K A/\∀m n M,ms.lookup m=some (n,M)->(m≠"held"/\m≠"done"/\m≠"undone")/\∃f r fd ps,r<=k/\Meth K A m f/\FnOk P w K mg base (CXe P w) r f fd ps (spM K ad A n M)/\d6 K fd ps []
def d8(P:Program)(w:World)(K:Frag)(mg:Str->Option Value)(base:Heap)(ad:Ad)(k:Nat)(tab:List (Str×SK.Gl)):Prop:= ∀x g,tab.lookup x=some g->(x==("__debug__":Str))=false/\GlT P w K mg base ad k x g
def fV(P:Program)(w:World)(K:Frag)(mg:Str->Option Value)(base:Heap)(ad:Ad)(k:Nat)(fns:List (Nat×Fn)):Prop:= ∀j n F,fns[j]? =some (n,F)->∃r,r<=k/\keepIn K (.ref (ad.fnA j))=true/\∃fd ps,FnOk P w K mg base (CXe P w) r (ad.fnA j) fd ps (vX K ad n F)/\d6 K fd ps []
structure ExcK(K:Frag)(ad:Ad):Prop where
 exc: ∀c,ExcCls K (ad.cls c)
 kin: ∀c e,c<ad.nb->kitOne K (.ref (ad.cls e)) (.ref (ad.cls c))=some (hit c e)
 kve: ∀e,kitOne K (.ref (ad.cls e)) (.type "ValueError")=some true
 exm: ∀c,exmOne K (.ref (ad.cls c)) (.ref (ad.cls 0))=some true
 exi: ∀c,excIn K (ad.cls c) Ky "ValueError.__new__"=true
section
variable{P:Program}{w:World}{K:Frag}{mg:Str->Option Value}{base:Heap}{ad:Ad}{k:Nat}{tab:List (Str×SK.Gl)}
theorem GlT.mono(h:GlT P w K mg base ad k x g)(hk:k<=j):GlT P w K mg base ad j x g:=by
 cases g with
 |fn i n F=>
  obtain⟨r,f,a,b⟩:=h;exact⟨r,f,Nat.le_trans a hk,b⟩
 |exc c=>exact h
 |verr=>exact h
 |val d=>exact h
 |tbl l=>exact h
 |py p=>exact h
 |cls A o=>exact⟨h.1,h.2.1,λm n M e=>let ⟨no,f,r,fd,ps,h1,h2⟩:=h.2.2 m n M e;⟨no,f,r,fd,ps,Nat.le_trans h1 hk,h2⟩⟩
theorem d8.mono(h:d8 P w K mg base ad k tab)(hk:k<=j):d8 P w K mg base ad j tab:=λx g e=>⟨(h x g e).1,(h x g e).2.mono hk⟩
theorem d8.nil:d8 P w K mg base ad k []:=λx g e=>by cases e
theorem d8.cons{x:Str}{g:SK.Gl}(h:d8 P w K mg base ad k tab)(hd:(x==("__debug__":Str))=false)(hg:GlT P w K mg base ad k x g):d8 P w K mg base ad k ((x,g)::tab):=by
 intro y a e;rw[List.lookup_cons]at e
 cases q:y==x with
 |true=>
  rw[q]at e;cases e
  have:y=x:=by simpa using q
  subst this;exact⟨hd,hg⟩
 |false=>
  rw[q]at e;exact h y a e
theorem fV.nil:fV P w K mg base ad k []:=λj n F e=>by simp at e
theorem fV.snoc{F:Fn}(h:fV P w K mg base ad k fns)(hk:k<=k')(hl:fns.length=j)(hf:f=ad.fnA j)(hr:r<=k')(kp:keepIn K (.ref f)=true)(ok:FnOk P w K mg base (CXe P w) r f fd ps (vX K ad n F))(hb:d6 K fd ps []):
  fV P w K mg base ad k' (fns++[(n,F)]):=by
 intro i m G e;subst hf
 by_cases c:i<fns.length
 ·rw[bu c]at e;obtain⟨b,d,g⟩:=h i m G e;exact⟨b,Nat.le_trans d hk,g⟩
 ·rw[bj (by lia)]at e
  cases a:i-fns.length with
  |zero=>
   rw[a]at e;cases e
   have:i=j:=by lia
   subst this;exact⟨r,hr,kp,fd,ps,ok,hb⟩
  |succ q=>rw[a]at e;simp at e
theorem cR(h:bU N Ps sc=true):FnScope N Ps sc/\∀x∈N,(x==("__debug__":Str))=false/\(x==("__classdict__":Str))=false:=by
 unfold bU at h;simp only[av]at h;obtain⟨⟨⟨⟨⟨⟨⟨c,l⟩,d⟩,e⟩,b⟩,j⟩,g⟩,i⟩:=h;refine⟨⟨by simpa using c,by simpa using l,by simpa using d,of_decide_eq_true e,of_decide_eq_true b,λx a=>?_,λy f z=>?_⟩,λx a=>?_⟩
 ·have:=zAd j x a
  rcases(Bool.or_eq_true _ _).mp this with z|z
  ·exact .inl (cD z)
  ·exact .inr (cD z)
 ·have:=zAd g y f
  rw[z]at this
  simp at this
 ·have:=zAd i x a
  simpa using this
theorem iK(hG:Same G X.H₀)(r:aJ X.K ad G ds vs):SS X ad G G X.H₀ (ds.map Slot.sh++aj n .no) (vs.map some++aj n none):=by
 have y:=r.length
 have b: ∀(i:Nat) (g:Slot),(ds.map Slot.sh++aj n .no)[i]? =some g->(∃d v,g= .sh d/\(vs.map some++aj n none)[i]? =some (some v)/\Rep X.K ad G d v)\/(g= .no/\∃m,(vs.map some++aj n none)[i]? =some m):=λi g e=>by
  by_cases t:i<ds.length
  ·rw[bu (by simpa using t),List.getElem?_map]at e
   cases c:ds[i]? with
   |none=>rw[c]at e;cases e
   |some d=>
    rw[c]at e;cases e;obtain⟨v,s,q⟩:=r.get c;refine .inl ⟨d,v,rfl,?_,q⟩;rw[bu (by rw[ao];lia),List.getElem?_map,s]
    rfl
  ·rw[bj (by simpa using t),List.getElem?_replicate]at e
   split at e
   ·cases e;refine .inr ⟨rfl,none,?_⟩;rename_i o;rw[bj (by rw[ao];lia),List.getElem?_replicate,if_pos]
    rw[ao]at o ⊢
    lia
   ·cases e
 refine⟨Step.refl hG,⟨by simp[y],λi g e=>?_⟩,λi u a e w h=>?_,λi j u M a c s B H J N=>?_,?_⟩
 ·rcases b i g e with ⟨d,v,rfl,c,q⟩|⟨rfl,m,c⟩
  ·exact⟨some v,c,v,rfl,q⟩
  ·exact⟨m,c,trivial⟩
 ·rcases b i _ e with ⟨d,v,z,_⟩|⟨z,_⟩<;>(subst z;exact(bd w).elim)
 ·rcases b i _ c with ⟨d,v,z,_⟩|⟨z,_⟩<;>(subst z;exact(bd B).elim)
 ·have no: ∀{i:Nat} {l:List Addr}, ¬gJ X.H₀ (ds.map Slot.sh++aj n .no) (vs.map some++aj n none) i l:=λ{i l} f=>by
   obtain⟨C,r,p,I,d,E,L,x,_⟩:=f;rcases b i _ x with ⟨d,v,z,_⟩|⟨z,_⟩<;>cases z
  exact⟨λi l f=>(no f).elim,λi l f=>(no f).elim,λi j l A a f=>(no f).elim⟩
theorem sP(B:ExcK K ad)(TB:d8 P w K mg base ad k tab)(FB:fV P w K mg base ad k fns)(hs:bU (aB sc) ps sc=true)(hr:Room k (A.deeper (envOfC qual sc s.heap.objs.size f cdv))):
  StOk (jW (CXe P w) P w K mg base (aB sc) qual sc f cdv A outer s H E) ad ⟨tab,fns,sc,aB sc,bs⟩:=by
 obtain⟨S,nm⟩:=cR hs;let C:SK.Ctx:=⟨tab,fns,sc,aB sc,bs⟩
 have o: ∀x i,loc C x=some i->(aB sc)[i]? =some x/\Loc sc x/\x∈aB sc:=λx i e=>by
  obtain⟨v,h⟩:=lB e;refine⟨fP v,?_,lA v⟩;rcases h with h|h|h
  ·exact .inl h
  ·exact .inr h
  ·exact absurd rfl (S.nofree _ (eG h))
 refine⟨⟨rfl,S.nd,λx i e=>?_,λx e=>e,λx g e=>?_,λx i e=>?_,rfl,?_,hr.hd,B.exc,B.kin,B.kve,λj m G e=>?_⟩,λ_=>rfl,rfl,λx i e=>(o x i e).2.1,B.exm,B.exi⟩
 ·obtain⟨a,b,c⟩:=o x i e;exact⟨a,b.elim .inl λz=>.inr (.inl z),(nm x c).1,(nm x c).2⟩
 ·obtain⟨a,b⟩:=TB x g e;refine⟨a,?_⟩
  cases g with
  |fn j m G=>
   obtain⟨u,L,q,t,l,y,J⟩:=b;exact⟨u,L,⟨t,l,y⟩,hr.mono q,J⟩
  |exc c=>exact b
  |verr=>exact b
  |val d=>exact b
  |tbl N=>exact b
  |py p=>exact b
  |cls A O=>exact⟨b.1,b.2.1,λm n M I=>let ⟨no,f,r,fd,ps,q,t,l,y⟩:=b.2.2 m n M I;⟨no,f,r,fd,ps,t,l,hr.mono q,y⟩⟩
 ·obtain⟨v,h⟩:=eF e;rcases h with h|h
  ·exact .inl h
  ·exact absurd rfl (S.nofree _ (eG h))
 ·exact Nat.lt_of_le_of_lt (Nat.add_le_add_left (by decide:62<=64) _) hr.units
 ·obtain⟨u,q,t,l⟩:=FB j m G e;exact⟨u,⟨t,l⟩,hr.mono q⟩
theorem Jb{st:Stmt}{F:Fn}(B:ExcK K ad)(TB:d8 P w K mg base ad k tab)(FB:fV P w K mg base ad k fns)(Fu:Fun K x qual st f fd)(hps:eN (defArgs st)=some ps)(hd:Ef tab fns st=some (n,F)):FnOk P w K mg base (CXe P w) (k+1) f fd ps (vX K ad n F):=by
 obtain⟨oc,od,kV,ak,pm,an,o,ct,al,rfl,lk,J⟩:=Fu.ex
 cases st with
 |FunctionDef nm Y b dl re tp i ts bi ab=>
  have q:((eN Y).bind λU=>if bU (aB i) U i then(nI 100 false ⟨tab,fns,i,aB i,xG 50 b⟩ b).map λg=>(U.length,SK.fnOf (aB i).length g)else none)=some (n,F):=hd
  have t:eN Y=some ps:=hps
  rw[t]at q
  have l:(if bU (aB i) ps i then(nI 100 false ⟨tab,fns,i,aB i,xG 50 b⟩ b).map λg=>(ps.length,SK.fnOf (aB i).length g)else none)=some (n,F):=q
  by_cases v:bU (aB i) ps i=true
  ·rw[if_pos v]at l;obtain⟨g,hg,e⟩:=zMd l;cases e;obtain⟨S,nm⟩:=cR v;refine D1 lk J S (λvs H Q E ⟨G,m,_,r,W,_⟩=>by rw[r.length,W]) λA j s H vs Q E Z I=>?_
   obtain⟨G,m,hG,r,W,hq⟩:=I;let C:SK.Ctx:=⟨tab,fns,i,aB i,xG 50 b⟩;have O:StOk (jW (CXe P w) P w K mg base (aB i) qual i f o A j s H E) ad C:=sP B TB FB v Z;have T:DefX (jW (CXe P w) P w K mg base (aB i) qual i f o A j s H E) E:=⟨rfl,rfl,rfl,λe s' h=>h⟩
   refine⟨_,(qM (ad:=ad) (E₀:=E) 100).2 _ C false b g O (λ_=>⟨T,PassesOwn.leaving (Q₁:=λe y=>CXe P w j H s E e y)⟩) hg,?_⟩
   refine⟨G,G,m.map Slot.sh++aj ((aB i).length-m.length) .no,λu c p=>E (.ref (ad.cls c)) none p,?_,⟨λu=>yN T,λ_ u c H h=>h⟩,?_⟩
   ·have:=iK (X:=jW (CXe P w) P w K mg base (aB i) qual i f o A j s H E) (ad:=ad) (n:=(aB i).length-m.length) hG r
    unfold L2.start;rw[r.length];exact this
   ·have a:RK K ad G H (match g (m.map Slot.sh++aj ((aB i).length-m.length) .no)with
     |.rt (.ok d)=>.ok d
     |.rt (.ow N)=>.ow N
     |.rt _=>.bad
     |.nx _=>.ok .non
     |.ex c _=>.ex c
     |_=>.bad) Q (λc p=>E (.ref (ad.cls c)) none p):=hq
    cases e:g (m.map Slot.sh++aj ((aB i).length-m.length) .no)with
    |nx L=>rw[e]at a;exact λu M p z=>a .non M p z.st (by unfold Rep;rfl)
    |bk L=>rw[e]at a;exact a.elim
    |ct L=>rw[e]at a;exact a.elim
    |ex c L=>rw[e]at a;exact λu M p z=>a M p z.st
    |rt r'=>
     rw[e]at a
     cases r' with
     |ok d=>exact a
     |ow N=>exact a
     |ex c=>exact a.elim
     |bad=>exact a.elim
  ·rw[if_neg v]at l;cases l
 |_=>cases hd
def uX(K:Frag)(cs:List Addr)(C0:Addr):Bool:=
 decide (cs.length<=100)&&cs.head?==some C0&&cs.all λC=>(clsIn K C).isSome&&mroIn K C (.type "object")==some true&&mroIn K C (.type "BaseException")==some true&&findIn K (.ref C) "__class__"==some (some (.builtin "object.__class__"))&&
  findIn K (.ref C) "__getattribute__"==some (some (.builtin "BaseException.__getattribute__"))&&findIn K (.ref C) "__getattr__"==some none&&kitOne K (.ref C) (.type "ValueError")==some true&&exmOne K (.ref C) (.ref C0)==some true&&
  excIn K C Ky "ValueError.__new__"
def uY(K:Frag)(cs:List Addr):Bool:=cs.zipIdx.all λp=>cs.zipIdx.all λq=>kitOne K (.ref p.1) (.ref q.1)==some (hit q.2 p.2)
noncomputable def Dp(cs:List Addr)(C0:Addr)(fs:List Addr):Ad:=⟨λc=>cs.getD c C0,λk=>if k<1000 then fs.getD k 0 else k-1000,cs.length⟩
theorem Fk(h:uX K cs C0=true)(h2:uY K cs=true):ExcK K (Dp cs C0 fs):=by
 unfold uX at h;rw[av,av]at h;obtain⟨⟨o,j⟩,p⟩:=h
 have o:cs.length<=100:=of_decide_eq_true o
 have j:cs.head?=some C0:=by simpa using j
 have i:C0∈cs:=List.mem_of_mem_head? (by rw[j];rfl)
 have get: ∀c,(Dp cs C0 fs).cls c∈cs:=λc=>by
  show cs.getD c C0∈cs;rw[bx]
  cases e:cs[c]? with
  |none=>exact i
  |some a=>exact List.mem_of_getElem? e
 have n:cs[0]? =some C0:=by rw[<-List.head?_eq_getElem?];exact j
 have B:(Dp cs C0 fs).cls 0=C0:=by
  show cs.getD 0 C0=C0;rw[bx,n];rfl
 have all: ∀C∈cs,ExcCls K C/\kitOne K (.ref C) (.type "ValueError")=some true/\exmOne K (.ref C) (.ref C0)=some true/\excIn K C Ky "ValueError.__new__"=true:=λC E=>by
  have:=zAd p C E
  simp only[av,beq_iff_eq]at this;obtain⟨⟨⟨⟨⟨⟨⟨⟨u,h2⟩,y⟩,I⟩,H⟩,A⟩,r⟩,J⟩,x⟩:=this;exact⟨⟨u,h2,y,I,H,A⟩,r,J,x⟩
 have d: ∀(c e:Nat) (a b:Addr),cs[e]? =some a->cs[c]? =some b->kitOne K (.ref a) (.ref b)=some (hit c e):=λc e a b f g=>by
  unfold uY at h2;have z:(a,e)∈cs.zipIdx:=List.mem_zipIdx_iff_getElem?.mpr f;have q:(b,c)∈cs.zipIdx:=List.mem_zipIdx_iff_getElem?.mpr g
  have:=zAd (zAd h2 _ z) _ q
  simpa using this
 refine⟨λc=>(all _ (get c)).1,λc e v=>?_,λe=>(all _ (get e)).2.1,λc=>?_,λc=>(all _ (get c)).2.2.2⟩
 ·have l:c<cs.length:=v;obtain⟨b,g⟩: ∃b,cs[c]? =some b:=⟨_,bc l⟩
  have t:(Dp cs C0 fs).cls c=b:=by
   show cs.getD c C0=b;rw[bx,g];rfl
  rw[t]
  cases f:cs[e]? with
  |some a=>
   have m:(Dp cs C0 fs).cls e=a:=by
    show cs.getD e C0=a;rw[bx,f];rfl
   rw[m];exact d c e a b f g
  |none=>
   have m:(Dp cs C0 fs).cls e=C0:=by
    show cs.getD e C0=C0;rw[bx,f];rfl
   have s:cs.length<=e:=List.getElem?_eq_none_iff.mp f
   rw[m,d c 0 C0 b n g]
   congr 1
   unfold hit
   have G:(c==e)=false:=by simp;lia
   rw[G]
   cases c<;>simp
 ·rw[B];exact(all _ (get c)).2.2.1
end
section
variable{P:Program}{w:World}{K:Frag}{mg:Str->Option Value}{base h:Heap}{ad:Ad}{k:Nat}{tab:List (Str×SK.Gl)}{fns:List (Nat×Fn)}
structure PQ(P:Program)(w:World)(K:Frag)(mg:Str->Option Value)(base h:Heap)(ad:Ad)(k:Nat)(tab:List (Str×SK.Gl))(fns:List (Nat×Fn)):Prop where
 t:d8 P w K mg base ad k tab
 u:fV P w K mg base ad k fns
 X:K.In h
 G:h.Ns mainGlobals mg
 B:ExcK K ad
def Bnd(x:Str)(st:Stmt)(ps:List Str):Prop:= ∀(kV doc pm:Value) (an:Option Addr) (cdv ct:Value) (us:List Value),us.length=ps.length->bindArgs (PySem.W.fnOf x x (defArgs st) (defBody st) (defScope st) .none kV doc pm an cdv ct) ⟨us,[]⟩=pure (ps.zip us)
theorem PQ.cons(T:PQ P w K mg base h ad k tab fns){x:Str}{f:Addr}{fd:FuncData}{ps:List Str}{n r:Nat}{M:Fn}(hr:k<=r)(ok:FnOk P w K mg base (CXe P w) r f fd ps (vX K ad n M))(hb:d6 K fd ps [])(kp:keepIn K (.ref f)=true)(hm:mg x=some (.ref f))(hj:f=ad.fnA fns.length)(hdb:(x==("__debug__":Str))=false):
  PQ P w K mg base h ad r ((x,.fn fns.length n M)::tab) (fns++[(n,M)]):=
 ⟨d8.cons (T.t.mono hr) hdb ⟨r,f,ai _,hm,kp,⟨_,_,ok,hb⟩,hj⟩,fV.snoc T.u hr rfl hj (ai _) kp ok hb,T.X,T.G,T.B⟩
theorem PQ.addV(T:PQ P w K mg base h ad k tab fns)(x:Str)(st:Stmt)(f:Addr)(ps:List Str)(n:Nat)(M:Fn){oc:Value}{od an:Option Addr}{osl:Array (Option Value)}{kV doc pm cdv ct:Value}(l:K.lookup f=some ⟨oc,od,.func (PySem.W.fnOf x x (defArgs st) (defBody st) (defScope st) .none kV doc pm an cdv ct),osl⟩)
  (fns':List (Nat×Fn)) (hf:fns'=fns\/fns'=[]) (d:Ef tab fns' st=some (n,M):=by kernel_rfl) (c:codeIn K cdv x=true:=by kernel_rfl) (kp:keepIn K (.ref f)=true:=by kernel_rfl) (hm:nsIn K mainGlobals x=some (some (.ref f)):=by kernel_rfl) (hj:f=ad.fnA fns.length:=by rfl)
  (hdb:(x==("__debug__":Str))=false:=by decide) (hps:eN (defArgs st)=some ps:=by rfl) (hb:Bnd x st ps:=by intro _ _ _ _ _ _ us hl;rcases us with _|⟨u0,_|⟨u1,_|⟨u2,_|⟨u3,_|⟨u4,us⟩⟩⟩⟩⟩<;>first|rfl|(simp at hl)):
  PQ P w K mg base h ad (k+1) ((x,.fn fns.length n M)::tab) (fns++[(n,M)]):=by
 have F:=mE (st:=st) l c kp;refine T.cons (Nat.le_succ _) (Jb (ps:=ps) T.B T.t ?_ F hps d) (F.binds hb) kp (PySem.W.mg_of T.X T.G hm) hj hdb;rcases hf with rfl|rfl
 ·exact T.u
 ·exact fV.nil
theorem PQ.add(T:PQ P w K mg base h ad k tab fns)(x:Str)(st:Stmt)(f:Addr)(ps:List Str)(n:Nat)(M:Fn){oc:Value}{od an:Option Addr}{osl:Array (Option Value)}{kV doc pm cdv ct:Value}(l:K.lookup f=some ⟨oc,od,.func (PySem.W.fnOf x x (defArgs st) (defBody st) (defScope st) .none kV doc pm an cdv ct),osl⟩)
  (d:Ef tab [] st=some (n,M):=by kernel_rfl) (c:codeIn K cdv x=true:=by kernel_rfl) (kp:keepIn K (.ref f)=true:=by kernel_rfl) (hm:nsIn K mainGlobals x=some (some (.ref f)):=by kernel_rfl) (hj:f=ad.fnA fns.length:=by rfl)
  (hdb:(x==("__debug__":Str))=false:=by decide) (hps:eN (defArgs st)=some ps:=by rfl) (hb:Bnd x st ps:=by intro _ _ _ _ _ _ us hl;rcases us with _|⟨u0,_|⟨u1,_|⟨u2,_|⟨u3,_|⟨u4,us⟩⟩⟩⟩⟩<;>first|rfl|(simp at hl)):
  PQ P w K mg base h ad (k+1) ((x,.fn fns.length n M)::tab) (fns++[(n,M)]):=T.addV x st f ps n M l [] (.inr rfl) d c kp hm hj hdb hps hb
theorem PQ.py(T:PQ P w K mg base h ad 0 tab [])(p:Py)(hm:nsIn K mainGlobals (dC p)=some none:=by kernel_rfl)(hdb:(dC p==("__debug__":Str))=false:=by decide):PQ P w K mg base h ad 0 ((dC p,.py p)::tab) []:=⟨d8.cons T.t hdb ⟨rfl,PySem.W.mg_none_of T.X T.G hm⟩,T.u,T.X,T.G,T.B⟩
theorem PQ.verr(T:PQ P w K mg base h ad 0 tab [])(hm:nsIn K mainGlobals "ValueError"=some none:=by kernel_rfl):PQ P w K mg base h ad 0 (("ValueError",.verr)::tab) []:=⟨d8.cons T.t (by decide) ⟨rfl,PySem.W.mg_none_of T.X T.G hm⟩,T.u,T.X,T.G,T.B⟩
theorem PQ.exc(T:PQ P w K mg base h ad 0 tab [])(x:Str)(c:Nat)(hm:nsIn K mainGlobals x=some (some (.ref (ad.cls c))):=by kernel_rfl)(hc:c<ad.nb:=by decide)(hdb:(x==("__debug__":Str))=false:=by decide):PQ P w K mg base h ad 0 ((x,.exc c)::tab) []:=⟨d8.cons T.t hdb ⟨PySem.W.mg_of T.X T.G hm,hc⟩,T.u,T.X,T.G,T.B⟩
theorem PQ.int(T:PQ P w K mg base h ad 0 tab [])(x:Str)(i:Int)(t:Tok)(hm:nsIn K mainGlobals x=some (some (.int i t)):=by kernel_rfl)(hdb:(x==("__debug__":Str))=false:=by decide):PQ P w K mg base h ad 0 ((x,.val (.int i))::tab) []:=⟨d8.cons T.t hdb ⟨.int i t,.int i,PySem.W.mg_of T.X T.G hm,⟨_,rfl⟩,λG=>by unfold Rep;rfl⟩,T.u,T.X,T.G,T.B⟩
theorem PQ.nil(X:K.In h)(G:h.Ns mainGlobals mg)(B:ExcK K ad):PQ P w K mg base h ad 0 [] []:=⟨d8.nil,fV.nil,X,G,B⟩
end
def Ly(o:Obj)(q:Str):Prop:= ∃vs t,o.data= .fields vs/\vs[1]? =some (.str q t)
structure Tb(P:Addr)(q:Str)(ps:Array Value)(cs:ce):Prop where
 ok:TriplesOk ps.toList
 cod: ∀pos cv,codeAmong pos ps.toList=some cv->∃c o,cv= .ref c/\(c,o)∈cs/\Ly o q
 ne: ∀p∈cs,p.1≠P
theorem jO: ∀{l:List Value} {i j:Int} {a b:Nat} {c:Value},TriplesOk l->TriplesOk (l++[.int i a,.int j b,c])
 |[],_,_,_,_,_,_=>trivial
 |.int _ _:: .int _ _::_::r,_,_,_,_,_,h=>jO (l:=r) h
theorem mX{pos pos':Pos}{c cv:Value}: ∀{l:List Value},TriplesOk l->codeAmong pos' (l++[rawInt pos.line,rawInt pos.col,c])=some cv->codeAmong pos' l=some cv\/cv=c
 |[],_,h=>by
  simp only[List.nil_append,codeAmong,rawInt]at h;split at h
  ·exact .inr (Option.some.inj h).symm
  ·cases h
 |.int i a:: .int j b::d::r,ht,h=>by
  simp only[List.cons_append,codeAmong]at h ⊢;split at h
  ·rename_i e;rw[if_pos e];exact .inl h
  ·rename_i e;rw[if_neg e];exact mX (l:=r) ht h
section
variable{cs cb:ce}{σ:St}{R':cc}
theorem zH(I:Inv X ((P,PySem.W.tabObj ps)::(cs++cb)) σ H s)(T:Tb P q ps cs)(hx:P∈X.ex)(hpn: ∀p∈X.pn++cb,p.1≠P)(hpar:defaultsOf params X.env=([],[]))(hq:X.env.qual++"<lambda>"=q)(hfree: ∀x,(x,NameKind.free)∈sc.names->X.env.kindOf x=some .cell\/X.env.kindOf x=some .free)(hcode:X.env.code= .ref c)(hC:PySem.W.CodeHd s.heap c P)(hB:s.heap.BuiltinsAt X.mg P)(k: ∀(a:Addr) (ps':Array Value) (cs':ce) (cv ctv:Value) (s':Shared),Inv X ((P,PySem.W.tabObj ps')::(cs'++cb)) σ H s'->Tb P q ps' cs'->(∃more,ps'=ps++more)->(∀p∈cs',p∈cs\/s.heap.objs.size<=p.1)->s.heap.objs.size<=a->
   s'.heap.get? a=some {cls:=.type "function",data:=.func (PySem.W.kla_fn "<lambda>" q params body sc (kX X.env.cells sc.names []) ((X.mg "__name__").getD .none) cv ctv)}->s'.heap.CodeRec cv q->(∃c',cv= .ref c'/\H c'=none/\c'≠X.env.locals/\c'∉X.fs)->
   (∀b o,b≠P->s.heap.get? b=some o->s'.heap.get? b=some o)->R' (.ref a) s'):
  wpAny (model X.prog X.w) X.A (eval (.Lambda params body sc pos) X.env) R' X.xe s:=by
 have L:closureFor sc X.env=pure (kX X.env.cells sc.names []):=iZ λx hx=>by
  obtain⟨c,h⟩:=I.ok.has x (hfree x hx);rw[h];rfl
 have l:=I.pin (P,PySem.W.tabObj ps) (bq _ (.head _));have hg:s.heap.Ns mainGlobals X.mg:=I.mod.glob.keeps I.bk
 have am:mainGlobals≠P:=λz=>by
  obtain⟨o,es,ep,e,J,_⟩:=hg;have Z:=l.1;rw[z]at e;rw[e]at Z;cases Z;cases J
 -- without the table's pin
 have I0:Inv X (cs++cb) σ H s:=I.pins_of λp g=>I.pin p (bq _ (.tail _ g))
 have Q: ∀p∈X.pn++(cs++cb),p.1≠P:=λp g=>by
  rcases List.mem_append.mp g with h|h
  ·exact hpn p (List.mem_append_left _ h)
  ·rcases List.mem_append.mp h with h|h
   ·exact T.ne p h
   ·exact hpn p (bq _ h)
 have ab: ∀b∈[P],(b∈X.ex\/X.s₀.heap.objs.size<=b)/\b≠X.env.locals/\(∀x c,X.env.cells.lookup x=some c->c≠b)/\∀p∈X.pn++(cs++cb),p.1≠b:=λb j=>by
  rw[List.mem_singleton.mp j];exact⟨.inl hx,(I.ok.exf P hx).1,(I.ok.exf P hx).2,Q⟩
 -- the state behind
 have after: ∀(C:Heap) (E:Nat),(∀b o,b≠P->s.heap.get? b=some o->C.get? b=some o)->Inv X (cs++cb) σ H {s with heap:=C,toks:=E}:=λC E f=>by
  have B: ∀b,b∉[P]->b≠P:=λb j z=>j (by rw[z];exact .head _)
  refine I0.step (ch:=[P]) (g':=s.gens) (d':=s.drawn) ab (λb o _ _ j e _=>f b o (B b j) e) (λb o _ _ j e _=>⟨o.slots,f b o (B b j) e⟩) (λb o _ _ n=>n) (λb o j e=>⟨o,f b o (B b j) e⟩) (λ_ _ e=>e) (λ_ _ _ e=>e) (λb ps e=>⟨#[],by rw[e];simp⟩) (λm hn=>?_) (λa o e=>?_) I.bare
  ·obtain⟨o,es,ep,e,r⟩:=hn;exact⟨o,es,ep,f _ o (I.ok.exf P hx).1.symm e,r⟩
  ·have nP: ∀b,H b≠none->b≠P:=λb j z=>j (by rw[z];exact l.2.1)
   refine(I.hok a o e).stay (λb u j q=>f b u ?_ q) (λ_ q=>q) λ_ _ q=>q
   rcases j with rfl|j
   ·exact nP _ (by rw[e];exact λz=>nomatch z)
   ·exact nP _ (by rw[j];exact λz=>nomatch z)
 refine PySem.W.kla_eval hpar ?_;rw[hq]
 cases hf:codeAmong pos ps.toList with
 |some cv=>
  refine PySem.W.kla_makeFunctionHit (mg:=X.mg) L I.ok.glob hg hcode hC l.1 T.ok hf hB λctv C E hk ad=>?_
  obtain⟨O,Y,U,m1,r1⟩:=T.cod pos cv hf;have p1:=I.pin (O,Y) (bq _ (.tail _ (List.mem_append_left _ m1)))
  have f: ∀b o,s.heap.get? b=some o->(C.push {cls:=.type "function",data:=.func (PySem.W.kla_fn "<lambda>" q params body sc (kX X.env.cells sc.names []) ((X.mg "__name__").getD .none) cv ctv)}).get? b=some o:=λb o e=>ae _ (hk b o e)
  refine k _ ps cs cv ctv _ ((after _ E λb o _ e=>f b o e).pins_of λp g=>?_) T ⟨#[],by simp⟩ (λp g=>.inl g) ad (af _ rfl) ?_ ⟨O,U,p1.2.1,p1.2.2.1,p1.2.2.2.1⟩ λb o _ e=>f b o e
  ·have:=I.pin p (bq _ g)
   exact⟨f _ _ this.1,this.2⟩
  ·obtain⟨vs,t,d,v⟩:=r1;exact⟨O,Y,vs,t,U,f _ _ p1.1,d,v⟩
 |none=>
  refine PySem.W.kla_makeFunction (mg:=X.mg) L I.ok.glob hg hcode hC l.1 T.ok hf am hB λc' ctv C E ak i an K al=>?_
  obtain⟨c2,oc,vs,t,Z,G,J,hv⟩:=K;cases Z
  have f: ∀b o,b≠P->s.heap.get? b=some o->(C.push (PySem.W.kla_obj "<lambda>" q params body sc (kX X.env.cells sc.names []) ((X.mg "__name__").getD .none) c' ctv)).get? b=some o:=λb o ne e=>ae _ (ak b o ne e)
  have N:P<s.heap.objs.size:=ag l.1;have y: ∀v,oc.data≠ .cell v:=λv z=>by rw[J]at z;cases z
  have M:H c'=none:=I.hok.fresh i
  refine k _ (ps++ #[rawInt pos.line,rawInt pos.col,.ref c']) ((c',oc)::cs) (.ref c') ctv _ ((after _ E f).pins_of λp g=>?_) ⟨?_,?_,?_⟩ ⟨_,rfl⟩ (λp g=>(au.mp g).elim (λz=>.inr (by rw[z];exact i)) .inl) (Nat.le_trans i (Nat.le_of_lt an)) (af _ rfl) ?_ ⟨c',rfl,M,Nat.ne_of_gt (bf I.lt i),I.nofs i⟩ f
  ·rcases au.mp g with rfl|g
   ·exact⟨ae _ al,l.2.1,l.2.2.1,l.2.2.2.1,λv z=>nomatch z⟩
   ·rcases au.mp g with rfl|g
    ·refine⟨ae _ G,M,?_,I.nofs i,y⟩;exact Nat.ne_of_gt (bf I.lt i)
    ·have:=I.pin p (bq _ (.tail _ g))
     exact⟨f _ _ (Q p (bq _ g)) this.1,this.2⟩
  ·rw[Array.toList_append];exact jO T.ok
  ·intro S cv h;rw[Array.toList_append]at h;rcases mX T.ok h with h|rfl
   ·obtain⟨O,Y,U,m1,r1⟩:=T.cod S cv h;exact⟨O,Y,U,.tail _ m1,r1⟩
   ·exact⟨c',oc,rfl,.head _,vs,t,J,hv⟩
  ·intro p g;rcases au.mp g with rfl|g
   ·exact Nat.ne_of_gt (bf N i)
   ·exact T.ne p g
  ·exact⟨c',oc,vs,t,rfl,ae _ G,J,hv⟩
end
noncomputable abbrev Dq(qual:Str)(sc:Scope)(L f:Addr)(cd:Value)(cl:List (Str×Addr)):PySem.Env:=PySem.W.envX qual sc L f cd cl
def cxL(CX:CXT)(P:Program)(w:World)(K:PySem.W.Frag)(mg:Str->Option Value)(base:Heap)(N:List Str)(qual:Str)(sc:Scope)(f:Addr)(cd:Value)(cl:List (Str×Addr))(A:Around)(outer:List PySem.Env)(s:Shared)(H:Hp)(E:XK):Cx where
 prog:=P
 w:=w
 K:=K
 mg:=mg
 base:=base
 A:=A.deeper (Dq qual sc s.heap.objs.size f cd cl)
 N:=N
 s₀:=s
 H₀:=H
 env:=Dq qual sc s.heap.objs.size f cd cl
 outer:=outer
 stack:=Dq qual sc s.heap.objs.size f cd cl::outer
 ex:=[]
 calm:=true
 fn:=λ_=>false
 pn:=[]
 xe:=λe s'=>wpAny (model P w) (A.deeper (Dq qual sc s.heap.objs.size f cd cl)) (leaving (Dq qual sc s.heap.objs.size f cd cl) e) (λ_ s''=>CX outer H s E e s'') (λe' s''=>CX outer H s E e' s'') s'
structure LamSc(N:List Str)(sc:Scope):Prop where
 kind:sc.kind= .function
 co:sc.isCoroutine=false
 gen:sc.isGenerator=false
 nocell: ∀x∈sc.names,x.2≠ .cell
 noloc: ∀x,sc.names.lookup x≠some .local
section
variable{K:PySem.W.Frag}{vs:List V}
theorem zI(S:LamSc N sc)(hd:A.handled=none)(e0:Env0 P w K mg base A outer s H)(hns:h'.Ns s.heap.objs.size m)(hk: ∀b o,s.heap.get? b=some o->h'.get? b=some o)(inj: ∀x y c,cl.lookup x=some c->cl.lookup y=some c->x=y)(has: ∀x,sc.names.lookup x=some .free->∃c,cl.lookup x=some c)(cel: ∀x c,cl.lookup x=some c->(∃v,s.heap.IsCell c v)/\H c=none)(hl:vs.length=N.length)(hv: ∀(i:Nat) (x:Str) (v:V),N[i]? =some x->vs[i]? =some v->sc.names.lookup x=some .free->∃u c,bG v u/\cl.lookup x=some c/\s.heap.IsCell c (some u)):
  Inv (cxL CX P w K mg base N qual sc f cd cl A outer s H E) [] (vs.map some) H {s with heap:=h',toks:=t'}:=by
 have e: ∀b:Addr,b∉(cxL CX P w K mg base N qual sc f cd cl A outer s H E).ex:=λb z=>absurd (show b∈([]:List Addr) from z) (by simp)
 have g: ∀x,sc.names.lookup x≠some .cell:=λx z=>S.nocell _ (PySem.mem_of_lookup z) rfl
 refine⟨⟨e0.mod,S.kind,rfl,rfl,ai _,inj,λy d=>?_,λy c d _=>(bd d).elim,λ_=>hd,Around.frames_deeper e0.frames,.inr ⟨rfl,rfl⟩,λb z=>absurd z (e b),e0.bs,e0.bsz,λb _ _=>e b,λb z=>absurd z (e b),e0.funs,e0.frf⟩,
  rfl,e0.bare,Un.kept hk,⟨m,hns,λi y v G j l=>?_⟩,λy c h=>?_,e0.hok.fresh (ai _),λy c h=>(cel y c h).2,λp B=>absurd (show p∈([]:ce) from B) (by simp),e0.hok.kept hk,(ao ..).trans hl⟩
 ·have d:sc.names.lookup y=some .cell\/sc.names.lookup y=some .free:=d
  rcases d with d|d
  ·exact absurd d (g y)
  ·exact has y d
 ·have t:vs[i]? =some v:=by
   rw[List.getElem?_map]at j
   cases q:vs[i]? with
   |none=>rw[q]at j;cases j
   |some a=>rw[q]at j;cases j;rfl
  have l:sc.names.lookup y=some .local\/sc.names.lookup y=some .cell\/sc.names.lookup y=some .free:=l
  rcases l with z|z|z
  ·exact absurd z (S.noloc y)
  ·exact absurd z (g y)
  ·obtain⟨u,c,r,C,o,n,hd⟩:=hv i y v G t z;exact⟨u,r,.inr ⟨.inr z,c,C,o,hk _ _ n,hd⟩⟩
 ·obtain⟨⟨v,o,n,hd⟩,_⟩:=cel y c h;exact⟨v,o,hk _ _ n,hd⟩
theorem Fl(S:LamSc N sc)(hobj:s.heap.get? f=some {cls:=.type "function",data:=.func (PySem.W.kla_fn name qual params body sc cl pm cd ct)})(hcd:s.heap.CodeRec cd qual)(hbind:bindArgs (PySem.W.kla_fn name qual params body sc cl pm cd ct) ⟨[],[]⟩=pure [])(hr:Room (k+1) A)(e0:Env0 P w K mg base A outer s H)(inj: ∀x y c,cl.lookup x=some c->cl.lookup y=some c->x=y)(has: ∀x,sc.names.lookup x=some .free->∃c,cl.lookup x=some c)(cel: ∀x c,cl.lookup x=some c->(∃v,s.heap.IsCell c v)/\H c=none)(hl:vs.length=N.length)(hv: ∀(i:Nat) (x:Str) (v:V),N[i]? =some x->vs[i]? =some v->sc.names.lookup x=some .free->∃u c,bG v u/\cl.lookup x=some c/\s.heap.IsCell c (some u))(hb: ∃t,PE (cxL CX P w K mg base N qual sc f cd cl A outer s H E) body t/\t (vs.map some) H Q):
  codeAny (model P w) A (.call (.ref f) ⟨[],[]⟩) (CR CX outer P w H s Q E) s:=by
 have d:s.heap.NoLimit:=e0.mod.nolimit.keeps λb o e=>(e0.bs b o e).1
 refine PySem.W.kla_callFunE hr.depth hobj rfl S.co S.gen rfl hcd ?_;rw[hbind];refine ac (wpAny_newFunctionEnv S.nocell (λx j=>nomatch j) (λp h a=>⟨d.fresh _ a,?_⟩) S.kind)
 have hk: ∀b o,s.heap.get? b=some o->p.get? b=some o:=λb o e=>a.extBut b o (bg (ag e)) (ae _ e)
 show codeAny _ _ (.expr body (Dq qual sc s.heap.objs.size f cd cl)) _ _;obtain⟨t,z,l⟩:=hb;have I:=zI (CX:=CX) (E:=E) (t':=s.toks+0) (qual:=qual) (f:=f) (cd:=cd) S hr.hd e0 h hk inj has cel hl hv;refine PySem.W.kla_codeExpr (wpAny_mono (z [] _ (vs.map some) H Q I l) (λv m g=>?_) λe m g=>g)
 obtain⟨x,n,J,r,q⟩:=g;exact⟨x,n,J.os,J.bare,J.base,J.hok,r,q⟩
end
structure RoomQ(k:Nat)(A:Around):Prop where
 dp:A.depth+3*k+5<recursionLimit
 un:A.units+16*k+200<cLine
structure FnOkQ(P:Program)(w:World)(K:PySem.W.Frag)(mg:Str->Option Value)(base:Heap)(CX:CXT)(k:Nat)(f:Addr)(fd:FuncData)(ps:List Str)(sp:Sp):Prop where
 len: ∀vs H Q E,sp vs H Q E->vs.length=ps.length
 run: ∀(A:Around) (outer:List PySem.Env) (s:Shared) (H:Hp) (args:Args) (us:List Value) (vs:List V) (Q:VK) (E:XK),RoomQ k A->Env0 P w K mg base A outer s H->BindsTo s fd args (ps.zip us)->bS vs us->sp vs H Q E->
  codeAny (model P w) A (.call (.ref f) args) (CR CX outer P w H s Q E) s
def qX(X:Cx)(A:Around)(Ex:cc):Cx:={X with A:=A,calm:=false,xe:=Ex}
section
variable{σ:St}
theorem Jc(hA:A.frames=X.A.frames)(I:Inv X cb σ H s):Inv (qX X A Ex) cb σ H s:=
 ⟨⟨I.ok.mod,I.ok.kind,I.ok.glob,I.ok.blt,I.ok.above,I.ok.inj,I.ok.has,I.ok.cab,(λz=>(bd z).elim),hA.trans I.ok.frames,I.ok.stk,I.ok.exf,I.ok.bs,I.ok.bsz,I.ok.noex,I.ok.exfs,I.ok.funs,I.ok.frf⟩,I.os,I.bare,I.base,I.loc,I.cell,I.free,I.freeC,I.pin,I.hok,I.len⟩
theorem Jd(h:Cx.Ok X)(I:Inv (qX X A Ex) cb σ H s):Inv X cb σ H s:=
 ⟨h,I.os,I.bare,I.base,I.loc,I.cell,I.free,I.freeC,I.pin,I.hok,I.len⟩
end
section
variable{ad:Ad}{i:Nat}{q1:Str}{F:Fn}
theorem B3(hi:X.N[i]? =some en)(hv:Vis X.env.scope en)(hde:(en==("__debug__":Str))=false)(hdc:(en==("__classdict__":Str))=false)(hg:L2.Gl X x)(hm:X.mg x=some (.ref fa))(hdb:(x==("__debug__":Str))=false)(hk:PySem.W.keepIn X.K (.ref fa)=true)(hf:FnOkQ X.prog X.w X.K X.mg X.base (CXe X.prog X.w) kf fa fd [q1] (vX X.K ad 1 F))(hb:d6 X.K fd [q1] [])(hr:RoomQ kf X.A)(he:starEach [.Name en p2] X.env=(false,eval (.Name en p2) X.env)::starEach [] X.env)(hpl:(backTo pos (starEach [] X.env)).any (·.1)=false):
  PE X (.Call (.Name x p) [.Name en p2] [] pos) (λσ H Q=>σ[i]? =some (some (.ref ea))/\vX X.K ad 1 F [.ref ea] H Q λ_ _ _=>False):=by
 rintro l s σ H Q I ⟨o,d⟩;refine wpAny_Call_Name_kw (fI I hg hm ?_ hdb);refine PySem.W.callWith_K (h₀:=X.base) I.ok.mod.kin hk (L2.thn (cN (cM hi hv hde hdc) eL he pos l s σ H (λh f=>h=[.ref ea]/\f=H) I ⟨.ref ea,o,rfl,rfl⟩) λc g ⟨h,f,b,r,n,m⟩=>⟨b.kIn,?_⟩) he hpl
 subst n m
 have q:(c++[]).length=[q1].length:=by rw[List.append_nil, <-r.length];rfl
 refine wpAny_call (codeAny_mono (hf.run X.A X.stack g f ⟨c,[]⟩ c [.ref ea] Q (λ_ _ _=>False) hr b.env0 (by have:=hb g c b.kIn q;rwa [List.append_nil]at this) r d) λr t a=>?_)
 cases r with
 |error e=>obtain⟨_,_,_,_,_,_,_,_,_,_,_,_,_,_,z⟩:=a;exact z.elim
 |ok j=>
  cases j with
  |ret u=>exact b.after a
  |next=>exact az a
  |brk=>exact az a
  |cont=>exact az a
end
section
variable{ad:Ad}{σ:St}
theorem wB{i:Nat}{F:Fn}{q1:Str}(F0:Fram X)(hN:X.N.Nodup)(hi:X.N[i]? =some en)(hil:X.env.scope.names.lookup en=some .local)(hic:(en==("__classdict__":Str))=false)(hgx:L2.Gl X x)(hmx:X.mg x=some (.ref fa))(hdx:(x==("__debug__":Str))=false)(hkx:PySem.W.keepIn X.K (.ref fa)=true)(hfx:FnOkQ X.prog X.w X.K X.mg X.base (CXe X.prog X.w) kf fa fd [q1] (vX X.K ad 1 F))(hbx:d6 X.K fd [q1] [])(hrq: ∀v,RoomQ kf (X.A.mark v))(hg:L2.Gl X cx)(hm:X.mg cx=some (.ref (ad.cls 0)))(hdb:(cx==("__debug__":Str))=false)(hde:(en==("__debug__":Str))=false)(hx:exmOne X.K (.ref (ad.cls c)) (.ref (ad.cls 0))=some true)(I:Inv X cb σ H s)(ho:s'.os=s.os)(hgn:AllBare s'.gens)(fly:Heap.FlyingW B X.stack ea (.ref (ad.cls c)) a0 s'.heap)(un:Un (frs X.stack) [] H H' s.heap s'.heap)(hok:HOk X.prog X.w H' s'.heap)(ne:H' ea=none)(c8: ∀b o,s.heap.get? b=some o->b∉frs X.stack->∃o',B.get? b=some o')(c9: ∀b o,H' b=some o->∃o',B.get? b=some o')(hGe: ∃G,Same G (upd H' ea (C2 (ad.cls c) ea))/\Rep X.K ad G (.exc c) (.ref ea)/\RK X.K ad G (upd H' ea (C2 (ad.cls c) ea)) (F [.exc c]) D'.rt λ_ _=>False):
  (tX X cb D' (.ExceptHandler (some (.Name cx cp)) (some en) [.Return (some (.Call (.Name x xp) [.Name en ep] [] ap)) rq] hp')).xe (.ref ea) s':=by
 have ak:X.A.frames=some (X.env::X.outer):=by rw[<-F0.stk];exact I.ok.frames
 have T: ∀{h:Heap},h.FunFrames B X.stack->∀b∈frs X.stack, ∀o,h.get? b=some o->∀r,o.data≠ .fields r:=λff b hb o e=>by
  obtain⟨_,o2,e2,nf⟩:=ff.mem (b:=b) hb;rw[e]at e2;cases e2;exact nf
 -- the invariant through the stations
 have M: ∀n:Heap,B.StaysIn n->s'.heap.UpToSlots n->Inv X cb σ H' {s' with heap:=n}:=λn st2 up=>
  I.call' (ch:=[]) (s':={s' with heap:=n}) ho (Li un fly.1 st2 up (T fly.2.2.1) c8) (IC hok fly.1 st2 c9) hgn λb hb=>by simp at hb
 have f:s.heap.get? ea=none:=by
  cases e:s.heap.get? ea with
  |none=>rfl
  |some o=>
   by_cases hf:ea∈frs X.stack
   ·obtain⟨J,r,_,_,_,q,_,l,_⟩:=fly.2.2.2;exact absurd l (T fly.2.2.1 ea hf J q r)
   ·obtain⟨o',e'⟩:=c8 ea o e hf;rw[fly.2.1]at e';cases e'
 show wpAny (model X.prog X.w) X.A (noteFrame (.ref ea) X.env) _ X.xe s';have t:=fly;rw[F0.stk]at t;refine wpAny_looks_onW ak F0.fr t λh1 E ab=>?_
 refine wpAny_landsW E λn g an=>?_
 have j:=ab.trans an;have L:=M n g.1 j;refine wpAny_handleBy_cons (codeAny_handlers_test ?_) (by intro z;cases z)
 refine Calls.Name_function_global L.ok.kind hg (Calls.loadGlobal_global (by rw[L.ok.glob];exact L.mod.glob.keeps L.bk) hm ?_) hdb
 have LT:Looks (model X.prog X.w) n (typeOf (.ref ea)) (.ref (ad.cls c)):=by
  obtain⟨J,r,_,_,_,q,⟨S,_⟩,l,_⟩:=g.2.2.2;exact S▸(Looks.ld q).andThen .now
 refine(exm_one (K:=X.K) L.kIn LT hx).at ?_;show codeAny _ _ _ _ _;refine codeAny_handlers_suite_as ?_;refine lands_againW g λh3 C am=>?_
 have J3:=M h3 C.1 (j.trans am)
 have O:nM h3 ea (ad.cls c):=by
  obtain⟨J,r,_,_,_,q,⟨S,_⟩,l,_⟩:=C.2.2.2;exact⟨J,r,q,S,l⟩
 have J4:Inv X cb σ (upd H' ea (C2 (ad.cls c) ea)) {s' with heap:=h3}:=by
  refine J3.track ne ?_ (λz=>?_) (λy d l z=>?_) (λp hp z=>?_) ?_
  ·cases e:X.s₀.heap.get? ea with
   |none=>rfl
   |some o=>
    obtain⟨o',Z⟩:=I.base.there ea o e (by rw[F0.ex];simp)
    rw[f]at Z;cases Z
  ·obtain⟨m,hn,_⟩:=I.loc;obtain⟨o,_,_,a,_⟩:=hn;rw[<-z,f]at a;cases a
  ·obtain⟨v,o,a,_⟩:=I.cell y d l;rw[z,f]at a;cases a
  ·obtain⟨a,_⟩:=I.pin p hp;rw[z,f]at a;cases a
  ·obtain⟨J,r,q,S,l⟩:=O;refine⟨⟨J,r,q,S,l⟩,⟨J,q⟩,?_⟩;rintro ha hb ⟨o1,v1,Z,e2,e3⟩ k;exact⟨o1,v1,k _ Z,e2,e3⟩
 -- e = the exception
 refine gE J4 hN hi (.inl hil) (v:=.ref ea) rfl (λs5 J5=>?_) (.inr hil)
 have ar:i<σ.length:=by rw[J4.len];exact(ax.mp hi).1
 have as:(σ.set i (some (.ref ea)))[i]? =some (some (V.ref ea)):=bh ar
 obtain⟨G,sG,rG,hq⟩:=hGe
 -- the suite
 refine wpAny_mono (rP (wT (B3 (X:=qX X (X.A.mark (some (.ref ea))) _) (i:=i) (ea:=ea) hi (.inl hil) hde hic hgx hmx hdx hkx hfx hbx (hrq _) rfl rfl)) cb s5 (σ.set i (some (.ref ea))) _ ⟨λ_ _=>False,λv H1=>D'.rt v H1,λ_ _=>False,λ_ _=>False⟩ (Jc rfl J5) ⟨as,G,[.exc c],sG,?_,rfl,hq⟩) (λfl s6 Y=>?_) λ_ _ h=>h
 ·unfold aJ;exact⟨.ref ea,[],rfl,rG,by unfold aJ;rfl⟩
 ·cases fl with
  |next=>obtain⟨_,_,_,z⟩:=Y;exact z.elim
  |brk=>obtain⟨_,_,_,z⟩:=Y;exact z.elim
  |cont=>obtain⟨_,_,_,z⟩:=Y;exact z.elim
  |ret u=>
   obtain⟨v,Q,H6,al,r6,q6⟩:=Y;have J6:Inv X cb Q H6 s6:=Jd J4.ok al;have U:i<Q.length:=by rw[J6.len];exact(ax.mp hi).1
   show wpAny _ _ (do bindName X.env en .none;unbindBehindTheSuite X.env en hp') _ _ s6
   refine aa (wpAny_bindName (gE J6 hN hi (.inl hil) (v:=.non) rfl (λs7 J7=>?_) (.inr hil)))
   unfold unbindBehindTheSuite;refine wpAny_onRaise (BA J7 hN hi hil (v:=.non) (bh U) λs8 J8=>?_)
   exact⟨v,_,_,J8,r6,q6⟩
end
def oB(F:Fn):R->R
 |.ok d=>.ok d
 |.ow xs=>.ow xs
 |.ex c=>match F [.exc c]with
  |.ok d=>.ok d
  |.ow xs=>.ow xs
  |_=>.bad
 |.bad=>.bad
section
variable{dn en x cx:Str}{cp xp ep ap hp' rq np dp rp tp:Pos}
noncomputable def j7(dn en x cx:Str)(cp xp ep ap hp' rq np dp rp tp:Pos):Stmt:=
 .Try [.Return (some (.Call (.Name dn np) [] [] dp)) rp] [.ExceptHandler (some (.Name cx cp)) (some en) [.Return (some (.Call (.Name x xp) [.Name en ep] [] ap)) rq] hp'] [] [] tp
end
def zJ:Option SK.Gl->Bool
 |some (.py .isin)=>true
 |_=>false
theorem zK(h:zJ g=true):g=some (.py .isin):=by
 unfold zJ at h;split at h
 ·rfl
 ·cases h
def qL(C:SK.Ctx):Expr->Option F
 |.Name x _=>(loc C x).map aD
 |_=>none
def qE:Nat->SK.Ctx->Expr->Option F
 |0,_,_=>none
 |n+1,C,e=>match e with
  |.Name x _=>(loc C x).map aA
  |.Constant c _ _=>(kD c).map rK
  |.BinOp a op b _=>(qE n C a).bind λf=>(qE n C b).map λg=>aS op f g
  |.List es _=>if es.length<=1000 then(dY (qE n C) es).map fJ else none
  |.Subscript a b _=>(qL C a).bind λf=>(qE n C b).map λg=>rIx f g
  |.Call f as kws cp=>if kws.isEmpty then(match f with
   |.Name x _=>if zJ (glo C x)then(two as).bind λ(a,t)=>(bX t).bind λ(tn,_)=>(qE n C a).bind λfa=>(glo C tn).bind λg=>(isP g).map λP=>rIs P fa else none
   |.Attribute o m ap=>(one as).bind λa=>if(ap.endLine==cp.line)=true then(qL C o).bind λf=>(qE n C a).bind λg=>if m="count" then some (rV xD f g)else if m="index" then some (rV xE f g)else none else none
   |_=>none)else none
  |_=>none
def qT:Nat->SK.Ctx->Expr->Option F
 |0,_,_=>none
 |n+1,C,e=>match e with
  |.BoolOp op es _=>(two es).bind λ(a,b)=>if op= .And then none else(qT n C a).bind λf=>(qT n C b).map λg=>rOr f g
  |.UnaryOp op a _=>(match op with
   |.Not=>(qT n C a).map pO
   |_=>none)
  |.Compare a ops cs _=>(match ops with
   |[op]=>(one cs).bind λb=>(qE n C a).bind λf=>(qE n C b).map λg=>aZ op f g
   |_=>none)
  |.Call f as kws cp=>qE n C (.Call f as kws cp)
  |_=>none
mutual
def qS:Nat->SK.Ctx->Stmt->Option FS
 |0,_,_=>none
 |n+1,C,st=>match st with
  |.Assign ts e _=>(one ts).bind λt=>(bX t).bind λ(x,_)=>(loc C x).bind λi=>(qE n C e).map λf=>eU i f
  |.If c a b _=>(qT n C c).bind λf=>(qSs n C a).bind λg=>(qSs n C b).map λh=>sIf f g h
  |.Return o _=>o.bind λe=>(qE n C e).map dP
  |_=>none
def qSs:Nat->SK.Ctx->List Stmt->Option FS
 |0,_,_=>none
 |n+1,C,l=>match l with
  |[]=>some aQ
  |st::r=>(qS n C st).bind λg=>(qSs n C r).map λh=>a8 g h
end
structure QOk(X:Cx)(ad:Ad)(C:SK.Ctx):Prop where
 nd:X.N.Nodup
 vis: ∀x i,loc C x=some i->X.N[i]? =some x/\Vis X.env.scope x/\(x==("__debug__":Str))=false/\(x==("__classdict__":Str))=false
 nm: ∀x i,loc C x=some i->IA X x i
 isn: ∀x,glo C x=some (.py .isin)->x="isinstance"/\L2.Gl X "isinstance"/\X.mg "isinstance"=none
 cls: ∀t g P,glo C t=some g->isP g=some P->∃cv,ClNm X t cv/\Ll X ad cv P
 un:X.A.units+62<cLine
 exc: ∀c,ExcCls X.K (ad.cls c)
section
variable{X:Cx}{ad:Ad}{C:SK.Ctx}{A:Around}
theorem Je(O:StOk X0 ad C)(hu:A.units+62<cLine):QOk (qX X0 A Ex) ad C:=by
 refine⟨O.cx.nd,O.cx.vis,λx i h=>O.nm h,λx h=>?_,λt g P h e=>?_,hu,O.cx.exc⟩
 ·obtain⟨j,o,f,a⟩:=O.cx.gl h
  cases (show x="isinstance" from f)
  exact⟨rfl,j,a⟩
 ·obtain⟨l,c,k⟩:=Dk O.cx h e;refine⟨l,?_,k⟩
  cases c with
  |blt T e g m b n d=>exact .blt T e g m b n d
  |own C e g m d=>exact .own C e g m d
theorem Jf(O:QOk X ad C)(h:qL C e=some f):ML X ad e f/\∃x p,e= .Name x p:=by
 unfold qL at h;split at h
 ·rename_i x p;obtain⟨i,b,rfl⟩:=zMd h;obtain⟨d,a,c,g⟩:=O.vis x i b;exact⟨xY d a c g,x,p,rfl⟩
 ·cases h
theorem hV(h:qE n C e=some f):gQ e/\mV e/\(∀a b c d,e≠ .Slice a b c d)/\∀a b c d,e≠ .ListComp a b c d:=by
 cases n with
 |zero=>cases h
 |succ n=>cases e<;>first|(cases h;done)|exact⟨trivial,trivial,(λ_ _ _ _ z=>nomatch z),(λ_ _ _ _ z=>nomatch z)⟩
theorem Dr{n:Nat}(hE: ∀e f,qE n C e=some f->ME X ad e f): ∀{es:List Expr} {fs:List F},dY (qE n C) es=some fs->MA X ad es fs
 |[],fs,h=>by
  cases h;exact xX
 |e::es,fs,h=>by
  unfold dY at h
  cases a:qE n C e with
  |none=>rw[a]at h;cases h
  |some f=>
   rw[a]at h;obtain⟨r,b,c⟩:=zMd h;subst c;exact nR (hE e f a) (Dr hE b) (aL (hV a).1)
theorem wC(O:QOk X ad C): ∀(n:Nat) (e:Expr) (f:F),qE n C e=some f->ME X ad e f
 |0,_,_,h=>by cases h
 |n+1,e,f,h=>by
  have l:=wC O n;unfold qE at h;split at h
  ·rename_i x p;obtain⟨i,G,rfl⟩:=zMd h;obtain⟨N,z,A,J⟩:=O.vis x i G;exact xK N z A J
  ·obtain⟨d,b,rfl⟩:=zMd h;exact jY b
  ·obtain⟨q,b,h⟩:=zBd h;obtain⟨s,c,rfl⟩:=zMd h;exact C3 (l _ q b) (l _ s c)
  ·split at h
   ·rename_i r;obtain⟨fs,b,rfl⟩:=zMd h;exact De (Dr l b) (by rw[eW b];exact r)
   ·cases h
  ·obtain⟨q,b,h⟩:=zBd h;obtain⟨s,c,rfl⟩:=zMd h;exact Iq (Jf O b).1.lk (l _ s c) (n6 (hV c).2.2.1)
  ·rename_i Y W E U;split at h
   ·rename_i hk
    cases List.isEmpty_iff.mp hk
    split at h
    ·rename_i x p;split at h
     ·rename_i L;obtain⟨rfl,B,M⟩:=O.isn x (zK L);have j:=zBd h;clear h;obtain⟨⟨a,t⟩,u,h⟩:=j
      cases f9 u
      have j:=zBd h;clear h;obtain⟨⟨tn,Z⟩,K,h⟩:=j
      cases aW K
      obtain⟨q,b,h⟩:=zBd h;obtain⟨g,c,h⟩:=zBd h;obtain⟨P,I,rfl⟩:=zMd h;obtain⟨T,H,Q⟩:=O.cls tn g P c I;exact sI O.exc B M H Q (l _ q b).ml (aL (hV b).1)
     ·cases h
    ·rename_i o m S;have j:=zBd h;clear h;obtain⟨a,u,h⟩:=j
     cases cE u
     split at h
     ·rename_i r;have j:=zBd h;clear h;obtain⟨fo,b,h⟩:=j;have j:=zBd h;clear h;obtain⟨q,c,h⟩:=j;obtain⟨y,x,p,rfl⟩:=Jf O b;split at h
      ·rename_i v;cases h;subst v;exact BE O.un y (l _ q c) (aL (hV c).1) rfl r
      ·split at h
       ·rename_i v;cases h;subst v;exact BF O.un y (l _ q c) (aL (hV c).1) rfl r
       ·cases h
     ·cases h
    ·cases h
   ·cases h
  ·cases h
theorem Jg(O:QOk X ad C): ∀(n:Nat) (e:Expr) (f:F),qT n C e=some f->MT X ad e f
 |0,_,_,h=>by cases h
 |n+1,e,f,h=>by
  have m:=Jg O n;unfold qT at h;split at h
  ·rename_i q r p;have i:=zBd h;clear h;obtain⟨⟨a,b⟩,j,h⟩:=i
   cases f9 j
   simp only at h
   split at h
   ·cases h
   rename_i o
   cases q with
   |And=>exact absurd rfl o
   |Or=>
   obtain⟨d,c,h⟩:=zBd h;obtain⟨l,g,rfl⟩:=zMd h;exact zB (Er (m _ d c) (xV (m _ l g)))
  ·split at h
   ·obtain⟨d,c,rfl⟩:=zMd h;exact Db (m _ d c)
   ·cases h
  ·split at h
   ·have i:=zBd h;clear h;obtain⟨b,j,h⟩:=i
    cases cE j
    obtain⟨d,c,h⟩:=zBd h;obtain⟨l,g,rfl⟩:=zMd h;exact Dd O.un (wC O n _ d c) (wC O n _ l g) (eB (hV g).2.1)
   ·cases h
  ·exact Da (wC O n _ _ h) (λ_=>rfl)
  ·cases h
theorem Jh(O:QOk X ad C){Z:(St->Nat->Hp->Prop)->Prop}: ∀n:Nat,(∀st g,qS n C st=some g->MS X ad Z st g)/\∀l g,qSs n C l=some g->MSs X ad Z l g
 |0=>⟨(λ_ _ h=>by cases h),(λ_ _ h=>by cases h)⟩
 |n+1=>by
  obtain⟨u,a⟩:=Jh O (Z:=Z) n;refine⟨λst g h=>?_,λl g h=>?_⟩
  ·unfold qS at h;split at h
   ·rename_i v e s;have d:=zBd h;clear h;obtain⟨t,j,h⟩:=d
    cases cE j
    have d:=zBd h;clear h;obtain⟨⟨x,p⟩,j,h⟩:=d
    cases aW j
    obtain⟨i,b,h⟩:=zBd h;obtain⟨f,c,rfl⟩:=zMd h;have nm:=O.nm x i b;refine zF (o8 O.nd nm.1 nm.2.1 (wC O n _ f c) ?_ nm.2.2);have q:=(hV c).2.2.2
    cases e<;>first|rfl|exact absurd rfl (q _ _ _ _)|(cases n<;>cases c;done)
   ·obtain⟨f,b,h⟩:=zBd h;obtain⟨o,c,h⟩:=zBd h;obtain⟨m,r,rfl⟩:=zMd h;exact Iz (Jg O n _ f b) (a _ o c) (a _ m r)
   ·have d:=zBd h;clear h;obtain⟨e,rfl,h⟩:=d;obtain⟨f,b,rfl⟩:=zMd h;exact uI (wC O n _ f b)
   ·cases h
  ·unfold qSs at h;split at h
   ·cases h;exact sE
   ·obtain⟨o,b,h⟩:=zBd h;obtain⟨m,c,rfl⟩:=zMd h;exact uH (u _ o b) (a _ m c)
end
def Ji:R->R
 |.ex _=>.bad
 |r=>r
def qFn(tab:List (Str×SK.Gl))(st:Stmt):Option (Nat×Fn):=match st with
 |.FunctionDef _ as b _ _ _ sc _ _ _=>(eN as).bind λps=>if bU (aB sc) ps sc then(qSs 100 ⟨tab,[],sc,aB sc,[]⟩ b).map λg=>(ps.length,λds=>Ji (SK.fnOf (aB sc).length g ds))else none
 |_=>none
noncomputable def quiet(A:Around):Around:={A with handled:=none}
theorem RoomQ.room(r:RoomQ k A):Room k (quiet A):=⟨rfl,r.dp,r.un⟩
theorem RoomQ.deeper(r:RoomQ (k+1) A)(env:PySem.Env):RoomQ k (A.deeper env):=
 ⟨by have:=r.dp;show A.depth+1+3*k+5<_;lia,by have:=r.un;show A.units+3+16*k+200<_;lia⟩
section
variable{K:Frag}{ad:Ad}{tab:List (Str×SK.Gl)}
theorem Fm{st:Stmt}{F:Fn}(B:ExcK K ad)(TB:d8 P w K mg base ad k tab)(Fu:Fun K x qual st f fd)(hps:eN (defArgs st)=some ps)(hd:qFn tab st=some (n,F)):FnOkQ P w K mg base (CXe P w) (k+1) f fd ps (vX K ad n F):=by
 obtain⟨oc,od,kV,bm,pm,an,ak,ct,bp,rfl,lk,a7⟩:=Fu.ex
 cases st with
 |FunctionDef nm as b dl re tp h ts bi bb=>
  have a3:((eN as).bind λPs=>if bU (aB h) Ps h then(qSs 100 ⟨tab,[],h,aB h,[]⟩ b).map λg=>(Ps.length,λN=>Ji (SK.fnOf (aB h).length g N))else none)=some (n,F):=hd
  have a5:eN as=some ps:=hps
  rw[a5]at a3
  have al:(if bU (aB h) ps h then(qSs 100 ⟨tab,[],h,aB h,[]⟩ b).map λg=>(ps.length,λN=>Ji (SK.fnOf (aB h).length g N))else none)=some (n,F):=a3
  by_cases hs:bU (aB h) ps h=true
  ·rw[if_pos hs]at al;obtain⟨g,hg,e⟩:=zMd al;cases e;obtain⟨S,nm⟩:=cR hs;refine⟨λvs H Q E ⟨G,N,_,r,hl,_⟩=>by rw[r.length,hl],λA t s H args us vs Q E hr U hb r ar=>?_⟩
   have hl:vs.length=ps.length:=by obtain⟨G,N,_,r,hl,_⟩:=ar;rw[r.length,hl]
   have KX:K.In s.heap:=U.mod.kin.keeps λb o e=>(U.bs b o e).1
   have a6:s.heap.NoLimit:=U.mod.nolimit.keeps λb o e=>(U.bs b o e).1
   have am: ∀y∈ps.zip us,h.names.lookup y.1=some .local\/(h.names.lookup y.1=some .cell/\((cellsFrom (s.heap.objs.size+1) h.names []).lookup y.1).isSome=true):=λ⟨n,v⟩ hy=>by
    rcases S.par n (List.of_mem_zip hy).1 with q|q
    ·exact .inl q
    ·exact .inr ⟨q,PySem.W.cellsFrom_some _ _ _ (.inl q)⟩
   have a4:A.depth<recursionLimit:=by have:=hr.dp;lia
   refine codeAny_call_function a4 (KX _ _ lk) rfl S.co S.gen rfl (PySem.W.codeRec_of KX a7) (hb _ _ _ _ ?_);refine wpAny_newFunctionEnv_cells S.kind am λenv he s1 y=>?_
   subst he;refine⟨a6.keeps y.toInCall.keep,codeAny_func ?_⟩;have e1:Env0 P w K mg base (quiet A) t s H:=⟨U.frames,U.mod,U.bs,U.bsz,U.funs,U.frf,U.hok,U.bare⟩;let X0:=jW (CXe P w) P w K mg base (aB h) qual h f ak (quiet A) t s H E;have I0:Inv X0 [] (L2.start (aB h) vs) H s1:=fY S rfl e1 hl r y;let X:=qX X0 (A.deeper (envOfC qual h s.heap.objs.size f ak)) (λe s'=>wpAny (model P w) (A.deeper (envOfC qual h s.heap.objs.size f ak)) (leaving (envOfC qual h s.heap.objs.size f ak) e) (λ_ ap=>CXe P w t H s E e ap) (λe' ap=>CXe P w t H s E e' ap) s')
   have I:Inv X [] (L2.start (aB h) vs) H s1:=Jc rfl I0;have Y:Room k X0.A:=(hr.deeper _).room;let C:SK.Ctx:=⟨tab,[],h,aB h,[]⟩
   have a0: ∀x i,loc C x=some i->(aB h)[i]? =some x/\Loc h x/\x∈aB h:=λx i e=>by
    obtain⟨e1,L⟩:=lB e;refine⟨fP e1,?_,lA e1⟩;rcases L with L|L|L
    ·exact .inl L
    ·exact .inr L
    ·exact absurd rfl (S.nofree _ (eG L))
   have O:StOk X0 ad C:=by
    refine⟨⟨rfl,S.nd,λx i e=>?_,λx e=>e,λx g e=>?_,λx i e=>?_,rfl,?_,Y.hd,B.exc,B.kin,B.kve,λj m F' e=>by cases e⟩,λ_=>rfl,rfl,λx i e=>(a0 x i e).2.1,B.exm,B.exi⟩
    ·obtain⟨a,b,c⟩:=a0 x i e;exact⟨a,b.elim .inl λz=>.inr (.inl z),(nm x c).1,(nm x c).2⟩
    ·obtain⟨a,b⟩:=TB x g e;refine⟨a,?_⟩
     cases g with
     |fn j m F'=>
      obtain⟨r',f',h1,h2,h3,h4,h5⟩:=b;exact⟨r',f',⟨h2,h3,h4⟩,Y.mono h1,h5⟩
     |exc c=>exact b
     |verr=>exact b
     |val d=>exact b
     |tbl bl=>exact b
     |py p=>exact b
     |cls A ms=>exact⟨b.1,b.2.1,λm n M hm=>let ⟨no,f,r,fd,ps,h1,h2,h3,h4⟩:=b.2.2 m n M hm;⟨no,f,r,fd,ps,h2,h3,Y.mono h1,h4⟩⟩
    ·obtain⟨e1,L⟩:=eF e;rcases L with L|L
     ·exact .inl L
     ·exact absurd rfl (S.nofree _ (eG L))
    ·exact Nat.lt_of_le_of_lt (Nat.add_le_add_left (by decide:62<=64) _) Y.units
   have OQ:QOk X ad C:=Je O (Nat.lt_of_le_of_lt (Nat.add_le_add_left (by decide:62<=64) _) Y.units)
   obtain⟨G,N,hG,rr,be,hq⟩:=ar
   have a2:wpAny (model P w) X.A (execs b X.env) (SP X [] {nx:=λ_ T=>Q .non T,rt:=Q}) X.xe s1:=by
    refine(Jh OQ (Z:=λ_=>True) 100).2 b g hg [] s1 _ H _ I ⟨G,G,N.map Slot.sh++aj ((aB h).length-N.length) .no,λ_ _ _=>False,?_,⟨λσ cb H s e s' _ hc=>?_,trivial⟩,?_⟩
    ·have:=iK (X:=X) (ad:=ad) (n:=(aB h).length-N.length) hG rr
     unfold L2.start;rw[rr.length];exact this
    ·obtain⟨_,_,_,_,_,_,_,_,_,_,_,_,_,_,_,_,z⟩:=hc;exact z.elim
    ·have l:RK K ad G H (Ji (match g (N.map Slot.sh++aj ((aB h).length-N.length) .no)with
      |.rt (.ok d)=>.ok d
      |.rt (.ow xs)=>.ow xs
      |.rt _=>.bad
      |.nx _=>.ok .non
      |.ex c _=>.ex c
      |_=>.bad)) Q (λc T=>E (.ref (ad.cls c)) none T):=hq
     cases e:g (N.map Slot.sh++aj ((aB h).length-N.length) .no)with
     |nx ρ=>rw[e]at l;exact λσ G' T S'=>l .non G' T S'.st (by unfold Rep;rfl)
     |bk ρ=>rw[e]at l;exact l.elim
     |ct ρ=>rw[e]at l;exact l.elim
     |ex c ρ=>rw[e]at l;exact l.elim
     |rt r'=>
      rw[e]at l
      cases r' with
      |ok d=>exact l
      |ow xs=>exact l
      |ex c=>exact l.elim
      |bad=>exact l.elim
   refine wpAny_mono a2 (λfl s' hs=>?_) λe s' hs=>hs
   have a1: ∀{ab:St} {T:Hp} {v:V} {u:Value},Inv X [] ab T s'->bG v u->Q v T->CE t P w H s Q u s':=
    λ{ab T v u} J rv q=>⟨v,T,J.os,J.bare,J.base,J.hok,rv,q⟩
   cases fl with
   |ret u=>
    obtain⟨v,ab,T,J,rv,q⟩:=hs;exact a1 J rv q
   |next=>
    obtain⟨ab,T,J,q⟩:=hs;exact a1 (v:=V.non) (u:=Value.none) J rfl q
   |brk=>
    obtain⟨_,_,_,q⟩:=hs;exact az q
   |cont=>
    obtain⟨_,_,_,q⟩:=hs;exact az q
  ·rw[if_neg hs]at al;cases al
 |_=>cases hd
end
abbrev Pl:=ce
structure TD(Δ:Pl->Prop)(L pl:Pl):Prop where
 tb:Δ L
 dj: ∀p∈L, ∀r∈pl,p.1≠r.1
def SPL(X:Cx)(Δ:Pl->Prop)(cb:Pl)(D:Ends)(f:Flow)(s':Shared):Prop:= ∃L,TD Δ L (X.pn++cb)/\SP X (L++cb) D f s'
def LPS(X:Cx)(Δ:Pl->Prop)(st:Stmt)(t:TS):Prop:=
 ∀(cb L:Pl) (s:Shared) (σ:St) (H:Hp) (D:Ends),TD Δ L (X.pn++cb)->Inv X (L++cb) σ H s->t D σ H->wpAny (model X.prog X.w) X.A (exec st X.env) (SPL X Δ cb D) X.xe s
def rL(X:Cx)(Δ:Pl->Prop)(st:List Stmt)(t:TS):Prop:=
 ∀(cb L:Pl) (s:Shared) (σ:St) (H:Hp) (D:Ends),TD Δ L (X.pn++cb)->Inv X (L++cb) σ H s->t D σ H->wpAny (model X.prog X.w) X.A (execs st X.env) (SPL X Δ cb D) X.xe s
def EPL(X:Cx)(Δ:Pl->Prop)(cb:Pl)(σ:St)(Q:VK)(u:Value)(s':Shared):Prop:= ∃L,TD Δ L (X.pn++cb)/\EP X (L++cb) σ Q u s'
def LPE(X:Cx)(Δ:Pl->Prop)(e:Expr)(t:TE):Prop:=
 ∀(cb L:Pl) (s:Shared) (σ:St) (H:Hp) (Q:VK),TD Δ L (X.pn++cb)->Inv X (L++cb) σ H s->t σ H Q->wpAny (model X.prog X.w) X.A (eval e X.env) (EPL X Δ cb σ Q) X.xe s
def TPL(X:Cx)(Δ:Pl->Prop)(cb:ce)(σ:St)(Q:Bool->Hp->Prop)(b:Bool)(s':Shared):Prop:=
 ∃L,TD Δ L (X.pn++cb)/\TP X (L++cb) σ Q b s'
def LPW(X:Cx)(Δ:Pl->Prop)(e:Expr)(t:TT):Prop:=
 ∀(whole:Sem Value) (cb L:Pl) (s:Shared) (σ:St) (H:Hp) (Q:Bool->Hp->Prop),TD Δ L (X.pn++cb)->Inv X (L++cb) σ H s->t σ H Q->
  wpAny (model X.prog X.w) X.A (isTrue e X.env whole) (TPL X Δ cb σ Q) X.xe s
def LPT(X:Cx)(Δ:Pl->Prop)(e:Expr)(t:TT):Prop:=
 ∀(cb L:Pl) (s:Shared) (σ:St) (H:Hp) (Q:Bool->Hp->Prop),TD Δ L (X.pn++cb)->Inv X (L++cb) σ H s->t σ H Q->
  wpAny (model X.prog X.w) X.A (isTrue e X.env (eval e X.env)) (TPL X Δ cb σ Q) X.xe s
section
variable{tA tB:TT}{st:Stmt}{dZ:List Stmt}
theorem LPS.imp(a:LPS X Δ st t)(k: ∀D σ H,t' D σ H->t D σ H):LPS X Δ st t':=λb L s σ H D T I w=>a b L s σ H D T I (k D σ H w)
theorem rL.imp(a:rL X Δ dZ t)(k: ∀D σ H,t' D σ H->t D σ H):rL X Δ dZ t':=λb L s σ H D T I w=>a b L s σ H D T I (k D σ H w)
theorem Jj(a:PS X st t):LPS X Δ st t:=λe L s b H D T I w=>L2.thn (a _ s b H D I w) λf d c=>⟨L,T,c⟩
theorem oC(a:PSs X dZ t):rL X Δ dZ t:=λe L s b H D T I w=>L2.thn (a _ s b H D I w) λf d c=>⟨L,T,c⟩
theorem iL(h1:LPS X Δ st t)(h2:rL X Δ dZ u):rL X Δ (st::dZ) (L4 t u):=by
 intro e L s i H D T I h;refine wpAny_execs_cons (L2.thn (h1 e L s i H {D with nx:=u D} T I h) λf g a=>?_)
 obtain⟨c,b,a⟩:=a
 cases f with
 |next=>
  obtain⟨d,l,j,a⟩:=a;exact h2 e c g d l D b j a
 |ret v=>exact⟨c,b,a⟩
 |brk=>exact⟨c,b,a⟩
 |cont=>exact⟨c,b,a⟩
theorem Jk(hc:PT X c tc)(ha:rL X Δ a t)(hb:rL X Δ b u):LPS X Δ (.If c a b pos) (KM tc t u):=by
 intro i L s f H D T I h;refine wpAny_If (L2.thn (hc _ s f H _ I h) λd l e=>?_)
 obtain⟨j,g,q1⟩:=e
 cases d with
 |true=>exact ha i L l f j D T g q1
 |false=>exact hb i L l f j D T g q1
theorem Fo{iter tg:Expr}(hp:PassesOwn (model X.prog X.w) X.A X.env X.xe)(hc:X.calm=true)(hi:PI X tg iter wi)(hg:PG X tg gg)(hb:rL X Δ body tb)(hs: ∀x,foldedSetIterable iter X.env x=pure x):LPS X Δ (.For tg iter body [] pos) (MD wi gg tb):=by
 intro t L s σ H D T0 I h;refine wpAny_For (L2.thn (hi _ s σ H _ I h) λv s1 h1=>L2.thn h1 λan s2 h2=>?_) hs
 obtain⟨it,j,tn,J,H2,e,I2,T,st2,f2,W,⟨m0,w0⟩,ab⟩:=h2;subst e
 have q: ∀{H':Hp} {L':Pl},(∀b∈j,H' b=none)->(∀b∈j, ∀p∈L',p.1≠b)->∀b∈j,oY X (L'++t) H' b:=λ{H' L'} hn hd b hb=>by
  obtain⟨_,a1,a2,a3,a4,a5⟩:=f2 b hb;refine⟨hn b hb,a1,a2,a3,a4,λp hp=>?_⟩
  rcases List.mem_append.mp hp with z|z
  ·exact a5 p (List.mem_append_left _ z)
  ·rcases List.mem_append.mp z with z|z
   ·exact hd b hb p z
   ·exact a5 p (bq _ (bq _ z))
 have d0: ∀b∈j, ∀p∈L,p.1≠b:=λb hb p hp=>(f2 b hb).2.2.2.2.2 p (bq _ (List.mem_append_left _ hp))
 refine codeAny_forLoop_any (λn s'=>∃i σ' H' L',TD Δ L' (X.pn++t)/\(∀b∈j, ∀p∈L',p.1≠b)/\Inv X (L'++t) σ' H' s'/\tn i s'.heap/\(∀b∈j,H' b=none)/\W i n σ' H') ?_ m0 ⟨0,σ,H2,L,T0,d0,I2,st2,λb hb=>(f2 b hb).1,w0⟩
 rintro n s3 ⟨i,y,H3,L3,T3,d3,I3,Y,Z,w3⟩;rcases ab i n y H3 w3 with ⟨ad,qn⟩|⟨go,N,hN,step⟩
 ·refine wpAny_passesOwn hp (L2.thn (T.done X rfl rfl rfl hc i _ s3 y H3 X.xe I3 (q Z d3) Y ad) λr s4 g=>?_)
  obtain⟨G,I4⟩:=g;subst G;exact wpAny_execs_nil ⟨L3,T3,y,H3,I4,qn⟩
 ·refine wpAny_passesOwn hp (L2.thn (T.item X rfl rfl rfl hc i _ s3 y H3 X.xe I3 (q Z d3) Y go) λr s4 g=>?_)
  obtain⟨u,G,h4⟩:=g;subst G;refine wpAny_passesOwn hp (L2.thn h4 λ_ O g=>?_)
  obtain⟨x,H5,I5,r5,y5,E,al⟩:=g;have am:=I5.pinned (q al d3) (T.obj _ _ E);refine wpAny_passesOwn hp (L2.thn (hg _ O y H5 x u _ am r5 (step x H5 y5)) λ_ s6 g=>?_)
  obtain⟨ak,H6,I6,q6⟩:=g;rw[List.append_assoc]at I6
  have T6:TD Δ L3 (X.pn++(t++iA j O.heap)):=⟨T3.tb,λp hp r G=>by
   rw[<-List.append_assoc]at G;rcases List.mem_append.mp G with z|z
   ·exact T3.dj p hp r z
   ·exact d3 _ (pB z).1 p hp⟩
  refine wpAny_passesOwn hp (L2.thn (hb _ L3 s6 ak H6 _ T6 I6 q6) λf Q C=>?_)
  obtain⟨M,T7,C⟩:=C;have K:TD Δ M (X.pn++t):=⟨T7.tb,λp hp r G=>T7.dj p hp r (by rw[<-List.append_assoc];exact List.mem_append_left _ G)⟩
  have un: ∀{a:St} {c:Hp},Inv X (M++(t++iA j O.heap)) a c Q->Inv X (M++t) a c Q:=λ{a c} l=>by
   rw[<-List.append_assoc]at l;exact l.unpinned
  have B: ∀{a:St} {c:Hp},Inv X (M++(t++iA j O.heap)) a c Q->N a c->∃m,m<n/\∃i σ' H' L',TD Δ L' (X.pn++t)/\(∀b∈j, ∀p∈L',p.1≠b)/\Inv X (L'++t) σ' H' Q/\tn i Q.heap/\(∀b∈j,H' b=none)/\W i m σ' H':=λ{a c} l S=>by
   obtain⟨m',hm,w7⟩:=hN a c S
   have U: ∀b∈j, ∀o,O.heap.get? b=some o->(b,o)∈t++iA j O.heap:=λb hb o e=>bq _ (iU hb e)
   have pin: ∀b∈j, ∀o,O.heap.get? b=some o->Q.heap.get? b=some o/\c b=none:=λb hb o e=>by
    have:=l.pin (b,o) (bq _ (bq _ (U b hb o e)))
    exact⟨this.1,this.2.1⟩
   refine⟨m',hm,i+1,a,c,M,K,λb hb p hp=>?_,un l,T.keep _ _ _ E λb hb o e=>(pin b hb o e).1,λb hb=>?_,w7⟩
   ·obtain⟨o,e,d⟩:=T.obj _ _ E b hb;exact T7.dj p hp (b,o) (bq _ (U b hb o e))
   ·obtain⟨o,e,d⟩:=T.obj _ _ E b hb;exact(pin b hb o e).2
  cases f with
  |next=>obtain⟨a,c,l,S⟩:=C;exact B l S
  |cont=>obtain⟨a,c,l,S⟩:=C;exact B l S
  |brk=>obtain⟨a,c,l,C⟩:=C;exact⟨M,K,a,c,un l,C⟩
  |ret v=>obtain⟨x7,a,c,l,r7,C⟩:=C;exact⟨M,K,x7,a,c,un l,r7,C⟩
theorem zM(he:LPE X Δ e te):LPS X Δ (.Return (some e) pos) λD σ H=>te σ H D.rt:=by
 intro c L s σ H D T I h;exact wpAny_Return_some (L2.thn (he c L s σ H D.rt T I h) λu i ⟨g,a,v,d,b,f,q⟩=>⟨g,a,v,σ,d,b,f,q⟩)
theorem Ds(h:PE X e te):LPE X Δ e te:=λd L s a H Q T I w=>L2.thn (h _ s a H Q I w) λu c b=>⟨L,T,b⟩
theorem LPW.pt(h:LPW X Δ e tc):LPT X Δ e tc:=h _
theorem Jl(h:PT X e tc):LPT X Δ e tc:=λf L s a H Q T I w=>L2.thn (h _ s a H Q I w) λb d c=>⟨L,T,c⟩
theorem Fp(ha:LPT X Δ a tA):LPW X Δ (.BoolOp .Or [a] pos) tA:=by
 intro g d L s b H Q T I h;refine isTrue_or (L2.thn (ha d L s b H Q T I h) λc f e=>?_)
 cases c with
 |false=>exact isTrue_or_nil e
 |true=>exact e
theorem Jm(ha:LPT X Δ a tA)(hb:LPW X Δ (.BoolOp .Or (b::r) pos) tB):LPW X Δ (.BoolOp .Or (a::b::r) pos) (tOr tA tB):=by
 intro n i L s g H Q T I h;refine isTrue_or (L2.thn (ha i L s g H _ T I h) λc m d=>?_)
 obtain⟨l,e,j,f,q1⟩:=d
 cases c with
 |true=>exact⟨l,e,j,f,q1⟩
 |false=>exact hb n i l m g j Q e f q1
theorem Fr(hc:LPT X Δ c tc)(ha:rL X Δ sa t)(hb:rL X Δ sb u):LPS X Δ (.If c sa sb pos) (KM tc t u):=by
 intro e L s b H D T I h;refine wpAny_If (L2.thn (hc e L s b H _ T I h) λd g a=>?_)
 obtain⟨l,f,j,i,q1⟩:=a
 cases d with
 |true=>exact ha e l g b j D f i q1
 |false=>exact hb e l g b j D f i q1
def Two(Δ₁ Δ₂:Pl->Prop)(L:Pl):Prop:= ∃M1 M2,L=M1++M2/\Δ₁ M1/\TD Δ₂ M2 M1
theorem LPE.fst(h:LPE X Δ e te):LPE X (Two Δ Δ') e te:=by
 intro d L s m H Q T I w;obtain⟨M1,M2,rfl,l,j⟩:=T.tb;rw[List.append_assoc]at I
 have f: ∀r∈X.pn++(M2++d),r∈M2\/r∈X.pn++d:=λr a=>by
  rcases List.mem_append.mp a with z|z
  ·exact .inr (List.mem_append_left _ z)
  ·exact(List.mem_append.mp z).imp id (bq _)
 refine L2.thn (h (M2++d) M1 s m H Q ⟨l,λp b r a=>(f r a).elim (λz=>(j.dj r z p b).symm) (T.dj p (List.mem_append_left _ b) r)⟩ I w) λu n i=>?_
 obtain⟨g,c,i⟩:=i;refine⟨g++M2,⟨⟨g,M2,rfl,c.tb,j.tb,λp b r a=>(c.dj r a p (bq _ (List.mem_append_left _ b))).symm⟩,λp b r a=>?_⟩,by rwa [List.append_assoc]⟩
 rcases List.mem_append.mp b with z|z
 ·exact c.dj p z r ((List.mem_append.mp a).elim (List.mem_append_left _) λy=>bq _ (bq _ y))
 ·exact T.dj p (bq _ z) r a
theorem LPE.snd(h:LPE X Δ e te):LPE X (Two Δ' Δ) e te:=by
 intro g L s f H Q T I w;obtain⟨M1,M2,rfl,j,i⟩:=T.tb;have l:Inv X (M2++(M1++g)) f H s:=I.pins_of λp a=>I.pin p (bq _ (by simp only[List.mem_append]at a ⊢;rcases a with z|z|z<;>simp[z]))
 refine L2.thn (h (M1++g) M2 s f H Q ⟨i.tb,λp a r b=>?_⟩ l w) λu t m=>?_
 ·rcases List.mem_append.mp b with z|z
  ·exact T.dj p (bq _ a) r (List.mem_append_left _ z)
  ·rcases List.mem_append.mp z with z|z
   ·exact i.dj p a r z
   ·exact T.dj p (bq _ a) r (bq _ z)
 obtain⟨d,c,v,o,J,q,n⟩:=m;refine⟨M1++d,⟨⟨M1,d,rfl,j,c.tb,λp a r b=>c.dj p a r (bq _ (List.mem_append_left _ b))⟩,λp a r b=>?_⟩,v,o,J.pins_of λp a=>J.pin p (bq _ (by simp only[List.mem_append]at a ⊢;rcases a with (z|z)|z<;>simp[z])),q,n⟩
 rcases List.mem_append.mp a with z|z
 ·exact T.dj p (List.mem_append_left _ z) r b
 ·exact c.dj p z r ((List.mem_append.mp b).elim (List.mem_append_left _) λy=>bq _ (bq _ y))
end
abbrev Mn:=Hp->Hp->VK->(Nat->Hp->Prop)->Prop
def exR(F:Fn)(c:Nat):R:=match F [.exc c]with
 |.ok d=>.ok d
 |.ow xs=>.ow xs
 |_=>.bad
def Fs(P:Program)(w:World)(K:PySem.W.Frag)(mg:Str->Option Value)(base:Heap)(ad:Ad)(k:Nat)(fs:List Addr)(s:Shared)(G H:Hp)(a:Addr)(Φ:Mn):Prop:=
 ∀(A:Around) (outer:List PySem.Env) (s1:Shared) (G1 H1:Hp) (Q:VK) (E:XK),Room k A->Step G H G1 H1->Env0 P w K mg base A outer s1 H1->(∀b o,s.heap.get? b=some o->H b=none->b∉fs->s1.heap.get? b=some o/\H1 b=none)->
  Φ G1 H1 Q (λc H'=>E (.ref (ad.cls c)) none H')->codeAny (model P w) A (.call (.ref a) ⟨[],[]⟩) (CR (CXe P w) outer P w H1 s1 Q E) s1
def tlM(K:PySem.W.Frag)(ad:Ad)(F:Fn)(Φ:Mn)(G H:Hp)(Q:VK):Prop:=
 Φ G H Q λc H'=>xk ad (λc H'=>∃G',Step G H G' H'/\RK K ad G' H' (exR F c) Q λ_ _=>False) (.ref (ad.cls c)) none H'
def cF(F:Fn):RM->RM
 |.pure r=>.pure (oB F r)
 |.chg x r=>.chg x r
theorem Jn{K:PySem.W.Frag}{ad:Ad}{F:Fn}(h:RMK K ad A G H p dx d l1 l2 (cF F m) Q λ_ _=>False):tlM K ad F (λG H Q E=>RMK K ad A G H p dx d l1 l2 m Q E) G H Q:=by
 cases m with
 |chg x r=>exact h
 |pure r=>
  cases r with
  |ok d=>exact h
  |ow e=>exact h
  |bad=>exact h
  |ex c=>exact λb f a=>⟨c,rfl,b,a,RK.step (show RK K ad G H (exR F c) Q λ_ _=>False from h) a⟩
section
variable{K:PySem.W.Frag}{ad:Ad}{kV:Value}{q1:Str}{F:Fn}{args:Args}
theorem zN(lk:K.lookup f=some ⟨oc,od,.func (PySem.W.fnOf name qual params [j7 dn en x cx cp xp ep ap hp' rq np dp rp tp] scope dV kV doc pm an cdv ct),osl⟩)(hcd:PySem.W.codeIn K cdv qual=true)(S:FnScope N [dn] scope)(h0:N[0]? =some dn)(h1:N[1]? =some en)(hdl:scope.names.lookup dn=some .local)(hel:scope.names.lookup en=some .local)(hdd:(dn==("__debug__":Str))=false)(hdk:(dn==("__classdict__":Str))=false)(hed:(en==("__debug__":Str))=false)(hek:(en==("__classdict__":Str))=false)(hmx:mg x=some (.ref fa))(hdx:(x==("__debug__":Str))=false)(hkx:PySem.W.keepIn K (.ref fa)=true)(hfx:FnOkQ P w K mg base (CXe P w) kf fa fd [q1] (vX K ad 1 F))(hbx:d6 K fd [q1] [])(hkf:kf<=k)(hmc:mg cx=some (.ref (ad.cls 0)))(hcb:(cx==("__debug__":Str))=false)(hx: ∀c,exmOne K (.ref (ad.cls c)) (.ref (ad.cls 0))=some true)(hglx: ∀X:Cx,X.env.scope=scope->L2.Gl X x)(hglc: ∀X:Cx,X.env.scope=scope->L2.Gl X cx)(hr:Room (k+1) A)(e0:Env0 P w K mg base A outer s H)(hb:BindsTo s (PySem.W.fnOf name qual params [j7 dn en x cx cp xp ep ap hp' rq np dp rp tp] scope dV kV doc pm an cdv ct) args [(dn,.ref a)])(hfn:PySem.W.FnAt a s.heap)(hdeed:Fs P w K mg base ad k (frs outer) s G H a Φ)(hG:Same G H)(hq:tlM K ad F Φ G H Q):
  codeAny (model P w) A (.call (.ref f) args) (CR (CXe P w) outer P w H s Q E) s:=by
 have KX:K.In s.heap:=e0.mod.kin.keeps λb o e=>(e0.bs b o e).1
 have Z:s.heap.NoLimit:=e0.mod.nolimit.keeps λb o e=>(e0.bs b o e).1
 have r: ∀y∈[(dn,Value.ref a)],scope.names.lookup y.1=some .local\/(scope.names.lookup y.1=some .cell/\((cellsFrom (s.heap.objs.size+1) scope.names []).lookup y.1).isSome=true):=λy hy=>by
  rw[List.mem_singleton.mp hy];exact .inl hdl
 refine codeAny_call_function hr.depth (KX _ _ lk) rfl S.co S.gen rfl (PySem.W.codeRec_of KX hcd) (hb _ _ _ _ ?_);refine wpAny_newFunctionEnv_cells S.kind r λenv he z y=>?_
 subst he;refine⟨Z.keeps y.toInCall.keep,codeAny_func ?_⟩;let X:=jW (CXe P w) P w K mg base N qual scope f cdv A outer s H E;have I:Inv X [] (start N [.ref a]) H z:=fY (vs:=[.ref a]) (us:=[.ref a]) (ps:=[dn]) S hr.hd e0 rfl (.cons rfl .nil) y;have hk:=y.toInCall.keep;let p:Ends:={nx:=λ_ j=>Q .non j,rt:=Q}
 have O:wpAny (model P w) X.A (execs [j7 dn en x cx cp xp ep ap hp' rq np dp rp tp] X.env) (SP X [] p) X.xe z:=by
  let hd:ExceptHandler:=.ExceptHandler (some (.Name cx cp)) (some en) [.Return (some (.Call (.Name x xp) [.Name en ep] [] ap)) rq] hp';have I':Inv (tX X [] p hd) [] (start N [.ref a]) H z:=Lj I;refine wpAny_execs_cons (L2.thn (Q:=SP X [] p) (wpAny_Try_except ?_) λL s2 l=>?_)
  ·show wpAny (model P w) (tX X [] p hd).A (execs _ (tX X [] p hd).env) _ (tX X [] p hd).xe z;refine wpAny_execs_cons (wpAny_Return_some (wpAny_Call_Name_kw ?_));obtain⟨m5,ak,Y⟩:=I.loc;obtain⟨u5,r5,l5⟩:=Y 0 dn (.ref a) h0 rfl (.inl hdl)
   cases (show u5=Value.ref a from r5)
   have ab:m5 dn=some (.ref a):=by
    have hk:X.env.kindOf dn=some .local:=hdl
    rcases l5 with ⟨_,e⟩|⟨k,_⟩
    ·exact e
    ·rcases k with k|k<;>(rw[hk]at k;cases k)
   refine wpAny_Name (wpAny_loadName_local I.ok.kind hdl ak ab ?_) hdd
   have T:PySem.W.FnAt a z.heap:=by
    obtain⟨oc,od,fd,sl,e⟩:=hfn;exact⟨oc,od,fd,sl,hk _ _ e⟩
   refine PySem.W.callWith_F0 T (wpAny_call ?_);refine codeAny_mono (hdeed (tX X [] p hd).A (tX X [] p hd).stack z G H Q (xk ad λc j=>∃C,Step G H C j/\RK K ad C j (exR F c) Q λ_ _=>False) (hr.deeper _) (Step.refl hG) I'.env0 (λb o e n _=>⟨hk b o e,n⟩) hq) λam s2 g=>?_
   ·cases am with
    |error e=>
     obtain⟨t,cls,a0,j,B,rfl,ho,al,as,un,hok,ne,c8,c9,c,rfl,C,st,ar⟩:=g;have st2:Step C j (upd C t (C2 (ad.cls c) t)) (upd j t (C2 (ad.cls c) t)):=Step.new st.gh ne;refine wB (X:=X) (i:=1) (kf:=kf) (fa:=fa) (F:=F) (fd:=fd) (q1:=q1) ⟨rfl,rfl,rfl⟩ S.nd h1 hel hek (hglx X rfl) hmx hdx hkx hfx hbx (λv=>⟨?_,?_⟩) (hglc X rfl) hmc hcb hed (hx c) I ho al as un hok ne c8 c9 ⟨upd C t (C2 (ad.cls c) t),(st.trans st2).gh,?_,?_⟩
     ·have:=(hr.deeper X.env).dp
      show X.A.depth+3*kf+5<_
      have e:X.A=A.deeper X.env:=rfl
      rw[e]
      lia
     ·have:=(hr.deeper X.env).un
      show X.A.units+16*kf+200<_
      have e:X.A=A.deeper X.env:=rfl
      rw[e]
      lia
     ·unfold Rep;exact⟨t,rfl,aH⟩
     ·have h:RK K ad _ _ (match F [.exc c]with|.ok d=>.ok d|.ow xs=>.ow xs|_=>.bad) Q λ_ _=>False:=RK.step ar st2
      cases e:F [.exc c]with
      |ok d=>rw[e]at h;exact h
      |ow xs=>rw[e]at h;exact h
      |ex c'=>rw[e]at h;exact h.elim
      |bad=>rw[e]at h;exact h.elim
    |ok L=>
     cases L with
     |next=>exact az g
     |brk=>exact az g
     |cont=>exact az g
     |ret u=>
      obtain⟨v,j,J,U,q⟩:=Inv.after I' g;exact⟨v,_,j,ID J,U,q⟩
  ·cases L with
   |next=>exact wpAny_execs_nil l
   |brk=>exact l
   |cont=>exact l
   |ret u=>exact l
 refine wpAny_mono O (λL s' l=>?_) λe s' l=>l
 have M: ∀{m:St} {j:Hp} {v:V} {u:Value},Inv X [] m j s'->bG v u->Q v j->CE outer P w H s Q u s':=
  λ{m j v u} J U q=>⟨v,j,J.os,J.bare,J.base,J.hok,U,q⟩
 cases L with
 |ret u=>
  obtain⟨v,m,j,J,U,q⟩:=l;exact M J U q
 |next=>
  obtain⟨m,j,J,q⟩:=l;exact M (v:=V.non) (u:=Value.none) J rfl q
 |brk=>
  obtain⟨_,_,_,q⟩:=l;exact az q
 |cont=>
  obtain⟨_,_,_,q⟩:=l;exact az q
end
def TbL(P:Addr)(q:Str)(L:Pl):Prop:= ∃ps cs,L=(P,PySem.W.tabObj ps)::cs/\Tb P q ps cs
def qN:Option SK.Slot->Option SK.Slot
 |some (.sh d)=>some (.sh d)
 |some (.rk C r)=>some (.rk C r)
 |_=>none
def B4(cs:List Nat)(ρ:Rho):Option (List SK.Slot):=dY (λi=>qN ρ[i]?) cs
theorem SL.cons0{K:PySem.W.Frag}{ad:Ad}(h:SL K ad G H ρ σ)(h0:SLi K ad G H s ov):SL K ad G H (s::ρ) (ov::σ):=
 ⟨by simp[h.len],λi a e=>by
  cases i with
  |zero=>cases e;exact⟨ov,rfl,h0⟩
  |succ i=>exact h.at_ i a e⟩
theorem uZ{K:PySem.W.Frag}{ad:Ad}{G H:Hp}{ρ:Rho}{σ:St}(hS:SL K ad G H ρ σ): ∀{cs:List Nat} {sl:List SK.Slot},B4 cs ρ=some sl->
  ∃vs:List V,vs.length=cs.length/\SL K ad G H sl (vs.map some)/\∀(i j:Nat) (v:V),cs[i]? =some j->vs[i]? =some v->σ[j]? =some (some v)
 |[],sl,h=>by
  cases h;exact⟨[],rfl,⟨rfl,λi s e=>by cases e⟩,λi j v h=>by cases h⟩
 |c::cs,sl,h=>by
  unfold B4 dY at h
  cases e:ρ[c]? with
  |none=>rw[e]at h;cases h
  |some a=>
   rw[e]at h
   have b: ∀(v:V),qN (some a)=some a->σ[c]? =some (some v)->SLi K ad G H a (some v)->(dY (λi=>qN ρ[i]?) cs).map (a:: ·)=some sl->∃vs:List V,vs.length=(c::cs).length/\SL K ad G H sl (vs.map some)/\∀(i j:Nat) (v:V),(c::cs)[i]? =some j->vs[i]? =some v->σ[j]? =some (some v):=λv _ f x h=>by
    obtain⟨r,z,B⟩:=zMd h;subst B;obtain⟨vs,l,A,y⟩:=uZ hS (cs:=cs) (sl:=r) z;refine⟨v::vs,by simp[l],A.cons0 x,λi j w o n=>?_⟩
    cases i with
    |zero=>cases o;cases n;exact f
    |succ i=>exact y i j w o n
   cases a with
   |sh d=>
    obtain⟨v,f,g⟩:=hS.sh e;exact b v rfl f ⟨v,rfl,g⟩ h
   |rk C r=>
    obtain⟨p,u,d,q,t,f,g⟩:=hS.rk e;exact b (.ref p) rfl f ⟨p,u,d,q,t,rfl,g⟩ h
   |no=>cases h
   |ow m=>cases h
   |dc m=>cases h
   |sd m=>cases h
def lJ(P:Program)(w:World)(K:PySem.W.Frag)(mg:Str->Option Value)(base:Heap)(ad:Ad)(k:Nat)(f:Addr)(fd:FuncData)(dn:Str)(F:Fn):Prop:=
 ∀(A:Around) (outer:List PySem.Env) (s:Shared) (G H:Hp) (a:Addr) (Φ:Mn) (Q:VK) (E:XK) (args:Args),Room (k+1) A->Env0 P w K mg base A outer s H->BindsTo s fd args [(dn,.ref a)]->PySem.W.FnAt a s.heap->H a=none->a∉frs outer->Fs P w K mg base ad k (frs outer) s G H a Φ->Same G H->
  tlM K ad F Φ G H Q->codeAny (model P w) A (.call (.ref f) args) (CR (CXe P w) outer P w H s Q E) s
section
variable{σ:St}{lp:Pos}{ad:Ad}{F:Fn}{tb:Cx->TE}
theorem B5(hfn: ∀x,X.fn x=true)(hg:L2.Gl X tn)(hm:X.mg tn=some (.ref ft))(hdb:(tn==("__debug__":Str))=false)(hk:PySem.W.keepIn X.K (.ref ft)=true)(hT:lJ X.prog X.w X.K X.mg X.base ad k.succ ft fd dn F)(hr:Room (k+2) X.A)(hb: ∀(s:Shared) (u:Value),X.K.In s.heap->BindsTo s fd ⟨[u],[]⟩ [(dn,u)])(hx:P∈X.ex)(hpar:defaultsOf params X.env=([],[]))(hq:X.env.qual++"<lambda>"=q)(hfree: ∀x,(x,NameKind.free)∈sc.names->X.env.kindOf x=some .cell\/X.env.kindOf x=some .free)(hcode:X.env.code= .ref c)(hC:PySem.W.CodeHd s.heap c P)(hB:s.heap.BuiltinsAt X.mg P)(S:LamSc (aX sc) sc)(hbind: ∀cl pm cd ct,bindArgs (PySem.W.kla_fn "<lambda>" q params body sc cl pm cd ct) ⟨[],[]⟩=pure [])(hcl:cap.length=(aX sc).length)(hcap: ∀(i:Nat) (x:Str),(aX sc)[i]? =some x->∃j,cap[i]? =some j/\X.N[j]? =some x/\(X.env.kindOf x=some .cell\/X.env.kindOf x=some .free))(hbody: ∀a cd cl A outer s H E,Room k (A.deeper (Dq q sc s.heap.objs.size a cd cl))->PE (cxL (CXe X.prog X.w) X.prog X.w X.K X.mg X.base (aX sc) q sc a cd cl A outer s H E) body (tb (cxL (CXe X.prog X.w) X.prog X.w X.K X.mg X.base (aX sc) q sc a cd cl A outer s H E)))(T:TD (TbL P q) L (X.pn++cb))(I:Inv X (L++cb) σ H s)(hG:Same G H)(hS:SL X.K ad G H ρ σ)(hcd:B4 cap ρ=some ds)(htb: ∀(Y:Cx) (vs:List V) (G1 H1:Hp) (Q1:VK) (E1:XK),Y.K=X.K->DefX Y E1->Same G1 H1->Step G H G1 H1->SL X.K ad G1 H1 ds (vs.map some)->(∀(i j:Nat) (v:V),cap[i]? =some j->vs[i]? =some v->σ[j]? =some (some v))->Φ G1 H1 Q1 (λc H'=>E1 (.ref (ad.cls c)) none H')->tb Y (vs.map some) H1 Q1)(hrk:tlM X.K ad F Φ G H Q):
  wpAny (model X.prog X.w) X.A (eval (.Call (.Name tn p) [.Lambda params body sc lp] [] cp) X.env) (EPL X (TbL P q) cb σ Q) X.xe s:=by
 obtain⟨ps,cs,rfl,tb⟩:=T.tb;refine wpAny_Call_Name_kw (fI I hg hm ?_ hdb);refine PySem.W.callWith_K (h₀:=X.base) I.ok.mod.kin hk ?_ rfl rfl;refine Calls.spliced_cons (zH I tb hx (λp Z=>(T.dj _ (.head _) p Z).symm) hpar hq hfree hcode hC hB λa ap an cv bm s' n T' bl new g O ab a2 bp=>Calls.spliced_nil ⟨n.kIn,?_⟩)
 obtain⟨vs,a5,be,ar⟩:=uZ hS hcd
 have a0:TD (TbL P q) ((P,PySem.W.tabObj ap)::an) (X.pn++cb):=⟨⟨ap,an,rfl,T'⟩,λp Z r hr=>by
  rcases au.mp Z with z|Z
  ·rw[z];exact T.dj (P,PySem.W.tabObj ps) (.head _) r hr
  ·rcases new p Z with z|z
   ·exact T.dj p (.tail _ z) r hr
   ·have a4:r∈X.pn++((P,PySem.W.tabObj ps)::cs++cb):=by
     rcases List.mem_append.mp hr with y|y
     ·exact List.mem_append_left _ y
     ·exact bq _ (bq _ y)
    exact Nat.ne_of_gt (bf (ag (I.pin r a4).1) z)⟩
 have f: ∀x d,(kX X.env.cells sc.names []).lookup x=some d->(x,NameKind.free)∈sc.names/\X.env.cells.lookup x=some d:=λx d e=>by
  rcases j0 e with ⟨k,U,h2,h3⟩|h
  ·subst h2;refine⟨U,?_⟩;obtain⟨c',as⟩:=I.ok.has x (hfree x U);rw[as]at h3;rw[h3];exact as
  ·cases h
 have M: ∀x,sc.names.lookup x=some .free->∃d,(kX X.env.cells sc.names []).lookup x=some d:=λx e=>Option.isSome_iff_exists.mp (j4 (cells:=X.env.cells) (acc:=[]) (PySem.mem_of_lookup e))
 have t: ∀b,b≠X.env.locals->b∉X.fs->b∉frs X.stack:=λb n1 n2 z=>by
  rcases I.ok.stk with e|⟨e,e2⟩
  ·rw[e]at z;exact n2 z
  ·rw[e]at z;unfold frs at z;rw[List.filterMap_cons,e2]at z;rcases au.mp z with y|y
   ·exact n1 y
   ·exact n2 y
 have al:Fs X.prog X.w X.K X.mg X.base ad k.succ (frs X.stack) s' G H a Φ:=by
  intro A outer s1 G1 H1 Q1 E1 hR st1 e0 B a7
  have ak: ∀x d,X.env.cells.lookup x=some d->d∉frs X.stack:=λx d J=>by
   refine t d (λz=>?_) (λz=>?_)
   ·obtain⟨v,o,C,l⟩:=n.cell x d J;obtain⟨m,⟨o2,es,ep,e3,a3,_⟩,_⟩:=n.loc;rw[z,e3]at C;cases C;rw[a3]at l;cases l
   ·exact absurd (I.ok.cab x d (hfn x) J) (Nat.not_le.mpr (let ⟨o,C⟩:=(I.ok.funs.mem z).2;ag C.1))
  have Tx:DefX (cxL (CXe X.prog X.w) X.prog X.w X.K X.mg X.base (aX sc) q sc a cv (kX X.env.cells sc.names []) A outer s1 H1 E1) E1:=⟨rfl,rfl,rfl,λe s' h=>h⟩
  obtain⟨c',rfl,bb,a1,a6⟩:=a2;refine Fl (vs:=vs) S (B _ _ O (I.hok.fresh g) (t a (Nat.ne_of_gt (bf I.lt g)) (I.nofs g))).1 (ab.at λo e=>(B _ _ e bb (t c' a1 a6)).1) (hbind _ _ _ _) hR e0 (λx y d U h2=>I.ok.inj x y d (f x d U).2 (f y d h2).2) M (λx d h=>?_) (by rw[a5,hcl]) (λi x v U h2 h3=>?_) ⟨_,hbody a _ _ A outer s1 H1 E1 (hR.deeper _),htb _ vs G1 H1 Q1 E1 rfl Tx st1.gh st1 (be.step st1) ar a7⟩
  ·obtain⟨v,o,C,J⟩:=n.cell x d (f x d h).2;have kk:=B _ _ C (n.freeC x d (f x d h).2) (ak x d (f x d h).2);exact⟨⟨v,o,kk.1,J⟩,kk.2⟩
  ·obtain⟨j,e1,e2,e3⟩:=hcap i x U;have e4:=ar i j v e1 h2;obtain⟨m,hn,hl⟩:=n.loc;obtain⟨u,ru,lu⟩:=hl j x v e2 e4 (by rcases e3 with z|z<;>first|exact .inr (.inl z)|exact .inr (.inr z))
   rcases lu with ⟨z,_⟩|⟨_,d,J,o,C,am⟩
   ·rcases e3 with y|y<;>(rw[z]at y;cases y)
   ·obtain⟨d',l⟩:=M x h3
    have:=(f x d' l).2
    rw[J]at this;cases this;exact⟨u,d,ru,l,o,(B _ _ C (n.freeC x d J) (ak x d J)).1,am⟩
 refine wpAny_call (codeAny_mono (hT X.A X.stack s' G H a _ Q (λ_ _ _=>False) ⟨[.ref a],[]⟩ hr n.env0 (hb s' _ n.kIn) ⟨_,_,_,_,O⟩ (I.hok.fresh g) (t a (Nat.ne_of_gt (bf I.lt g)) (I.nofs g)) al hG hrk) λr s2 hq=>?_)
 cases r with
 |error e=>obtain⟨_,_,_,_,_,_,_,_,_,_,_,_,_,_,z⟩:=hq;exact z.elim
 |ok fl=>
  cases fl with
  |ret u=>exact⟨_,a0,n.after hq⟩
  |next=>exact az hq
  |brk=>exact az hq
  |cont=>exact az hq
end
inductive OutM where
 |nx (ρ:Rho) (b:Bool)|rt (x:R) (ρ:Rho) (b:Bool)|ex (c:Nat) (b:Bool)|bad
abbrev FSM:=Rho->Bool->OutM
def u6(b:Bool)(r:R)(k:D->OutM):OutM:=match r with
 |.ok d=>k d
 |.ow xs=>k (.lst xs)
 |.ex c=>.ex c b
 |.bad=>.bad
def eC:FSM:=λρ b=>.nx ρ b
def cW(g h:FSM):FSM:=λρ b=>match g ρ b with
 |.nx ρ' b'=>h ρ' b'
 |o=>o
def mIf(f:F)(g h:FSM):FSM:=λρ b=>match f ρ with
 |.ok (.bl k)=>if k then g ρ b else h ρ b
 |.ex c=>.ex c b
 |_=>.bad
def B6(i:Nat)(f:F):FSM:=λρ b=>u6 b (f ρ) λd=>.nx (ρ.set (i+1) (.sh d)) b
def qO(f:F):FSM:=λρ b=>u6 b (f ρ) λ_=>.nx ρ b
def qP(f:F):FSM:=λρ b=>match f ρ with
 |.ex c=>.ex c b
 |x=>.rt x ρ b
def qQ(c:Nat):FSM:=λ_ b=>.ex c b
def StB(b:Bool)(foot:List Addr)(G₀ H₀ G H:Hp):Prop:=if b=true then StepR foot G₀ H₀ G H else Step G₀ H₀ G H
theorem StepR.step(a:StepR foot G₀ H₀ G H)(t:Step G H G1 H1)(fr: ∀b,H₀ b≠none->H b≠none):StepR foot G₀ H₀ G1 H1:=
 ⟨a.sg.trans t.sg,t.gh,λb o c e=>t.sh _ _ (a.sh b o c e),λb d f=>by
  cases q:G b with
  |none=>
   have:=t.nw b q f
   cases z:H₀ b with
   |none=>rfl
   |some o=>exact absurd this (fr b (by rw[z];exact λy=>nomatch y))
  |some o=>exact a.nw b d (by rw[q];exact λz=>nomatch z),λb c=>by
  cases q:H b with
  |none=>exact absurd q (fr b c)
  |some o=>rw[t.sh b o q];exact λz=>nomatch z⟩
theorem Step.toR(a:Step G₀ H₀ G H):StepR foot G₀ H₀ G H:=⟨a.sg,a.gh,λb o _ e=>a.sh b o e,a.nw,λb c=>by
 cases q:H₀ b with
 |none=>exact absurd q c
 |some o=>rw[a.sh b o q];exact λz=>nomatch z⟩
def shN:Slot->Bool
 |.no=>true
 |.sh _=>true
 |_=>false
structure SM(X:Cx)(ad:Ad)(A:Nat)(G₀:Hp)(p dx d l1 l20:Addr)(b:Bool)(G H:Hp)(ρ:Rho)(σ:St):Prop where
 sl:SL X.K ad G H ρ σ
 gh:Same G H
 me:σ[0]? =some (some (.ref p))
 rk: ∃r l2,ρ[0]? =some (.rk A r)/\RackIn X.K ad A G H p r dx d l1 l2/\(l2=l20\/X.H₀ l2=none)
 st:StB b [p,dx,d,l1,l20] G₀ X.H₀ G H
 fr: ∀c,X.H₀ c≠none->H c≠none
 on: ∀j sl,ρ[j+1]? =some sl->shN sl=true
def OKm(X:Cx)(ad:Ad)(A:Nat)(G₀:Hp)(p dx d l1 l20:Addr)(o:OutM)(D':Ends)(E:Nat->Hp->Prop):Prop:=match o with
 |.nx ρ b=>∀σ G H,SM X ad A G₀ p dx d l1 l20 b G H ρ σ->D'.nx σ H
 |.rt (.ok x) ρ b=>∀σ G H v,SM X ad A G₀ p dx d l1 l20 b G H ρ σ->Rep X.K ad G x v->D'.rt v H
 |.rt (.ow xs) _ b=>b=false/\∀q vs G H,Step G₀ X.H₀ G H->X.H₀ q=none->G q=none->H q=some (.lst vs)->aJ X.K ad G xs vs->D'.rt (.ref q) H
 |.ex c b=>b=false/\∀G H,Step G₀ X.H₀ G H->E c H
 |_=>False
def tM(X:Cx)(ad:Ad)(A:Nat)(E:Nat->Hp->Prop)(g:FSM):TS:=λD' σ H=>∃G₀ p dx d l1 l20 G ρ b,SM X ad A G₀ p dx d l1 l20 b G H ρ σ/\OKm X ad A G₀ p dx d l1 l20 (g ρ b) D' E
abbrev MM(X:Cx)(ad:Ad)(A:Nat)(E:Nat->Hp->Prop)(st:Stmt)(g:FSM):Prop:=PS X st (tM X ad A E g)
abbrev MMs(X:Cx)(ad:Ad)(A:Nat)(E:Nat->Hp->Prop)(sts:List Stmt)(g:FSM):Prop:=PSs X sts (tM X ad A E g)
section
variable{X:Cx}{ad:Ad}{A:Nat}{G₀ G H G1 H1:Hp}{p dx d l1 l20:Addr}{b:Bool}{ρ:Rho}{σ:St}{E:Nat->Hp->Prop}{D':Ends}{f:F}{g h:FSM}{e c:Expr}{st:Stmt}{pos:Pos}
theorem SM.step(S:SM X ad A G₀ p dx d l1 l20 b G H ρ σ)(t:Step G H G1 H1):SM X ad A G₀ p dx d l1 l20 b G1 H1 ρ σ:=by
 obtain⟨r,e,f,i,g⟩:=S.rk;refine⟨S.sl.step t,t.gh,S.me,⟨r,e,f,i.step t,g⟩,?_,λc h=>?_,S.on⟩
 ·have z:=S.st;unfold StB at z ⊢
  by_cases a:b=true
  ·rw[if_pos a]at z ⊢;exact z.step t S.fr
  ·rw[if_neg a]at z ⊢;exact z.trans t
 ·cases q:H c with
  |none=>exact absurd q (S.fr c h)
  |some o=>rw[t.sh c o q];exact λz=>nomatch z
theorem mY{k:D->OutM}{Q':VK}(S:SM X ad A G₀ p dx d l1 l20 b G H ρ σ)(hx:XP X ad σ E)(hr:OKm X ad A G₀ p dx d l1 l20 (u6 b (f ρ) k) D' E)
  (q: ∀v x G1 H1,SM X ad A G₀ p dx d l1 l20 b G1 H1 ρ σ->Rep X.K ad G1 x v->OKm X ad A G₀ p dx d l1 l20 (k x) D' E->Step G H G1 H1->Q' v H1):tE X ad f σ H Q':=by
 refine⟨G,ρ,E,S.gh,S.sl,hx,?_⟩
 cases e:f ρ with
 |ok x=>
  rw[e]at hr;exact λv G1 H1 t r=>q v x G1 H1 (S.step t) r hr t
 |ow o=>
  rw[e]at hr;intro a s G1 H1 t n m l r;obtain⟨i,g,j⟩:=dA (X:=X) (ad:=ad) t n m l r;exact q _ _ i H1 (S.step g) j hr g
 |ex c=>
  rw[e]at hr;obtain⟨h,hr⟩:=hr;have z:=S.st;unfold StB at z;rw[h,if_neg bd]at z;exact λG1 H1 t=>hr G1 H1 (z.trans t)
 |bad=>
  rw[e]at hr;exact hr
theorem Fv:MM X ad A E (.Pass pos) eC:=by
 refine PS.imp wS ?_;rintro i f H ⟨a,p,h,d,g,c,G,j,b,S,e⟩;exact e f G H S
theorem Fw:MMs X ad A E [] eC:=by
 refine PSs.imp kG ?_;rintro i f H ⟨a,p,h,d,g,c,G,j,b,S,e⟩;exact e f G H S
theorem B7(h1:MM X ad A E st g)(h2:MMs X ad A E sts h):MMs X ad A E (st::sts) (cW g h):=by
 refine PSs.imp (jV h1 h2) ?_;rintro v t H ⟨f,p,n,d,m,j,G,o,b,S,a⟩;refine⟨f,p,n,d,m,j,G,o,b,S,?_⟩;unfold cW at a
 cases e:g o b with
 |nx i l=>
  rw[e]at a;exact λr q y s=>⟨f,p,n,d,m,j,q,i,l,s,a⟩
 |rt x i l=>
  rw[e]at a
  cases x with
  |ok x=>exact a
  |ow u=>exact a
  |ex c=>exact a
  |bad=>exact a
 |ex c l=>rw[e]at a;exact a
 |bad=>rw[e]at a;exact a
theorem Lz{a b:List Stmt}(hx: ∀σ,XP X ad σ E)(hc:MT X ad c f)(ha:MMs X ad A E a g)(hb:MMs X ad A E b h):MM X ad A E (.If c a b pos) (mIf f g h):=by
 refine PS.imp (Hr hc ha hb) ?_;rintro y σ H ⟨j,p,s,d,q,n,G,m,b,S,i⟩;unfold mIf at i
 cases e:f m with
 |ok x=>
  rw[e]at i
  cases x<;>try exact i.elim
  rename_i k;refine⟨G,m,E,S.gh,S.sl,hx σ,.inl ⟨k,e⟩,?_⟩;rw[e];intro v o u t r;unfold Rep at r;subst r;refine⟨k,rfl,?_⟩
  have l:OKm X ad A j p s d q n (if k=true then g m b else h m b) y E:=i
  cases k
  ·rw[if_neg bd]at l;show if false=true then _ else _
   rw[if_neg bd];exact⟨j,p,s,d,q,n,o,m,b,S.step t,l⟩
  ·rw[if_pos rfl]at l;show if true=true then _ else _
   rw[if_pos rfl];exact⟨j,p,s,d,q,n,o,m,b,S.step t,l⟩
 |ow B=>rw[e]at i;exact i.elim
 |ex c=>
  rw[e]at i;obtain⟨hb,i⟩:=i;have z:=S.st;unfold StB at z;rw[hb,if_neg bd]at z;refine⟨G,m,E,S.gh,S.sl,hx σ,.inr ⟨c,e⟩,?_⟩;rw[e];exact λo u t=>i o u (z.trans t)
 |bad=>rw[e]at i;exact i.elim
theorem SM.set(S:SM X ad A G₀ p dx d l1 l20 b G H ρ σ)(r:Rep X.K ad G x v):SM X ad A G₀ p dx d l1 l20 b G H (ρ.set (i+1) (.sh x)) (σ.set (i+1) (some v)):=by
 obtain⟨o,c,l,n,f⟩:=S.rk;refine⟨⟨by rw[List.length_set,List.length_set];exact S.sl.len,λj sl e=>?_⟩,S.gh,by rw[ba (by lia)];exact S.me,⟨o,c,by rw[ba (by lia)];exact l,n,f⟩,S.st,S.fr,λj sl e=>?_⟩
 ·by_cases z:j=i+1
  ·subst z;have a:i+1<ρ.length:=by have:=(ax.mp e).1;rwa [List.length_set]at this
   rw[bh a]at e;cases e;exact⟨some v,bh (by rw[<-S.sl.len];exact a),v,rfl,r⟩
  ·rw[ba (Ne.symm z)]at e;obtain⟨g,h,m⟩:=S.sl.at_ j sl e;exact⟨g,by rw[ba (Ne.symm z)];exact h,m⟩
 ·by_cases z:j=i
  ·subst z;have a:j+1<ρ.length:=by have:=(ax.mp e).1;rwa [List.length_set]at this
   rw[bh a]at e;cases e;rfl
  ·rw[ba (by lia)]at e
   exact S.on j sl e
theorem Fx(hx: ∀σ,XP X ad σ E)(he:ME X ad e f)(hs:swapsWith e none pos.line X.env=pure false):MM X ad A E (.Expr e pos) (qO f):=by
 refine PS.imp (nE he hs) ?_;rintro o σ H ⟨a,p,m,d,l,h,G,n,b,S,c⟩;exact mY S (hx σ) c λv x g j i r k _=>k _ g j i
theorem Jo(hx: ∀σ,XP X ad σ E)(he:ME X ad e f):MM X ad A E (.Return (some e) pos) (qP f):=by
 refine PS.imp (wT he) ?_;rintro I σ H ⟨j,p,B,d,y,o,G,l,b,S,a⟩;refine⟨G,l,E,S.gh,S.sl,hx σ,?_⟩;unfold qP at a
 cases e:f l with
 |ok x=>
  rw[e]at a;exact λv g h t r=>a σ g h v (S.step t) r
 |ow C=>
  rw[e]at a;obtain⟨i,a⟩:=a;have z:=S.st;unfold StB at z;rw[i,if_neg bd]at z;exact λq u g h t n m s r=>a q u g h (z.trans t) (z.sh.free n) m s r
 |ex c=>
  rw[e]at a;obtain⟨i,a⟩:=a;have z:=S.st;unfold StB at z;rw[i,if_neg bd]at z;exact λg h t=>a g h (z.trans t)
 |bad=>
  rw[e]at a;exact a
theorem B8{E₀:XK}{x:Str}{k:Nat}{np cpos kp:Pos}{msg:Str}{j:Nat}(T:DefX X E₀)(hc:X.calm=true)(hg:L2.Gl X x)(hm:X.mg x=some (.ref (ad.cls k)))(hd:(x==("__debug__":Str))=false)(hi:excIn X.K (ad.cls k) [.type "ValueError",.type "Exception",.type "BaseException",.type "object"] "ValueError.__new__"=true)(hE: ∀c H,E c H->E₀ (.ref (ad.cls c)) none H):
  MM X ad A E (.Raise (some (.Call (.Name x np) [.Constant (.str msg) j kp] [] cpos)) none pos) (qQ k):=by
 rintro m s i H o I ⟨e,p,l,d,h,g,G,n,b,S,a⟩;obtain⟨f,a⟩:=a;have z:=S.st;unfold StB at z;rw[f,if_neg bd]at z;exact uN T hc hg hm hd hi I (hE k H (a G H z))
end
noncomputable def fB(kvs:List (Str×D))(x:Str):List (Str×D):=kvs.filter λp=>decide (p.1≠x)
def mUp(A:Nat)(ρ:Rho)(k:Rk->OutM):OutM:=match(ρ[0]? :Option Slot)with
 |some (.rk C r)=>if C=A then k r else .bad
 |_=>.bad
def setR(A:Nat)(ρ:Rho)(r:Rk):OutM:=.nx (ρ.set 0 (.rk A r)) true
noncomputable def Mq(bb:Bool)(r:Rk)(d:D):Rk:=if bb then {r with done:=r.done++[d]} else {r with undone:=r.undone++[d]}
noncomputable def Mr(bb:Bool)(r:Rk):Rk:=if bb then {r with done:=r.done.dropLast} else {r with undone:=r.undone.dropLast}
def Fy(A:Nat)(bb:Bool)(f:F):FSM:=λρ b=>mUp A ρ λr=>u6 b (f ρ) λd=>if(AY bb r).length<LIM then setR A ρ (Mq bb r d)else .bad
def wD(A i:Nat)(bb:Bool):FSM:=λρ _=>mUp A ρ λr=>match(AY bb r).getLast? with
 |some d=>.nx ((ρ.set 0 (.rk A (Mr bb r))).set (i+1) (.sh d)) true
 |none=>.bad
def u7(A:Nat):FSM:=λρ _=>mUp A ρ λr=>setR A ρ {r with undone:=[]}
def Fz(A:Nat)(f g:F):FSM:=λρ b=>u6 b (g ρ) λv=>mUp A ρ λr=>u6 b (f ρ) λk=>match k with
 |.str x=>if r.held.length<LIM then setR A ρ {r with held:=fK r.held x v} else .bad
 |_=>.bad
def FA(A:Nat)(f:F):FSM:=λρ b=>mUp A ρ λr=>u6 b (f ρ) λk=>match k with
 |.str x=>if(bC r.held x).isSome then setR A ρ {r with held:=fB r.held x} else .bad
 |_=>.bad
def KA(b:Bool)(r:RA)(k:List D->OutM):OutM:=match r with
 |.ok ds=>k ds
 |.ex c=>.ex c b
 |.bad=>.bad
section
variable{X:Cx}{ad:Ad}{A:Nat}{G₀:Hp}{p dx d l1 l20:Addr}{ρ:Rho}{σ:St}{E:Nat->Hp->Prop}{D':Ends}{f:F}{e:Expr}{pos ap cp np qp:Pos}{x:Str}
theorem mZ{k:Rk->OutM}(hr:OKm X ad A G₀ p dx d l1 l20 (mUp A ρ k) D' E): ∃r,ρ[0]? =some (.rk A r)/\OKm X ad A G₀ p dx d l1 l20 (k r) D' E:=by
 unfold mUp at hr;split at hr
 ·rename_i C r e
  by_cases a:C=A
  ·rw[if_pos a]at hr;subst a;exact⟨r,e,hr⟩
  ·rw[if_neg a]at hr;exact hr.elim
 ·exact hr.elim
theorem SM.toR(S:SM X ad A G₀ p dx d l1 l20 b G H ρ σ):StepR [p,dx,d,l1,l20] G₀ X.H₀ G H:=by
 have z:=S.st;unfold StB at z
 by_cases a:b=true
 ·rw[if_pos a]at z;exact z
 ·rw[if_neg a]at z;exact z.toR
theorem SM.chg(S:SM X ad A G₀ p dx d l1 l20 b G H ρ σ)(hf:a∈[p,dx,d,l1,l20]\/X.H₀ a=none)(ga:G a=none)(hR:RackIn X.K ad A G (upd H a o) p r' dx d l1 l2)(h2:l2=l20\/X.H₀ l2=none):
  SM X ad A G₀ p dx d l1 l20 true G (upd H a o) (ρ.set 0 (.rk A r')) σ:=by
 have h:0<ρ.length:=by
  obtain⟨r,_,n,_⟩:=S.rk;exact(ax.mp n).1
 have gh:Same G (upd H a o):=λc u e=>by
  have g:c≠a:=λz=>by rw[z,ga]at e;cases e
  rw[aC g];exact S.gh c u e
 refine⟨⟨by rw[List.length_set];exact S.sl.len,λj sl e=>?_⟩,gh,S.me,⟨r',l2,bh h,hR,h2⟩,?_,λc f=>?_,λj sl e=>?_⟩
 ·cases j with
  |zero=>
   rw[bh h]at e;cases e;exact⟨_,S.me,p,dx,d,l1,l2,rfl,hR⟩
  |succ j=>
   rw[ba (by lia)]at e
   obtain⟨i,m,s⟩:=S.sl.at_ _ sl e;have l:=S.on j sl e;refine⟨i,m,?_⟩
   cases sl with
   |no=>trivial
   |sh d=>exact s
   |_=>cases l
 ·show StB true _ _ _ _ _;unfold StB;rw[if_pos rfl];have z:=S.toR
  refine⟨z.sg,gh,λc u f e=>?_,z.nw,λc f=>by
   by_cases q:c=a
   ·subst q;rw[aH];exact λz=>nomatch z
   ·rw[aC q];exact S.fr c f⟩
  have g:c≠a:=λq=>by
   subst q;rcases hf with hf|hf
   ·exact f hf
   ·rw[hf]at e;cases e
  rw[aC g];exact z.sh c u f e
 ·by_cases q:c=a
  ·subst q;rw[aH];exact λz=>nomatch z
  ·rw[aC q];exact S.fr c f
 ·rw[ba (by lia)]at e
  exact S.on j sl e
theorem Dt(h2:l2=l20\/X.H₀ l2=none):l2∈[p,dx,d,l1,l20]\/X.H₀ l2=none:=h2.elim (λz=>.inl (by rw[z];simp)) .inr
theorem RackIn.list(bb:Bool)(h:RackIn X.K ad A G H p r dx d l1 l2)(rv:aJ X.K ad G ds vs):RackIn X.K ad A G (upd H (if bb then l1 else l2) (.lst vs)) p (if bb then {r with done:=ds} else {r with undone:=ds}) dx d l1 l2:=by
 obtain⟨a,e,f⟩:=h.held;obtain⟨q,j,n⟩:=h.done;obtain⟨m,g,o⟩:=h.undone
 have i: ∀{l:Addr} {ws:List V},H l=some (.lst ws)->p≠l/\dx≠l/\d≠l:=λ{l ws} hl=>
  ⟨(λz=>by rw[<-z,h.ins]at hl;cases hl),(λz=>by rw[<-z,h.own]at hl;cases hl),(λz=>by rw[<-z,e]at hl;cases hl)⟩
 cases bb
 ·obtain⟨q1,b,c⟩:=i g;exact⟨by show upd H l2 _ _=_;rw[aC q1];exact h.ins,by show upd H l2 _ _=_;rw[aC b];exact h.own,⟨a,by show upd H l2 _ _=_;rw[aC c];exact e,f⟩,⟨q,by show upd H l2 _ _=_;rw[aC h.ne];exact j,n⟩,⟨vs,aH,rv⟩,h.ne,h.gp,h.gx,h.gd,h.g1,h.g2⟩
 ·obtain⟨q1,b,c⟩:=i j;exact⟨by show upd H l1 _ _=_;rw[aC q1];exact h.ins,by show upd H l1 _ _=_;rw[aC b];exact h.own,⟨a,by show upd H l1 _ _=_;rw[aC c];exact e,f⟩,⟨vs,aH,rv⟩,⟨m,by show upd H l1 _ _=_;rw[aC h.ne.symm];exact g,o⟩,h.ne,h.gp,h.gx,h.gd,h.g1,h.g2⟩
theorem Du(bb:Bool)(RC:RkC X.K A)(h:RackIn X.K ad A G H p r dx d l1 l2)(hi:σ[0]? =some (some (.ref p)))(q:Q (.ref (if bb then l1 else l2)) H):Kp X.K (Hf 0) (if bb then "done" else "undone") σ H Q:=by
 cases bb
 ·exact g6 RC h hi (fd:="undone") rfl RC.n3 q
 ·exact g6 RC h hi (fd:="done") rfl RC.n2 q
theorem zO(bb:Bool)(h:RackIn X.K ad A G H p r dx d l1 l2): ∃vs,H (if bb then l1 else l2)=some (.lst vs)/\aJ X.K ad G (AY bb r) vs/\G (if bb then l1 else l2)=none:=by
 cases bb
 ·obtain⟨a,g,f⟩:=h.undone;exact⟨a,g,f,h.g2⟩
 ·obtain⟨e,b,c⟩:=h.done;exact⟨e,b,c,h.g1⟩
theorem Jp(bb:Bool)(hx: ∀σ,XP X ad σ E)(RC:RkC X.K A)(hN:X.N[0]? =some x)(hv:Vis X.env.scope x)(hd:(x==("__debug__":Str))=false)(hcd:(x==("__classdict__":Str))=false)(he:ME X ad e f)(hs:starEach [e] X.env=(false,eval e X.env)::starEach [] X.env)(hl:(ap.endLine==cp.line)=true):
  MM X ad A E (.Expr (.Call (.Attribute (.Attribute (.Name x np) (if bb then "done" else "undone") qp) "append" ap) [e] [] cp) pos) (Fy A bb f):=by
 refine PS.imp (nE (K1 (T:="list") PySem.F.plainAttrs_list PySem.F.slot_list_append PySem.F.type_list_append pM (gW (cM hN hv hd hcd) rfl) (cN he eL hs) rfl (uJ hs) hl hs rfl) rfl) ?_;rintro Y σ H ⟨o,p,u,d,c,i,G,ρ,b,S,g⟩;obtain⟨r,J,g⟩:=mZ g;obtain⟨r1,n,m,h,q⟩:=S.rk;rw[J]at m;cases m;obtain⟨M,L,W,k3⟩:=zO bb h;unfold DU tBM;refine Du bb RC h S.me ?_;refine⟨.inl ⟨rfl,M,SqL.of L⟩,?_⟩;refine mY S (hx σ) g λv y t Z O U k s=>?_
 have a:=h.step s;obtain⟨B,I,l,C⟩:=zO bb a
 by_cases j:(AY bb r).length<LIM
 ·rw[if_pos j]at k;refine⟨_,B,v,rfl,rfl,I,by rw[l.length];exact bf j (by decide),?_⟩
  have Q:(if bb then c else n)∈[p,u,d,c,i]\/X.H₀ (if bb then c else n)=none:=by
   cases bb
   ·exact Dt q
   ·exact .inl (by simp)
  refine k σ t _ (O.chg (r':=Mq bb r y) Q C ?_ q);have z:=a.list bb (l.append (aJ.cons U aJ.nil))
  cases bb<;>exact z
 ·rw[if_neg j]at k;exact k.elim
theorem FD(bb:Bool)(RC:RkC X.K A)(hN:X.N[0]? =some x)(hv:Vis X.env.scope x)(hd:(x==("__debug__":Str))=false)(hcd:(x==("__classdict__":Str))=false)(hl:(ap.endLine==cp.line)=true)(hnd:X.N.Nodup)(hi:X.N[i+1]? =some y)(hlo:Loc X.env.scope y)(hf:X.fn y=true\/X.env.scope.names.lookup y=some .local):
  MM X ad A E (.Assign [.Name y yp] (.Call (.Attribute (.Attribute (.Name x np) (if bb then "done" else "undone") qp) "pop" ap) [] [] cp) pos) (wD A i bb):=by
 refine PS.imp (o8 (i:=i+1) hnd hi hlo (HH (T:="list") PySem.F.plainAttrs_list PySem.F.slot_list_pop PySem.F.type_list_pop HI (gW (cM hN hv hd hcd) rfl) rfl hl) rfl hf) ?_;rintro U M H ⟨n,p,t,d,e,j,G,O,b,S,a⟩;obtain⟨r,B,a⟩:=mZ a;obtain⟨Q,m,o,g,s⟩:=S.rk;rw[B]at o;cases o;obtain⟨l,q,c,L⟩:=zO bb g;unfold CO L9;refine Du bb RC g S.me ?_;refine⟨.inl ⟨rfl,l,SqL.of q⟩,?_⟩
 cases f:(AY bb r).getLast? with
 |none=>rw[f]at a;exact a.elim
 |some u=>
  rw[f]at a
  have h:(AY bb r)[(AY bb r).length-1]? =some u:=by rw[<-List.getLast?_eq_getElem?];exact f
  obtain⟨v,C,J⟩:=c.get h;refine⟨_,l,v,rfl,rfl,q,by rw[c.length];exact C,?_⟩
  have hf:(if bb then e else m)∈[p,t,d,e,j]\/X.H₀ (if bb then e else m)=none:=by
   cases bb
   ·exact Dt s
   ·exact .inl (by simp)
  have I:aJ X.K ad G (AY bb r).dropLast l.dropLast:=by
   rw[List.dropLast_eq_take,List.dropLast_eq_take,c.length];exact c.take _
  refine a _ G _ (SM.set (i:=i) (S.chg (r':=Mr bb r) hf L ?_ s) J);have z:=g.list bb I
  cases bb<;>exact z
end
def i7(A:Nat)(M:FM)(fs:List F):FSM:=λρ b=>mUp A ρ λr=>KA b (args fs ρ) λds=>match M r ds with
 |.pure x=>u6 b x λ_=>.nx ρ b
 |.chg _ r'=>.nx (ρ.set 0 (.rk A r')) true
section
variable{X:Cx}{ad:Ad}{A n:Nat}{G₀ G H G1 H1:Hp}{p dx d l1 l2 l20:Addr}{b:Bool}{ρ:Rho}{σ:St}{E:Nat->Hp->Prop}{D':Ends}{f g:F}{fs:List F}{e k v:Expr}{es:List Expr}{pos ap cp np qp kp lp:Pos}{x m:Str}{r':Rk}{M:FM}
theorem B9(RC:RkC X.K A)(hN:X.N[0]? =some x)(hv:Vis X.env.scope x)(hd:(x==("__debug__":Str))=false)(hcd:(x==("__classdict__":Str))=false):
  MM X ad A E (.Assign [.Attribute (.Name x np) "undone" qp] (.List [] lp) pos) (u7 A):=by
 refine PS.imp (tH (cM hN hv hd hcd) (tJ eL) rfl) ?_;rintro T C H ⟨s,p,i,d,y,J,G,U,b,S,f⟩;obtain⟨r,M,f⟩:=mZ f;obtain⟨W,l2,m,j,Y⟩:=S.rk;rw[M]at m;cases m;refine⟨bt _,λl n=>?_⟩
 have h:Step G H G (upd H l (.lst [])):=Step.own S.gh n;have O:=S.step h;have a:=j.step h
 have L:X.H₀ l=none:=by
  cases q:X.H₀ l with
  |none=>rfl
  |some o=>exact absurd n (S.fr l (by rw[q];exact λz=>nomatch z))
 obtain⟨g,t,B⟩:=a.held;obtain⟨Q,u,I⟩:=a.done
 have el:upd H l (.lst []) l=some (.lst []):=aH
 have e: ∀{c:Addr} {o:HO},upd H l (.lst []) c=some o->(∀fs,o≠ .ins A i fs)->c≠p:=λ{c o} hc ho z=>by
  rw[z,a.ins]at hc;cases hc;exact ho _ rfl
 have v:y≠l:=λz=>by
  obtain⟨w,q1,_⟩:=j.done;rw[z,n]at q1;cases q1
 refine⟨.ref p,S.me,p,A,i,_,rfl,a.ins,RC.cl,RC.n3,by show 3<1000;decide,?_⟩
 refine f C G _ (O.chg (r':={r with undone:=[]}) (l2:=l) (.inl (by simp)) a.gp ?_ (.inr L))
 exact⟨aH,by rw[aC (e a.own λ_ z=>nomatch z)];exact a.own,⟨g,by rw[aC (e t λ_ z=>nomatch z)];exact t,B⟩,⟨Q,by rw[aC (e u λ_ z=>nomatch z)];exact u,I⟩,
  ⟨[],by rw[aC (e el λ_ z=>nomatch z)];exact el,aJ.nil⟩,v,a.gp,a.gx,a.gd,a.g1,S.gh.free n⟩
theorem FE{K:Frag}(h:HR K ad G held kvs)(x:Str):HR K ad G (fB held x) (L2.dropK kvs (Sum.inr x)):=by
 unfold fB L2.dropK
 induction h with
 |nil=>exact .nil
 |@cons p q d e a t c=>
  rw[List.filter_cons,List.filter_cons]
  by_cases z:p.1=x
  ·have b:q.1=(Sum.inr x:L2.Key):=by rw[a.1,z]
   simp only[z,b,ne_eq,not_true_eq_false,decide_false,ay,if_false];exact c
  ·have b: ¬q.1=(Sum.inr x:L2.Key):=λy=>z (by rw[a.1]at y;exact Sum.inr.inj y)
   simp only[z,b,ne_eq,not_false_eq_true,decide_true,if_true];exact .cons a c
theorem RackIn.dict{held:List (Str×D)}(h:RackIn X.K ad A G H p r dx d l1 l2)(rv:HR X.K ad G held kvs):RackIn X.K ad A G (upd H d (.dK kvs)) p {r with held:=held} dx d l1 l2:=by
 obtain⟨b,j,m⟩:=h.held;obtain⟨l,e,g⟩:=h.done;obtain⟨f,a,i⟩:=h.undone
 have ne: ∀{c:Addr} {o:HO},H c=some o->(∀fs,o≠ .dK fs)->c≠d:=λ{c o} hc ho z=>by
  rw[z,j]at hc;cases hc;exact ho _ rfl
 exact⟨by rw[aC (ne h.ins λ_ z=>nomatch z)];exact h.ins,by rw[aC (ne h.own λ_ z=>nomatch z)];exact h.own,⟨kvs,aH,rv⟩,⟨l,by rw[aC (ne e λ_ z=>nomatch z)];exact e,g⟩,
  ⟨f,by rw[aC (ne a λ_ z=>nomatch z)];exact a,i⟩,h.ne,h.gp,h.gx,h.gd,h.g1,h.g2⟩
theorem FF(hu:X.A.units+62<cLine)(hx: ∀σ,XP X ad σ E)(RC:RkC X.K A)(hN:X.N[0]? =some x)(hv:Vis X.env.scope x)(hd:(x==("__debug__":Str))=false)(hcd:(x==("__classdict__":Str))=false)(hk:ME X ad k f)(hw:ME X ad v g)(hs:swapsWith v (some (.Subscript (.Attribute (.Name x np) "held" qp) k kp)) pos.line X.env=pure false):
  MM X ad A E (.Assign [.Subscript (.Attribute (.Name x np) "held" qp) k kp] v pos) (Fz A f g):=by
 refine PS.imp (En (by lia) (gW (cM hN hv hd hcd) rfl) hk hw hs) ?_
 rintro M σ H ⟨e,p,L,d,I,i,G,W,b,S,J⟩;refine mY S (hx σ) J λw y G1 H1 n l a st=>?_
 obtain⟨r,U,a⟩:=mZ a;obtain⟨r1,l2,t,s,Z⟩:=n.rk;rw[U]at t;cases t;refine g6 RC s n.me (fd:="held") rfl RC.n1 ?_;refine mY n (hx σ) a λu z Y H2 O C B st2=>?_
 cases z with
 |str q=>
  unfold Rep at C;subst C;have c:=s.step st2;obtain⟨m,T,o⟩:=c.held
  have Q:m.length=r.held.length:=(Paired.length o).symm
  have h:OKm X ad A e p L d I i (if r.held.length<LIM then setR A W {r with held:=fK r.held q y} else .bad) M E:=B
  by_cases j:r.held.length<LIM
  ·rw[if_pos j]at h;refine⟨d,_,rfl,GW.k (k:=Sum.inr q) T (by rw[Q];exact bf j (by decide)),?_⟩
   exact h σ Y _ (O.chg (.inl (by simp)) c.gd (c.dict (yW o (l.mono st2.sg) q)) Z)
  ·rw[if_neg j]at h;exact h.elim
 |_=>exact B.elim
theorem FG(hx: ∀σ,XP X ad σ E)(RC:RkC X.K A)(hN:X.N[0]? =some x)(hv:Vis X.env.scope x)(hd:(x==("__debug__":Str))=false)(hcd:(x==("__classdict__":Str))=false)(hk:ME X ad k f)(hm:M1 X (.Attribute (.Name x np) "held" qp) "pop" ap k cp):
  MM X ad A E (.Expr (.Call (.Attribute (.Attribute (.Name x np) "held" qp) "pop" ap) [k] [] cp) pos) (FA A f):=by
 refine PS.imp (nE (Bk (gW (cM hN hv hd hcd) rfl) hk hm) rfl) ?_;rintro L σ H ⟨c,p,C,d,B,j,G,T,b,S,h⟩;obtain⟨r,Q,h⟩:=mZ h;obtain⟨r1,Z,o,i,W⟩:=S.rk;rw[Q]at o;cases o;obtain⟨e,I,_⟩:=i.held;unfold DU C4;refine g6 RC i S.me (fd:="held") rfl RC.n1 ⟨d,rfl,.inl ⟨e,.inl I⟩,?_⟩;refine mY S (hx σ) h λu z U Y M y s st2=>?_
 cases z with
 |str q=>
  unfold Rep at y;subst y;have a:=i.step st2;obtain⟨l,O,m⟩:=a.held;have t:=j6 m q
  have g:OKm X ad A c p C d B j (if(bC r.held q).isSome=true then setR A T {r with held:=fB r.held q} else .bad) L E:=s
  cases n:bC r.held q with
  |none=>rw[n]at g;exact g.elim
  |some dd=>
   rw[n]at g t;obtain⟨v,J,_⟩:=t;refine⟨l,Sum.inr q,v,O,rfl,J,?_⟩;exact g σ U _ (M.chg (.inl (by simp)) a.gd (a.dict (FE m q)) W)
 |_=>exact s.elim
theorem FH{k:List D->OutM}{Q':List V->Hp->Prop}(S:SM X ad A G₀ p dx d l1 l20 b G H ρ σ)(hx:XP X ad σ E)(hr:OKm X ad A G₀ p dx d l1 l20 (KA b (args fs ρ) k) D' E)
  (q: ∀vs ds G1 H1,SM X ad A G₀ p dx d l1 l20 b G1 H1 ρ σ->aJ X.K ad G1 ds vs->ds.length=fs.length->OKm X ad A G₀ p dx d l1 l20 (k ds) D' E->Step G H G1 H1->Q' vs H1):tA X ad fs σ H Q':=by
 refine⟨G,ρ,E,S.gh,S.sl,hx,?_⟩
 cases e:args fs ρ with
 |ok ds=>
  rw[e]at hr;exact λvs G1 H1 t r=>q vs ds G1 H1 (S.step t) r (gH e) hr t
 |ex c=>
  rw[e]at hr;obtain⟨a,hr⟩:=hr;have z:=S.st;unfold StB at z;rw[a,if_neg bd]at z;exact λG1 H1 t=>hr G1 H1 (z.trans t)
 |bad=>
  rw[e]at hr;exact hr
theorem SM.call(S:SM X ad A G₀ p dx d l1 l20 b G H ρ σ)(h2:l2=l20\/X.H₀ l2=none)(t:StepR [p,dx,d,l1,l2] G H G1 H1)(hR:RackIn X.K ad A G1 H1 p r' dx d l1 l2')(h3:l2'=l2\/H l2'=none):SM X ad A G₀ p dx d l1 l20 true G1 H1 (ρ.set 0 (.rk A r')) σ:=by
 have g:0<ρ.length:=by
  obtain⟨r,_,x,_⟩:=S.rk;exact(ax.mp x).1
 have f: ∀c,H c=none->X.H₀ c=none:=λc a=>by
  cases q:X.H₀ c with
  |none=>rfl
  |some o=>exact absurd a (S.fr c (by rw[q];exact λz=>nomatch z))
 refine⟨⟨by rw[List.length_set];exact S.sl.len,λj sl e=>?_⟩,t.gh,S.me,⟨r',l2',bh g,hR,?_⟩,?_,λc a=>t.th c (S.fr c a),λj sl e=>?_⟩
 ·cases j with
  |zero=>
   rw[bh g]at e;cases e;exact⟨_,S.me,p,dx,d,l1,l2',rfl,hR⟩
  |succ j=>
   rw[ba (by lia)]at e
   obtain⟨i,s,C⟩:=S.sl.at_ _ sl e;have n:=S.on j sl e;refine⟨i,s,?_⟩
   cases sl with
   |no=>trivial
   |sh d=>
    obtain⟨v,q1,h⟩:=C;exact⟨v,q1,h.mono t.sg⟩
   |_=>cases n
 ·rcases h3 with rfl|h3
  ·exact h2
  ·exact .inr (f _ h3)
 ·show StB true _ _ _ _ _;unfold StB;rw[if_pos rfl];have z:=S.toR;refine⟨z.sg.trans t.sg,t.gh,λc u a e=>t.sh c u (λm=>?_) (z.sh c u a e),λc l B=>?_,λc a=>t.th c (S.fr c a)⟩
  ·simp only[au,List.not_mem_nil,or_false,not_or]at m a;rcases m with m|m|m|m|m
   ·exact a.1 m
   ·exact a.2.1 m
   ·exact a.2.2.1 m
   ·exact a.2.2.2.1 m
   ·rcases h2 with h2|h2
    ·exact a.2.2.2.2 (m.trans h2)
    ·rw[m,h2]at e;cases e
  ·cases q:G c with
   |none=>exact f c (t.nw c q B)
   |some o=>exact z.nw c l (by rw[q];exact λy=>nomatch y)
 ·rw[ba (by lia)]at e
  exact S.on j sl e
theorem Ca(S:SM X ad A G₀ p dx d l1 l20 b G H ρ σ)(h2:l2=l20\/X.H₀ l2=none){R':RM}(hr:OKm X ad A G₀ p dx d l1 l20 (match R' with|.pure x=>u6 b x λ_=>.nx ρ b|.chg _ r'=>.nx (ρ.set 0 (.rk A r')) true) D' E):
  RMK X.K ad A G H p dx d l1 l2 R' (λ_ H1=>D'.nx σ H1) E:=by
 cases R' with
 |pure x=>
  have a:OKm X ad A G₀ p dx d l1 l20 (u6 b x λ_=>.nx ρ b) D' E:=hr
  cases x with
  |ok y=>exact λv e H1 t _=>a σ e H1 (S.step t)
  |ow n=>exact λq o e H1 t _ _ _ _=>a σ e H1 (S.step t)
  |ex c=>
   obtain⟨i,f⟩:=a;have z:=S.st;unfold StB at z;rw[i,if_neg bd]at z;exact λe H1 t=>f e H1 (z.trans t)
  |bad=>exact a.elim
 |chg x r'=>exact λv l m h t j g _=>hr σ l m (S.call h2 t j g)
theorem FI(hx: ∀σ,XP X ad σ E)(RC:RkC X.K A)(M0:MetOk X ad A m n M)(hN:X.N[0]? =some x)(hv:Vis X.env.scope x)(hd:(x==("__debug__":Str))=false)(hcd:(x==("__classdict__":Str))=false)(ha:MA X ad (e::es) fs)(hn:fs.length=n)(hst:starEach (e::es) X.env=(false,eval e X.env)::starEach es X.env)(hpl:(backTo cp (starEach es X.env)).any (·.1)=false)(hfm:methodCallForm ((e::es).length+([]:List Keyword).length) (backTo cp (starEach (e::es) X.env)) (backToKw cp (keywordEach [] X.env))=true)(hln:(ap.endLine==cp.line)=true):
  MM X ad A E (.Expr (.Call (.Attribute (.Name x np) m ap) (e::es) [] cp) pos) (i7 A M fs):=by
 rintro o s σ H T I ⟨U,p,dx,d,Z,ab,G,ρ,b,S,l⟩;obtain⟨r,e0,l⟩:=mZ l;obtain⟨B,l2,Q,L,h2⟩:=S.rk;rw[e0]at Q;cases Q
 have h:wpAny (model X.prog X.w) X.A (eval (.Call (.Attribute (.Name x np) m ap) (e::es) [] cp) X.env) (EP X o σ λ_ a=>T.nx σ a) X.xe s:=by
  obtain⟨fm,k,fd,ps,z,_⟩:=M0.ok;refine PySem.W.methodCall_KW (L2.thn (cM hN hv hd hcd o s σ H (λv a=>v= .ref p/\a=H) I ⟨.ref p,S.me,rfl,rfl⟩) λu O t=>?_) (iI rfl hfm hln)
  obtain⟨v,a,g,B,e1,e2⟩:=t;subst e1;subst e2
  cases (show u=Value.ref p from B)
  refine gF g L.ins RC.cl z (uR M0.no) ?_
  refine PySem.W.callWith_K (first:=[.ref p]) (h₀:=X.base) g.ok.mod.kin z.kp (L2.thn (ha cp o O σ a (λC j=>∃f c,Step G a c j/\aJ X.K ad c f C/\f.length=fs.length/\RMK X.K ad A c j p dx d Z l2 (M r f) (λ_ H3=>T.nx σ H3) E) g
   (FH S (hx σ) l λC f c j S1 J q k i=>⟨f,c,i,J,q,Ca S1 h2 k⟩)) λus s2 ⟨C,j,Y,r2,f,c,i,J,q,k⟩=>⟨Y.kIn,?_⟩) hst hpl
  exact lI M0 Y i.gh (L.step i) r2 J (q.trans hn) (hx σ) k z
 exact wpAny_Expr_any (L2.thn h λv O ⟨y,a,g,B,q1⟩=>⟨σ,a,g,q1⟩) I.quiet rfl
end
structure CA where
 o:Expr
 m:Str
 ap:Pos
 as:List Expr
 cp:Pos
def u8:Expr->Option CA
 |.Call f as kws cp=>if kws.isEmpty then(Bd f).bind λ(o,m,ap)=>if(ap.endLine==cp.line)=true then some ⟨o,m,ap,as,cp⟩ else none else none
 |_=>none
theorem Cb(h:Bd e=some (o,f,q)):e= .Attribute o f q:=by
 cases e<;>first|(cases h;rfl)|(cases h;done)
theorem lK(h:u8 e=some c):e= .Call (.Attribute c.o c.m c.ap) c.as [] c.cp/\(c.ap.endLine==c.cp.line)=true:=by
 cases e<;>try (cases h;done)
 rename_i f as a cp
 have d:(if a.isEmpty then(Bd f).bind λ(o,m,ap)=>if(ap.endLine==cp.line)=true then some (⟨o,m,ap,as,cp⟩:CA)else none else none)=some c:=h
 by_cases hk:a.isEmpty=true
 ·rw[if_pos hk]at d;obtain⟨⟨o,m,ap⟩,i,j⟩:=zBd d
  have b:(if(ap.endLine==cp.line)=true then some (⟨o,m,ap,as,cp⟩:CA)else none)=some c:=j
  by_cases g:(ap.endLine==cp.line)=true
  ·rw[if_pos g]at b;cases b
   cases Cb i
   cases List.isEmpty_iff.mp hk
   exact⟨rfl,g⟩
  ·rw[if_neg g]at b;cases b
 ·rw[if_neg hk]at d;cases d
def Jq:Option Nat->Option Nat
 |some (i+1)=>some i
 |_=>none
theorem Cc(h:Jq o=some i):o=some (i+1):=by
 cases o with
 |none=>cases h
 |some j=>cases j with
  |zero=>cases h
  |succ j=>cases h;rfl
def Dv:Expr->Bool
 |.List es _=>es.isEmpty
 |_=>false
theorem zP(h:Dv e=true): ∃p,e= .List [] p:=by
 cases e<;>try (cases h;done)
 rename_i a p
 cases List.isEmpty_iff.mp (show a.isEmpty=true from h)
 exact⟨p,rfl⟩
def Ms(C:SK.Ctx)(e:Expr):Option Bool:=(u8 e).bind λc=>if c.m="pop"/\c.as.isEmpty=true then(GU C c.o).bind λ(i,bb)=>if i=0 then some bb else none else none
theorem FJ(h:Ms C e=some bb): ∃x np qp ap cp,e= .Call (.Attribute (.Attribute (.Name x np) (if bb then "done" else "undone") qp) "pop" ap) [] [] cp/\(ap.endLine==cp.line)=true/\loc C x=some 0:=by
 have j:=zBd h;clear h;obtain⟨c,d,h⟩:=j;obtain⟨rfl,f⟩:=lK d;clear d;obtain⟨o,m,ap,u,cp⟩:=c
 simp only at h f ⊢
 split at h
 ·rename_i s;obtain⟨rfl,l⟩:=s
  cases List.isEmpty_iff.mp l
  obtain⟨⟨i,n⟩,t,g⟩:=zBd h
  have a:(if i=0 then some n else none)=some bb:=g
  by_cases b:i=0
  ·rw[if_pos b]at a;cases a;subst b;obtain⟨x,p,q,rfl,r⟩:=n9 t;exact⟨x,p,q,ap,cp,rfl,f,r⟩
  ·rw[if_neg b]at a;cases a
 ·cases h
def LA(A:Nat)(C:SK.Ctx)(t e:Expr):Option FSM:=match t with
 |.Name x _=>(Jq (loc C x)).bind λi=>(match Ms C e with
  |some bb=>some (wD A i bb)
  |none=>(bP 50 C e).map λf=>B6 i f)
 |.Attribute o f q=>if atF C "undone" (.Attribute o f q)=some 0/\Dv e=true then some (u7 A)else none
 |.Subscript o k _=>if atF C "held" o=some 0 then(bP 50 C k).bind λf=>(bX e).bind λ(y,py)=>(bP 50 C (.Name y py)).map λg=>Fz A f g else none
 |_=>none
def LB(A:Nat)(ms:List (Str×Nat×FM))(C:SK.Ctx)(e:Expr):Option FSM:=match u8 e with
 |some c=>(match bX c.o with
  |some (x,_)=>if loc C x=some 0 then(ms.lookup c.m).bind λ(n,M)=>if c.as.length<20/\c.as.isEmpty=false then(dY (bP 50 C) c.as).bind λfs=>if fs.length=n then some (i7 A M fs)else none else none else none
  |none=>(match GU C c.o with
   |some (i,bb)=>if i=0/\c.m="append" then(one c.as).bind λa=>(bP 50 C a).map λf=>Fy A bb f else none
   |none=>if atF C "held" c.o=some 0/\c.m="pop" then(one c.as).bind λa=>(bP 50 C a).map λf=>FA A f else none))
 |none=>(match e with
  |.Call f as kws cp=>if kws.isEmpty then(bP 50 C (.Call f as [] cp)).map qO else none
  |_=>none)
def FK(C:SK.Ctx)(x:Option Expr):Option FSM:=x.bind λe=>(match e with
 |.Call f as kws _=>if kws.isEmpty then(bX f).bind λ(x,_)=>(one as).bind λa=>if D9 a then(match loc C x,glo C x with
  |none,some (.exc c)=>some (qQ c)
  |_,_=>none)else none else none
 |_=>none)
def isN{α:Type}:Option α->Bool
 |none=>true
 |some _=>false
mutual
def mS:Nat->Nat->List (Str×Nat×FM)->SK.Ctx->Stmt->Option FSM
 |0,_,_,_,_=>none
 |n+1,A,ms,C,st=>match st with
  |.Pass _=>some eC
  |.If c a b _=>(bP 50 C c).bind λf=>(mSs n A ms C a).bind λg=>(mSs n A ms C b).map λh=>mIf f g h
  |.Return e _=>e.bind λe=>(bP 50 C e).map qP
  |.Raise x c _=>if isN c then FK C x else none
  |.Assign ts e _=>(one ts).bind λt=>LA A C t e
  |.Expr e _=>LB A ms C e
  |_=>none
def mSs:Nat->Nat->List (Str×Nat×FM)->SK.Ctx->List Stmt->Option FSM
 |0,_,_,_,_=>none
 |n+1,A,ms,C,l=>match l with
  |[]=>some eC
  |st::r=>(mS n A ms C st).bind λg=>(mSs n A ms C r).map λh=>cW g h
end
section
variable{X:Cx}{ad:Ad}{A:Nat}{C:SK.Ctx}{E:Nat->Hp->Prop}{E₀:XK}{ms:List (Str×Nat×FM)}{e t:Expr}{g:FSM}
structure MeOk(X:Cx)(ad:Ad)(A:Nat)(ms:List (Str×Nat×FM))(C:SK.Ctx)(E:Nat->Hp->Prop)(E₀:XK):Prop where
 O:StOk X ad C
 T:DefX X E₀
 hx: ∀σ,XP X ad σ E
 hE: ∀c H,E c H->E₀ (.ref (ad.cls c)) none H
 RC:RkC X.K A
 MO: ∀m n M,ms.lookup m=some (n,M)->MetOk X ad A m n M
theorem FL(L:MeOk X ad A ms C E E₀)(h:LA A C t e=some g):MM X ad A E (.Assign [t] e pos) g:=by
 obtain⟨M,kL,kI⟩:=dN (ad:=ad) 50;unfold LA at h;split at h
 ·rename_i y py;have hx:=zBd h;clear h;obtain⟨i,u,h⟩:=hx;have m:=Cc u;have nm:=L.O.nm m;split at h
  ·rename_i Z U;cases h;obtain⟨x,K,J,ap,cp,rfl,hl,s⟩:=FJ U;obtain⟨l,a,c,j⟩:=L.O.cx.vis x 0 s;exact FD Z L.RC l a c j hl L.O.cx.nd nm.1 nm.2.1 nm.2.2
  ·obtain⟨f,B,rfl⟩:=zMd h;refine PS.imp (zE L.O B m) ?_;rintro D' T H ⟨I,p,dx,d,l1,Y,G,ρ,b,S,N⟩;exact mY S (L.hx T) N λv x Q H1 S1 r k _=>k _ Q H1 (S1.set r)
 ·rename_i o f q;split at h
  ·rename_i n;cases h;obtain⟨x,K,J,s,z⟩:=iJ n.1;cases s;obtain⟨lp,rfl⟩:=zP n.2;obtain⟨l,a,c,j⟩:=L.O.cx.vis x 0 z;exact B9 L.RC l a c j
  ·cases h
 ·rename_i o k kp;split at h
  ·rename_i n;obtain⟨x,K,J,rfl,z⟩:=iJ n;obtain⟨l,a,c,j⟩:=L.O.cx.vis x 0 z;have hx:=zBd h;clear h;obtain⟨f,u,h⟩:=hx;have hx:=zBd h;clear h;obtain⟨⟨y,py⟩,B,h⟩:=hx
   cases aW B
   obtain⟨W,h3,rfl⟩:=zMd h;exact FF L.O.cx.un L.hx L.RC l a c j (M X C _ f L.O.cx u).1 (M X C _ W L.O.cx h3).1 rfl
  ·cases h
 ·cases h
theorem FN(L:MeOk X ad A ms C E E₀)(h:LB A ms C e=some g):MM X ad A E (.Expr e pos) g:=by
 obtain⟨v,kL,kI⟩:=dN (ad:=ad) 50;unfold LB at h;split at h
 ·rename_i c K;obtain⟨rfl,u⟩:=lK K;obtain⟨o,m,ap,B,Q⟩:=c
  simp only at h u ⊢
  split at h
  ·rename_i x G Y
   cases aW Y
   split at h
   ·rename_i p;obtain⟨t,l,n,s⟩:=L.O.cx.vis x 0 p;have hx:=zBd h;clear h;obtain⟨⟨T,M⟩,d,h⟩:=hx
    simp only at h
    split at h
    ·rename_i b;have hx:=zBd h;clear h;obtain⟨fs,S,h⟩:=hx;split at h
     ·rename_i I;cases h;obtain⟨W,y⟩:=mB v L.O.cx S
      cases B with
      |nil=>exact absurd b.2 (by simp)
      |cons a r=>exact FI L.hx L.RC (L.MO m T M d) t l n s W I (aL (y a (.head _))) (gK λe U=>y e (.tail _ U)) (oA y b.1) u
     ·cases h
    ·cases h
   ·cases h
  ·split at h
   ·rename_i i J z;split at h
    ·rename_i j;obtain⟨rfl,rfl⟩:=j;have hx:=zBd h;clear h;obtain⟨a,q,h⟩:=hx
     cases cE q
     obtain⟨f,d,rfl⟩:=zMd h;obtain⟨x,G,Z,rfl,p⟩:=n9 z;obtain⟨t,l,n,s⟩:=L.O.cx.vis x 0 p;exact Jp J L.hx L.RC t l n s (v X C _ f L.O.cx d).1 (aL (aM d).1) u
    ·cases h
   ·split at h
    ·rename_i j;obtain⟨z,rfl⟩:=j;have hx:=zBd h;clear h;obtain⟨a,q,h⟩:=hx
     cases cE q
     obtain⟨f,d,rfl⟩:=zMd h;obtain⟨x,G,Z,rfl,p⟩:=iJ z;obtain⟨t,l,n,s⟩:=L.O.cx.vis x 0 p;refine FG L.hx L.RC t l n s (v X C _ f L.O.cx d).1 ⟨rfl,?_,u,?_⟩
     ·rw[aL (aM d).1];rfl
     ·rw[aL (aM d).1];rfl
    ·cases h
 ·split at h
  ·rename_i f B H Q;split at h
   ·rename_i hk
    cases List.isEmpty_iff.mp hk
    obtain⟨N,q,rfl⟩:=zMd h;exact Fx L.hx (v X C _ N L.O.cx q).1 rfl
   ·cases h
  ·cases h
theorem Cd(L:MeOk X ad A ms C E E₀)(h:FK C x=some g):MM X ad A E (.Raise x none pos) g:=by
 unfold FK at h;have b:=zBd h;clear h;obtain⟨e,rfl,h⟩:=b;split at h
 ·rename_i v s n z;split at h
  ·rename_i f
   cases eJ f
   have b:=zBd h;clear h;obtain⟨⟨x,p⟩,o,h⟩:=b
   cases aW o
   have b:=zBd h;clear h;obtain⟨a,i,h⟩:=b
   cases cE i
   split at h
   ·rename_i d;obtain⟨B,u,y,rfl⟩:=uW d;split at h
    ·rename_i c t m;cases h;obtain⟨l,q,j,r⟩:=L.O.cx.gl m;exact B8 L.T L.O.cx.calm l j q (L.O.exi c) L.hE
    ·cases h
   ·cases h
  ·cases h
 ·cases h
theorem Dw(L:MeOk X ad A ms C E E₀): ∀n:Nat,(∀st g,mS n A ms C st=some g->MM X ad A E st g)/\∀l g,mSs n A ms C l=some g->MMs X ad A E l g
 |0=>⟨(λ_ _ h=>by cases h),(λ_ _ h=>by cases h)⟩
 |n+1=>by
  obtain⟨r,a⟩:=Dw L n;obtain⟨m,s,u⟩:=dN (ad:=ad) 50;refine⟨λst g h=>?_,λl g h=>?_⟩
  ·unfold mS at h;split at h
   ·cases h;exact Fv
   ·obtain⟨f,b,h⟩:=zBd h;obtain⟨i,j,h⟩:=zBd h;obtain⟨d,o,rfl⟩:=zMd h;exact Lz L.hx (m X C _ f L.O.cx b).2.1 (a _ i j) (a _ d o)
   ·have hx:=zBd h;clear h;obtain⟨e,rfl,h⟩:=hx;obtain⟨f,b,rfl⟩:=zMd h;exact Jo L.hx (m X C _ f L.O.cx b).1
   ·rename_i x c p;split at h
    ·rename_i q
     cases c with
     |some _=>cases q
     |none=>exact Cd L h
    ·cases h
   ·have hx:=zBd h;clear h;obtain⟨t,b,h⟩:=hx
    cases cE b
    exact FL L h
   ·exact FN L h
   ·cases h
  ·unfold mSs at h;split at h
   ·cases h;exact Fw
   ·obtain⟨i,b,h⟩:=zBd h;obtain⟨d,j,rfl⟩:=zMd h;exact B7 (r _ i b) (a _ d j)
end
def Ce(A:Nat)(ρ:Rho)(x:D):RM:=match(ρ[0]? :Option Slot)with
 |some (.rk C r)=>if C=A then .chg x r else .pure .bad
 |_=>.pure .bad
def fC(A:Nat):OutM->RM
 |.rt (.ok x) ρ b=>if b then Ce A ρ x else .pure (.ok x)
 |.rt (.ow xs) _ b=>if b then .pure .bad else .pure (.ow xs)
 |.rt _ _ _=>.pure .bad
 |.nx ρ b=>if b then Ce A ρ .non else .pure (.ok .non)
 |.ex c b=>if b then .pure .bad else .pure (.ex c)
 |.bad=>.pure .bad
def gR(A N:Nat)(g:FSM):FM:=λr ds=>fC A (g (.rk A r::(ds.map Slot.sh++aj (N-(ds.length+1)) .no)) false)
def Jr(tab:List (Str×SK.Gl))(A:Nat)(ms:List (Str×Nat×FM))(st:Stmt):Option (Nat×FM):=match st with
 |.FunctionDef _ as b _ _ _ sc _ _ _=>(eN as).bind λps=>if bU (aB sc) ps sc then(mSs 100 A ms ⟨tab,[],sc,aB sc,[]⟩ b).map λg=>(ps.length-1,gR A (aB sc).length g)else none
 |_=>none
theorem SL.cons{K:Frag}{ad:Ad}{G H:Hp}{ρ:Rho}{σ:St}{s:Slot}{ov:Option V}(h:SL K ad G H ρ σ)(h0:SLi K ad G H s ov):SL K ad G H (s::ρ) (ov::σ):=
 ⟨by simp[h.len],λi a e=>by
  cases i with
  |zero=>cases e;exact⟨ov,rfl,h0⟩
  |succ i=>exact h.at_ i a e⟩
section
variable{K:Frag}{ad:Ad}{tab:List (Str×SK.Gl)}
theorem Dx{st:Stmt}{A n:Nat}{ms:List (Str×Nat×FM)}(B:ExcK K ad)(TB:d8 P w K mg base ad k tab)(RC:RkC K A)(MO: ∀m n M,ms.lookup m=some (n,M)->(m≠"held"/\m≠"done"/\m≠"undone")/\∃f r fd ps,r<=k/\Meth K A m f/\FnOk P w K mg base (CXe P w) r f fd ps (spM K ad A n M)/\d6 K fd ps [])(Fu:Fun K x qual st f fd)(hps:eN (defArgs st)=some (self::ps))(hd:Jr tab A ms st=some (n,M)):FnOk P w K mg base (CXe P w) (k+1) f fd (self::ps) (spM K ad A n M):=by
 obtain⟨oc,od,kV,a6,pm,an,a1,ct,a7,rfl,lk,a0⟩:=Fu.ex
 cases st with
 |FunctionDef nm as b dl re tp o ts bi a4=>
  have ap:((eN as).bind λps=>if bU (aB o) ps o then(mSs 100 A ms ⟨tab,[],o,aB o,[]⟩ b).map λg=>(ps.length-1,gR A (aB o).length g)else none)=some (n,M):=hd
  have ar:eN as=some (self::ps):=hps
  rw[ar]at ap
  have J:(if bU (aB o) (self::ps) o then(mSs 100 A ms ⟨tab,[],o,aB o,[]⟩ b).map λg=>((self::ps).length-1,gR A (aB o).length g)else none)=some (n,M):=ap
  by_cases hs:bU (aB o) (self::ps) o=true
  ·rw[if_pos hs]at J;obtain⟨g,hg,e⟩:=zMd J;cases e;obtain⟨S,nm⟩:=cR hs;refine D1 lk a0 S (λvs H Q E Z=>?_) λA' ab s H vs Q E hr Z=>?_
   ·obtain⟨G,p,r,dx,d,W,U,u,ws,rfl,_,_,rq,hl,_⟩:=Z
    have:=rq.length
    simp at hl ⊢
    lia
   obtain⟨G,p,r,dx,d,W,U,u,ws,rfl,hG,hR,rq,hl,N⟩:=Z;let C:SK.Ctx:=⟨tab,[],o,aB o,[]⟩
   have al: ∀x i,loc C x=some i->(aB o)[i]? =some x/\Loc o x/\x∈aB o:=λx i e=>by
    obtain⟨e1,t⟩:=lB e;refine⟨fP e1,?_,lA e1⟩;rcases t with t|t|t
    ·exact .inl t
    ·exact .inr t
    ·exact absurd rfl (S.nofree _ (eG t))
   let X:=jW (CXe P w) P w K mg base (aB o) qual o f a1 A' ab s H E
   have O:StOk X ad C:=by
    refine⟨⟨rfl,S.nd,λx i e=>?_,λx e=>e,λx g e=>?_,λx i e=>?_,rfl,?_,hr.hd,B.exc,B.kin,B.kve,λj m F' e=>by cases e⟩,λ_=>rfl,rfl,λx i e=>(al x i e).2.1,B.exm,B.exi⟩
    ·obtain⟨a,b,c⟩:=al x i e;exact⟨a,b.elim .inl λz=>.inr (.inl z),(nm x c).1,(nm x c).2⟩
    ·obtain⟨a,b⟩:=TB x g e;refine⟨a,?_⟩
     cases g with
     |fn j m F'=>
      obtain⟨r',f',h1,h2,h3,h4,h5⟩:=b;exact⟨r',f',⟨h2,h3,h4⟩,hr.mono h1,h5⟩
     |exc c=>exact b
     |verr=>exact b
     |val d=>exact b
     |tbl a5=>exact b
     |py p=>exact b
     |cls A ms=>exact⟨b.1,b.2.1,λm n M hm=>let ⟨no,f,r,fd,ps,h1,h2,h3,h4⟩:=b.2.2 m n M hm;⟨no,f,r,fd,ps,h2,h3,hr.mono h1,h4⟩⟩
    ·obtain⟨e1,t⟩:=eF e;rcases t with t|t
     ·exact .inl t
     ·exact absurd rfl (S.nofree _ (eG t))
    ·exact Nat.lt_of_le_of_lt (Nat.add_le_add_left (by decide:62<=64) _) hr.units
   have T:DefX X E:=⟨rfl,rfl,rfl,λe s' h=>h⟩
   have L:MeOk X ad A ms C (λc q=>E (.ref (ad.cls c)) none q) E:=⟨O,T,λσ=>yN T,λc H h=>h,RC,λm n M hm=>let ⟨no,f,r,fd,ps,h1,h2,h3,h4⟩:=MO m n M hm;⟨no,f,r,fd,ps,h2,h3,hr.mono h1,h4⟩⟩
   refine⟨_,(Dw L 100).2 b g hg,?_⟩;have S0:=iK (X:=X) (ad:=ad) (n:=(aB o).length-(u.length+1)) hG rq
   have a2:L2.start (aB o) (V.ref p::ws)=some (V.ref p)::(ws.map some++aj ((aB o).length-(u.length+1)) none):=by
    unfold L2.start;rw[bo,rq.length];rfl
   refine⟨G,p,dx,d,W,U,G,.rk A r::(u.map Slot.sh++aj ((aB o).length-(u.length+1)) .no),false,?_,?_⟩
   ·rw[a2];refine⟨S0.sl.cons ⟨p,dx,d,W,U,rfl,hR⟩,hG,rfl,⟨r,U,rfl,hR,.inl rfl⟩,?_,λc hc=>hc,λj sl e=>?_⟩
    ·unfold StB;rw[if_neg bd];exact Step.refl hG
    ·have e':(u.map Slot.sh++aj ((aB o).length-(u.length+1)) Slot.no)[j]? =some sl:=e
     have m:=List.mem_of_getElem? e';rcases List.mem_append.mp m with m|m
     ·obtain⟨d',_,rfl⟩:=aq.mp m;rfl
     ·rw[(List.mem_replicate.mp m).2];rfl
   ·have l:RMK K ad A G H p dx d W U (fC A (g (.rk A r::(u.map Slot.sh++aj ((aB o).length-(u.length+1)) .no)) false)) Q (λc q=>E (.ref (ad.cls c)) none q):=N
    have am: ∀(ρ:Rho) (b:Bool) (y:D),RMK K ad A G H p dx d W U (if b then Ce A ρ y else .pure (.ok y)) Q (λc q=>E (.ref (ad.cls c)) none q)->∀σ I q v,SM X ad A G p dx d W U b I q ρ σ->Rep K ad I y v->Q v q:=λρ b y N σ I q v Y rv=>by
     cases b
     ·rw[if_neg bd]at N;have z:=Y.st;unfold StB at z;rw[if_neg bd]at z;exact N v I q z rv
     ·rw[if_pos rfl]at N;obtain⟨r1,a3,f1,f2,f3⟩:=Y.rk;unfold Ce at N;rw[f1]at N
      have ak:RMK K ad A G H p dx d W U (if A=A then .chg y r1 else .pure .bad) Q (λc q=>E (.ref (ad.cls c)) none q):=N
      rw[if_pos rfl]at ak;exact ak v I q a3 Y.toR f2 f3 rv
    cases e:g (.rk A r::(u.map Slot.sh++aj ((aB o).length-(u.length+1)) .no)) false with
    |nx ρ b=>rw[e]at l;exact λσ I q Y=>am ρ b .non l σ I q .non Y (by unfold Rep;rfl)
    |rt y ρ b=>
     rw[e]at l
     cases y with
     |ok y=>exact λσ I q v Y rv=>am ρ b y l σ I q v Y rv
     |ow xs=>
      cases b
      ·exact⟨rfl,l⟩
      ·exact l.elim
     |ex c=>exact l.elim
     |bad=>exact l.elim
    |ex c b=>
     rw[e]at l;cases b
     ·exact⟨rfl,l⟩
     ·exact l.elim
    |bad=>rw[e]at l;exact l.elim
  ·rw[if_neg hs]at J;cases J
 |_=>cases hd
end
def qR(ρ:Rho)(A i:Nat)(M:FM)(fs:List F)(k:D->Rho->Out):Out:=match(ρ[i]? :Option Slot)with
 |some (.rk C r)=>if C=A then(match args fs ρ with
  |.ok ds=>(match M r ds with
   |.pure x=>fS ρ x λd=>k d ρ
   |.chg x r'=>k x (ρ.set i (.rk A r')))
  |.ex c=>.ex c ρ
  |.bad=>.rt .bad)else .rt .bad
 |_=>.rt .bad
section
variable{X:Cx}{ad:Ad}{σ:St}{G₀ G H G1 H1:Hp}{ρ:Rho}{A i:Nat}{r r':Rk}{p0 dx d l1 l2 l2':Addr}
theorem RackIn.stepR{K:Frag}{r:Rk}{qx qd q1 q2:Addr}(h:RackIn K ad C G H q r qx qd q1 q2)(t:StepR foot G H G1 H1)(dis: ∀a∈[q,qx,qd,q1,q2],a∉foot):RackIn K ad C G1 H1 q r qx qd q1 q2:=by
 obtain⟨d,f,n⟩:=h.held;obtain⟨p,i,l⟩:=h.done;obtain⟨j,e,m⟩:=h.undone
 have c: ∀{b:Addr} {o:HO},G b=none->H b=some o->G1 b=none:=λ{b o} g hb=>by
  cases z:G1 b with
  |none=>rfl
  |some u=>
   have:=t.nw b g (by rw[z];exact λy=>nomatch y)
   rw[hb]at this;cases this
 exact⟨t.sh _ _ (dis _ (by simp)) h.ins,t.sh _ _ (dis _ (by simp)) h.own,⟨d,t.sh _ _ (dis _ (by simp)) f,n.mono t.sg⟩,⟨p,t.sh _ _ (dis _ (by simp)) i,l.mono t.sg⟩,⟨j,t.sh _ _ (dis _ (by simp)) e,m.mono t.sg⟩,h.ne,
  c h.gp h.ins,c h.gx h.own,c h.gd f,c h.g1 i,c h.g2 e⟩
theorem SS.updR(S:SS X ad G₀ G H ρ σ)(e:ρ[i]? =some (.rk A r))(h1:σ[i]? =some (some (.ref p0)))(hR:RackIn X.K ad A G H p0 r dx d l1 l2)(t:StepR [p0,dx,d,l1,l2] G H G1 H1)(hR':RackIn X.K ad A G1 H1 p0 r' dx d l1 l2')(h3:l2'=l2\/H l2'=none):
  SS X ad G₀ G1 H1 (ρ.set i (.rk A r')) σ:=by
 have hl:i<ρ.length:=(ax.mp e).1;have Z:gJ H ρ σ i [p0,dx,d,l1,l2]:=⟨A,r,p0,dx,d,l1,l2,e,h1,hR.ins,rfl⟩;have f0:=S.rs.h0 i _ Z;have L:=S.rs.ow i _ Z;have a2:=Z.at S.sl
 have I: ∀c,H c=none->X.H₀ c=none:=λc hc=>S.st.sh.free hc
 have J: ∀(j:Nat) (sl:Slot),(ρ.set i (.rk A r'))[j]? =some sl->(j=i/\sl= .rk A r')\/(j≠i/\ρ[j]? =some sl):=λj sl e=>by
  by_cases z:j=i
  ·subst z;rw[bh hl]at e;cases e;exact .inl ⟨rfl,rfl⟩
  ·rw[ba (Ne.symm z)]at e;exact .inr ⟨z,e⟩
 have gn: ∀{b:Addr} {o:HO},G b=none->H b=some o->G1 b=none:=λ{b o} g hb=>by
  cases z:G1 b with
  |none=>rfl
  |some u=>
   have:=t.nw b g (by rw[z];exact λy=>nomatch y)
   rw[hb]at this;cases this
 -- another rack's pieces are none of these
 have ak: ∀{j:Nat} {h:List Addr},j≠i->gJ H ρ σ j h->∀a∈h,a∉[p0,dx,d,l1,l2]:=λ{j h} l f a n hm=>l (S.rs.rr j i h _ a f Z n hm)
 -- the pieces of a rack, h they were
 have bk: ∀{j:Nat} {h:List Addr},j≠i->gJ H1 (ρ.set i (.rk A r')) σ j h->gJ H ρ σ j h:=λ{j h} l f=>by
  obtain⟨C,r2,q,qx,qd,q1,x,Q,Y,f3,f4⟩:=f;rw[ba (Ne.symm l)]at Q;obtain⟨q',am,ab,ar,an,W,O⟩:=S.sl.rk Q;rw[Y]at W;cases W;have fo:gJ H ρ σ j [q,am,ab,ar,an]:=⟨C,r2,q,am,ab,ar,an,Q,Y,O.ins,rfl⟩
  have:=t.sh _ _ (ak l fo q (by simp)) O.ins
  rw[f3]at this;cases this;exact⟨C,r2,q,qx,qd,q1,x,Q,Y,O.ins,f4⟩
 have bi: ∀{h:List Addr},gJ H1 (ρ.set i (.rk A r')) σ i h->h=[p0,dx,d,l1,l2']:=λ{h} f=>by
  obtain⟨C,r2,q,qx,qd,q1,x,Q,Y,f3,f4⟩:=f;rw[h1]at Y;cases Y;rw[bh hl]at Q;cases Q;rw[hR'.ins]at f3;cases f3;exact f4
 have s: ∀a∈[p0,dx,d,l1,l2'],a∈[p0,dx,d,l1,l2]\/H a=none:=λa n=>by
  simp only[au,List.not_mem_nil,or_false]at n ⊢;rcases n with z|z|z|z|z
  ·exact .inl (.inl z)
  ·exact .inl (.inr (.inl z))
  ·exact .inl (.inr (.inr (.inl z)))
  ·exact .inl (.inr (.inr (.inr (.inl z))))
  ·rcases h3 with y|y
   ·exact .inl (.inr (.inr (.inr (.inr (z.trans y)))))
   ·exact .inr (by rw[z];exact y)
 refine⟨⟨S.st.sg.trans t.sg,t.gh,λb o hb=>t.sh b o (λm=>by rw[f0 b m]at hb;cases hb) (S.st.sh b o hb),λb W O=>?_⟩,⟨by rw[List.length_set];exact S.sl.len,λj sl p=>?_⟩,λj sl a p w hj=>?_,λj N sl ap a p U w w' hj a0=>?_,⟨λj h f a n=>?_,λj h f a n k sl ek w hk=>?_,λj N h al a f f' n E=>?_⟩⟩
 ·cases q:G b with
  |none=>exact I b (t.nw b q O)
  |some o=>exact S.st.nw b W (by rw[q];exact λy=>nomatch y)
 ·rcases J j sl p with ⟨rfl,rfl⟩|⟨l,p⟩
  ·exact⟨_,h1,p0,dx,d,l1,l2',rfl,hR'⟩
  ·obtain⟨ov,k1,k2⟩:=S.sl.at_ j sl p;refine⟨ov,k1,?_⟩
   cases sl with
   |no=>trivial
   |sh y=>
    obtain⟨v,q1,x⟩:=k2;exact⟨v,q1,x.mono t.sg⟩
   |ow xs=>
    obtain⟨a,vs,q1,x,M,q4⟩:=k2;subst q1;exact⟨a,vs,rfl,gn x M,t.sh _ _ (λm=>L a m j _ p rfl k1) M,q4.mono t.sg⟩
   |dc a1=>
    obtain⟨a,vs,q1,x,M,q4,q5⟩:=k2;subst q1;exact⟨a,vs,rfl,gn x M,t.sh _ _ (λm=>L a m j _ p rfl k1) M,q4.mono t.sg,q5⟩
   |sd a1=>
    obtain⟨a,vs,q1,x,M,q4,q5⟩:=k2;subst q1;exact⟨a,vs,rfl,gn x M,t.sh _ _ (λm=>L a m j _ p rfl k1) M,q4.mono t.sg,q5⟩
   |rk C r2=>
    obtain⟨q,qx,qd,q1,x,W,O⟩:=k2;subst W;exact⟨q,qx,qd,q1,x,rfl,O.stepR t (ak l ⟨C,r2,q,qx,qd,q1,x,p,k1,O.ins,rfl⟩)⟩
 ·rcases J j sl p with ⟨rfl,rfl⟩|⟨l,p⟩
  ·cases w
  ·exact S.ow j sl a p w hj
 ·rcases J j sl p with ⟨rfl,rfl⟩|⟨l,p⟩
  ·cases w
  ·rcases J N ap U with ⟨rfl,rfl⟩|⟨B,U⟩
   ·cases w'
   ·exact S.dj j N sl ap a p U w w' hj a0
 ·by_cases l:j=i
  ·subst l;rw[bi f]at n;rcases s a n with z|z
   ·exact f0 a z
   ·exact I a z
  ·exact S.rs.h0 j h (bk l f) a n
 ·rcases J k sl ek with ⟨rfl,rfl⟩|⟨nk,T⟩
  ·cases w
  ·by_cases l:j=i
   ·subst l;rw[bi f]at n;rcases s a n with z|z
    ·exact L a z k sl T w hk
    ·exact(S.sl.own_at T w hk).2 z
   ·exact S.rs.ow j h (bk l f) a n k sl T w hk
 ·by_cases l:j=i
  ·by_cases B:N=i
   ·rw[l,B]
   ·subst l;rw[bi f]at n;have fb:=bk B f';rcases s a n with z|z
    ·exact S.rs.rr j N _ al a Z fb z E
    ·exact absurd z (fb.at S.sl a E).2
  ·by_cases B:N=i
   ·subst B;rw[bi f']at E;have fb:=bk l f;rcases s a E with z|z
    ·exact S.rs.rr j N h _ a fb Z n z
    ·exact absurd z (fb.at S.sl a n).2
   ·exact S.rs.rr j N h al a (bk l f) (bk B f') n E
end
def oE(X:Cx)(ad:Ad)(A i:Nat)(M:FM)(fs:List F):TE:=λσ H Q=>∃G ρ E r p0 dx d l1 l2,Same G H/\SL X.K ad G H ρ σ/\XP X ad σ E/\σ[i]? =some (some (V.ref p0))/\RackIn X.K ad A G H p0 r dx d l1 l2/\
 tA X ad fs σ H (λvs H1=>∃ds G1,Step G H G1 H1/\aJ X.K ad G1 ds vs/\ds.length=fs.length/\RMK X.K ad A G1 H1 p0 dx d l1 l2 (M r ds) Q E)
section
variable{X:Cx}{ad:Ad}{Z:(St->Nat->Hp->Prop)->Prop}{σ:St}{G₀ G H G1 H1:Hp}{ρ:Rho}{D':Ends}{E:St->Nat->Hp->Prop}{A i n:Nat}{M:FM}{fs:List F}{x m:Str}{es:List Expr}{np ap cp:Pos}
theorem Dy(RC:RkC X.K A)(M0:MetOk X ad A m n M)(hN:X.N[i]? =some x)(hv:Vis X.env.scope x)(hd:(x==("__debug__":Str))=false)(hcd:(x==("__classdict__":Str))=false)(ha:MA X ad es fs)(hn:fs.length=n)(hst: ∀a r,es=a::r->starEach (a::r) X.env=(false,eval a X.env)::starEach r X.env/\(backTo cp (starEach r X.env)).any (·.1)=false)(hl:es.length=fs.length)(hfm:methodCallForm (es.length+([]:List Keyword).length) (backTo cp (starEach es X.env)) (backToKw cp (keywordEach [] X.env))=true)(hln:(ap.endLine==cp.line)=true):
  PE X (.Call (.Attribute (.Name x np) m ap) es [] cp) (oE X ad A i M fs):=by
 rintro z s y H Q I ⟨G,ρ,E,r,f,dx,d,l1,l2,hG,hS,t,S,j,h⟩;obtain⟨fm,k,fd,ps,g,_⟩:=M0.ok;refine PySem.W.methodCall_KW (L2.thn (cM hN hv hd hcd z s y H (λv e=>v= .ref f/\e=H) I ⟨.ref f,S,rfl,rfl⟩) λu L l=>?_) (iI rfl hfm hln)
 obtain⟨v,e,c,r1,O,Z⟩:=l;subst O;subst Z
 cases (show u=Value.ref f from r1)
 refine gF c j.ins RC.cl g (uR M0.no) ?_
 cases es with
 |nil=>
  cases fs with
  |cons _ _=>cases hl
  |nil=>
   obtain⟨C,J,Y,p,_,_,h⟩:=h;obtain⟨T,G3,b,q,o,k⟩:=(show AK X.K ad C e (.ok []) _ Y from h) [] C e (Step.refl p) aJ.nil
   exact PySem.W.callWith_K0 (first:=[.ref f]) c.kIn g.kp (lI M0 c b.gh (j.step b) .nil q (o.trans hn) t k g)
 |cons a dZ=>
  refine PySem.W.callWith_K (first:=[.ref f]) (h₀:=X.base) c.ok.mod.kin g.kp (L2.thn (ha cp z L y e _ c h) λus s2 ⟨vs,H2,B,U,T,G1,b,q,hl,k⟩=>⟨B.kIn,?_⟩) (hst a dZ rfl).1 (hst a dZ rfl).2
  exact lI M0 B b.gh (j.step b) U q (hl.trans hn) t k g
theorem Js(S:SS X ad G₀ G H ρ σ)(hx:XA X ad Z E){k:D->Rho->Out}{Q':VK}(hr:OKo X ad G₀ (qR ρ A i M fs k) D' E)
  (q: ∀v y G1 H1 ρ1,SS X ad G₀ G1 H1 ρ1 σ->Rep X.K ad G1 y v->OKo X ad G₀ (k y ρ1) D' E->Q' v H1):oE X ad A i M fs σ H Q':=by
 unfold qR at hr
 cases e:(ρ[i]? :Option Slot)with
 |none=>rw[e]at hr;exact hr.elim
 |some sl=>
  rw[e]at hr
  cases sl with
  |rk C r=>
   have b:OKo X ad G₀ (if C=A then(match args fs ρ with
    |.ok j=>(match M r j with
     |.pure x=>fS ρ x λd=>k d ρ
     |.chg x l=>k x (ρ.set i (.rk A l)))
    |.ex c=>.ex c ρ
    |.bad=>.rt .bad)else .rt .bad) D' E:=hr
   by_cases p:C=A
   ·rw[if_pos p]at b;subst p;obtain⟨W,T,d,N,Y,L,I⟩:=S.sl.rk e;refine⟨G,ρ,E σ,r,W,T,d,N,Y,S.st.gh,S.sl,hx.1 σ,L,I,G,ρ,E σ,S.st.gh,S.sl,hx.1 σ,?_⟩
    cases m:args fs ρ with
    |ok j=>
     rw[m]at b;intro vs G1 H1 st rq;refine⟨j,G1,st,rq,gH m,?_⟩;have n:=S.step st;have u:=I.step st
     have f:OKo X ad G₀ (match M r j with
      |.pure x=>fS ρ x λd=>k d ρ
      |.chg x l=>k x (ρ.set i (.rk C l))) D' E:=b
     cases J:M r j with
     |pure y=>
      rw[J]at f
      cases y with
      |ok y=>exact λv h g st2 B=>q v y h g ρ (n.step st2) B f
      |ow xs=>
       intro a ws h g st2 Q O e2 z;obtain⟨U,s,r3⟩:=dA (X:=X) (ad:=ad) st2 Q O e2 z;exact q _ _ U g ρ (n.step s) r3 f
      |ex c=>exact λh g st2=>f σ h g (n.step st2)
      |bad=>exact f.elim
     |chg y l=>
      rw[J]at f;exact λv h g ab t o h3 B=>q v y h g _ (n.updR e L u t o h3) B f
    |ex c=>
     rw[m]at b;exact λG1 H1 st=>b σ G1 H1 (S.step st)
    |bad=>
     rw[m]at b;exact b.elim
   ·rw[if_neg p]at b;exact b.elim
  |no=>exact hr.elim
  |sh _=>exact hr.elim
  |ow _=>exact hr.elim
  |dc _=>exact hr.elim
  |sd _=>exact hr.elim
end
def rk0:Rk:=⟨[],[],[]⟩
def spI(K:Frag)(ad:Ad)(A:Nat):Sp:=λvs H Q _=>∃p dx G,vs=[V.ref p]/\Same G H/\G p=none/\G dx=none/\dx≠p/\H p=some (.ins A dx [])/\H dx=some (.own p)/\
 ∀d l1 l2 H',H d=none->H l1=none->H l2=none->RackIn K ad A G H' p rk0 dx d l1 l2->(∀b o,b≠p->H b=some o->H' b=some o)->Q .non H'
structure Ini(X:Cx)(A:Nat)(x:Str):Prop where
 RC:RkC X.K A
 hN:X.N[0]? =some x
 hv:Vis X.env.scope x
 hd:(x==("__debug__":Str))=false
 hcd:(x==("__classdict__":Str))=false
noncomputable def Mt(x:Str)(n1 q1 a1 n2 q2 a2 n3 q3 a3 e1 e2 e3:Pos):List Stmt:=
 [.Assign [.Attribute (.Name x n1) "held" q1] (.Dict [] [] e1) a1,.Assign [.Attribute (.Name x n2) "done" q2] (.List [] e2) a2,.Assign [.Attribute (.Name x n3) "undone" q3] (.List [] e3) a3]
section
variable{ad:Ad}{q1:Pos}
theorem zQ(L:Ini X A x){σ:St}(me:σ[0]? =some (some (.ref p)))(hG:Same G H)(gp:G p=none)(gx:G dx=none)(ne:dx≠p)(hp:H p=some (.ins A dx []))(hx:H dx=some (.own p))(q: ∀d l1 l2 H',H d=none->H l1=none->H l2=none->RackIn X.K ad A G H' p rk0 dx d l1 l2->(∀b o,b≠p->H b=some o->H' b=some o)->Q .non H'):
  ∃t,PSs X (Mt x n1 q1 a1 n2 q2 a2 n3 q3 a3 e1 e2 e3) t/\t {nx:=λ_ H'=>Q .non H',rt:=Q} σ H:=by
 have nm: ∀m:Pos,PE X (.Name x m) (Hf 0):=λm=>cM L.hN L.hv L.hd L.hcd
 refine⟨_,jV (tH (nm n1) tW rfl) (jV (tH (nm n2) (tJ eL) rfl) (rP (tH (nm n3) (tJ eL) rfl))),?_⟩;intro d g;have h:d≠p:=λz=>by rw[z,hp]at g;cases g
 have dd:dx≠d:=λz=>by rw[<-z,hx]at g;cases g
 have i:upd H d (.dK []) p=some (.ins A dx []):=by rw[aC (Ne.symm h)];exact hp
 refine⟨.ref p,me,p,A,dx,_,rfl,i,L.RC.cl,L.RC.n1,by show 0<1000;decide,?_⟩
 refine⟨bt _,λl1 n1=>?_⟩
 have lp:l1≠p:=λz=>by rw[z,aH]at n1;cases n1
 have l:l1≠d:=λz=>by rw[aC lp,z,aH]at n1;cases n1
 have a:H l1=none:=by rw[aC lp,aC l]at n1;exact n1
 have s:dx≠l1:=λz=>by rw[<-z,hx]at a;cases a
 refine⟨.ref p,me,p,A,dx,[(("held":Str),V.ref d)],rfl,by rw[aC (Ne.symm lp),aH];rfl,L.RC.cl,L.RC.n2,by show 1<1000;decide,?_⟩
 refine⟨bt _,λl2 n2=>?_⟩
 have f:l2≠p:=λz=>by rw[z,aH]at n2;cases n2
 have ml:l2≠l1:=λz=>by rw[aC f,z,aH]at n2;cases n2
 have n:l2≠d:=λz=>by rw[aC f,aC ml,aC f,z,aH]at n2;cases n2
 have c:H l2=none:=by rw[aC f,aC ml,aC f,aC n]at n2;exact n2
 have r:dx≠l2:=λz=>by rw[<-z,hx]at c;cases c
 refine⟨.ref p,me,p,A,dx,[(("held":Str),V.ref d),("done",V.ref l1)],rfl,by rw[aC (Ne.symm f),aH];rfl,L.RC.cl,L.RC.n3,by show 2<1000;decide,?_⟩
 refine q d l1 l2 _ g a c ⟨by rw[aH];rfl,?_,⟨[],?_,.nil⟩,⟨[],?_,aJ.nil⟩,⟨[],?_,aJ.nil⟩,Ne.symm ml,gp,gx,hG.free g,hG.free a,hG.free c⟩ λb o j e=>?_
 ·rw[aC ne,aC r,aC ne,aC s,aC ne,aC dd];exact hx
 ·rw[aC h,aC (Ne.symm n),aC h,aC (Ne.symm l),aC h,aH]
 ·rw[aC lp,aC (Ne.symm ml),aC lp,aH]
 ·rw[aC f,aH]
 ·rw[aC j,aC (aN e c),aC j,aC (aN e a),aC j,aC (aN e g)];exact e
end
section
variable{X:Cx}{ad:Ad}{A:Nat}
theorem SS.setR(S:SS X ad G₀ G H ρ σ)(s1:Same H H1)(hR:RackIn X.K ad A G H1 p r dx d l1 l2)(nw: ∀a∈[p,dx,d,l1,l2],H a=none)(gh:Same G H1):SS X ad G₀ G H1 (ρ.set i (.rk A r)) (σ.set i (some (.ref p))):=by
 have st:Step G H G H1:=⟨Same.refl _,gh,s1,λb O U=>absurd O U⟩
 have S1:=S.step st
 have g: ∀(j:Nat) (sl:Slot),(ρ.set i (.rk A r))[j]? =some sl->(j=i/\sl= .rk A r/\i<ρ.length)\/(j≠i/\ρ[j]? =some sl):=λj sl e=>by
  by_cases z:j=i
  ·subst z;have x:j<ρ.length:=by have:=(ax.mp e).1;rwa [List.length_set]at this
   rw[bh x]at e;cases e;exact .inl ⟨rfl,rfl,x⟩
  ·rw[ba (Ne.symm z)]at e;exact .inr ⟨z,e⟩
 have o: ∀{j:Nat},j≠i->(σ.set i (some (V.ref p)))[j]? =σ[j]? :=λ{j} z=>ba (Ne.symm z)
 have bk: ∀{j:Nat} {l:List Addr},j≠i->gJ H1 (ρ.set i (.rk A r)) (σ.set i (some (.ref p))) j l->gJ H ρ σ j l:=λ{j l} n f=>by
  obtain⟨C,W,q,qx,Z,q1,Y,L,B,J,N⟩:=f;rw[ba (Ne.symm n)]at L B;exact gJ.back S.sl s1 ⟨C,W,q,qx,Z,q1,Y,L,B,J,N⟩
 have I: ∀{l:List Addr},gJ H1 (ρ.set i (.rk A r)) (σ.set i (some (.ref p))) i l->l=[p,dx,d,l1,l2]:=λ{l} f=>by
  obtain⟨C,W,q,qx,Z,q1,Y,L,B,J,N⟩:=f;rcases g i _ L with ⟨_,z,x⟩|⟨z,_⟩
  ·cases z;rw[bh (by rw[<-S.sl.len];exact x)]at B
   cases B;rw[hR.ins]at J;cases J;exact N
  ·exact absurd rfl z
 have u: ∀c,H c=none->X.H₀ c=none:=λc hc=>S.st.sh.free hc
 refine⟨S1.st,⟨by rw[List.length_set,List.length_set];exact S.sl.len,λj sl e=>?_⟩,λj sl a e w h=>?_,λj v sl E a e Q w w' h h'=>?_,⟨λj l f a m=>?_,λj l f a m k sl ek w hk=>?_,λj v l T a f M m t=>?_⟩⟩
 ·rcases g j sl e with ⟨rfl,rfl,x⟩|⟨z,e⟩
  ·exact⟨some (.ref p),bh (by rw[<-S.sl.len];exact x),p,dx,d,l1,l2,rfl,hR⟩
  ·obtain⟨ov,O,U⟩:=S1.sl.at_ j sl e;exact⟨ov,by rw[o z];exact O,U⟩
 ·rcases g j sl e with ⟨_,rfl,_⟩|⟨z,e⟩
  ·cases w
  ·rw[o z]at h;exact S.ow j sl a e w h
 ·rcases g j sl e with ⟨_,rfl,_⟩|⟨z,e⟩
  ·cases w
  ·rcases g v E Q with ⟨_,rfl,_⟩|⟨z',Q⟩
   ·cases w'
   ·rw[o z]at h;rw[o z']at h';exact S.dj j v sl E a e Q w w' h h'
 ·by_cases n:j=i
  ·subst n;rw[I f]at m;exact u a (nw a m)
  ·exact S.rs.h0 j l (bk n f) a m
 ·rcases g k sl ek with ⟨_,rfl,_⟩|⟨z,y⟩
  ·cases w
  ·rw[o z]at hk
   by_cases n:j=i
   ·rw[n]at f;rw[I f]at m;exact(S.sl.own_at y w hk).2 (nw a m)
   ·exact S.rs.ow j l (bk n f) a m k sl y w hk
 ·by_cases n:j=i
  ·by_cases s:v=i
   ·rw[n,s]
   ·rw[n]at f;rw[I f]at m;exact absurd (nw a m) ((bk s M).at S.sl a t).2
  ·by_cases s:v=i
   ·rw[s]at M;rw[I M]at t;exact absurd (nw a t) ((bk n f).at S.sl a m).2
   ·exact S.rs.rr j v l T a (bk n f) (bk s M) m t
structure MkOk(X:Cx)(ad:Ad)(A:Addr):Prop where
 ok: ∃f k fd ps,Mk X.K A f/\FnOk X.prog X.w X.K X.mg X.base (CXe X.prog X.w) k f fd ps (spI X.K ad A)/\Room (k+1) X.A/\d6 X.K fd ps []
end
abbrev FC:=Rho->(Bool->Rho->Out)->Out
def GZ(d:D)(k:Bool->Out):Out:=match d with
 |.bl b=>k b
 |_=>.rt .bad
def jT(f:F):FC:=λρ k=>fS ρ (f ρ) λd=>GZ d λb=>k b ρ
def qU(A i:Nat)(M:FM)(fs:List F)(op:CmpOp)(g:F):FC:=λρ k=>qR ρ A i M fs λd ρ1=>fS ρ1 (g ρ1) λd2=>fS ρ1 (dJ op d d2) λz=>GZ z λb=>k b ρ1
def cOr(c1 c2:FC):FC:=λρ k=>c1 ρ λb ρ1=>if b then k true ρ1 else c2 ρ1 k
def lX(c:FC)(g h:FS):FS:=λρ=>c ρ λb ρ1=>if b then g ρ1 else h ρ1
def tTx(X:Cx)(ad:Ad)(Z:(St->Nat->Hp->Prop)->Prop)(c:FC):TT:=λσ H Q=>∃G₀ G ρ D' E k,SS X ad G₀ G H ρ σ/\XA X ad Z E/\OKo X ad G₀ (c ρ k) D' E/\∀b ρ1 G1 H1,SS X ad G₀ G1 H1 ρ1 σ->OKo X ad G₀ (k b ρ1) D' E->Q b H1
abbrev MTX(X:Cx)(ad:Ad)(Z:(St->Nat->Hp->Prop)->Prop)(e:Expr)(c:FC):Prop:=PT X e (tTx X ad Z c)
def Jt(X:Cx)(ad:Ad)(op:CmpOp):R2:=λx y H Q=>∃G d1 d2 E,Same G H/\Rep X.K ad G d1 x/\Rep X.K ad G d2 y/\RK X.K ad G H (dJ op d1 d2) Q E
section
variable{X:Cx}{ad:Ad}{Z:(St->Nat->Hp->Prop)->Prop}{A i:Nat}{M:FM}{g:F}{fs:List F}{op:CmpOp}
theorem FO(hu:X.A.units+62<cLine):OpR X (compareOp op) (Jt X ad op):=by
 intro e s d H x y v u Q I i a h;obtain⟨G,c,j,E,f,g,l,b⟩:=h;exact fZ op hu e s d H G c j x y v u Q E I f g l i a b
theorem Dz{G₀ G H:Hp}{ρ:Rho}{σ:St}{D':Ends}{E:St->Nat->Hp->Prop}{k:Bool->Rho->Out}{Q:Bool->Hp->Prop}{r:R}(S:SS X ad G₀ G H ρ σ)(hr:OKo X ad G₀ (fS ρ r λz=>GZ z λb=>k b ρ) D' E)(q: ∀b ρ1 G1 H1,SS X ad G₀ G1 H1 ρ1 σ->OKo X ad G₀ (k b ρ1) D' E->Q b H1):
  RK X.K ad G H r (λv H'=>∃b,v= .bl b/\Q b H') (E σ)/\jN r:=by
 cases r with
 |ok d=>
  cases d with
  |bl b=>
   refine⟨λv G1 H1 a e=>?_,.inl ⟨b,rfl⟩⟩
   unfold Rep at e;exact⟨b,e,q b ρ G1 H1 (S.step a) hr⟩
  |_=>exact hr.elim
 |ow f=>exact hr.elim
 |ex c=>exact⟨λG1 H1 a=>hr σ G1 H1 (S.step a),.inr ⟨c,rfl⟩⟩
 |bad=>exact hr.elim
theorem Cf(h:MT X ad e f):MTX X ad Z e (jT f):=by
 rintro g s a H Q I ⟨b,G,i,m,E,k,S,d,c,q⟩;obtain⟨j,l⟩:=Dz S c q;exact h g s a H Q I ⟨G,i,E a,S.st.gh,S.sl,d.1 a,l,j⟩
theorem Ju{σ:St}{H:Hp}{Q:Bool->Hp->Prop}(h:tTx X ad Z (qU A i M fs op g) σ H Q):tOp (Jt X ad op) (oE X ad A i M fs) (tE X ad g) σ H λv H'=>∃b,v= .bl b/\Q b H':=by
 obtain⟨c,G,u,x,E,k,S,d,f,q⟩:=h;refine Js S d f λv y t z j e m hk=>?_
 refine g0 e d hk λr p n s a o l=>?_
 exact⟨n,y,p,E σ,a.gh,m.mono a.sg,o,(Dz (e.step a) l q).1⟩
end
section
variable{P:Program}{w:World}{K:Frag}{mg:Str->Option Value}{base h:Heap}{ad:Ad}{k:Nat}{tab:List (Str×SK.Gl)}{fns:List (Nat×Fn)}
theorem Jv{st:Stmt}{A:Nat}(RC:RkC K A)(Fu:Fun K x qual st f fd)(hs:bU (aB (defScope st)) [self] (defScope st)=true)(hb: ∃n1 q1 a1 n2 q2 a2 n3 q3 a3 e1 e2 e3,defBody st=Mt self n1 q1 a1 n2 q2 a2 n3 q3 a3 e1 e2 e3):FnOk P w K mg base (CXe P w) (k+1) f fd [self] (spI K ad A):=by
 obtain⟨J,N,kV,o,C,L,l,I,r,rfl,lk,d⟩:=Fu.ex;obtain⟨S,nm⟩:=cR hs;obtain⟨n1,q1,a1,n2,q2,a2,n3,q3,a3,e1,e2,e3,b⟩:=hb
 have g:(aB (defScope st))[0]? =some self:=by
  have:=S.pre
  cases e:aB (defScope st)with
  |nil=>rw[e]at this;cases this
  |cons y O=>rw[e]at this;cases this;rfl
 have h:self∈aB (defScope st):=List.mem_of_getElem? g;refine D1 lk d S (λt H Q E a=>?_) λM c s H t Q E B a=>?_
 ·obtain⟨p,dx,G,rfl,_⟩:=a;rfl
 ·obtain⟨p,dx,G,rfl,n,u,v,q,m,i,j⟩:=a;rw[b];refine zQ ⟨RC,g,(S.par self (.head _)).elim .inl λz=>.inr (.inl z),(nm _ h).1,(nm _ h).2⟩ (p:=p) (dx:=dx) (G:=G) ?_ n u v q m i j
  unfold L2.start;rfl
theorem fV.mono(h:fV P w K mg base ad k fns)(hk:k<=k'):fV P w K mg base ad k' fns:=λj n F e=>let ⟨r,h1,h2⟩:=h j n F e;⟨r,Nat.le_trans h1 hk,h2⟩
theorem DA(h1:PySem.W.plainGet K A Str.empty=true)(h2:PySem.W.hasDictIn K A=true)(h3:PySem.W.plainOver K A=true)(h4:PySem.W.findIn K (.ref A) "__setattr__"=some (some (.builtin "object.__setattr__")))(h5:PySem.W.findIn K (.ref A) "held"=some none)(h6:PySem.W.findIn K (.ref A) "done"=some none)(h7:PySem.W.findIn K (.ref A) "undone"=some none):RkC K A:=⟨⟨h1,h2,h3,h4⟩,h5,h6,h7⟩
theorem PQ.rack(T:PQ P w K mg base h ad k tab fns)(A:Addr)(c:RkC K A)(hm:nsIn K mainGlobals "Rack"=some (some (.ref A)):=by kernel_rfl):PQ P w K mg base h ad k (("Rack",.cls A [])::tab) fns:=
 ⟨d8.cons T.t (by decide) ⟨PySem.W.mg_of T.X T.G hm,c,λ_ _ _ e=>by cases e⟩,T.u,T.X,T.G,T.B⟩
def Nf(x qual:Str)(st:Stmt)(ps:List Str):Prop:= ∀(kV doc pm:Value) (an:Option Addr) (cdv ct:Value) (us:List Value),us.length=ps.length->bindArgs (PySem.W.fnOf x qual (defArgs st) (defBody st) (defScope st) .none kV doc pm an cdv ct) ⟨us,[]⟩=pure (ps.zip us)
theorem PQ.met(T:PQ P w K mg base h ad k tab fns)(m qual:Str)(st:Stmt)(f:Addr)(self:Str)(ps:List Str)(n:Nat)(M:FM){A:Addr}{ms:List (Str×Nat×FM)}{oc:Value}{od an:Option Addr}{osl:Array (Option Value)}{kV doc pm cdv ct:Value}(l:K.lookup f=some ⟨oc,od,.func (PySem.W.fnOf m qual (defArgs st) (defBody st) (defScope st) .none kV doc pm an cdv ct),osl⟩)
  (hl:tab.lookup ("Rack":Str)=some (SK.Gl.cls A ms)) (d:Jr tab A ms st=some (n,M):=by kernel_rfl) (c:codeIn K cdv qual=true:=by kernel_rfl) (kp:keepIn K (.ref f)=true:=by kernel_rfl) (m1:PySem.W.findIn K (.ref A) m=some (some (.ref f)):=by kernel_rfl) (m2:PySem.W.isFn K (.ref f)=true:=by kernel_rfl)
  (no:m≠"held"/\m≠"done"/\m≠"undone":=by decide) (hps:eN (defArgs st)=some (self::ps):=by rfl) (hb:Nf m qual st (self::ps):=by intro _ _ _ _ _ _ us hl;rcases us with _|⟨u0,_|⟨u1,_|⟨u2,_|⟨u3,_|⟨u4,_|⟨u5,us⟩⟩⟩⟩⟩⟩<;>first|rfl|(simp at hl)):
  PQ P w K mg base h ad (k+1) (("Rack",.cls A ((m,n,M)::ms))::tab) fns:=by
 have F:=mE (x:=m) (qual:=qual) (st:=st) l c kp;obtain⟨p,j,i⟩:=(T.t "Rack" _ hl).2;have ok:=Dx (k:=k) T.B T.t j i F hps d;refine⟨d8.cons (T.t.mono (Nat.le_succ k)) (by decide) ⟨p,j,λg y z e=>?_⟩,T.u.mono (Nat.le_succ k),T.X,T.G,T.B⟩
 rw[List.lookup_cons]at e
 cases q:g==m with
 |true=>
  rw[q]at e;cases e
  cases eq_of_beq q
  exact⟨no,f,k+1,_,_,ai _,⟨m1,m2,kp⟩,ok,F.binds hb⟩
 |false=>
  rw[q]at e;obtain⟨b,s,r,v,a,o,C⟩:=i g y z e;exact⟨b,s,r,v,a,Nat.le_trans o (Nat.le_succ k),C⟩
end
noncomputable def FP(a:Arguments):Bool:=a.posonlyargs.isEmpty&&a.args.isEmpty&&a.vararg.isNone&&a.kwonlyargs.isEmpty&&a.kw_defaults.isEmpty&&a.kwarg.isNone&&a.defaults.isEmpty
theorem Cg(h:FP a=true):a=⟨[],[],none,[],[],none,[]⟩:=by
 obtain⟨n,m,p,o,l,j,q⟩:=a;unfold FP at h;simp only[av,List.isEmpty_iff,Option.isNone_iff_eq_none]at h;obtain⟨⟨⟨⟨⟨⟨c,i⟩,d⟩,e⟩,b⟩,g⟩,f⟩:=h;subst c i d e b g f;rfl
def Ch(sc:Scope):Bool:=sc.kind== .function&& !sc.isCoroutine&& !sc.isGenerator&&sc.names.all (λp=>p.2 != .cell&&p.2 != .local)&&decide (aX sc).Nodup&&(aX sc).all (λx=> !(x==("__debug__":Str))&& !(x==("__classdict__":Str)))
theorem qV(h:Ch sc=true):LamSc (aX sc) sc/\(aX sc).Nodup/\∀x∈aX sc,(x==("__debug__":Str))=false/\(x==("__classdict__":Str))=false:=by
 unfold Ch at h;simp only[av]at h;obtain⟨⟨⟨⟨⟨c,i⟩,d⟩,e⟩,b⟩,f⟩:=h
 have all: ∀p∈sc.names,p.2≠ .cell/\p.2≠ .local:=λp g=>by
  have:=zAd e p g
  simpa using this
 refine⟨⟨by simpa using c,by simpa using i,by simpa using d,λx a=>(all x a).1,λx z=>(all _ (PySem.mem_of_lookup z)).2 rfl⟩,of_decide_eq_true b,λx a=>?_⟩
 have:=zAd f x a
 simpa using this
section
variable{K:Frag}{ad:Ad}{tab:List (Str×SK.Gl)}
theorem Ng(B:ExcK K ad)(TB:d8 P w K mg base ad k tab)(FB:fV P w K mg base ad k fns)(hs:Ch sc=true)(hr:Room k (A.deeper (Dq q sc s.heap.objs.size a cd cl))):
  CtxOk (cxL (CXe P w) P w K mg base (aX sc) q sc a cd cl A outer s H E) ad ⟨tab,fns,sc,aX sc,[]⟩:=by
 obtain⟨S,C,nm⟩:=qV hs;refine⟨rfl,C,λx i e=>?_,λx e=>e,λx g e=>?_,λx i e=>(eF e).2,rfl,?_,hr.hd,B.exc,B.kin,B.kve,λj m v e=>?_⟩
 ·obtain⟨y,G⟩:=lB e;have m:=lA y;exact⟨fP y,G,(nm x m).1,(nm x m).2⟩
 ·obtain⟨a,b⟩:=TB x g e;refine⟨a,?_⟩
  cases g with
  |fn j m v=>
   obtain⟨t,J,l,o,h,u,I⟩:=b;exact⟨t,J,⟨o,h,u⟩,hr.mono l,I⟩
  |exc c=>exact b
  |verr=>exact b
  |val d=>exact b
  |tbl L=>exact b
  |py p=>exact b
  |cls A N=>exact⟨b.1,b.2.1,λm n M z=>let ⟨no,f,r,fd,ps,l,o,h,u⟩:=b.2.2 m n M z;⟨no,f,r,fd,ps,o,h,hr.mono l,u⟩⟩
 ·exact Nat.lt_of_le_of_lt (Nat.add_le_add_left (by decide:62<=64) _) hr.units
 ·obtain⟨t,l,o,h⟩:=FB j m v e;exact⟨t,⟨o,h⟩,hr.mono l⟩
end
noncomputable def Mu:Expr->Option (Arguments×Expr×Scope)
 |.Lambda ps body sc _=>some (ps,body,sc)
 |_=>none
theorem FQ(h:Mu e=some (ps,body,sc)): ∃p,e= .Lambda ps body sc p:=by
 cases e<;>first|(cases h;exact⟨_,rfl⟩)|(cases h;done)
theorem sQ{α β:Type}{f:α->Option β}: ∀{l:List α} {r:List β},dY f l=some r->∀(i:Nat) (a:α),l[i]? =some a->∃b,r[i]? =some b/\f a=some b
 |[],_,_,i,a,h=>by cases h
 |x::l,r,h,i,a,ha=>by
  unfold dY at h
  cases e:f x with
  |none=>rw[e]at h;cases h
  |some y=>
   rw[e]at h;obtain⟨g,c,d⟩:=zMd h;subst d
   cases i with
   |zero=>cases ha;exact⟨y,rfl,e⟩
   |succ i=>exact sQ c i a ha
def cxP(Ps:List Addr)(X:Cx):Cx:={X with ex:=Ps}
theorem LC(u:Un fs [] H H' h h'):Un fs ex H H' h h':=
 ⟨λb o e n f _=>u.keep b o e n f (by simp),λb o e n f _=>u.slot b o e n f (by simp),λb o e n _=>u.free b o e n (by simp),λb o e _=>u.there b o e (by simp),u.tups,u.frzs,u.tbls⟩
section
variable{Ps:List Addr}{σ:St}
theorem Jw(I:Inv X [] σ H s)(hex:X.ex=[])(hP: ∀P∈Ps,P<X.s₀.heap.objs.size/\X.base.get? P=none/\P∉X.fs)(hcell: ∀x c,X.env.cells.lookup x=some c->X.s₀.heap.objs.size<=c):Inv (cxP Ps X) [] σ H s:=by
 refine⟨⟨I.ok.mod,I.ok.kind,I.ok.glob,I.ok.blt,I.ok.above,I.ok.inj,I.ok.has,I.ok.cab,I.ok.hd,I.ok.frames,I.ok.stk,λb a=>?_,I.ok.bs,I.ok.bsz,λb o e a=>?_,λb a=>(hP b a).2.2,I.ok.funs,I.ok.frf⟩,I.os,I.bare,?_,I.loc,I.cell,I.free,I.freeC,I.pin,I.hok,I.len⟩
 ·exact⟨bg (bf (hP b a).1 I.ok.above),λx c h z=>absurd (bf (hP b a).1 (hcell x c h)) (by rw[z];exact Nat.lt_irrefl _)⟩
 ·have d:X.base.get? b=some o:=e
  rw[(hP b a).2.1]at d;cases d
 ·have u:=I.base;rw[hex]at u;exact LC u
end
theorem DB:Tb P0 q #[] []:=⟨trivial,(λb c h=>by cases h),(λp a=>by cases a)⟩
structure Td where
 dn:Str
 en:Str
 x:Str
 cx:Str
def LD(t:Td)(sc:Scope):Bool:=bU (aB sc) [t.dn] sc&&aB sc==[t.dn,t.en]&&sc.names.lookup t.dn==some .local&&sc.names.lookup t.en==some .local&&sc.names.lookup t.x==some .globalImplicit&&sc.names.lookup t.cx==some .globalImplicit&&
 !(t.x==("__debug__":Str))&& !(t.cx==("__debug__":Str))
theorem u9{F:Fn}: ∀(r:R) (c:Nat),oB F r≠ .ex c:=λr c z=>by
 unfold oB at z
 cases r with
 |ok d=>cases z
 |ow a=>cases z
 |bad=>cases z
 |ex b=>
  simp only at z
  split at z<;>cases z
def defBody:Stmt->List Stmt
 |.FunctionDef _ _ b _ _ _ _ _ _ _=>b
 |_=>[]
def LE:Stmt->Option Scope
 |.FunctionDef _ _ _ _ _ _ sc _ _ _=>some sc
 |_=>none
theorem StOk.P{ad:Ad}(O:StOk X ad C):StOk (cxP Ps X) ad C:=by
 refine⟨⟨O.cx.N,O.cx.nd,O.cx.vis,O.cx.gk,λx g e=>⟨(O.cx.gt x g e).1,?_⟩,O.cx.cap,O.cx.calm,O.cx.un,O.cx.hd,O.cx.exc,O.cx.kin,O.cx.kve,λj n F e=>?_⟩,O.fn,O.sc,O.lc,O.exm,O.exi⟩
 ·have h:=(O.cx.gt x g e).2
  cases g with
  |fn k n f=>obtain⟨r,q,⟨b,i,a⟩,o⟩:=h;exact⟨r,q,⟨b,i,a⟩,o⟩
  |cls A t=>obtain⟨b,i,a⟩:=h;exact⟨b,i,λm n M l=>let ⟨no,f,r,fd,ps,z1,z2,z3,z4⟩:=a m n M l;⟨no,f,r,fd,ps,z1,z2,z3,z4⟩⟩
  |exc c=>exact h
  |verr=>exact h
  |val d=>exact h
  |tbl s=>exact h
  |py p=>exact h
 ·obtain⟨r,⟨b,i⟩,a⟩:=O.cx.fnv j n F e;exact⟨r,⟨b,i⟩,a⟩
def qW(L:Pl)(h:Heap)(H:Hp)(fs:List Addr):Prop:= ∀p∈L,h.get? p.1=some p.2/\H p.1=none/\p.1∉fs/\∀v,p.2.data≠ .cell v
section
variable{K:Frag}{kV:Value}{args:Args}
theorem Ci(lk:K.lookup fa=some ⟨oc,od,.func (PySem.W.fnOf name qual params body scope dV kV doc pm an (.ref c) ct),osl⟩)(hcd:PySem.W.codeIn K (.ref c) qual=true)(S:FnScope N prs scope)(hr:Room (k+1) A)(e0:Env0 P w K mg base A outer s H)(hb:BindsTo s (PySem.W.fnOf name qual params body scope dV kV doc pm an (.ref c) ct) args (prs.zip us))(hl:vs.length=prs.length)(rv:bS vs us)(pk:qW (L++pl) s.heap H (frs outer))(T0:TD (TbL P0 q) L pl)(hbP:base.get? P0=none)(hbody:rL (cxP [P0] (jW (CXe P w) P w K mg base N qual scope fa (.ref c) A outer s H λ_ _ _=>False)) (TbL P0 q) body t)(ht:t ⟨λ_ _=>False,Q,λ_ _=>False,λ_ _=>False⟩ (start N vs) H):
  codeAny (model P w) A (.call (.ref fa) args) (λr s'=>∃u v H' L',r= .ok (.ret u)/\s'.os=s.os/\AllBare s'.gens/\Un (frs outer) [P0] H H' s.heap s'.heap/\HOk P w H' s'.heap/\bG v u/\Q v H'/\qW (L'++pl) s'.heap H' (frs outer)/\TD (TbL P0 q) L' pl) s:=by
 obtain⟨ps,cs,hL,tb⟩:=T0.tb;have B:=pk (P0,PySem.W.tabObj ps) (List.mem_append_left _ (by rw[hL];exact .head _))
 have E:K.In s.heap:=e0.mod.kin.keeps λb o e=>(e0.bs b o e).1
 have j:s.heap.NoLimit:=e0.mod.nolimit.keeps λb o e=>(e0.bs b o e).1
 have U:us.length=prs.length:=by rw[<-hl];exact rv.length.symm
 have g: ∀y∈prs.zip us,scope.names.lookup y.1=some .local\/(scope.names.lookup y.1=some .cell/\((cellsFrom (s.heap.objs.size+1) scope.names []).lookup y.1).isSome=true):=λy hy=>by
  rcases S.par y.1 (List.of_mem_zip hy).1 with z|z
  ·exact .inl z
  ·exact .inr ⟨z,PySem.W.cellsFrom_some _ _ _ (.inl z)⟩
 let X:=jW (CXe P w) P w K mg base N qual scope fa (.ref c) A outer s H λ_ _ _=>False
 refine codeAny_call_function hr.depth (E _ _ lk) rfl S.co S.gen rfl (PySem.W.codeRec_of E hcd) (hb _ _ _ _ ?_);refine wpAny_newFunctionEnv_cells S.kind g λad he i y=>?_
 subst he;refine⟨j.keeps y.toInCall.keep,codeAny_func ?_⟩;have hk:=y.toInCall.keep;have Y:Inv X [] (start N vs) H i:=fY S hr.hd e0 hl rv y
 have M:Inv (cxP [P0] X) [] (start N vs) H i:=Jw Y rfl (λP hP=>by
  rw[List.mem_singleton.mp hP];exact⟨ag B.1,hbP,B.2.2.1⟩) λz d h=>Nat.le_of_lt (y.above z d (PySem.mem_of_lookup h))
 have I2:Inv (cxP [P0] X) (L++pl) (start N vs) H i:=M.pins_of λp m=>by
  obtain⟨G,I,Z,a4⟩:=pk p m;exact⟨hk _ _ G,I,bg (ag G),Z,a4⟩
 refine wpAny_mono (hbody pl L i _ H _ T0 I2 ht) (λO s' f=>?_) λe s' f=>?_
 ·obtain⟨L',T,f⟩:=f
  cases O with
  |next=>obtain⟨_,_,_,z⟩:=f;exact z.elim
  |brk=>obtain⟨_,_,_,z⟩:=f;exact z.elim
  |cont=>obtain⟨_,_,_,z⟩:=f;exact z.elim
  |ret u=>
   obtain⟨v,ab,H',J,l,qv⟩:=f;exact⟨u,v,H',L',rfl,J.os,J.bare,J.base,J.hok,l,qv,λp m=>let t:=J.pin p (bq _ m);⟨t.1,t.2.1,t.2.2.2.1,t.2.2.2.2⟩,T⟩
 ·have x: ∀(e:Value) (a:Shared),CXe P w outer H s (λ_ _ _=>False) e a->False:=λe a z=>by
   obtain⟨_,_,_,_,_,_,_,_,_,_,_,_,_,_,z⟩:=z;exact z
  have n:wpAny (model P w) (A.deeper (envOfC qual scope s.heap.objs.size fa (.ref c))) (leaving (envOfC qual scope s.heap.objs.size fa (.ref c)) e) (λ_ a=>CXe P w outer H s (λ_ _ _=>False) e a) (λC a=>CXe P w outer H s (λ_ _ _=>False) C a) s':=f
  exact wpAny_mono n (λ_ a z=>(x _ _ z).elim) λC a z=>(x _ _ z).elim
end
def FT(X:Cx)(ad:Ad)(A n:Nat)(P0:Addr)(q:Str)(k:Nat)(fa:Addr)(fd:FuncData)(prs:List Str)(M:FM):Prop:=
 ∀(A':Around) (outer:List PySem.Env) (s:Shared) (G H:Hp) (p0 dx d l1 l2:Addr) (r:Rk) (ds:List D) (ws:List V) (us:List Value) (args:Args) (L pl:Pl) (Q:VK),Room k A'->Env0 X.prog X.w X.K X.mg X.base A' outer s H->BindsTo s fd args (prs.zip us)->bS (V.ref p0::ws) us->Same G H->RackIn X.K ad A G H p0 r dx d l1 l2->aJ X.K ad G ds ws->ds.length=n->
  qW (L++pl) s.heap H (frs outer)->TD (TbL P0 q) L pl->RMK X.K ad A G H p0 dx d l1 l2 (M r ds) Q (λ_ _=>False)->
  codeAny (model X.prog X.w) A' (.call (.ref fa) args) (λr s'=>∃u v H' L',r= .ok (.ret u)/\s'.os=s.os/\AllBare s'.gens/\Un (frs outer) [P0] H H' s.heap s'.heap/\HOk X.prog X.w H' s'.heap/\bG v u/\Q v H'/\qW (L'++pl) s'.heap H' (frs outer)/\TD (TbL P0 q) L' pl) s
section
variable{ad:Ad}
theorem FU(hD:FT X ad A n P0 q k fa fd prs M)(hr:Room k X.A)(hnx: ∀r ds c,M r ds≠ .pure (.ex c))(hg:L2.Gl X tn)(hm:X.mg tn=some (.ref fa))(hdb:(tn==("__debug__":Str))=false)(hk:PySem.W.keepIn X.K (.ref fa)=true)(hbd: ∀(s:Shared) (us:List Value),X.K.In s.heap->us.length=n+1->BindsTo s fd ⟨us,[]⟩ (prs.zip us))(hx:P0∈X.ex)(hstk:X.stack=X.env::X.outer/\X.env.frame=some X.env.locals)(hN:X.N[i]? =some x)(hv:Vis X.env.scope x)(hd:(x==("__debug__":Str))=false)(hcd:(x==("__classdict__":Str))=false)(ha:MA X ad es fs)(hn:fs.length=n)(hst:starEach (.Name x px::es) X.env=(false,eval (.Name x px) X.env)::starEach es X.env)(hany:(backTo cp (starEach es X.env)).any (·.1)=false):
  LPE X (TbL P0 q) (.Call (.Name tn p) (.Name x px::es) [] cp) (oE X ad A i M fs):=by
 rintro cb L s σ H Q T I ⟨G,ρ,E,r,C,dx,d,l1,l2,hG,hS,ar,h1,hR,hA⟩;refine wpAny_Call_Name_kw (fI I hg hm ?_ hdb);refine PySem.W.callWith_K (h₀:=X.base) I.ok.mod.kin hk (L2.thn (cN (cM hN hv hd hcd) (ha) hst cp _ s σ H (λt H1=>∃Z ds f,t= .ref C::Z/\Step G H f H1/\aJ X.K ad f ds Z/\ds.length=n/\RMK X.K ad A f H1 C dx d l1 l2 (M r ds) Q E) I ?_) λus m hz=>?_) hst hany
 ·refine⟨.ref C,h1,?_⟩;obtain⟨G',O,E',a1,a2,a3,l⟩:=hA;refine⟨G',O,E',a1,a2,a3,?_⟩
  cases e:args fs O with
  |ok as=>
   rw[e]at l;intro t f H1 st Y;obtain⟨ds,G2,b1,b2,U,b4⟩:=l t f H1 st Y;exact⟨t,ds,G2,rfl,b1,b2,U.trans hn,b4⟩
  |ex c=>rw[e]at l;exact l
  |bad=>rw[e]at l;exact l
 ·obtain⟨t,H2,h,r2,Z,ds,f,e1,st,Y,hl,o⟩:=hz;subst e1;refine⟨h.kIn,?_⟩
  have an: ∀b,b≠X.env.locals->b∉X.fs->b∉frs X.stack:=λb n1 n2 z=>by
   rw[hstk.1]at z;unfold frs at z;rw[List.filterMap_cons,hstk.2]at z;rcases au.mp z with y|y
   ·exact n1 y
   ·exact n2 y
  have pk:qW (L++(X.pn++cb)) m.heap H2 (frs X.stack):=λp a=>by
   have:=h.pin p (by simp only[List.mem_append]at a ⊢;rcases a with z|z|z<;>simp[z])
   exact⟨this.1,this.2.1,an _ this.2.2.1 this.2.2.2.1,this.2.2.2.2⟩
  obtain⟨ps,cs,hL,tb⟩:=T.tb
  have ab:RMK X.K ad A f H2 C dx d l1 l2 (M r ds) Q (λ_ _=>False):=by
   have:=hnx r ds
   cases em:M r ds with
   |chg y r'=>rw[em]at o;exact o
   |pure y=>
    rw[em]at o
    cases y with
    |ok y=>exact o
    |ow ys=>exact o
    |ex c=>exact absurd em (this c)
    |bad=>exact o
  have lu:us.length=n+1:=by rw[<-r2.length,bo,Y.length,hl]
  refine wpAny_call (codeAny_mono (hD X.A X.stack m f H2 C dx d l1 l2 r ds Z us ⟨us,[]⟩ L (X.pn++cb) Q hr h.env0 (hbd m us h.kIn lu) r2 st.gh (hR.step st) Y hl pk T ab) λa0 s' J=>?_)
  obtain⟨u,v,H',L',rfl,os,B,un,ap,rv,qv,al,T'⟩:=J;obtain⟨hh,g,dr,tk,am⟩:=s';obtain rfl:am=m.os:=os;have I3:Inv X [] σ H2 m:=h.pins_of λp a=>by cases a
  have I4:Inv X [] σ H' {m with heap:=hh,gens:=g,drawn:=dr,toks:=tk}:=I3.call (ch:=[P0]) un ap B λb j=>by
   rw[List.mem_singleton.mp j];refine⟨.inl hx,(h.ok.exf P0 hx).1,(h.ok.exf P0 hx).2,λp a=>?_⟩
   rw[List.append_nil]at a;exact(T.dj (P0,PySem.W.tabObj ps) (by rw[hL];exact .head _) p (List.mem_append_left _ a)).symm
  have S: ∀b,b∉frs X.stack->b≠X.env.locals/\b∉X.fs:=λb j=>by
   rw[hstk.1]at j;unfold frs at j;rw[List.filterMap_cons,hstk.2]at j;exact⟨λz=>j (by rw[z];exact .head _),λz=>j (.tail _ z)⟩
  refine⟨L',T',v,H',I4.pins_of λp a=>?_,rv,qv⟩
  obtain⟨b1,b2,U,b4⟩:=al p (by simp only[List.mem_append]at a ⊢;rcases a with z|z<;>simp[z])
  exact⟨b1,b2,(S _ U).1,(S _ U).2,b4⟩
end
abbrev FR:=Rho->RM
def zR(A i:Nat)(M:FM)(fs:List F):FR:=λρ=>match(ρ[i]? :Option Slot)with
 |some (.rk C r)=>if C=A then(match args fs ρ with
  |.ok ds=>M r ds
  |.ex c=>.pure (.ex c)
  |.bad=>.pure .bad)else .pure .bad
 |_=>.pure .bad
def ifM(f:F)(g h:FR):FR:=λρ=>match f ρ with
 |.ok (.bl b)=>if b then g ρ else h ρ
 |.ex c=>.pure (.ex c)
 |_=>.pure .bad
def Jx(dE:Expr->Option F)(A:Nat)(ms:List (Str×Nat×FM))(C:SK.Ctx)(e:Expr):Option FR:=match e with
 |.Call f as kws cp=>if kws.isEmpty then(match f with
  |.Attribute o m ap=>if(ap.endLine==cp.line)=true then(bX o).bind λ(x,_)=>(loc C x).bind λi=>(ms.lookup m).bind λ(n,M)=>if as.length<20 then(dY dE as).bind λfs=>if fs.length=n then some (zR A i M fs)else none else none else none
  |_=>none)else none
 |_=>none
noncomputable def vIf:Expr->Option (Expr×Expr×Expr)
 |.IfExp c a b _=>some (c,a,b)
 |_=>none
def LF(dE:Expr->Option F)(A:Nat)(ms:List (Str×Nat×FM))(C:SK.Ctx)(e:Expr):Option FR:=match vIf e with
 |some (c,a,b)=>(dE c).bind λf=>(Jx dE A ms C a).bind λg=>(Jx dE A ms C b).map λh=>ifM f g h
 |none=>Jx dE A ms C e
theorem RMK.step{K:Frag}{ad:Ad}(h:RMK K ad A G H p dx d l1 l2 m Q E)(st:Step G H G1 H1):RMK K ad A G1 H1 p dx d l1 l2 m Q E:=by
 cases m with
 |pure x=>exact RK.step h st
 |chg x r=>
  intro v f j a t s i l;refine h v f j a ⟨st.sg.trans t.sg,t.gh,λb o c e=>t.sh b o c (st.sh _ _ e),λb g n=>?_,λb c=>t.th b λz=>c (st.sh.free z)⟩ s (i.imp id λz=>st.sh.free z) l
  cases q:G1 b with
  |none=>exact st.sh.free (t.nw b q n)
  |some o=>exact st.nw b g (by rw[q];exact λz=>nomatch z)
def tFR(X:Cx)(ad:Ad)(A:Nat)(p0 dx d l1 l2:Addr)(g:FR):TE:=λσ H Q=>∃G ρ E r i,Same G H/\SL X.K ad G H ρ σ/\XP X ad σ E/\ρ[i]? =some (.rk A r)/\σ[i]? =some (some (.ref p0))/\RackIn X.K ad A G H p0 r dx d l1 l2/\(∀(j C:Nat) (r':Rk),ρ[j]? =some (.rk C r')->j=i)/\RMK X.K ad A G H p0 dx d l1 l2 (g ρ) Q E
section
variable{ad:Ad}{A:Nat}
theorem sR(hE:rJ ad n)(O:CtxOk X ad C)(RC:RkC X.K A)(MO: ∀m n M,ms.lookup m=some (n,M)->MetOk X ad A m n M)(h:Jx (bP n C) A ms C e=some g):PE X e (tFR X ad A p0 dx d l1 l2 g):=by
 unfold Jx at h;split at h
 ·rename_i f as Z cp;split at h
  ·rename_i hk
   cases List.isEmpty_iff.mp hk
   split at h
   ·rename_i o m ap;split at h
    ·rename_i hl;have l:=zBd h;clear h;obtain⟨⟨x,p⟩,h0,h⟩:=l
     cases aW h0
     have l:=zBd h;clear h;obtain⟨i,h1,h⟩:=l;have l:=zBd h;clear h;obtain⟨⟨n0,M⟩,h2,h⟩:=l;obtain⟨v1,N,W,v4⟩:=O.vis x i h1
     simp only at h
     split at h
     ·rename_i q;have l:=zBd h;clear h;obtain⟨fs,J,h⟩:=l;split at h
      ·rename_i hn;cases h;obtain⟨ma,t⟩:=mB hE O J
       refine PE.imp (Dy RC (MO m n0 M h2) v1 N W v4 ma hn (λa r e=>by
        subst e;exact⟨aL (t a (.head _)),gK λe he=>t e (.tail _ he)⟩) (eW J).symm (oA t q) hl) λσ H Q hz=>?_
       obtain⟨G,u,E,r,j,z,L,l,e1,e2,Y,T,b⟩:=hz;unfold zR at b;split at b
       ·rename_i I U v
        by_cases B:I=A
        ·rw[if_pos B]at b
         have ej:i=j:=T i I U v
         subst ej;rw[e1]at v;cases v;refine⟨G,u,E,r,p0,dx,d,l1,l2,z,L,l,e2,Y,G,u,E,z,L,l,?_⟩
         cases s:args fs u with
         |ok ds=>
          rw[s]at b;exact λvs S H1 y rq=>⟨ds,S,y,rq,gH s,RMK.step b y⟩
         |ex c=>rw[s]at b;exact b
         |bad=>rw[s]at b;exact b
        ·rw[if_neg B]at b;exact b.elim
       ·exact b.elim
      ·cases h
     ·cases h
    ·cases h
   ·cases h
  ·cases h
 ·cases h
theorem Jy(h:vIf e=some (c,a,b)): ∃p,e= .IfExp c a b p:=by
 cases e<;>first|(cases h;exact⟨_,rfl⟩)|(cases h;done)
theorem FV(hE:rJ ad n)(O:CtxOk X ad C)(RC:RkC X.K A)(MO: ∀m n M,ms.lookup m=some (n,M)->MetOk X ad A m n M)(h:LF (bP n C) A ms C e=some g):PE X e (tFR X ad A p0 dx d l1 l2 g):=by
 unfold LF at h;split at h
 ·rename_i c a b Y;obtain⟨N,rfl⟩:=Jy Y;have p:=zBd h;clear h;obtain⟨f,T,h⟩:=p;have p:=zBd h;clear h;obtain⟨S,h2,h⟩:=p;obtain⟨Z,W,rfl⟩:=zMd h;refine PE.imp (tF (hE X C _ f O T).2.1 (sR (p0:=p0) (dx:=dx) (d:=d) (l1:=l1) (l2:=l2) hE O RC MO h2) (sR (p0:=p0) (dx:=dx) (d:=d) (l1:=l1) (l2:=l2) hE O RC MO W)) λσ H Q U=>?_
  obtain⟨G,s,E,r,i,B,t,p,I,J,z,x,j⟩:=U;unfold ifM at j
  cases q:f s with
  |ok y=>
   rw[q]at j
   cases y<;>try exact az j
   rename_i k;refine⟨G,s,E,B,t,p,.inl ⟨k,q⟩,?_⟩;rw[q];intro v u H1 o L;unfold Rep at L;subst L;refine⟨k,rfl,?_⟩
   have l:RMK X.K ad A G H p0 dx d l1 l2 (if k=true then S s else Z s) Q E:=j
   cases k
   ·rw[if_neg bd]at l;exact xB ⟨u,s,E,r,i,o.gh,t.step o,p,I,J,z.step o,x,RMK.step l o⟩
   ·rw[if_pos rfl]at l;exact wK ⟨u,s,E,r,i,o.gh,t.step o,p,I,J,z.step o,x,RMK.step l o⟩
  |ow ys=>rw[q]at j;exact j.elim
  |ex c=>
   rw[q]at j;refine⟨G,s,E,B,t,p,.inr ⟨c,q⟩,?_⟩;rw[q];exact j
  |bad=>rw[q]at j;exact j.elim
 ·exact sR hE O RC MO h
end
theorem zS{l:List Nat}(h:l.Nodup){i j x:Nat}(a:l[i]? =some x)(b:l[j]? =some x):i=j:=by
 obtain⟨d,a⟩:=ax.mp a;obtain⟨c,b⟩:=ax.mp b;exact(List.getElem_inj h).mp (a.trans b.symm)
structure DidX(X:Cx)(ad:Ad)(C:SK.Ctx)(tn:Str)(F:Fn)(A:Nat)(ms:List (Str×Nat×FM))(P c:Addr)(q:Str)(k:Nat):Prop where
 O:StOk X ad C
 B:ExcK X.K ad
 TB:d8 X.prog X.w X.K X.mg X.base ad k C.tab
 FB:fV X.prog X.w X.K X.mg X.base ad k C.fns
 RC:RkC X.K A
 MO: ∀m n M,ms.lookup m=some (n,M)->(m≠"held"/\m≠"done"/\m≠"undone")/\∃f r fd ps,r<=k/\Meth X.K A m f/\FnOk X.prog X.w X.K X.mg X.base (CXe X.prog X.w) r f fd ps (spM X.K ad A n M)/\d6 X.K fd ps []
 told: ∃ft fd dn,X.mg tn=some (.ref ft)/\PySem.W.keepIn X.K (.ref ft)=true/\lJ X.prog X.w X.K X.mg X.base ad (k+1) ft fd dn F/\∀(s:Shared) (u:Value),X.K.In s.heap->BindsTo s fd ⟨[u],[]⟩ [(dn,u)]
 tdb:(tn==("__debug__":Str))=false
 room:Room (k+2) X.A
 ex:P∈X.ex
 ql:X.env.qual++"<lambda>"=q
 code:X.env.code= .ref c
 hC:PySem.W.CodeHd X.base c P
 hB:X.base.BuiltinsAt X.mg P
def sS(F:Fn)(cap:List Nat)(g:FR):FR:=λρ=>match B4 cap ρ with
 |some sl=>cF F (g sl)
 |none=>.pure .bad
def KB(tn:Str)(A:Nat)(ms:List (Str×Nat×FM))(C:SK.Ctx):Expr->Option (List Nat×FR)
 |.Call (.Name x _) [l] [] _=>if x=tn/\C.sc.names.lookup x=some .globalImplicit then(Mu l).bind λ(ps,body,sc)=>if FP ps&&Ch sc then(dY (λx=>fA C x) (aX sc)).bind λcap=>(LF (bP 50 ⟨C.tab,C.fns,sc,aX sc,[]⟩) A ms ⟨C.tab,C.fns,sc,aX sc,[]⟩ body).map λg=>(cap,g)else none else none
 |_=>none
def zT(tn:Str)(F:Fn)(A:Nat)(ms:List (Str×Nat×FM))(C:SK.Ctx)(e:Expr):Option FR:=(KB tn A ms C e).bind λ(cap,g)=>if cap.contains 0&&decide cap.Nodup then some (sS F cap g)else none
def tF0(X:Cx)(ad:Ad)(A:Nat)(p0 dx d l1 l2:Addr)(g:FR):TE:=λσ H Q=>∃G ρ E r,Same G H/\SL X.K ad G H ρ σ/\XP X ad σ E/\ρ[0]? =some (.rk A r)/\σ[0]? =some (some (.ref p0))/\RackIn X.K ad A G H p0 r dx d l1 l2/\(∀(j C:Nat) (r':Rk),ρ[j]? =some (.rk C r')->j=0)/\RMK X.K ad A G H p0 dx d l1 l2 (g ρ) Q E
theorem FW{K:Frag}{ad:Ad}{F:Fn}(h:RMK K ad A G H p dx d l1 l2 (cF F m) Q E):RMK K ad A G H p dx d l1 l2 (cF F m) Q λ_ _=>False:=by
 cases m with
 |chg x r=>exact h
 |pure r=>
  have a:RK K ad G H (oB F r) Q E:=h;show RK K ad G H (oB F r) Q _
  cases e:oB F r with
  |ok d=>rw[e]at a;exact a
  |ow b=>rw[e]at a;exact a
  |ex c=>exact absurd e (u9 r c)
  |bad=>rw[e]at a;exact a
theorem Jz: ∀{cs:List Nat} {sl:List SK.Slot},B4 cs ρ=some sl->∀(i:Nat) (s:SK.Slot),sl[i]? =some s->∃j,cs[i]? =some j/\ρ[j]? =some s:=by
 intro cs sl h i s e
 have b:dY (λi=>qN ρ[i]?) cs=some sl:=h
 induction cs generalizing sl i with
 |nil=>cases b;cases e
 |cons c cs l=>
  unfold dY at b
  cases a:qN ρ[c]? with
  |none=>rw[a]at b;cases b
  |some y=>
   rw[a]at b;obtain⟨g,f,m⟩:=zMd b;subst m
   cases i with
   |zero=>
    cases e;refine⟨c,rfl,?_⟩
    cases d:ρ[c]? with
    |none=>rw[d]at a;cases a
    |some z=>rw[d]at a;cases z<;>first|(cases a;rfl)|(cases a;done)
   |succ i=>exact l (sl:=g) (i:=i) f e f
theorem JA: ∀{cs:List Nat} {sl:List SK.Slot},B4 cs ρ=some sl->∀(i j:Nat),cs[i]? =some j->∃s,sl[i]? =some s/\ρ[j]? =some s:=by
 intro cs sl h i j e;obtain⟨b,d,g⟩:=sQ (f:=λi=>qN ρ[i]?) h i j e
 refine⟨b,d,?_⟩
 have a:qN ρ[j]? =some b:=g
 cases c:ρ[j]? with
 |none=>rw[c]at a;cases a
 |some z=>rw[c]at a;cases z<;>first|(cases a;rfl)|(cases a;done)
section
variable{ad:Ad}{C:SK.Ctx}{tn:Str}{F:Fn}{A:Nat}{ms:List (Str×Nat×FM)}{e:Expr}{g:FR}
theorem DC(L:DidX X ad C tn F A ms P c q k)(h:KB tn A ms C e=some (cap,fb)){σ:St}{ρ sl:Rho}(T:TD (TbL P q) L0 (X.pn++cb))(I:Inv X (L0++cb) σ H s)(hG:Same G H)(hS:SL X.K ad G H ρ σ)(hcd:B4 cap ρ=some sl)(ei:cap[i']? =some i)(z1:sl[i']? =some (.rk A r))(es:σ[i]? =some (some (.ref p0)))(hR:RackIn X.K ad A G H p0 r dx d l1 l2)(hu: ∀(j C:Nat) (r':Rk),sl[j]? =some (.rk C r')->j=i')(hr:RMK X.K ad A G H p0 dx d l1 l2 (cF F (fb sl)) Q E):
  wpAny (model X.prog X.w) X.A (eval e X.env) (EPL X (TbL P q) cb σ Q) X.xe s:=by
 unfold KB at h;split at h
 ·rename_i x p l cp;split at h
  ·rename_i g;obtain⟨rfl,as⟩:=g;have g:=zBd h;clear h;obtain⟨⟨ps,a0,sc⟩,h0,h⟩:=g;obtain⟨lp,rfl⟩:=FQ h0
   simp only at h
   split at h
   ·rename_i hp;rw[av]at hp;obtain⟨Z,u⟩:=hp
    cases Cg Z
    have g:=zBd h;clear h;obtain⟨a1,b,h⟩:=g;obtain⟨a2,al,h⟩:=zMd h;cases h;obtain⟨ft,fd,dn,t1,t2,t3,t4⟩:=L.told
    have hC:PySem.W.CodeHd s.heap c P:=by
     obtain⟨o,J,v,tf,t,tg,ab,S,tt,y,r⟩:=L.hC;exact⟨o,J,v,tf,t,tg,ab,S,tt,(I.bs _ _ y).1,r⟩
    have hB:s.heap.BuiltinsAt X.mg P:=by
     obtain⟨bm,o,b1,b2,b3,b4,b5,r⟩:=L.hB;exact⟨bm,o,b1,b2,b3,b4,(I.bs _ _ b5).1,r⟩
    refine B5 (k:=k) (F:=F) (cap:=cap) (dn:=dn) (fd:=fd) (ad:=ad) (ds:=sl) (Φ:=λG H Q E=>RMK X.K ad A G H p0 dx d l1 l2 (fb sl) Q E) (tb:=λY=>tFR Y ad A p0 dx d l1 l2 fb) L.O.fn (L.O.cx.gk _ as) t1 L.tdb t2 t3 L.room t4 L.ex rfl L.ql (λx g=>?_) L.code hC hB (qV u).1 (λ_ _ _ _=>rfl) (eW b) (λi x hi=>?_) (λa cd cl A' an s H E hr=>?_) T I hG hS hcd (λY J G1 H1 Q1 E1 yk ak am st1 z ap ar=>?_) (Jn (FW hr))
    ·obtain⟨j,y⟩:=nU b x (nV g);exact L.O.cx.cap x j y
    ·obtain⟨j,y,e2⟩:=sQ b i x hi;refine⟨j,y,?_,L.O.cx.cap x j e2⟩;rw[L.O.cx.N];exact fP (eF e2).1
    ·exact FV (dN (ad:=ad) 50).1 (Ng L.B L.TB L.FB u hr) L.RC (λm n M hm=>let ⟨no,f,r,fd,ps,h1,h2,h3,h4⟩:=L.MO m n M hm;⟨no,f,r,fd,ps,h2,h3,hr.mono h1,h4⟩) al
    ·have lv:(J.map some).length=sl.length:=z.len.symm
     obtain⟨v0,ev⟩: ∃v0,J[i']? =some v0:=by
      have U:i'<sl.length:=(ax.mp z1).1;rw[<-lv,ao]at U;exact⟨J[i'],bc U⟩
     have e0:=ap i' i v0 ei ev;rw[es]at e0;cases e0;exact⟨G1,sl,(λc H'=>E1 (.ref (ad.cls c)) none H'),r,i',am,by rw[yk];exact z,yN ak,z1,by rw[List.getElem?_map,ev];rfl,by rw[yk];exact hR.step st1,hu,by rw[yk];exact ar⟩
   ·cases h
  ·cases h
 ·cases h
theorem vA(L:DidX X ad C tn F A ms P c q k)(h:zT tn F A ms C e=some g):LPE X (TbL P q) e (tF0 X ad A p0 dx d l1 l2 g):=by
 have o:=zBd h;clear h;obtain⟨⟨i,fb⟩,h,l⟩:=o
 simp only at l
 split at l
 ·rename_i b;rw[av,decide_eq_true_eq]at b;cases l;rintro Z L0 s Y H Q T I ⟨G,U,E,r,y,S,o,v,M,x,t,f⟩;unfold sS at f
  cases a:B4 i U with
  |none=>rw[a]at f;exact f.elim
  |some sl=>
   rw[a]at f;obtain⟨m,n⟩: ∃m,i[m]? =some 0:=List.mem_iff_getElem?.mp (by simpa using b.1)
   obtain⟨N,W,p⟩:=JA a m 0 n;rw[v]at p;cases p;refine DC L h T I y S a n W M x (λj K u J=>?_) f
   obtain⟨B,O,z⟩:=Jz a j _ J
   have:=t B K u z
   subst this;exact zS b.2 O n
 ·cases l
def rdT(tn:Str)(F:Fn)(A:Nat)(ms:List (Str×Nat×FM))(C:SK.Ctx)(e:Expr):Option (Nat×FM):=(KB tn A ms C e).bind λ(cap,g)=>match cap with
 |[i]=>some (i,λr _=>cF F (g [.rk A r]))
 |_=>none
theorem JB(L:DidX X ad C tn F A ms P c q k)(h:rdT tn F A ms C e=some (i,M)):LPE X (TbL P q) e (oE X ad A i M []):=by
 have m:=zBd h;clear h;obtain⟨⟨O,fb⟩,h,b⟩:=m
 simp only at b
 split at b
 ·cases b;rintro cb L0 s σ H Q T I ⟨G,ρ,E,r,J,x,d,v,N,hG,o,m,g,y,t,u,U,l,_,_,Y⟩;obtain⟨ds,G3,f,rq,S,W⟩:=(show AK X.K ad t H (.ok []) _ U from Y) [] t H (Step.refl l) aJ.nil
  have a:i<ρ.length:=by rw[o.len];exact(ax.mp g).1
  have n:=o.step f;have p:=y.step f;refine DC L h (ρ:=ρ.set i (.rk A r)) (sl:=[.rk A r]) (i':=0) T I f.gh ⟨by rw[List.length_set];exact n.len,λj sl e=>?_⟩ (by simp[B4,dY,qN,a]) rfl rfl g p (λj C' Z B=>?_) W
  ·by_cases z:i=j
   ·subst z;rw[bh a]at e;cases e;exact⟨_,g,J,x,d,v,N,rfl,p⟩
   ·rw[ba z]at e;exact n.at_ j sl e
  ·cases j with
   |zero=>rfl
   |succ j=>cases B
 ·cases b
end
def JC:Stmt->Option Expr
 |.Return v _=>v
 |_=>none
noncomputable def KC:Stmt->Option (Expr×List Stmt×List Stmt)
 |.If c a b _=>some (c,a,b)
 |_=>none
def dSs(tn:Str)(F:Fn)(A:Nat)(ms:List (Str×Nat×FM))(C:SK.Ctx):List Stmt->Option FR
 |[]=>none
 |s::dZ=>match dZ with
  |[]=>(JC s).bind λe=>zT tn F A ms C e
  |_::_=>(KC s).bind λ(c,a,b)=>if b.isEmpty then(HQ a).bind λs1=>(JC s1).bind λe=>(bP 50 C c).bind λf=>(zT tn F A ms C e).bind λg=>(dSs tn F A ms C dZ).map λh=>ifM f g h else none
theorem zU(h:JC s=some e): ∃p,s= .Return (some e) p:=by
 cases s<;>first|(cases h;exact⟨_,rfl⟩)|(cases h;done)
theorem zV(h:KC s=some (c,a,b)): ∃p,s= .If c a b p:=by
 cases s<;>first|(cases h;exact⟨_,rfl⟩)|(cases h;done)
section
variable{X:Cx}{ad:Ad}{C:SK.Ctx}{tn q:Str}{F:Fn}{A:Nat}{ms:List (Str×Nat×FM)}{P c:Addr}{k:Nat}{e:Expr}{g:FR}{p0 dx d l1 l2:Addr}{t:TE}
theorem DD(L:DidX X ad C tn F A ms P c q k): ∀{sts:List Stmt} {g:FR},dSs tn F A ms C sts=some g->rL X (TbL P q) sts λD σ H=>tF0 X ad A p0 dx d l1 l2 g σ H D.rt
 |[],_,h=>by cases h
 |[s],g,h=>by
  have i:=zBd (show(JC s).bind (λe=>zT tn F A ms C e)=some g from h)
  obtain⟨e,z,B⟩:=i;obtain⟨x,rfl⟩:=zU z;exact iL (u:=A1) (zM (vA L B)) (oC kG)
 |s::s2::dZ,g,h=>by
  have i:=zBd (show(KC s).bind (λ(c,a,b)=>if b.isEmpty then(HQ a).bind λJ=>(JC J).bind λe=>(bP 50 C c).bind λf=>(zT tn F A ms C e).bind λg=>(dSs tn F A ms C (s2::dZ)).map λh=>ifM f g h else none)=some g from h)
  clear h;obtain⟨⟨cd,a,b⟩,z,h⟩:=i;obtain⟨x,rfl⟩:=zV z
  simp only at h
  split at h
  ·rename_i hb
   cases List.isEmpty_iff.mp hb
   have i:=zBd h;clear h;obtain⟨J,B,h⟩:=i
   cases B2 B
   have i:=zBd h;clear h;obtain⟨e,Z,h⟩:=i;obtain⟨rp,rfl⟩:=zU Z;have i:=zBd h;clear h;obtain⟨f,h4,h⟩:=i;have i:=zBd h;clear h;obtain⟨W,h5,h⟩:=i;obtain⟨g2,h6,rfl⟩:=zMd h;have Y:=DD L h6;refine rL.imp (iL (Jk ((dN (ad:=ad) 50).1 X C _ f L.O.cx h4).2.1 (iL (u:=A1) (zM (vA (p0:=p0) (dx:=dx) (d:=d) (l1:=l1) (l2:=l2) L h5)) (oC kG)) (oC kG)) Y) λD σ H hz=>?_
   obtain⟨G,o,E,r,T,p,i,M,N,S,Q,j⟩:=hz;unfold ifM at j
   cases n:f o with
   |ok y=>
    rw[n]at j
    cases y<;>try exact az j
    rename_i t;refine⟨G,o,E,T,p,i,.inl ⟨t,n⟩,?_⟩;rw[n];intro v I H1 m U;unfold Rep at U;subst U;refine⟨t,rfl,?_⟩
    have l:RMK X.K ad A G H p0 dx d l1 l2 (if t=true then W o else g2 o) D.rt E:=j
    cases t
    ·rw[if_neg bd]at l;exact xB ⟨I,o,E,r,m.gh,p.step m,i,M,N,S.step m,Q,RMK.step l m⟩
    ·rw[if_pos rfl]at l;exact wK ⟨I,o,E,r,m.gh,p.step m,i,M,N,S.step m,Q,RMK.step l m⟩
   |ow ys=>rw[n]at j;exact j.elim
   |ex c=>
    rw[n]at j;refine⟨G,o,E,T,p,i,.inr ⟨c,n⟩,?_⟩;rw[n];exact j
   |bad=>rw[n]at j;exact j.elim
  ·cases h
end
def FX(A N:Nat)(g:FR):FM:=λr ds=>g (.rk A r::(ds.map Slot.sh++aj (N-(ds.length+1)) .no))
section
variable{ad:Ad}{tab:List (Str×SK.Gl)}{F:Fn}{A:Nat}{ms:List (Str×Nat×FM)}{kV:Value}
theorem JD(B:ExcK X.K ad)(TB:d8 X.prog X.w X.K X.mg X.base ad k tab)(FB:fV X.prog X.w X.K X.mg X.base ad k fns)(RC:RkC X.K A)(MO: ∀m n M,ms.lookup m=some (n,M)->(m≠"held"/\m≠"done"/\m≠"undone")/\∃f r fd ps,r<=k/\Meth X.K A m f/\FnOk X.prog X.w X.K X.mg X.base (CXe X.prog X.w) r f fd ps (spM X.K ad A n M)/\d6 X.K fd ps [])(told: ∃ft fd dn,X.mg tn=some (.ref ft)/\PySem.W.keepIn X.K (.ref ft)=true/\lJ X.prog X.w X.K X.mg X.base ad (k+1) ft fd dn F/\∀(s:Shared) (u:Value),X.K.In s.heap->BindsTo s fd ⟨[u],[]⟩ [(dn,u)])(tdb:(tn==("__debug__":Str))=false)(hC:PySem.W.CodeHd X.base c P0)(hB:X.base.BuiltinsAt X.mg P0)(hbP:X.base.get? P0=none)(lk:X.K.lookup fa=some ⟨oc,od,.func (PySem.W.fnOf name qual params body sc dV kV doc pm an (.ref c) ct),osl⟩)(hcd:PySem.W.codeIn X.K (.ref c) qual=true)(hs:bU (aB sc) (self::prs) sc=true)(hd:dSs tn F A ms ⟨tab,fns,sc,aB sc,[]⟩ body=some g):
  FT X ad A prs.length P0 ((envOfC qual sc 0 fa (.ref c)).qual++"<lambda>") (k+3) fa (PySem.W.fnOf name qual params body sc dV kV doc pm an (.ref c) ct) (self::prs) (FX A (aB sc).length g):=by
 intro q a s G H p0 dx d l1 l2 r b i us args L0 pl Q v e0 l rv y x t Z I T E;have S:=(cR hs).1;have h:Room (k+2) (q.deeper (envOfC qual sc s.heap.objs.size fa (.ref c))):=v.deeper _
 have L:DidX (cxP [P0] (jW (CXe X.prog X.w) X.prog X.w X.K X.mg X.base (aB sc) qual sc fa (.ref c) q a s H λ_ _ _=>False)) ad ⟨tab,fns,sc,aB sc,[]⟩ tn F A ms P0 c ((envOfC qual sc 0 fa (.ref c)).qual++"<lambda>") k:=
  ⟨(sP B TB FB hs (h.mono (by lia))).P,B,TB,FB,RC,MO,told,tdb,h,.head _,rfl,rfl,hC,hB⟩
 have o:i.length=prs.length:=by rw[t.length,Z]
 refine Ci (k:=k+2) lk hcd S v e0 l (by rw[bo,bo,o]) rv I T hbP (DD (p0:=p0) (dx:=dx) (d:=d) (l1:=l1) (l2:=l2) L hd) ?_
 have N:=iK (X:=cxP [P0] (jW (CXe X.prog X.w) X.prog X.w X.K X.mg X.base (aB sc) qual sc fa (.ref c) q a s H λ_ _ _=>False)) (ad:=ad) (n:=(aB sc).length-(b.length+1)) y t
 have p:L2.start (aB sc) (V.ref p0::i)=some (V.ref p0)::(i.map some++aj ((aB sc).length-(b.length+1)) none):=by
  unfold L2.start;rw[bo,t.length];rfl
 rw[p];have S1:SL X.K ad G H (b.map SK.Slot.sh++aj ((aB sc).length-(b.length+1)) SK.Slot.no) (i.map some++aj ((aB sc).length-(b.length+1)) none):=N.sl;refine⟨G,SK.Slot.rk A r::(b.map SK.Slot.sh++aj ((aB sc).length-(b.length+1)) SK.Slot.no),λ_ _=>False,r,y,SL.cons (s:=.rk A r) (ov:=some (.ref p0)) S1 ⟨p0,dx,d,l1,l2,rfl,x⟩,?_,rfl,rfl,x,λj Y C U=>?_,E⟩
 ·exact λcb H s e s' _ O=>by
   obtain⟨_,_,_,_,_,_,_,_,_,_,_,_,_,_,_,_,z⟩:=O;exact z.elim
 ·cases j with
  |zero=>rfl
  |succ j=>
   have J:(b.map Slot.sh++aj ((aB sc).length-(b.length+1)) Slot.no)[j]? =some (.rk Y C):=U
   have m:=List.mem_of_getElem? J;rcases List.mem_append.mp m with m|m
   ·obtain⟨d',_,z⟩:=aq.mp m;cases z
   ·cases (List.mem_replicate.mp m).2
end
section
variable{K:Frag}{ad:Ad}{q1:Str}{st:Stmt}{F:Fn}
theorem Cj(Fu:Fun K x0 qual st f fd)(hb: ∃cp xp ep ap hp' rq np dp rp tp,defBody st=[j7 t.dn t.en t.x t.cx cp xp ep ap hp' rq np dp rp tp])(hs:(LE st).map (LD t)=some true)(hmx:mg t.x=some (.ref fa))(hkx:PySem.W.keepIn K (.ref fa)=true)(hfx:FnOkQ P w K mg base (CXe P w) kf fa fdx [q1] (vX K ad 1 F))(hbx:d6 K fdx [q1] [])(hkf:kf<=k)(hmc:mg t.cx=some (.ref (ad.cls 0)))(B:ExcK K ad):lJ P w K mg base ad k f fd t.dn F:=by
 obtain⟨oc,od,kV,M,pm,an,v,ct,Y,rfl,lk,n⟩:=Fu.ex
 cases st with
 |FunctionDef nm as b dl re tp i ts bi r=>
  obtain⟨cp,xp,ep,ap,hp',rq,np,dp,rp,J,hb⟩:=hb
  cases (show b=_ from hb)
  have h:LD t i=true:=Option.some.inj hs
  unfold LD at h;simp only[av,Bool.not_eq_true']at h;obtain⟨⟨⟨⟨⟨⟨⟨y,C⟩,U⟩,Z⟩,L⟩,O⟩,I⟩,s8⟩:=h
  have d:aB i=[t.dn,t.en]:=by simpa using C
  obtain⟨S,c⟩:=cR y;intro A m s G H a Φ Q E args q T j l _ _ g z u;have p:t.dn∈aB i:=by rw[d];simp
  have o:t.en∈aB i:=by rw[d];simp
  exact zN (N:=aB i) lk n S (by rw[d];rfl) (by rw[d];rfl) (cD U) (cD Z) (c _ p).1 (c _ p).2 (c _ o).1 (c _ o).2 hmx I hkx hfx hbx hkf hmc s8 B.exm (λX e=>by show X.env.scope.names.lookup _=_;rw[e];exact cD L) (λX e=>by show X.env.scope.names.lookup _=_;rw[e];exact cD O) q T j l g z u
 |_=>cases hs
end
abbrev LMS(X:Cx)(Δ:Pl->Prop)(ad:Ad)(Z:(St->Nat->Hp->Prop)->Prop)(st:Stmt)(g:FS):Prop:=LPS X Δ st (tS X ad Z g)
abbrev FY(X:Cx)(Δ:Pl->Prop)(ad:Ad)(Z:(St->Nat->Hp->Prop)->Prop)(st:List Stmt)(g:FS):Prop:=rL X Δ st (tS X ad Z g)
section
variable{ad:Ad}{tg:Expr}{st:Stmt}
theorem DE(a:MS X ad Z st g):LMS X Δ ad Z st g:=Jj a
theorem Ck:FY X Δ ad Z [] aQ:=oC sE
theorem zW(h1:LMS X Δ ad Z st g)(h2:FY X Δ ad Z sts h):FY X Δ ad Z (st::sts) (a8 g h):=by
 refine rL.imp (iL h1 h2) ?_;rintro o n H ⟨d,G,i,E,S,f,a⟩;refine⟨d,G,i,E,S,f,?_⟩;unfold a8 at a
 cases e:g i with
 |nx b=>rw[e]at a;exact λm l p j=>⟨d,l,b,E,j,f,a⟩
 |bk b=>rw[e]at a;exact a
 |ct b=>rw[e]at a;exact a
 |ex c b=>rw[e]at a;exact a
 |rt r=>
  rw[e]at a
  cases r<;>exact a
theorem FZ(hp:PassesOwn (model X.prog X.w) X.A X.env X.xe)(hc:X.calm=true)(hN:X.N.Nodup)(hi:MIG X ad tg it f)(ht:cO tg=some (xs,k))(hn:NmsOk X xs is)(hb:FY X Δ ad Z body g)(hs: ∀x,foldedSetIterable it X.env x=pure x):LMS X Δ ad Z (.For tg it body [] pos) (D5 is (k==0) f g):=by
 obtain⟨q,hk⟩:=EQ hc hN ht hn;refine LPS.imp (Fo hp hc hi q hb hs) ?_;rintro r j H ⟨h,G,m,E,S,i,a⟩;refine⟨G,m,E j,S.st.gh,S.sl,i.1 j,?_⟩;unfold D5 fS at a
 cases e:f m with
 |ok d=>
  rw[e]at a
  have b:OKo X ad h (match mH d with|some n=>iW (tQ is (k==0)) g n m|none=>.rt .bad) r E:=a
  cases l:mH d with
  |none=>rw[l]at b;exact b.elim
  |some n=>
   rw[l]at b;exact⟨n,l,λJ p s st it=>uL hk (S.step st) i it b⟩
 |ow xs=>
  rw[e]at a;exact λJ p s st it=>uL hk (S.step st) i it a
 |ex c=>rw[e]at a;exact λo t st=>a j o t (S.step st)
 |bad=>rw[e]at a;exact a
theorem Cl(hu:X.A.units+62<cLine)(ha:LPE X Δ a (oE X ad A i M fs))(hb:ME X ad b ge)(hm:behindInMarks op b=false):LPT X Δ (.Compare a [op] [b] pos) (tTx X ad Z (qU A i M fs op ge)):=by
 intro n L s f H Q T I h;have d:=Ju h;unfold tOp at d
 refine wpAny_isTrue_Compare1 (L2.thn (ha n L s f H _ T I d) λv r ⟨K,j,x,J,m,t,E⟩=>L2.thn (hb _ r f J _ m E) λu B ⟨y,g,o,N,G⟩=>
  L2.thn (FO hu _ B f g x y v u _ o t N G) λc O ⟨z,l,C,p,k,e,q⟩=>?_) hm
 subst e;cases p;exact wpAny_truthy_bool ⟨K,j,l,C,q⟩
theorem Cm(h:LPT X Δ e (tTx X ad Z c)):LPW X Δ (.BoolOp .Or [e] pos) (tTx X ad Z c):=Fp h
theorem F1(ha:LPT X Δ a (tTx X ad Z c1))(hb:LPW X Δ (.BoolOp .Or (b::r) pos) (tTx X ad Z c2)):LPW X Δ (.BoolOp .Or (a::b::r) pos) (tTx X ad Z (cOr c1 c2)):=by
 rintro n m L s l H Q T I ⟨d,G,o,i,E,k,S,f,j,g⟩;refine Jm ha hb n m L s l H Q T I ?_;refine⟨d,G,o,i,E,λb c=>if b then k true c else c2 c k,S,f,j,λb c e p h ok=>?_⟩
 cases b
 ·exact xB ⟨d,e,c,i,E,k,h,f,ok,g⟩
 ·exact wK (g true c e p h ok)
theorem F2(hc:LPT X Δ e (tTx X ad Z c))(ha:FY X Δ ad Z sa gs)(hb:FY X Δ ad Z sb hs):LMS X Δ ad Z (.If e sa sb pos) (lX c gs hs):=by
 refine LPS.imp (Fr hc ha hb) ?_;rintro j m H ⟨a,G,l,E,S,f,i⟩;refine⟨a,G,l,j,E,λb d=>if b then gs d else hs d,S,f,i,λb d g n h ok=>?_⟩
 cases b
 ·exact xB ⟨a,g,d,E,h,f,ok⟩
 ·exact wK ⟨a,g,d,E,h,f,ok⟩
end
def qY(i j k l A:Nat)(fs:List F):FS:=λρ=>match args fs ρ with
 |.ok ds=>(match ds with
  |[a,b,c]=>.nx ((((ρ.set i (.rk A ⟨[],[],[]⟩)).set j (.sh a)).set k (.sh b)).set l (.sh c))
  |_=>.rt .bad)
 |.ex c=>.ex c ρ
 |.bad=>.rt .bad
section
variable{ad:Ad}
theorem Cn{i j k l kt k2:Nat}(O:StOk X ad C)(MK:MkOk X ad A)(ha:MA X ad es fs)(hi:loc C x=some i)(hj:loc C y=some j)(hk:loc C u=some k)(hl:loc C v=some l)(hg:L2.Gl X z)(hm:X.mg z=some (.ref A))(hdb:(z==("__debug__":Str))=false)(hw:swappedStores [.Tuple [.Name x px,.Name y py,.Name u pu,.Name v pv] kt pt] (.Tuple (.Call (.Name z np) [] [] cp::es) k2 pt2) X.env=pure none):
  MS X ad Z (.Assign [.Tuple [.Name x px,.Name y py,.Name u pu,.Name v pv] kt pt] (.Tuple (.Call (.Name z np) [] [] cp::es) k2 pt2) pos) (qY i j k l A fs):=by
 obtain⟨f,k',fd,ps,M,F,d,hb⟩:=MK.ok
 have n:dY (λx=>loc C x) [x,y,u,v]=some [i,j,k,l]:=by simp[dY,hi,hj,hk,hl]
 obtain⟨P,_⟩:=EQ (tg:=.Tuple [.Name x px,.Name y py,.Name u pu,.Name v pv] kt pt) (xs:=[x,y,u,v]) (k:=4) O.cx.calm O.cx.nd rfl (O.nms n);refine PS.imp (wV (CS (cN (λW s m H Q I hq=>A6 (E:=λ_ _ _=>False) M F d hg hm hb .nil (λW m H s e s' I B=>by obtain⟨_,_,_,_,_,_,_,_,_,_,_,_,_,_,z⟩:=B;exact z.elim) hdb W s m H Q I hq) ha rfl)) P rfl hw rfl) ?_
 rintro D' m H ⟨ab,G,ρ,E,S,hx,d⟩;intro p r np h N;refine⟨p,r,G,rfl,?_,S.st.gh.free np,S.st.gh.free h,N,aH,by rw[aC N,aH],λd0 l1 l2 H' nd n1 n2 hR hk=>⟨rfl,?_⟩⟩
 ·exact S.st.gh.trans ((Same.upd_new h).trans (Same.upd_new (by rw[aC (Ne.symm N)];exact np)))
 ·have back: ∀{c:Addr},upd (upd H r (.own p)) p (.ins A r []) c=none->H c=none:=λ{c} B=>by
   by_cases z:c=p
   ·rw[z];exact np
   ·by_cases z2:c=r
    ·rw[z2];exact h
    ·rw[aC z,aC z2]at B;exact B
  have q:Same H H':=λb o e=>hk b o (aN e np) (by rw[aC (aN e np),aC (aN e h)];exact e)
  have st0:Step G H G H':=⟨Same.refl _,S.st.gh.trans q,q,λb h1 h2=>absurd h1 h2⟩
  have S2:=S.setR (i:=i) q hR (λa ha=>by
   simp only[au,List.not_mem_nil,or_false]at ha;rcases ha with z|z|z|z|z
   ·rw[z];exact np
   ·rw[z];exact h
   ·rw[z];exact back nd
   ·rw[z];exact back n1
   ·rw[z];exact back n2) (S.st.gh.trans q)
  have J:=S.step st0;refine⟨G,ρ,E m,J.st.gh,J.sl,hx.1 m,?_⟩;unfold qY at d
  cases K:args fs ρ with
  |ex c=>rw[K]at d;exact λL H1 st=>d m L H1 (J.step st)
  |bad=>rw[K]at d;exact d.elim
  |ok ds=>
   rw[K]at d
   simp only at d
   split at d
   ·rename_i a b c;intro vs L H1 st1 g;unfold aJ at g;obtain⟨Y,r1,rfl,q1,g⟩:=g;unfold aJ at g;obtain⟨T,r2,rfl,q2,g⟩:=g;unfold aJ at g;obtain⟨U,r3,rfl,q3,g⟩:=g
    cases (show r3=[] by unfold aJ at g;exact g)
    refine⟨show 4<=sizeLine by decide,λt nt=>?_⟩
    refine⟨t,[.ref p,Y,T,U],rfl,SqT.of aH,rfl,uK rfl ?_⟩;have S3:=(S2.step st1).step (Step.own (o:=.tup [.ref p,Y,T,U]) st1.gh nt);exact d _ L _ (((S3.set q1).set q2).set q3)
   ·exact d.elim
end
structure MRd where
 A:Nat
 i:Nat
 M:FM
 fs:List F
def F3(C:SK.Ctx)(e:Expr):Option MRd:=(rkc C).bind λ(A,ms)=>(u8 e).bind λc=>(bX c.o).bind λ(x,_)=>(loc C x).bind λi=>(ms.lookup c.m).bind λ(n,M)=>if c.as.length<20 then(dY (bP 50 C) c.as).bind λfs=>if fs.length=n then some ⟨A,i,M,fs⟩ else none else none
theorem zX(h:rkc C=some (A,ms)):C.tab.lookup ("Rack":Str)=some (SK.Gl.cls A ms):=by
 unfold rkc at h;split at h
 ·rename_i e;cases h;exact e
 ·cases h
def vB(e:Expr):Option Str:=match e with
 |.Call f as kws _=>if as.isEmpty&&kws.isEmpty then(bX f).map (·.1)else none
 |_=>none
theorem zY(h:vB e=some z): ∃np cp,e= .Call (.Name z np) [] [] cp:=by
 unfold vB at h;split at h
 ·split at h
  ·rename_i a;rw[av]at a
   cases eJ a.1
   cases eJ a.2
   obtain⟨⟨x,p⟩,b,rfl⟩:=zMd h
   cases aW b
   exact⟨_,_,rfl⟩
  ·cases h
 ·cases h
def LG(st:Stmt):Option (Expr×Expr):=match st with
 |.Assign ts e _=>(one ts).map λt=>(t,e)
 |_=>none
theorem F4{st:Stmt}(h:LG st=some (t,e)): ∃p,st= .Assign [t] e p:=by
 unfold LG at h;split at h
 ·obtain⟨c,b,a⟩:=zMd h
  cases cE b
  cases a;exact⟨_,rfl⟩
 ·cases h
structure GCl where
 g:Str
 gp:Pos
 x:Str
 xp:Pos
 as:List Expr
 cp:Pos
def LH(e:Expr):Option GCl:=match e with
 |.Call f as kws cp=>if kws.isEmpty then(bX f).bind λ(g,gp)=>(match as with
  |[]=>none
  |a::r=>(bX a).map λ(x,xp)=>⟨g,gp,x,xp,r,cp⟩)else none
 |_=>none
theorem F5(h:LH e=some c):e= .Call (.Name c.g c.gp) (.Name c.x c.xp::c.as) [] c.cp:=by
 unfold LH at h;split at h
 ·split at h
  ·rename_i hk
   cases List.isEmpty_iff.mp hk
   have b:=zBd h;clear h;obtain⟨⟨g,gp⟩,a,h⟩:=b
   cases aW a
   simp only at h
   split at h
   ·cases h
   ·obtain⟨⟨x,xp⟩,d,rfl⟩:=zMd h
    cases aW d
    rfl
  ·cases h
 ·cases h
abbrev GMs:=List (Str×Nat×FM)
def rdG(gms:GMs)(A:Nat)(C:SK.Ctx)(e:Expr):Option MRd:=(LH e).bind λc=>(gms.lookup c.g).bind λ(n,M)=>if C.sc.names.lookup c.g=some .globalImplicit then(loc C c.x).bind λi=>(dY (bP 50 C) c.as).bind λfs=>if fs.length=n then some ⟨A,i,M,fs⟩ else none else none
noncomputable def vOr:Expr->Option (List Expr)
 |.BoolOp op es _=>(match op with|.Or=>some es|_=>none)
 |_=>none
theorem JE(h:vOr e=some es): ∃p,e= .BoolOp .Or es p:=by
 unfold vOr at h;split at h
 ·split at h
  ·cases h;exact⟨_,rfl⟩
  ·cases h
 ·cases h
def F6(gms:GMs)(tn:Str)(F:Fn)(A:Nat)(ms:GMs)(C:SK.Ctx)(e:Expr):Option MRd:=match rdG gms A C e with
 |some r=>some r
 |none=>(match rdT tn F A ms C e with
  |some (i,M)=>some ⟨A,i,M,[]⟩
  |none=>F3 C e)
def F7:Expr->Option (Expr×CmpOp×Expr)
 |.Compare a ops cs _=>(match ops with
  |[op]=>(one cs).map λb=>(a,op,b)
  |_=>none)
 |_=>none
theorem Co(h:F7 e=some (a,op,b)): ∃p,e= .Compare a [op] [b] p:=by
 unfold F7 at h;split at h
 ·split at h
  ·obtain⟨f,d,c⟩:=zMd h;cases c
   cases cE d
   exact⟨_,rfl⟩
  ·cases h
 ·cases h
def cP(rd:Expr->Option MRd)(C:SK.Ctx)(e:Expr):Option FC:=(F7 e).bind λ(a,op,b)=>(rd a).bind λr=>(bP 50 C b).map λg=>qU r.A r.i r.M r.fs op g
def cT(rd:Expr->Option MRd)(C:SK.Ctx)(e:Expr):Option FC:=match cP rd C e with
 |some c=>some c
 |none=>(bP 50 C e).map jT
def orT(rd:Expr->Option MRd)(C:SK.Ctx):List Expr->Option FC
 |[]=>none
 |[a]=>cT rd C a
 |a::b::r=>(cT rd C a).bind λc1=>(orT rd C (b::r)).map λc2=>cOr c1 c2
structure PR4 where
 x:Str
 y:Str
 u:Str
 v:Str
 z:Str
 es:List Expr
def LI:List Expr->Option (Str×Str×Str×Str)
 |[a,b,c,d]=>(bX a).bind λ(x,_)=>(bX b).bind λ(y,_)=>(bX c).bind λ(u,_)=>(bX d).map λ(v,_)=>(x,y,u,v)
 |_=>none
def JF:List Expr->Option (Str×List Expr)
 |a::es=>(vB a).map λz=>(z,es)
 |[]=>none
def F8(st:Stmt):Option PR4:=(LG st).bind λ(t,e)=>(D6 t).bind λ(ts,_)=>(D6 e).bind λ(vs,_)=>(LI ts).bind λ(x,y,u,v)=>(JF vs).map λ(z,es)=>⟨x,y,u,v,z,es⟩
theorem F9(h:LI ts=some (x,y,u,v)): ∃px py pu pv,ts=[.Name x px,.Name y py,.Name u pu,.Name v pv]:=by
 unfold LI at h;split at h
 ·obtain⟨⟨g,px⟩,a,h⟩:=zBd h;obtain⟨⟨f,py⟩,d,h⟩:=zBd h;obtain⟨⟨e,pu⟩,b,h⟩:=zBd h;obtain⟨⟨i,pv⟩,c,h⟩:=zMd h;cases h
  cases aW a
  cases aW d
  cases aW b
  cases aW c
  exact⟨_,_,_,_,rfl⟩
 ·cases h
theorem Cp{st:Stmt}(h:F8 st=some q): ∃px py pu pv kt pt np cp k2 pt2 pos,st= .Assign [.Tuple [.Name q.x px,.Name q.y py,.Name q.u pu,.Name q.v pv] kt pt] (.Tuple (.Call (.Name q.z np) [] [] cp::q.es) k2 pt2) pos:=by
 unfold F8 at h;obtain⟨⟨t,e⟩,j,h⟩:=zBd h;obtain⟨⟨r,k,o⟩,n,h⟩:=zBd h;obtain⟨⟨m,k2,f⟩,d,h⟩:=zBd h;obtain⟨⟨x,y,u,v⟩,l,h⟩:=zBd h;obtain⟨⟨z,es⟩,c,h⟩:=zMd h;cases h;obtain⟨pos,rfl⟩:=F4 j
 cases sN n
 cases sN d
 obtain⟨px,py,pu,pv,rfl⟩:=F9 l
 cases m with
 |nil=>cases c
 |cons a b=>
  obtain⟨p,i,g⟩:=zMd (show(vB a).map (λz=>(z,b))=some (z,es) from c)
  cases g;obtain⟨np,cp,rfl⟩:=zY i;exact⟨px,py,pu,pv,_,_,np,cp,_,_,_,rfl⟩
def rk4(C:SK.Ctx)(q:PR4):Option FS:=if q.z=("Rack":Str)/\C.sc.names.lookup q.z=some .globalImplicit then(rkc C).bind λ(A,_)=>(loc C q.x).bind λi=>(loc C q.y).bind λj=>(loc C q.u).bind λk=>(loc C q.v).bind λl=>(dY (bP 50 C) q.es).map λfs=>qY i j k l A fs else none
mutual
def gS:Nat->(Expr->Option MRd)->SK.Ctx->Stmt->Option FS
 |0,_,_,_=>none
 |n+1,rd,C,st=>match F8 st with
  |some q=>rk4 C q
  |none=>match KC st with
   |some (c,a,b)=>(match vOr c with
    |some es=>orT rd C es
    |none=>cT rd C c).bind λt=>(gSs n rd C a).bind λg=>(gSs n rd C b).map λh=>lX t g h
   |none=>match st with
    |.For tg it b [] _=>(cO tg).bind λ(xs,k)=>(Ed 50 C false it).bind λf=>(dY (λx=>loc C x) xs).bind λis=>if(bX it).isNone then(gSs n rd C b).map λg=>D5 is (k==0) f g else none
    |st=>CZ 50 true C st
def gSs:Nat->(Expr->Option MRd)->SK.Ctx->List Stmt->Option FS
 |0,_,_,_=>none
 |n+1,rd,C,l=>match l with
  |[]=>some aQ
  |st::r=>(gS n rd C st).bind λg=>(gSs n rd C r).map λh=>a8 g h
end
structure LawG(X:Cx)(ad:Ad)(C:SK.Ctx)(Δ:Pl->Prop)(rd:Expr->Option MRd):Prop where
 O:StOk X ad C
 pass:PassesOwn (model X.prog X.w) X.A X.env X.xe
 made: ∀A ms,C.tab.lookup ("Rack":Str)=some (SK.Gl.cls A ms)->MkOk X ad A
 rd: ∀e r,rd e=some r->LPE X Δ e (oE X ad r.A r.i r.M r.fs)
section
variable{X:Cx}{ad:Ad}{C:SK.Ctx}{Δ:Pl->Prop}{rd:Expr->Option MRd}{e:Expr}{Z:(St->Nat->Hp->Prop)->Prop}
theorem Cq(O:StOk X ad C)(h:F3 C e=some r):PE X e (oE X ad r.A r.i r.M r.fs):=by
 unfold F3 at h;have b:=zBd h;clear h;obtain⟨⟨A,Q⟩,z,h⟩:=b;have b:=zBd h;clear h;obtain⟨c,j,h⟩:=b;have b:=zBd h;clear h;obtain⟨⟨x,p⟩,u,h⟩:=b;obtain⟨rfl,v⟩:=lK j;clear j;obtain⟨o,m,L,S,N⟩:=c
 have f:bX o=some (x,p):=u
 cases aW f
 have b:=zBd h;clear h;obtain⟨i,y,h⟩:=b;have b:=zBd h;clear h;obtain⟨⟨B,M⟩,I,h⟩:=b
 simp only at h
 split at h
 ·rename_i d;obtain⟨fs,l,h⟩:=zBd h;split at h
  ·rename_i s;cases h;obtain⟨_,t,K⟩:=(O.cx.gt _ _ (zX z)).2;obtain⟨J,n,q,G⟩:=O.cx.vis x i y;obtain⟨H,g⟩:=mB (dN (ad:=ad) 50).1 O.cx l
   exact Dy t (K m B M I) J n q G H s (λa r e=>by
    subst e;exact⟨aL (g a (.head _)),gK λe E=>g e (.tail _ E)⟩) (eW l).symm (oA g d) v
  ·cases h
 ·cases h
theorem Gb(L:LawG X ad C Δ rd)(h:cT rd C e=some c):LPT X Δ e (tTx X ad Z c):=by
 unfold cT at h;split at h
 ·rename_i o i;cases h;have l:=zBd i;clear i;obtain⟨⟨a,n,b⟩,d,h⟩:=l;obtain⟨r,m,h⟩:=zBd h;obtain⟨g,j,rfl⟩:=zMd h;obtain⟨p,rfl⟩:=Co d;exact Cl L.O.cx.un (L.rd _ _ m) ((dN (ad:=ad) 50).1 X C _ _ L.O.cx j).1 (eB (aM j).2.1)
 ·obtain⟨f,d,rfl⟩:=zMd h;exact Jl (Cf ((dN (ad:=ad) 50).1 X C _ _ L.O.cx d).2.1)
theorem DF(L:LawG X ad C Δ rd){pos:Pos}: ∀{es:List Expr} {c:FC},orT rd C es=some c->LPW X Δ (.BoolOp .Or es pos) (tTx X ad Z c)
 |[],c,h=>by cases h
 |[a],c,h=>Cm (Gb L h)
 |a::b::r,c,h=>by
  unfold orT at h;obtain⟨g,d,h⟩:=zBd h;obtain⟨f,e,rfl⟩:=zMd h;exact F1 (Gb L d) (DF L e)
theorem JG{E₀:XK}(L:LawG X ad C Δ rd): ∀n:Nat,(∀st g,gS n rd C st=some g->LMS X Δ ad (Zt ad E₀ true) st g)/\∀l g,gSs n rd C l=some g->FY X Δ ad (Zt ad E₀ true) l g
 |0=>⟨(λ_ _ h=>by cases h),(λ_ _ h=>by cases h)⟩
 |n+1=>by
  obtain⟨hS,e⟩:=JG (E₀:=E₀) L n;obtain⟨kE,kL,U⟩:=dN (ad:=ad) 50;refine⟨λst g h=>?_,λl g h=>?_⟩
  ·unfold gS at h;split at h
   ·rename_i q' I;obtain⟨px,py,pu,pv,kt,pt,np,cp,k2,Q,q,rfl⟩:=Cp I;unfold rk4 at h;split at h
    ·rename_i K;obtain⟨T,E⟩:=K;have u:=zBd h;clear h;obtain⟨⟨W,N⟩,H,h⟩:=u;obtain⟨i,d,h⟩:=zBd h;obtain⟨j,o,h⟩:=zBd h;obtain⟨k,r,h⟩:=zBd h;obtain⟨l,B,h⟩:=zBd h;obtain⟨fs,Z,rfl⟩:=zMd h;rw[T]at E ⊢;obtain⟨M,v,_,_⟩:=L.O.cx.gt _ _ (zX H);exact DE (Cn L.O (L.made W N (zX H)) (mB kE L.O.cx Z).1 d o r B (L.O.cx.gk _ E) v M rfl)
    ·cases h
   split at h
   ·rename_i c a b A;obtain⟨q,rfl⟩:=zV A;obtain⟨t,d,h⟩:=zBd h;obtain⟨y,o,h⟩:=zBd h;obtain⟨s,r,rfl⟩:=zMd h;refine F2 ?_ (e _ y o) (e _ s r);split at d
    ·rename_i es Y;obtain⟨p,rfl⟩:=JE Y;exact(DF L d).pt
    ·exact Gb L d
   ·split at h
    ·rename_i tg G b q _ _;have u:=zBd h;clear h;obtain⟨⟨xs,m⟩,d,h⟩:=u;obtain⟨f,o,h⟩:=zBd h;obtain⟨is,r,h⟩:=zBd h;have S: ∀a b c,G≠ .Set a b c:=λa b c z=>by subst z;exact qI o
     split at h
     ·rename_i A;obtain⟨s,B,rfl⟩:=zMd h;have J: ∀x p,G≠ .Name x p:=BX (Option.isNone_iff_eq_none.mp A);exact FZ L.pass L.O.cx.calm L.O.cx.nd ((U X C tg _ false f L.O.cx (λz=>nomatch z) o).2 rfl J) d (L.O.nms r) (e _ s B) (EC S)
     ·cases h
    ·exact DE ((qM (ad:=ad) (E₀:=E₀) 50).1 X C true _ g L.O (λz=>nomatch z) h)
  ·unfold gSs at h;split at h
   ·cases h;exact Ck
   ·obtain⟨y,d,h⟩:=zBd h;obtain⟨s,o,rfl⟩:=zMd h;exact zW (hS _ y d) (e _ s o)
end
def JH(H:Hp)(Ps:List Addr):Hp:=λb=>if b∈Ps then some (.lst [])else H b
theorem qZ(h:JH H Ps b=none):H b=none/\b∉Ps:=by
 unfold JH at h
 by_cases e:b∈Ps
 ·rw[if_pos e]at h;cases h
 ·rw[if_neg e]at h;exact⟨h,e⟩
theorem Gc(h:H b=none)(n:b∉Ps):JH H Ps b=none:=by
 unfold JH;rw[if_neg n];exact h
noncomputable def tbs(Ps:List Addr):Pl:=Ps.map λP=>(P,PySem.W.tabObj #[])
theorem zZ{ad:Ad}(L:LawG (cxP Ps X) ad C Δ rd)(hg:gSs n rd C b=some g)(I:Inv (cxP Ps X) [] (vs.map some++aj m none) H s)(hH:X.H₀=H)(hpn:X.pn=[])(hΔ:Δ (tbs Ps))(ht: ∀P∈Ps,s.heap.get? P=some (PySem.W.tabObj #[])/\H P=none/\P∉X.fs)(hG:Same G H)(r:aJ X.K ad G ds vs)(hm:g (ds.map SK.Slot.sh++aj m .no)= .rt (.ok (.bl true))):
  wpAny (model X.prog X.w) X.A (execs b X.env) (λf s'=>f= .ret (.bool true)/\∃σ' H' L,Δ L/\Inv (cxP Ps X) [] σ' H' s'/\∀p∈L,s'.heap.get? p.1=some p.2) X.xe s:=by
 have o:Inv (cxP Ps X) (tbs Ps++[]) (vs.map some++aj m none) H s:=I.pins_of λp a=>by
  rw[List.append_nil]at a;obtain⟨P,i,rfl⟩:=aq.mp a;obtain⟨t,y,E⟩:=ht P i;exact⟨t,y,(I.ok.exf P i).1,E,λv z=>nomatch z⟩
 have T:TD Δ (tbs Ps) ((cxP Ps X).pn++[]):=⟨hΔ,λp _ r l=>by
  have e:r∈X.pn++[]:=l;rw[hpn]at e
  cases e⟩
 refine L2.thn ((JG (E₀:=λ_ _ _=>False) L n).2 b g hg [] _ s _ H ⟨λ_ _=>False,λv _=>v= .bl true,λ_ _=>False,λ_ _=>False⟩ T o ⟨G,G,ds.map SK.Slot.sh++aj m .no,λ_ _ _=>False,?_,⟨λQ S H s e s' _ x=>?_,λz=>nomatch z⟩,?_⟩) λf s' c=>?_
 ·have d:Same G (cxP Ps X).H₀:=by
   show Same G X.H₀;rw[hH];exact hG
  have:=iK (X:=cxP Ps X) (ad:=ad) (n:=m) d r
  have e:(cxP Ps X).H₀=H:=hH
  rwa [e]at this
 ·obtain⟨_,_,_,_,_,_,_,_,_,_,_,_,_,_,_,_,z⟩:=x;exact z.elim
 ·rw[hm];intro v U H' O q;unfold Rep at q;exact q
 ·obtain⟨B,j,c⟩:=c
  cases f with
  |next=>obtain⟨_,_,_,z⟩:=c;exact z.elim
  |brk=>obtain⟨_,_,_,z⟩:=c;exact z.elim
  |cont=>obtain⟨_,_,_,z⟩:=c;exact z.elim
  |ret u=>
   obtain⟨v,σ',H',J,N,M⟩:=c
   have h:v= .bl true:=M
   subst h;obtain rfl:u=Value.bool true:=N;exact⟨rfl,σ',H',B,j.tb,J.pins_of (λp a=>by cases a),λp a=>(J.pin p (bq _ (List.mem_append_left _ a))).1⟩
section
variable{K:Frag}{ad:Ad}{kV:Value}{cL:Nat}{CP:List (Addr×Addr)}
theorem q8(KX:K.In s₁.heap)(hns:s₁.heap.Ns mainGlobals mg)(hb:s₁.heap.Ns builtinsNs mb)(hbb: ∀x:Str,x≠"__name__"->mb x=bootBuiltins x)(hlim:s₁.heap.NoLimit)(hg:s₁.gens= #[])(lk:K.lookup fa=some ⟨oc,od,.func (PySem.W.fnOf name qual params body scope dV kV doc pm an (.ref cL) ct),osl⟩)(hcd:PySem.W.codeIn K (.ref cL) qual=true)(S:FnScope N [x] scope)(hbind: ∀(s:Shared) (u:Value),BindsTo s (PySem.W.fnOf name qual params body scope dV kV doc pm an (.ref cL) ct) ⟨[u],[]⟩ [(x,u)])(hr:Room (k+3) callerA)(hC: ∀z∈CP,PySem.W.CodeHd s₁.heap z.1 z.2/\s₁.heap.BuiltinsAt mg z.2/\s₁.heap.get? z.2=some (PySem.W.tabObj #[])/\K.lookup z.2=none)(hΔ:Δ (tbs (CP.map (·.2))))(hΔ': ∀L,Δ L->∀P∈CP.map (·.2), ∃ps,(P,PySem.W.tabObj ps)∈L)(hO:K2 H)(hok:HOk P w H s₁.heap)(nd: ∀b o es ep,s₁.heap.get? b=some o->o.data= .dict es ep->H b=none)(nK: ∀b o,K.lookup b=some o->H b=none)(hn: ∀z∈CP,H z.1=none/\H z.2=none)(hbn: ∀bm o,s₁.heap.get? bm=some o->o.data= .plain->H bm=none)(LX: ∀base:Heap,K.In base->base.Ns mainGlobals mg->(∀z∈CP,PySem.W.CodeHd base z.1 z.2/\base.BuiltinsAt mg z.2/\base.get? z.2=none)->LawG (cxP (CP.map (·.2)) (jW (CXe P w) P w K mg base N qual scope fa (.ref cL) callerA [] s₁ H λ_ _ _=>False)) ad C Δ rd)(hread:gSs n rd C body=some g)(hG:Same G H)(rp:aJ K ad G [d] [.ref a])(hN:N.length=m+1)(hm:g ([d].map SK.Slot.sh++aj m .no)= .rt (.ok (.bl true))):
  codeAny (model P w) callerA (.call (.ref fa) ⟨[.ref a],[]⟩) (λr s'=>r= .ok (.ret (.bool true))/\OldK s₁.heap s'.heap/\s'.os=s₁.os/\AllBare s'.gens) s₁:=by
 let base:=He s₁.heap (JH H (CP.map (·.2)))
 have c: ∀{b:Addr} {o:Obj},s₁.heap.get? b=some o->H b=none->b∉CP.map (·.2)->base.get? b=some o:=λe n z=>A0 e (Gc n z)
 have l: ∀{b:Addr} {o:Obj},s₁.heap.get? b=some o->o≠PySem.W.tabObj #[]->b∉CP.map (·.2):=λ{b o} e z y=>by
  obtain⟨p,j,rfl⟩:=aq.mp y;rw[(hC p j).2.2.1]at e;exact z (Option.some.inj e).symm
 have q: ∀{b:Addr} {mm:Str->Option Value},s₁.heap.Ns b mm->base.Ns b mm:=λ{b mm} ⟨o,es,ep,e,dd,r⟩=>⟨o,es,ep,c e (nd _ _ _ _ e dd) (l e λz=>by rw[z]at dd;cases dd),dd,r⟩
 have O:K.In base:=λb o e=>c (KX b o e) (nK b o e) λz=>by
  obtain⟨p,j,rfl⟩:=aq.mp z;rw[(hC p j).2.2.2]at e;cases e
 have hM:Mod K mg base:=⟨O,q hns,⟨mb,q hb,hbb⟩,let ⟨mc,h1,h2⟩:=hlim;⟨mc,q h1,h2⟩⟩;have e0:Env0 P w K mg base callerA [] s₁ H:=⟨rfl,hM,λb o e=>⟨(rO e).1,(qZ (rO e).2).1⟩,Nat.le_of_eq (wR _ _),trivial,λb hb=>absurd (show b∈([]:List Addr) from hb) (by simp),hok,.of_eq hg⟩
 have U: ∀P∈CP.map (·.2),base.get? P=none:=λP E=>by
  cases e:base.get? P with
  |none=>rfl
  |some o=>exact absurd E (qZ (rO e).2).2
 have L:=LX base O (q hns) λz I=>by
  obtain⟨h1,h2,h3,h4⟩:=hC z I;refine⟨?_,?_,U _ (List.mem_map_of_mem I)⟩
  ·obtain⟨o,vs,M,tf,B,tg,ak,T,tt,v,Q,Y,r⟩:=h1;exact⟨o,vs,M,tf,B,tg,ak,T,tt,c v (hn z I).1 (l v λy=>by rw[y]at Y;cases Y;exact absurd r.1 (by simp)),Q,Y,r⟩
  ·obtain⟨bm,o,b1,b2,b3,b4,b5,b6,b7,Z⟩:=h2;exact⟨bm,o,b1,b2,b3,b4,c b5 (hbn bm o b5 Z) (l b5 λy=>by rw[y]at Z;cases Z),b6,b7,Z⟩
 let X:=jW (CXe P w) P w K mg base N qual scope fa (.ref cL) callerA [] s₁ H λ_ _ _=>False
 have t: ∀y∈[(x,Value.ref a)],scope.names.lookup y.1=some .local\/(scope.names.lookup y.1=some .cell/\((cellsFrom (s₁.heap.objs.size+1) scope.names []).lookup y.1).isSome=true):=λy hy=>by
  rw[List.mem_singleton.mp hy];rcases S.par x (.head _)with z|z
  ·exact .inl z
  ·exact .inr ⟨z,PySem.W.cellsFrom_some _ _ _ (.inl z)⟩
 refine codeAny_call_function hr.depth (KX _ _ lk) rfl S.co S.gen rfl (PySem.W.codeRec_of KX hcd) (hbind _ _ _ _ _ _ ?_);refine wpAny_newFunctionEnv_cells S.kind t λar he s1 y=>?_
 subst he;refine⟨hlim.keeps y.toInCall.keep,codeAny_func ?_⟩;have I0:Inv X [] (start N [.ref a]) H s1:=fY (vs:=[.ref a]) (us:=[.ref a]) (ps:=[x]) S hr.hd e0 rfl (.cons rfl .nil) y;have A: ∀b,b∉X.fs:=λb z=>absurd (show b∈([]:List Addr) from z) (by simp)
 have I1:Inv (cxP (CP.map (·.2)) X) [] (start N [.ref a]) H s1:=Jw I0 rfl (λP E=>by
  obtain⟨p,j,rfl⟩:=aq.mp E;exact⟨ag (hC p j).2.2.1,U _ E,A _⟩) λz d h=>Nat.le_of_lt (y.above z d (PySem.mem_of_lookup h))
 have ab:start N [V.ref a]=[V.ref a].map some++aj m none:=by
  unfold L2.start
  have e:N.length - [V.ref a].length=m:=by rw[hN];simp
  rw[e]
 rw[ab]at I1
 refine wpAny_mono (zZ (X:=X) L hread I1 rfl rfl hΔ (λP E=>by
  obtain⟨p,j,rfl⟩:=aq.mp E;exact⟨y.toInCall.keep _ _ (hC p j).2.2.1,(hn p j).2,A _⟩) hG rp hm) (λfl s' hs=>?_) λe s' hs=>?_
 ·obtain⟨rfl,ap,H',L',dl,J,hL⟩:=hs;refine⟨rfl,⟨λb o e=>?_,λb o e=>?_⟩,J.os,J.bare⟩
  ·by_cases i:b∈CP.map (·.2)
   ·obtain⟨ps,j⟩:=hΔ' L' dl b i;have am:=hL _ j;obtain⟨z,I,rfl⟩:=aq.mp i;rw[(hC z I).2.2.1]at e;cases e;obtain⟨co,vs,_,_,_,_,_,_,_,v,Q,Y,e4,_⟩:=(hC z I).1;exact .inr (.inl ⟨⟨z.1,co,vs,v,Q,Y,e4⟩,rfl, #[],ps,rfl,by rw[am];simp[PySem.W.tabObj]⟩)
   ·refine .inl ?_;have nx:b∉(cxP (CP.map (·.2)) X).ex:=i
    cases hh:H b with
    |none=>exact J.base.keep b o e hh (A b) nx
    |some u=>
     rcases hO b with z|⟨ob,xs,z⟩
     ·rw[hh]at z;cases z
     ·have z2:=J.base.frzs b ob _ z;obtain⟨v,_⟩:=hok b _ z;obtain⟨Q,_⟩:=J.hok b _ z2;rw[e]at v;cases v;exact Q
  ·by_cases i:b∈CP.map (·.2)
   ·obtain⟨ps,j⟩:=hΔ' L' dl b i;exact⟨_,hL _ j⟩
   ·exact J.base.there b o e i
 ·have no: ∀(e:Value) (f:Shared),CXe P w [] H s₁ (λ_ _ _=>False) e f->False:=λe f z=>by
   obtain⟨_,_,_,_,_,_,_,_,_,_,_,_,_,_,z⟩:=z;exact z
  have al:wpAny (model P w) (callerA.deeper (envOfC qual scope s₁.heap.objs.size fa (.ref cL))) (leaving (envOfC qual scope s₁.heap.objs.size fa (.ref cL)) e) (λ_ f=>CXe P w [] H s₁ (λ_ _ _=>False) e f) (λe' f=>CXe P w [] H s₁ (λ_ _ _=>False) e' f) s':=hs
  exact wpAny_mono al (λ_ f z=>(no _ _ z).elim) λe' f z=>(no _ _ z).elim
end
theorem Gd{ad:Ad}(hF:FnOk X.prog X.w X.K X.mg X.base (CXe X.prog X.w) k fa fd prs (spM X.K ad A n M))(hr:Room k X.A)(hb:d6 X.K fd prs [])(hg:L2.Gl X tn)(hm:X.mg tn=some (.ref fa))(hdb:(tn==("__debug__":Str))=false)(hk:PySem.W.keepIn X.K (.ref fa)=true)(hN:X.N[i]? =some x)(hv:Vis X.env.scope x)(hd:(x==("__debug__":Str))=false)(hcd:(x==("__classdict__":Str))=false)(ha:MA X ad es fs)(hn:fs.length=n)(hst:starEach (.Name x px::es) X.env=(false,eval (.Name x px) X.env)::starEach es X.env)(hany:(backTo cp (starEach es X.env)).any (·.1)=false):
  PE X (.Call (.Name tn p) (.Name x px::es) [] cp) (oE X ad A i M fs):=by
 rintro L s C H Q I ⟨G,ρ,E,r,h,v,d,u,y,hG,hS,o,Y,O,hA⟩;refine wpAny_Call_Name_kw (fI I hg hm ?_ hdb);refine PySem.W.callWith_K (h₀:=X.base) I.ok.mod.kin hk (L2.thn (cN (cM hN hv hd hcd) (ha) hst cp _ s C H (λvs m=>∃j b a,vs= .ref h::j/\Step G H a m/\aJ X.K ad a b j/\b.length=n/\RMK X.K ad A a m h v d u y (M r b) Q E) I ?_) λus S hz=>?_) hst hany
 ·refine⟨.ref h,Y,?_⟩;obtain⟨G',g,E',a1,z,a3,f⟩:=hA;refine⟨G',g,E',a1,z,a3,?_⟩
  cases e:args fs g with
  |ok J=>
   rw[e]at f;intro vs a m l t;obtain⟨b,G2,b1,T,b3,b4⟩:=f vs a m l t;exact⟨vs,b,G2,rfl,b1,T,b3.trans hn,b4⟩
  |ex c=>rw[e]at f;exact f
  |bad=>rw[e]at f;exact f
 ·obtain⟨vs,H2,q,r2,j,b,a,U,l,t,hl,B⟩:=hz;subst U;exact⟨q.kIn,sB (vs:=V.ref h::j) (E:=xk ad E) hF hr hb q r2 ⟨a,h,r,v,d,u,y,b,j,rfl,l.gh,O.step l,t,hl,B.impE λc H' e=>⟨c,rfl,e⟩⟩ λe s' Z=>o L H2 S e s' q Z⟩
theorem DG(T:Top p loose mean mg mb h)(hT:h.get? P0=some (PySem.W.tabObj #[])):h.BuiltinsAt mg P0:=by
 obtain⟨l,d,m,f,a,j,i,b⟩:=T.bmain;refine⟨l,d,m,f,λz=>?_,λz=>?_,a,j,i,b⟩
 ·obtain⟨o,n,q,e,c,_⟩:=T.g;rw[<-z,a]at e;cases e;rw[b]at c;cases c
 ·rw[z,hT]at a;cases a;cases b
section
variable{K:Frag}{ad:Ad}{kV:Value}{cL:Nat}{CP:List (Addr×Addr)}
theorem z9(KX:K.In s₁.heap)(hns:s₁.heap.Ns mainGlobals mg)(hb:s₁.heap.Ns builtinsNs mb)(hbb: ∀x:Str,x≠"__name__"->mb x=bootBuiltins x)(hlim:s₁.heap.NoLimit)(hg:s₁.gens= #[])(ha:s₁.heap.get? a=some {cls:=.type "list",data:=.seq vs.toArray})(hi:IntsAre vs ns)(hl:ns.length<=sizeLine)(lk:K.lookup fa=some ⟨oc,od,.func (PySem.W.fnOf name qual params body scope dV kV doc pm an (.ref cL) ct),osl⟩)(hcd:PySem.W.codeIn K (.ref cL) qual=true)(S:FnScope N [x] scope)(hbind: ∀(s:Shared) (u:Value),BindsTo s (PySem.W.fnOf name qual params body scope dV kV doc pm an (.ref cL) ct) ⟨[u],[]⟩ [(x,u)])(hr:Room (k+3) callerA)(hC: ∀z∈CP,PySem.W.CodeHd s₁.heap z.1 z.2/\s₁.heap.BuiltinsAt mg z.2/\s₁.heap.get? z.2=some (PySem.W.tabObj #[])/\K.lookup z.2=none)(hΔ:Δ (tbs (CP.map (·.2))))(hΔ': ∀L,Δ L->∀P∈CP.map (·.2), ∃ps,(P,PySem.W.tabObj ps)∈L)(LX: ∀(base:Heap) (H:Hp),K.In base->base.Ns mainGlobals mg->(∀z∈CP,PySem.W.CodeHd base z.1 z.2/\base.BuiltinsAt mg z.2/\base.get? z.2=none)->LawG (cxP (CP.map (·.2)) (jW (CXe P w) P w K mg base N qual scope fa (.ref cL) callerA [] s₁ H λ_ _ _=>False)) ad C Δ rd)(hread:gSs n rd C body=some g)(hrep: ∀H:Hp,K2 H->SqL K H a (ns.map V.int)->∃G,Same G H/\aJ K ad G [d] [.ref a])(hN:N.length=m+1)(hm:g ([d].map SK.Slot.sh++aj m .no)= .rt (.ok (.bl true))):
  codeAny (model P w) callerA (.call (.ref fa) ⟨[.ref a],[]⟩) (λr s'=>r= .ok (.ret (.bool true))/\OldK s₁.heap s'.heap/\s'.os=s₁.os/\AllBare s'.gens) s₁:=by
 have v:=pN hi;have f:=hi.length
 cases hk:K.lookup a with
 |some o=>
  have e:=KX a o hk;rw[ha]at e;cases e;obtain⟨G,l,p⟩:=hrep (λ_=>none) (λ_=>.inl rfl) (.inr ⟨_,vs.toArray,_,hk,rfl,rfl,rfl,by rw[aw,f];exact hl,by simpa using v⟩)
  exact q8 (H:=λ_=>none) KX hns hb hbb hlim hg lk hcd S hbind hr hC hΔ hΔ' (λ_=>.inl rfl) (λb u z=>by have h:(none:Option HO)=some u:=z;cases h) (λ_ _ _ _ _ _=>rfl) (λ_ _ _=>rfl) (λ_ _=>⟨rfl,rfl⟩) (λ_ _ _ _=>rfl) (λbase=>LX base _) hread l p hN hm
 |none=>
  have i: ∀{b:Addr} {o:Obj},s₁.heap.get? b=some o->o.data≠ .seq vs.toArray->b≠a:=λ{b o} e z y=>by
   rw[y,ha]at e;cases e;exact z rfl
  let H:Hp:=λb=>if b=a then some (.frz {cls:=.type "list",data:=.seq vs.toArray} (.lst (ns.map V.int)))else none
  have c: ∀{b:Addr},b≠a->H b=none:=λz=>if_neg z
  have t:K2 H:=λb=>by
   by_cases hb:b=a
   ·exact .inr ⟨_,_,if_pos hb⟩
   ·exact .inl (if_neg hb)
  have j:HOk P w H s₁.heap:=λb u z=>by
   by_cases hb:b=a
   ·have h:=(if_pos hb).symm.trans z;cases h;subst hb;exact⟨ha,by rw[ao];exact hl,vs,_,v,ha⟩
   ·have h:=(if_neg hb).symm.trans z;cases h
  obtain⟨G,l,p⟩:=hrep H t (.inl (.inr ⟨{cls:=.type "list",data:=.seq vs.toArray},if_pos rfl⟩));refine q8 (H:=H) KX hns hb hbb hlim hg lk hcd S hbind hr hC hΔ hΔ' t j (λb o E I e z=>c (i e (by rw[z];exact λy=>nomatch y))) (λb o e=>c λy=>by rw[y,hk]at e;cases e) (λz q=>⟨?_,c (i (hC z q).2.2.1 λy=>nomatch y)⟩) (λJ o e z=>c (i e (by rw[z];exact λy=>nomatch y))) (λbase=>LX base _) hread l p hN hm
  obtain⟨o,M,_,_,_,_,_,_,_,A,_,B,_⟩:=(hC z q).1;exact c (i A (by rw[B];exact λy=>nomatch y))
end
structure LawGT(P:Program)(w:World)(K:Frag)(mg:Str->Option Value)(fa:Addr)(name did:Str)(ad:Ad)(C:SK.Ctx)(Δ:Pl->Prop)(rd:Expr->Option MRd)(g:FS)(k n m:Nat)(cL P1 c P0:Addr)(params:Arguments)(body:List Stmt)(scope:Scope):Prop where
 lk: ∃oc od dV kV doc pm an ct osl,K.lookup fa=some ⟨oc,od,.func (PySem.W.fnOf name name params body scope dV kV doc pm an (.ref cL) ct),osl⟩/\∀(s:Shared) (u:Value),BindsTo s (PySem.W.fnOf name name params body scope dV kV doc pm an (.ref cL) ct) ⟨[u],[]⟩ [("_law_script",u)]
 cd:PySem.W.codeIn K (.ref cL) name=true
 sc:bU (aB scope) ["_law_script"] scope=true
 room:Room (k+3) callerA
 tab1:tabIn K name=some (cL,P1)
 tab:tabIn K did=some (c,P0)
 out:K.lookup P0=none/\K.lookup P1=none
 tb0:Δ (tbs [P1,P0])
 tb1: ∀L,Δ L->∀P∈[P1,P0], ∃ps,(P,PySem.W.tabObj ps)∈L
 lx: ∀(s₁:Shared) (base:Heap) (H:Hp),K.In base->base.Ns mainGlobals mg->(∀z∈[(cL,P1),(c,P0)],PySem.W.CodeHd base z.1 z.2/\base.BuiltinsAt mg z.2/\base.get? z.2=none)->LawG (cxP [P1,P0] (jW (CXe P w) P w K mg base (aB scope) name scope fa (.ref cL) callerA [] s₁ H λ_ _ _=>False)) ad C Δ rd
 read:gSs n rd C body=some g
 len:(aB scope).length=m+1
 tru: ∀ns:List Int,g ([D.lst (ns.map D.int)].map SK.Slot.sh++aj m .no)= .rt (.ok (.bl true))
theorem walkG{l:PySem.W.OpenLaw}{XP:(Str->Option Value)->Heap->Prop}{K:Params->PySem.W.Frag}(hn:l.most=some 63)(hdf:d.params.defaults=[])(hY: ∀(w:World) (h:Heap),YP w h->(K w.params).In h)(hrec: ∃e,(recsOf q).find? (λe=>e.name==did)=some e)(hrec1: ∃e,(recsOf q).find? (λe=>e.name==d.name)=some e)(F: ∀(w:World) (mg:Str->Option Value) (fa:Addr) (h:Heap),(K w.params).In h->h.Ns mainGlobals mg->mg d.name=some (.ref fa)->∃ad C Δ rd g k n m cL P1 c P0 params body scope,LawGT l.prog w (K w.params) mg fa d.name did ad C Δ rd g k n m cL P1 c P0 params body scope):
  PySem.W.WalkO q loose XP YP l.row.toRowW d [] (λf vs=>PySem.call f vs):=by
 refine Att.attach_call hn hdf λw B r mg mb fa o pm cd Q a vs J G Y ho hd U A t i j M=>?_
 have u:=hY w _ Y;obtain⟨ad,C,Δ,rd,g,k,n,m,cL,P1,c,P0,params,body,scope,L⟩:=F w mg fa _ u G.T.g A;obtain⟨e,S⟩:=hrec;obtain⟨X,E⟩:=tab_of G.T u S L.tab;obtain⟨e1,x⟩:=hrec1;obtain⟨v,p⟩:=tab_of G.T u x L.tab1;obtain⟨oc,od,dV,kV,I,N,an,ct,Z,lk,O⟩:=L.lk
 refine z9 (d:=.lst (J.map D.int)) u G.T.g G.T.b G.T.builtins G.T.nolimit M t i (Nat.le_trans j (by decide)) lk L.cd (cR L.sc).1 O L.room (CP:=[(cL,P1),(c,P0)]) (λz y=>by
  rcases au.mp y with rfl|y
  ·exact⟨v,DG G.T p,p,L.out.2⟩
  ·rw[List.mem_singleton.mp y];exact⟨X,DG G.T E,E,L.out.1⟩) L.tb0 L.tb1 (λs H=>L.lx r s H) L.read (λH _ hS=>⟨H,Same.refl _,aJ.cons (by unfold Rep;exact⟨a,_,rfl,hS,aJ.map_int⟩) aJ.nil⟩) L.len (L.tru J)
theorem JI{q1 q0:Str}(h:P1≠P0):Two (TbL P1 q1) (TbL P0 q0) (tbs [P1,P0]):=
 ⟨[(P1,PySem.W.tabObj #[])],[(P0,PySem.W.tabObj #[])],rfl,⟨#[],[],rfl,DB⟩,⟨#[],[],rfl,DB⟩,λp b r a=>by rw[List.mem_singleton.mp b,List.mem_singleton.mp a];exact h.symm⟩
theorem JJ{q1 q0:Str}(L:Pl)(h:Two (TbL P1 q1) (TbL P0 q0) L)(P:Addr)(hP:P∈[P1,P0]): ∃ps,(P,PySem.W.tabObj ps)∈L:=by
 obtain⟨c,M2,rfl,⟨ps,d,rfl,_⟩,⟨a,b,rfl,_⟩,_⟩:=h;rcases au.mp hP with rfl|hP
 ·exact⟨ps,.head _⟩
 ·rw[List.mem_singleton.mp hP];exact⟨a,bq _ (.head _)⟩
section
variable{K:Frag}{ad:Ad}{tab:List (Str×SK.Gl)}{F:Fn}{ms:GMs}
theorem Ge(B:ExcK K ad)(TB:d8 P w K mg base ad k tab)(FB:fV P w K mg base ad k fns)(hs:bU (aB sc) [x] sc=true)(hr:Room (k+4) callerA)(hms:tab.lookup ("Rack":Str)=some (SK.Gl.cls A ms))(mk: ∀A ms,tab.lookup ("Rack":Str)=some (SK.Gl.cls A ms)->∃f r fd ps,r<=k/\Mk K A f/\FnOk P w K mg base (CXe P w) r f fd ps (spI K ad A)/\d6 K fd ps [])(hD:FT (cxP [P1,P0] (jW (CXe P w) P w K mg base (aB sc) qual sc fa (.ref cL) callerA [] s₁ H λ_ _ _=>False)) ad A nd P0 q (k+3) fa1 fd1 prs1 Md)(nx: ∀r ds c,Md r ds≠ .pure (.ex c))(hm1:mg dn=some (.ref fa1))(hdb1:(dn==("__debug__":Str))=false)(hk1:PySem.W.keepIn K (.ref fa1)=true)(hb1: ∀(s:Shared) (us:List Value),K.In s.heap->us.length=nd+1->BindsTo s fd1 ⟨us,[]⟩ (prs1.zip us))(hA:FnOk P w K mg base (CXe P w) r2 fa2 fd2 prs2 (spM K ad A na Ma))(h2:r2<=k+3)(hb2:d6 K fd2 prs2 [])(hm2:mg an=some (.ref fa2))(hdb2:(an==("__debug__":Str))=false)(hk2:PySem.W.keepIn K (.ref fa2)=true)(told: ∃ft fd dn,mg tn=some (.ref ft)/\PySem.W.keepIn K (.ref ft)=true/\lJ P w K mg base ad (k+1) ft fd dn F/\∀(s:Shared) (u:Value),K.In s.heap->BindsTo s fd ⟨[u],[]⟩ [(dn,u)])(tdb:(tn==("__debug__":Str))=false)(hC:PySem.W.CodeHd base cL P1)(hB:base.BuiltinsAt mg P1):
  LawG (cxP [P1,P0] (jW (CXe P w) P w K mg base (aB sc) qual sc fa (.ref cL) callerA [] s₁ H λ_ _ _=>False)) ad ⟨tab,fns,sc,aB sc,bs⟩ (Two (TbL P1 ((envOfC qual sc s₁.heap.objs.size fa (.ref cL)).qual++"<lambda>")) (TbL P0 q)) (F6 [(dn,nd,Md),(an,na,Ma)] tn F A ms ⟨tab,fns,sc,aB sc,bs⟩):=by
 have a:Room (k+3) (callerA.deeper (envOfC qual sc s₁.heap.objs.size fa (.ref cL))):=hr.deeper _
 have O:StOk (cxP [P1,P0] (jW (CXe P w) P w K mg base (aB sc) qual sc fa (.ref cL) callerA [] s₁ H λ_ _ _=>False)) ad ⟨tab,fns,sc,aB sc,bs⟩:=(sP B TB FB hs (a.mono (by lia))).P
 have G:=(TB _ _ hms).2;refine⟨O,PassesOwn.leaving (Q₁:=λe p=>CXe P w [] H s₁ (λ_ _ _=>False) e p),λA ms e=>let ⟨f,r,fd,ps,L,h2,l,v⟩:=mk A ms e;⟨f,r,fd,ps,h2,l,a.mono (by lia),v⟩,λe r j=>?_⟩
 unfold F6 at j;split at j
 ·rename_i S m;cases j;unfold rdG at m;have d:=zBd m;clear m;obtain⟨c,L,h⟩:=d;rw[F5 L];have d:=zBd h;clear h;obtain⟨⟨n,M⟩,b,h⟩:=d
  simp only at h
  split at h
  ·rename_i o;have d:=zBd h;clear h;obtain⟨i,l,h⟩:=d;have d:=zBd h;clear h;obtain⟨fs,v,h⟩:=d;split at h
   ·rename_i J;cases h;obtain⟨I,z⟩:=mB (dN (ad:=ad) 50).1 O.cx v;obtain⟨N,y,C,E⟩:=O.cx.vis _ i l;have gl:=O.cx.gk _ o;rw[List.lookup_cons]at b
    cases e:c.g==dn with
    |true=>
     rw[e]at b;cases b;rw[eq_of_beq e]at gl ⊢;exact(FU hD a nx gl hm1 hdb1 hk1 hb1 (.tail _ (.head _)) ⟨rfl,rfl⟩ N y C E I J rfl (gK z)).snd
    |false=>
     rw[e,List.lookup_cons]at b
     cases t:c.g==an with
     |true=>
      rw[t]at b;cases b;rw[eq_of_beq t]at gl ⊢;exact Ds (Gd hA (a.mono h2) hb2 gl hm2 hdb2 hk2 N y C E I J rfl (gK z))
     |false=>rw[t]at b;cases b
   ·cases h
  ·cases h
 ·split at j
  ·rename_i i M Q;cases j;exact(JB ⟨O,B,TB,FB,G.2.1,G.2.2,told,tdb,a.mono (by lia),.head _,rfl,rfl,hC,hB⟩ Q).fst
  ·exact Ds (Cq O j)
end
theorem aG(h:a ρ= .nx ρ'):a8 a b ρ=b ρ':=by simp[a8,h]
theorem cS(h:a ρ= .rt r):a8 a b ρ= .rt r:=by simp[a8,h]
theorem cY(h:e ρ= .ok d):eU i e ρ= .nx (ρ.set i (.sh d)):=by simp[eU,h,fS]
theorem oF(h:e ρ= .ow d):eU i e ρ= .nx (ρ.set i (.sh (.lst d))):=by simp[eU,h,fS]
theorem oG(h:e ρ= .ow d):vW i e ρ= .nx (ρ.set i (.ow d)):=by simp[vW,h]
theorem lL(h:e ρ= .ok (.tup ds))(l:ds.length=is.length):fT is e ρ= .nx (setN is ds ρ):=by simp[fT,h,fS,l]
theorem eX(h:e ρ= .ok d):jS e ρ= .nx ρ:=by simp[jS,h,fS]
theorem oH(h:e ρ= .ex c):jS e ρ= .ex c ρ:=by simp[jS,h,fS]
theorem aU(h:e ρ= .ok d):dP e ρ= .rt (.ok d):=by simp[dP,h]
theorem eE(h:c ρ= .ok (.bl true)):sIf c a b ρ=a ρ:=by simp[sIf,h]
theorem dB(h:c ρ= .ok (.bl false)):sIf c a b ρ=b ρ:=by simp[sIf,h]
theorem aY(h:b (ds.map Slot.sh++aj (n-ds.length) .no)= .rt (.ok d)):fnOf n b ds= .ok d:=by simp[fnOf,h]
theorem hW(h:b (ds.map Slot.sh++aj (n-ds.length) .no)= .ex c ρ):fnOf n b ds= .ex c:=by simp[fnOf,h]
theorem Aa(h:b (ds.map Slot.sh++aj (n-ds.length) .no)= .nx ρ):fnOf n b ds= .ok .non:=by simp[fnOf,h]
theorem q9:iV (xs.map D.int)=some xs:=by
 induction xs with
 |nil=>rfl
 |cons x r a=>simp[iV,a]
theorem wE:e9 (xs.map D.bl)=some xs:=by
 induction xs with
 |nil=>rfl
 |cons x r a=>simp[e9,a]
theorem aV(h:a ρ= .ok x)(k:b ρ= .ok y):aS op a b ρ=iT op x y:=by simp[aS,h,k,R.bind]
theorem aP(h:a ρ= .ok x)(k:b ρ= .ok y):aZ op a b ρ=dJ op x y:=by simp[aZ,h,k,R.bind]
theorem cG(h:a ρ= .ok x)(k:b ρ= .ok y):rIx a b ρ=dIx x y:=by simp[rIx,h,k,R.bind]
theorem vC(h:a ρ= .ow x)(k:b ρ= .ok y):rIx a b ρ=dIx (.lst x) y:=by simp[rIx,h,k,R.bind]
theorem Ab(h:a ρ= .ok (.bl b)):pO a ρ= .ok (.bl (!b)):=by simp[pO,h,R.bind]
theorem rB(h:a ρ= .ok (.bl true)):jX a b ρ=b ρ:=by simp[jX,h,R.bind]
theorem Ac(h:a ρ= .ok (.bl false)):jX a b ρ= .ok (.bl false):=by simp[jX,h,R.bind]
theorem Gf(h:a ρ= .ok (.bl true)):rOr a b ρ= .ok (.bl true):=by simp[rOr,h,R.bind]
theorem wF(h:a ρ= .ok (.bl false)):rOr a b ρ=b ρ:=by simp[rOr,h,R.bind]
theorem JK(h:c ρ= .ok (.bl true)):rIf c a b ρ=a ρ:=by simp[rIf,h,R.bind]
theorem JL(h:c ρ= .ok (.bl false)):rIf c a b ρ=b ρ:=by simp[rIf,h,R.bind]
theorem cH(h:a ρ= .ok x):aF f [a] ρ=f [x]:=by simp[aF,l4,args,h,RA.cons,RA.then]
theorem dU(h:a ρ= .ow x):aF f [a] ρ=f [.lst x]:=by simp[aF,l4,args,h,RA.cons,RA.then]
theorem cI(h:a ρ= .ok x)(k:b ρ= .ok y):aF f [a,b] ρ=f [x,y]:=by simp[aF,l4,args,h,k,RA.cons,RA.then]
theorem dM(h:a ρ= .ok x)(k:b ρ= .ok y)(l:c ρ= .ok z):aF f [a,b,c] ρ=f [x,y,z]:=by simp[aF,l4,args,h,k,l,RA.cons,RA.then]
theorem eT(h:a ρ= .ok x)(k:b ρ= .ok y):dX [a,b] ρ= .ok (.tup [x,y]):=by simp[dX,l4,args,h,k,RA.cons,RA.then]
theorem Ae(h:a ρ= .ok (.int i))(h':b ρ= .ok (.int j))(h'':c ρ= .ok (.int k)):jK .LtE .Lt a b c ρ= .ok (.bl (decide (i<=j)&&decide (j<k))):=by
 by_cases e:i<=j<;>simp[jK,h,h',h'',R.bind,dJ,e]
theorem JM{ds:List D}:GS [.lst (ds.map λd=>.bl (p d))]= .ok (.bl (ds.all p)):=by
 have e:(ds.map λd=>D.bl (p d))=(ds.map p).map D.bl:=by simp
 have k:(items (D.lst (ds.map λd=>D.bl (p d)))).bind e9=some (ds.map p):=by
  show e9 _=_;rw[e];exact wE
 simp only[GS,k];simp
theorem m7{f:D->Option (Option D)}{g:D->D}: ∀{ds:List D},(∀d∈ds,f d=some (some (g d)))->bJ f ds=some (ds.map g)
 |[],_=>rfl
 |d::r,h=>by simp[bJ,h d (.head _),m7 (ds:=r) λx m=>h x (.tail _ m)]
theorem m8{f:D->Option (Option D)}{P:D->Prop}: ∀{ds:List D},(∀d∈ds, ∃x,f d=some (some x)/\P x)->∃xs,bJ f ds=some xs/\xs.length=ds.length/\∀x∈xs,P x
 |[],_=>⟨[],rfl,rfl,nofun⟩
 |d::r,h=>by
  obtain⟨x,e,p⟩:=h d (.head _);obtain⟨xs,a,l,q⟩:=m8 (ds:=r) λx m=>h x (.tail _ m)
  refine⟨x::xs,by simp[bJ,e,a],by simp[l],?_⟩
  intro y m;cases m with
  |head=>exact p
  |tail _ m=>exact q y m
theorem iM(hi:it ρ= .ok (.lst ds)\/it ρ= .ok (.tup ds)\/it ρ= .ow ds)(h: ∀d∈ds,e (.sh d::l6 cs ρ)= .ok (g d)):bL 0 cs it none e ρ= .ow (ds.map g):=by
 have k:bJ (dD 0 (l6 cs ρ) none e) ds=some (ds.map g):=m7 λd m=>by simp[dD,tgt,h d m]
 rcases hi with hi|hi|hi<;>simp[bL,hi,R.bind,items,jJ,k]
theorem fD{P:D->Prop}(hi:it ρ= .ok (.lst ds)\/it ρ= .ok (.tup ds)\/it ρ= .ow ds)(h: ∀d∈ds, ∃ts x,tgt n d=some ts/\e (ts++l6 cs ρ)= .ok x/\P x):
  ∃xs,bL n cs it none e ρ= .ow xs/\xs.length=ds.length/\∀x∈xs,P x:=by
 obtain⟨xs,k,l,q⟩:=m8 (f:=dD n (l6 cs ρ) none e) (P:=P) (ds:=ds) λd m=>by
  obtain⟨ts,x,a,b,c⟩:=h d m;exact⟨x,by simp[dD,a,b],c⟩
 refine⟨xs,?_,l,q⟩;rcases hi with hi|hi|hi<;>simp[bL,hi,R.bind,items,jJ,k]
theorem fE(h:a ρ= .ok (.int n))(l:n<=100000):cZ a ρ= .ok (.lst (rH n)):=by
 have:(-100000:Int)<=(n:Int)/\(n:Int)<=100000:=by lia
 simp[cZ,h,R.bind,Mc,this]
theorem iO(h:d∈rH n): ∃k:Nat,k<n/\d= .int k:=by
 simp only[rH,aq,List.mem_range]at h;obtain⟨k,a,b⟩:=h;exact⟨k,a,b.symm⟩
theorem eO:(rH n).length=n:=by simp[rH]
theorem eP{n:Nat}(h:xs[n]? =some x):dIx (.lst xs) (.int n)= .ok x:=by
 obtain⟨l,e⟩:=ax.1 h;simp[dIx,items,ixD,l,e]
theorem sT{n:Nat}(h:xs[n]? =some x):dIx (.tup xs) (.int n)= .ok x:=by
 obtain⟨l,e⟩:=ax.1 h;simp[dIx,items,ixD,l,e]
theorem DH(h:sml j=true):iT .Mult (.int i) (.int j)= .ok (.int (i*j)):=by simp[iT,d9,h]
theorem JN(h:sml i=true):iT .Mult (.int i) (.int j)= .ok (.int (i*j)):=by simp[iT,d9,h]
theorem oI(h:0<j):iT .Mod (.int i) (.int j)= .ok (.int (i % j)):=by simp[iT,d9,h]
theorem Af(h:0<j)(l:j<1073741824):iT .FloorDiv (.int i) (.int j)= .ok (.int (i/j)):=by simp[iT,d9,h,l]
theorem JO(a: -18446744073709551616<i)(b:i<18446744073709551616):sml i=true:=by simp[sml,a,b]
theorem Gg(hi:it ρ= .ok (.lst ds)\/it ρ= .ok (.tup ds)\/it ρ= .ow ds):D5 is o it b ρ=iW (tQ is o) b ds ρ:=by
 rcases hi with hi|hi|hi<;>simp[D5,hi,fS,mH,items]
theorem fF:bT xs=true↔ ∀x∈xs,plain x=true:=by
 induction xs with
 |nil=>simp[bT]
 |cons x r a=>simp[bT,a]
theorem i8(a:plain x=true)(b:plain y=true)(c:dep y<=60):hX x y=true:=by
 have:min (dep x) (dep y)<=60:=Nat.le_trans (Nat.min_le_right ..) c
 simp[hX,a,b,this]
theorem lM(h:hX x y=true):dJ .Eq x y= .ok (.bl (deq x y)):=by simp[dJ,h]
theorem sU(h:hX x y=true):dJ .NotEq x y= .ok (.bl (!deq x y)):=by simp[dJ,h]
mutual
theorem oJ: ∀d:D,plain d=true->deq d d=true
 |.non,_=>rfl
 |.bl b,_=>by simp[deq]
 |.int i,_=>by simp[deq]
 |.str x,_=>by simp[deq]
 |.tup xs,h=>by simp only[deq];exact lN xs h
 |.lst xs,h=>by simp only[deq];exact lN xs h
 |.exc _,h=>by simp[plain]at h
 |.fn _,h=>by simp[plain]at h
theorem lN: ∀xs:List D,bT xs=true->wL xs xs=true
 |[],_=>rfl
 |x::r,h=>by
  simp only[bT,av]at h;simp[wL,oJ x h.1,lN r h.2]
end
theorem Ag(h: ∀x∈xs,dep x=0):xC xs=0:=by
 induction xs with
 |nil=>rfl
 |cons x r a=>simp[xC,h x (.head _),a λy m=>h y (.tail _ m)]
end SK
namespace SK.k72
open SK
def aK:Fn:=λds=>Ji (fnOf 3 (a8 (eU 1 (fJ [rIs (l8 9) (aA 0),rIs (l8 8) (aA 0),rIs (l8 3) (aA 0),rIs (l8 2) (aA 0)]))
 (a8 (eU 1 (aS .Add (aA 1) (fJ [rIs (l8 5) (aA 0),rIs (l8 1) (aA 0),rIs (l8 7) (aA 0)])))
 (a8 (eU 1 (aS .Add (aA 1) (fJ [rIs (l8 6) (aA 0),rIs (l8 4) (aA 0)])))
 (a8 (sIf (rOr (aZ .NotEq (rV xD (aD 1) (rK (.bl true))) (rK (.int 1))) (pO (rIs (l8 100) (aA 0))))
 (a8 (dP (rK (.str "wrong")))
  (aQ))
 (aQ))
 (a8 (eU 2 (fJ [rK (.str "no back"),rK (.str "no label"),rK (.str "no move"),rK (.str "no name"),rK (.str "no sums"),rK (.str "no switch"),rK (.str "no term"),rK (.str "no text"),rK (.str "unlike")]))
 (a8 (dP (rIx (aD 2) (rV xE (aD 1) (rK (.bl true)))))
 (aQ))))))) ds)
def gL:Fn:=fnOf 1 (dP (jX (rIs (HS) (aA 0)) (pO (rIs (Eg) (aA 0)))))
def bI:Fn:=fnOf 2 (dP (jX (aF gL [aA 0]) (jK .LtE .Lt (rK (.int 0)) (aA 0) (aA 1))))
def bV:Fn:=fnOf 2 (dP (aF GS [bL 0 [1] (aD 0) none (aF bI [aA 0,aA 1])]))
def fG:Fn:=fnOf 1 (dP (aF bI [aA 0,aS .Add (rK (.int 4)) (rK (.int 1))]))
def iP:Fn:=fnOf 3 (dP (jX (rIs (nJ) (aA 0)) (jX (aZ .Eq (aF jR [aD 0]) (aA 1)) (aF bV [aA 0,aA 2]))))
def bM:Fn:=fnOf 1 (dP (aS .LShift (rK (.int 1)) (aA 0)))
def eQ:Fn:=fnOf 1 (a8 (sIf (rOr (pO (rIs (nJ) (aA 0))) (rOr (aZ .NotEq (aF jR [aD 0]) (rK (.int 2))) (pO (aF fG [rIx (aD 0) (rK (.int 0))]))))
 (dP (rK (.bl false)))
 (aQ))
 (dP (aF iP [rIx (aD 0) (rK (.int 1)),aF bM [rIx (aD 0) (rK (.int 0))],rK (.int 2)])))
def bH:Fn:=fnOf 1 (sIf (pO (aF eQ [aA 0]))
 (mF 1)
 (aQ))
def bK:Fn:=fnOf 2 (a8 (jS (aF bH [aA 0]))
 (a8 (jS (aF bH [aA 1]))
 (sIf (aZ .NotEq (rIx (aD 0) (rK (.int 0))) (rIx (aD 1) (rK (.int 0))))
 (mF 4)
 (aQ))))
def iQ:Fn:=fnOf 1 (a8 (jS (aF bH [aA 0]))
 (dP (dX [rIx (aD 0) (rK (.int 0)),aF gY [bL 0 [] (rIx (aD 0) (rK (.int 1))) none (aS .Sub (rK (.int 1)) (aA 0))]])))
def m9:Fn:=fnOf 2 (a8 (jS (aF bK [aA 0,aA 1]))
 (dP (dX [rIx (aD 0) (rK (.int 0)),aF gY [bL 2 [] (pQ (rIx (aD 0) (rK (.int 1))) (rIx (aD 1) (rK (.int 1)))) none (aS .BitAnd (aA 0) (aA 1))]])))
def gM:Fn:=fnOf 2 (a8 (jS (aF bK [aA 0,aA 1]))
 (dP (dX [rIx (aD 0) (rK (.int 0)),aF gY [bL 2 [] (pQ (rIx (aD 0) (rK (.int 1))) (rIx (aD 1) (rK (.int 1)))) none (aS .BitOr (aA 0) (aA 1))]])))
def gN:Fn:=fnOf 2 (a8 (jS (aF bK [aA 0,aA 1]))
 (dP (dX [rIx (aD 0) (rK (.int 0)),aF gY [bL 2 [] (pQ (rIx (aD 0) (rK (.int 1))) (rIx (aD 1) (rK (.int 1)))) none (aS .BitXor (aA 0) (aA 1))]])))
def gO:Fn:=fnOf 1 (a8 (sIf (rOr (pO (rIs (HU) (aA 0))) (pO (jK .LtE .LtE (rK (.int 1)) (aF jR [aD 0]) (rK (.int 4)))))
 (dP (rK (.bl false)))
 (aQ))
 (dP (aF GS [bL 0 [] (aD 0) none (jK .LtE .LtE (rK (.str "a")) (aA 0) (rK (.str "z")))])))
def bY:Fn:=fnOf 1 (sIf (pO (aF gO [aA 0]))
 (mF 8)
 (aQ))
def dR:Fn:=fnOf 3 (a8 (sIf (aZ .Eq (aA 0) (rK (.str "both")))
 (dP (aF m9 [aA 1,aA 2]))
 (aQ))
 (a8 (sIf (aZ .Eq (aA 0) (rK (.str "either")))
 (dP (aF gM [aA 1,aA 2]))
 (aQ))
 (a8 (sIf (aZ .Eq (aA 0) (rK (.str "unlike")))
 (dP (aF gN [aA 1,aA 2]))
 (aQ))
 (mF 8))))
def eK:Fn:=fnOf 2 (a8 (sIf (aZ .Lt (aA 1) (aF jR [aD 0]))
 (dP (rIx (aD 0) (aA 1)))
 (aQ))
 (a8 (sIf (aZ .Eq (aA 0) (fJ []))
 (dP (rK (.int 0)))
 (aQ))
 (dP (aS .Add (aS .Mult (rIx (aD 0) (aS .Mod (aA 1) (aF jR [aD 0]))) (rK (.int 31))) (aA 1)))))
def aI:Fn:=fnOf 4 (a8 (eU 3 (aS .Mod (aS .Mult (aS .Add (aF eK [aA 0,aA 1]) (aS .Mult (rK (.int 6151)) (aS .Add (aA 1) (rK (.int 1))))) (rK (.int 40692))) (rK (.int 2147483399))))
 (dP (aS .Mod (aS .Mod (aS .Add (aS .Mult (aA 3) (aA 3)) (aS .FloorDiv (aA 3) (rK (.int 31)))) (rK (.int 2147483629))) (aA 2))))
def aR:Fn:=fnOf 2 (dP (aF gY [bL 0 [1] (cZ (aA 0)) none (aS .Mod (aS .FloorDiv (aA 1) (rIx (fJ [rK (.int 1),rK (.int 2),rK (.int 4),rK (.int 8)]) (aA 0))) (rK (.int 2)))]))
def eR:Fn:=fnOf 2 (dP (aS .Mod (aF AX [bL 2 [] (pQ (aF aR [rK (.int 4),aA 0]) (aF aR [rK (.int 4),aA 1])) none (aS .Mult (aA 0) (aA 1))]) (rK (.int 2))))
def cU:Fn:=fnOf 9 (a8 (eU 3 (rIx (fJ [rK (.int 1),rK (.int 2),rK (.int 4),rK (.int 8),rK (.int 16)]) (aA 2)))
 (a8 (eU 4 (aF aI [aA 0,aA 1,rK (.int 6)]))
 (a8 (vW 5 (bL 0 [1,0] (cZ (aA 3)) none (aF aI [aA 2,aS .Add (aS .Add (aA 1) (rK (.int 1))) (aA 0),rK (.int 2)])))
 (a8 (sIf (jX (aZ .Eq (aA 4) (rK (.int 0))) (aZ .Gt (aA 2) (rK (.int 0))))
 (a8 (eU 6 (aF aI [aA 0,aS .Add (aA 1) (rK (.int 20)),aA 3]))
  (vW 5 (bL 0 [6] (cZ (aA 3)) none (aF eR [aA 1,aA 0]))))
 (sIf (aZ .Eq (aA 4) (rK (.int 1)))
  (vW 5 (bL 0 [1,2,0] (cZ (aA 3)) none (aF AW [aZ .GtE (aF AX [aF aR [aA 2,aA 0]]) (aS .Add (rK (.int 1)) (aF aI [aA 3,aS .Add (aA 1) (rK (.int 21)),rK (.int 3)]))])))
  (sIf (jX (aZ .Eq (aA 4) (rK (.int 2))) (aZ .Gt (aA 2) (rK (.int 0))))
   (a8 (eU 7 (aF aI [aA 0,aS .Add (aA 1) (rK (.int 22)),aA 2]))
    (vW 5 (bL 0 [7,5] (cZ (aA 3)) none (rIx (aD 2) (aS .Sub (aA 0) (aS .Mult (aS .Mod (aS .FloorDiv (aA 0) (rIx (fJ [rK (.int 1),rK (.int 2),rK (.int 4),rK (.int 8)]) (aA 1))) (rK (.int 2))) (rIx (fJ [rK (.int 1),rK (.int 2),rK (.int 4),rK (.int 8)]) (aA 1))))))))
   (aQ))))
 (a8 (sIf (jX (aZ .Lt (aA 4) (rK (.int 3))) (aZ .Eq (aF aI [aA 0,aS .Add (aA 1) (rK (.int 23)),rK (.int 3)]) (rK (.int 0))))
 (a8 (eU 8 (aF aI [aA 0,aS .Add (aA 1) (rK (.int 24)),aA 3]))
  (wM 5 (aA 8) (aS .Sub (rK (.int 1)) (rIx (aD 5) (aA 8)))))
 (aQ))
 (dP (dX [aA 2,aF gY [aD 5]])))))))
def dO:Fn:=fnOf 8 (a8 (eU 3 (fJ [rK (.str "a"),rK (.str "b"),rK (.str "gm"),rK (.str "xjqp")]))
 (a8 (fT [4,5] (dX [rIx (aD 3) (aF aI [aA 0,aA 1,rK (.int 4)]),aF aI [aA 0,aS .Add (aA 1) (rK (.int 1)),rK (.int 8)]]))
 (a8 (sIf (rOr (aZ .Lt (aA 5) (rK (.int 3))) (aZ .Eq (aA 2) (kR)))
 (a8 (eU 6 (rIx (fJ [rK (.int 2),rK (.int 2),rK (.int 2),rK (.int 1),rK (.int 3),rK (.int 4),rK (.int 0)]) (aF aI [aA 0,aS .Add (aA 1) (rK (.int 2)),rK (.int 7)])))
  (dP (dX [rK (.str "put"),aA 4,aF cU [aA 0,aS .Add (aA 1) (rK (.int 10)),aA 6]])))
 (aQ))
 (a8 (sIf (aZ .Eq (aA 5) (rK (.int 3)))
 (dP (dX [rK (.str "take"),aA 4]))
 (aQ))
 (a8 (sIf (aZ .Eq (aA 5) (rK (.int 4)))
 (dP (dX [rK (.str "turn"),aA 4]))
 (aQ))
 (a8 (eU 7 (rIx (fJ [rK (.str "both"),rK (.str "either"),rK (.str "unlike")]) (aF aI [aA 0,aS .Add (aA 1) (rK (.int 3)),rK (.int 3)])))
 (dP (dX [rK (.str "join"),aA 4,aA 7,rIx (aD 3) (aF aI [aA 0,aS .Add (aA 1) (rK (.int 4)),rK (.int 4)]),rIx (aD 3) (aF aI [aA 0,aS .Add (aA 1) (rK (.int 5)),rK (.int 4)])]))))))))
def aT:Fn:=fnOf 7 (a8 (mG 2 (aA 0))
 (a8 (sIf (aZ .Eq (rIx (aD 1) (rK (.int 0))) (rK (.str "put")))
 (a8 (wM 2 (rIx (aD 1) (rK (.int 1))) (rIx (aD 1) (rK (.int 2))))
  (Ks [2] (dP (dX [aA 2,aZ .In (rIx (aD 1) (rK (.int 1))) (aA 0)]))))
 (aQ))
 (a8 (sIf (aZ .Eq (rIx (aD 1) (rK (.int 0))) (rK (.str "join")))
 (a8 (sIf (rOr (aZ .NotIn (rIx (aD 1) (rK (.int 3))) (aA 0)) (aZ .NotIn (rIx (aD 1) (rK (.int 4))) (aA 0)))
  (dP (dX [aA 0,rK (.str "no label")]))
  (aQ))
  (a8 (fT [3,4] (dX [rIx (aD 0) (rIx (aD 1) (rK (.int 3))),rIx (aD 0) (rIx (aD 1) (rK (.int 4)))]))
  (a8 (sIf (aZ .NotEq (rIx (aD 3) (rK (.int 0))) (rIx (aD 4) (rK (.int 0))))
  (dP (dX [aA 0,rK (.str "unlike")]))
  (aQ))
  (a8 (eU 5 (aF vV [pQ (rIx (aD 3) (rK (.int 1))) (rIx (aD 4) (rK (.int 1)))]))
  (a8 (eU 6 (tU "both" "either" (bL 2 [] (aD 5) none (aS .Mult (aA 0) (aA 1))) (bL 2 [] (aD 5) none (aF AW [aZ .Gt (aS .Add (aA 0) (aA 1)) (rK (.int 0))]))))
  (a8 (wM 2 (rIx (aD 1) (rK (.int 1))) (dX [rIx (aD 3) (rK (.int 0)),aF gY [pS (aA 6) (rIx (aD 1) (rK (.int 2))) (bL 2 [] (aD 5) none (aF AW [aZ .Eq (aS .Add (aA 0) (aA 1)) (rK (.int 1))]))]]))
  (Ks [2] (dP (dX [aA 2,rIx (aD 2) (rIx (aD 1) (rK (.int 1)))])))))))))
 (aQ))
 (a8 (sIf (aZ .NotIn (rIx (aD 1) (rK (.int 1))) (aA 0))
 (dP (dX [aA 0,rK (.str "no label")]))
 (aQ))
 (a8 (sIf (aZ .Eq (rIx (aD 1) (rK (.int 0))) (rK (.str "turn")))
 (a8 (wM 2 (rIx (aD 1) (rK (.int 1))) (dX [rIx (rIx (aD 0) (rIx (aD 1) (rK (.int 1)))) (rK (.int 0)),aF gY [bL 0 [] (rIx (rIx (aD 0) (rIx (aD 1) (rK (.int 1)))) (rK (.int 1))) none (aS .Sub (rK (.int 1)) (aA 0))]]))
  (Ks [2] (dP (dX [aA 2,rIx (aD 2) (rIx (aD 1) (rK (.int 1)))]))))
 (aQ))
 (dP (dX [mJ (bL 0 [1,0] (aD 0) (some (aZ .NotEq (aA 0) (rIx (aD 1) (rK (.int 1))))) (dX [aA 0,rIx (aD 2) (aA 0)])),rIx (aD 0) (rIx (aD 1) (rK (.int 1)))])))))))
def aO:FM:=gR 350 3 (cW (mIf (aZ .Is (aA 2) (rK .non))
 (cW (FA 350 (aA 1))
  (eC))
 (cW (Fz 350 (aA 1) (aA 2))
  (eC)))
 (eC))
def jP:FM:=gR 350 4 (cW (Fy 350 true (dX [aA 1,aA 2,Bb 350 0 (aA 2),aA 3]))
 (cW (u7 350)
 (cW (i7 350 aO [aA 2,aA 3])
 (eC))))
def fQ:FM:=gR 350 4 (cW (qO (aF bH [aA 2]))
 (cW (qO (aF bY [aA 1]))
 (cW (B6 2 (GT false 350 0 (aA 1)))
 (cW (i7 350 jP [rK (.str "put"),aA 1,aA 2])
 (cW (qP (aA 3))
 (eC))))))
def aE:FM:=gR 350 2 (cW (qO (aF bY [aA 1]))
 (cW (mIf (GT true 350 0 (aA 1))
 (cW (qQ 8)
  (eC))
 (eC))
 (cW (qP (Ba 350 0 (aA 1)))
 (eC))))
def dF:FM:=gR 350 3 (cW (B6 1 (eM 350 0 aE [aA 1]))
 (cW (i7 350 jP [rK (.str "take"),aA 1,rK .non])
 (cW (qP (aA 2))
 (eC))))
def dG:FM:=gR 350 6 (cW (qO (aF bY [aA 1]))
 (cW (B6 4 (aF dR [aA 2,eM 350 0 aE [aA 3],eM 350 0 aE [aA 4]]))
 (cW (i7 350 jP [rK (.str "join"),aA 1,aA 5])
 (cW (qP (aA 5))
 (eC)))))
def dW:FM:=gR 350 3 (cW (B6 1 (aF iQ [eM 350 0 aE [aA 1]]))
 (cW (i7 350 jP [rK (.str "turn"),aA 1,aA 2])
 (cW (qP (aA 2))
 (eC))))
def bN:FM:=gR 350 1 (cW (qP (Eb 350 0))
 (eC))
def eS:FM:=gR 350 2 (cW (mIf (aZ .Eq (CW 350 0 true) (fJ []))
 (cW (qQ 9)
  (eC))
 (eC))
 (cW (wD 350 0 true)
 (cW (Fy 350 false (aA 1))
 (cW (i7 350 aO [rIx (aD 1) (rK (.int 1)),rIx (aD 1) (rK (.int 2))])
 (cW (qP (rIx (aD 1) (rK (.int 0))))
 (eC))))))
def dH:FM:=gR 350 2 (cW (mIf (aZ .Eq (CW 350 0 false) (fJ []))
 (cW (qQ 9)
  (eC))
 (eC))
 (cW (wD 350 0 false)
 (cW (Fy 350 true (aA 1))
 (cW (i7 350 aO [rIx (aD 1) (rK (.int 1)),rIx (aD 1) (rK (.int 3))])
 (cW (qP (rIx (aD 1) (rK (.int 0))))
 (eC))))))
def dI:FM:=gR 350 1 (cW (qP (dX [aF jR [CW 350 0 true],aF jR [CW 350 0 false]]))
 (eC))
def lO:FR:=(ifM (aZ .Eq (rIx (aD 1) (rK (.int 0))) (rK (.str "put"))) (sS aK [1,0] (zR 350 1 fQ [rIx (aD 0) (rK (.int 1)),rIx (aD 0) (rK (.int 2))])) (ifM (aZ .Eq (rIx (aD 1) (rK (.int 0))) (rK (.str "join"))) (sS aK [1,0] (zR 350 1 dG [rIx (aD 0) (rK (.int 1)),rIx (aD 0) (rK (.int 2)),rIx (aD 0) (rK (.int 3)),rIx (aD 0) (rK (.int 4))])) (sS aK [1,0] (ifM (aZ .Eq (rIx (aD 0) (rK (.int 0))) (rK (.str "turn"))) (zR 350 1 dW [rIx (aD 0) (rK (.int 1))]) (zR 350 1 dF [rIx (aD 0) (rK (.int 1))])))))
def bB:FM:=FX 350 2 lO
def cV:FM:=gR 350 1 (cW (qP (mJ (bL 0 [0] (eM 350 0 bN []) none (dX [aA 0,eM 350 1 aE [aA 0]]))))
 (eC))
def Gh:FS:=a8 (qY 9 1 2 3 350 [fJ [kR],fJ [],rK (.int 0)])
 (a8 (D5 [4] true (cZ (rK (.int 18)))
 (a8 (eU 5 (aF aI [aA 0,aS .Add (rK (.int 2000)) (aA 4),rK (.int 7)]))
  (a8 (lX (jT (aZ .Lt (aA 5) (rK (.int 4))))
  (a8 (eU 6 (aF dO [aA 0,aS .Add (rK (.int 100)) (aS .Mult (rK (.int 60)) (aA 4)),rIx (aD 1) (aA 3)]))
   (a8 (fT [7,8] (aF aT [rIx (aD 1) (aA 3),aA 6]))
   (a8 (lX (qU 350 9 bB [aA 6] .NotEq (aA 8))
   (a8 (dP (rK (.bl false)))
    (aQ))
   (aQ))
   (a8 (lX (jT (aZ .NotIn (aA 8) (dX [rK (.str "no label"),rK (.str "unlike")])))
   (a8 (eU 1 (aS .Add (kP (aD 1) (aS .Add (aA 3) (rK (.int 1)))) (fJ [aA 7])))
    (a8 (eU 2 (aS .Add (kP (aD 2) (aA 3)) (fJ [rIx (aD 6) (rK (.int 0))])))
    (a8 (eU 3 (aS .Add (aA 3) (rK (.int 1))))
    (aQ))))
   (aQ))
   (aQ)))))
  (a8 (lX (jT (aZ .Lt (aA 5) (rK (.int 6))))
   (a8 (lX (qU 350 9 (λr _=>cF aK (zR 350 0 eS [] [.rk 350 r])) [] .NotEq (rIf (aZ .Gt (aA 3) (rK (.int 0))) (rIx (aD 2) (aS .Sub (aA 3) (rK (.int 1)))) (rK (.str "no back"))))
    (a8 (dP (rK (.bl false)))
     (aQ))
    (aQ))
    (a8 (eU 3 (aF Kq [rK (.int 0),aS .Sub (aA 3) (rK (.int 1))]))
    (aQ)))
   (a8 (lX (qU 350 9 (λr _=>cF aK (zR 350 0 dH [] [.rk 350 r])) [] .NotEq (rIf (aZ .Lt (aA 3) (aF jR [aD 2])) (rIx (aD 2) (aA 3)) (rK (.str "no back"))))
    (a8 (dP (rK (.bl false)))
     (aQ))
    (aQ))
    (a8 (eU 3 (aF Kr [aF jR [aD 2],aS .Add (aA 3) (rK (.int 1))]))
    (aQ))))
   (aQ)))
  (a8 (lX (cOr (qU 350 9 cV [] .NotEq (rIx (aD 1) (aA 3))) (qU 350 9 dI [] .NotEq (dX [aA 3,aS .Sub (aF jR [aD 2]) (aA 3)])))
  (a8 (dP (rK (.bl false)))
   (aQ))
  (aQ))
  (aQ)))))
 (a8 (dP (rK (.bl true)))
 (aQ)))
open PySem
noncomputable abbrev Sc(ns:List Int):D:=.lst (ns.map D.int)
theorem Cr(ns:List Int):plain (Sc ns)=true:=by
 show bT (ns.map D.int)=true;rw[fF];intro x m;obtain⟨i,_,rfl⟩:=aq.1 m;rfl
noncomputable def wG(ns:List Int)(k:Nat):Int:=if k<ns.length then ns.getD k 0 else if ns=[]then 0 else ns.getD (k % ns.length) 0*31+k
theorem Gi(ns:List Int)(k:Nat):eK [Sc ns,.int k]= .ok (.int (wG ns k)):=by
 have b:jR [Sc ns]= .ok (.int ns.length):=by simp[jR,items]
 by_cases h:k<ns.length
 ·have e:(ns.map D.int)[k]? =some (D.int (wG ns k)):=by simp[wG,h]
  refine aY (cS ((eE ?_).trans (aU ((cG rfl rfl).trans (eP e)))));refine(aP rfl ((cH rfl).trans b)).trans ?_;simp[dJ,h]
 ·refine aY ((aG ((dB ((aP rfl ((cH rfl).trans b)).trans ?_)).trans rfl)).trans ?_)
  ·simp[dJ];lia
  have c:aZ .Eq (aA 0) (fJ []) [.sh (Sc ns),.sh (.int k)]= .ok (.bl (decide (ns=[]))):=by
   show dJ .Eq (Sc ns) (.lst [])=_;rw[lM (i8 (Cr ns) rfl (by decide))]
   cases ns<;>simp[deq,wL]
  by_cases a:ns=[]
  ·subst a;exact cS ((eE (c.trans rfl)).trans rfl)
  ·refine(aG ((dB (c.trans (by simp[a]))).trans rfl)).trans (aU ?_)
   have l:0<ns.length:=List.length_pos_iff.2 a
   have e:(ns.map D.int)[k % ns.length]? =some (D.int (ns.getD (k % ns.length) 0)):=by simp[Nat.mod_lt _ l]
   have d:iT .Mod (.int k) (.int ns.length)= .ok (.int ((k % ns.length:Nat):Int)):=by
    have:(0:Int)<ns.length:=by lia
    simp[iT,d9,this];lia
   refine(aV ((aV ((cG rfl ((aV rfl ((cH rfl).trans b)).trans d)).trans (eP e)) rfl).trans (DH rfl)) rfl).trans ?_;simp[iT,d9,wG,h,a]
def hJ(ns:List Int)(k:Nat):Int:=(wG ns k+6151*(k+1))*40692 % 2147483399
def Ah(ns:List Int)(k:Nat)(m:Int):Int:=(hJ ns k*hJ ns k+hJ ns k/31) % 2147483629 % m
theorem Gj(ns:List Int)(k:Nat)(hm:0<m):aI [Sc ns,.int k,.int m]= .ok (.int (Ah ns k m)):=by
 have c:aS .Mod (aS .Mult (aS .Add (aF eK [aA 0,aA 1]) (aS .Mult (rK (.int 6151)) (aS .Add (aA 1) (rK (.int 1))))) (rK (.int 40692))) (rK (.int 2147483399)) [.sh (Sc ns),.sh (.int k),.sh (.int m),.no]= .ok (.int (hJ ns k)):=by
  refine(aV ((aV ((aV ((cI rfl rfl).trans (Gi ns k)) (y:=.int (6151*(k+1))) ?_).trans rfl) rfl).trans (?_:_=R.ok (.int ((wG ns k+6151*(k+1))*40692)))) rfl).trans ?_
  ·refine(aV rfl rfl).trans ?_;simp[iT,d9,sml]
  ·simp[iT,d9,sml]
  ·simp[iT,d9,hJ]
 refine aY ((aG (cY c)).trans (aU ?_));unfold Ah
 have d:sml (hJ ns k)=true:=by
  have:0<=hJ ns k/\hJ ns k<2147483399:=by unfold hJ;lia
  simp[sml];lia
 generalize hJ ns k=x at *
 have a:aS .FloorDiv (aA 3) (rK (.int 31)) [.sh (Sc ns),.sh (.int k),.sh (.int m),.sh (.int (x))]= .ok (.int (x/31)):=by
  refine(aV rfl rfl).trans ?_;simp[iT,d9]
 have b:aS .Mult (aA 3) (aA 3) [.sh (Sc ns),.sh (.int k),.sh (.int m),.sh (.int x)]= .ok (.int (x*x)):=by
  refine(aV rfl rfl).trans ?_;simp[iT,d9,d]
 refine(aV ((aV ((aV b a).trans rfl) rfl).trans (?_:_=R.ok (.int ((x*x+x/31) % 2147483629)))) rfl).trans ?_
 ·simp[iT,d9]
 ·exact oI hm
theorem sV(ns:List Int)(k:Nat)(hm:0<m):0<=Ah ns k m/\Ah ns k m<m:=⟨Int.emod_nonneg _ (by lia),Int.emod_lt_of_pos _ hm⟩
def bit(d:D):Prop:=d= .int 0\/d= .int 1
theorem Ai(i:Int):bit (.int (i % 2)):=by
 unfold bit;rcases(show i % 2=0\/i % 2=1 by lia)with h|h<;>simp[h]
theorem ix4{j:Nat}(h:a ρ= .ok (.int j))(l:j<4):rIx (fJ [rK (.int 1),rK (.int 2),rK (.int 4),rK (.int 8)]) a ρ= .ok (.int ((2^j:Nat):Int)):=by
 refine(vC rfl h).trans (eP ?_);rcases(show j=0\/j=1\/j=2\/j=3 by lia)with rfl|rfl|rfl|rfl<;>rfl
theorem ix5{j:Nat}(h:a ρ= .ok (.int j))(l:j<=4):rIx (fJ [rK (.int 1),rK (.int 2),rK (.int 4),rK (.int 8),rK (.int 16)]) a ρ= .ok (.int ((2^j:Nat):Int)):=by
 refine(vC rfl h).trans (eP ?_);rcases(show j=0\/j=1\/j=2\/j=3\/j=4 by lia)with rfl|rfl|rfl|rfl|rfl<;>rfl
theorem Aj(h:m<=4):1<=2^m/\2^m<=16:=by
 rcases(show m=0\/m=1\/m=2\/m=3\/m=4 by lia)with rfl|rfl|rfl|rfl|rfl<;>decide
theorem i9{m:Nat}(hm:m<=4)(k:Int): ∃xs,aR [.int m,.int k]= .ok (.tup xs)/\xs.length=m/\∀x∈xs,bit x:=by
 obtain⟨xs,e,l,b⟩:=fD (n:=0) (cs:=[1]) (it:=cZ (aA 0)) (e:=aS .Mod (aS .FloorDiv (aA 1) (rIx (fJ [rK (.int 1),rK (.int 2),rK (.int 4),rK (.int 8)]) (aA 0))) (rK (.int 2))) (ρ:=[.sh (.int m),.sh (.int k)]) (ds:=rH m) (P:=bit)
  (.inl (fE rfl (by lia))) λd h=>by
   obtain⟨j,c,rfl⟩:=iO h;have f:=Aj (m:=j) (by lia)
   refine⟨[.sh (.int j)],_,rfl,(aV ((aV rfl (ix4 (a:=aA 0) (j:=j) rfl (by lia))).trans (Af ?_ ?_)) rfl).trans (oI (by decide)),Ai _⟩<;>lia
 exact⟨xs,aY (aU ((dU e).trans rfl)),l.trans eO,b⟩
theorem Ak: ∀{xs:List D},(∀x∈xs, ∃i,x=D.int i)->∃is:List Int,xs=is.map D.int
 |[],_=>⟨[],rfl⟩
 |x::r,h=>by
  obtain⟨i,rfl⟩:=h x (.head _);obtain⟨is,rfl⟩:=Ak (xs:=r) λy m=>h y (.tail _ m)
  exact⟨i::is,rfl⟩
theorem Gk(h:bit d): ∃i,d= .int i:=by rcases h with rfl|rfl<;>exact⟨_,rfl⟩
theorem Cs(is:List Int):AX [.lst (is.map D.int)]= .ok (.int is.sum):=by simp[AX,items,q9]
theorem Gm(is:List Int):AX [.tup (is.map D.int)]= .ok (.int is.sum):=by simp[AX,items,q9]
theorem JP(a b:Int): ∃r,eR [.int a,.int b]= .ok r/\bit r:=by
 obtain⟨c,v,I,u⟩:=i9 (m:=4) (by decide) a
 obtain⟨f,t,J,z⟩:=i9 (m:=4) (by decide) b
 have g:pQ (aF aR [rK (.int 4),aA 0]) (aF aR [rK (.int 4),aA 1]) [.sh (.int a),.sh (.int b)]= .ok (.lst ((c.zip f).map λp=>D.tup [p.1,p.2])):=by
  have A:aF aR [rK (.int 4),aA 0] [.sh (.int a),.sh (.int b)]= .ok (.tup c):=(cI rfl rfl).trans v
  have G:aF aR [rK (.int 4),aA 1] [.sh (.int a),.sh (.int b)]= .ok (.tup f):=(cI rfl rfl).trans t
  simp[pQ,A,G,R.bind]
 obtain⟨H,e,l,q⟩:=fD (n:=2) (cs:=[]) (e:=aS .Mult (aA 0) (aA 1)) (P:=λx=>∃i,x=D.int i) (.inl g) λd h=>by
  obtain⟨⟨x,y⟩,s,rfl⟩:=aq.1 h;obtain⟨C,B⟩:=List.of_mem_zip s;have j:=u x C;have o:=z y B;refine⟨[.sh x,.sh y],?_⟩;rcases j with rfl|rfl<;>rcases o with rfl|rfl<;>exact⟨_,rfl,rfl,_,rfl⟩
 obtain⟨E,rfl⟩:=Ak q;exact⟨_,aY (aU ((aV ((dU e).trans (Cs E)) rfl).trans (oI (by decide)))),Ai _⟩
theorem cJ(ns:List Int)(k:Nat){m:Nat}(hm:0<m): ∃p:Nat,aI [Sc ns,.int k,.int m]= .ok (.int p)/\p<m:=by
 have h:(0:Int)<m:=by lia
 have r:=sV ns k h;refine⟨(Ah ns k m).toNat,(Gj ns k h).trans ?_,by lia⟩
 rw[Int.toNat_of_nonneg r.1]
theorem JQ{p:Nat}(h:p<2):bit (.int p):=by
 rcases(show p=0\/p=1 by lia)with rfl|rfl
 ·exact .inl rfl
 ·exact .inr rfl
theorem DI{ws:List D}(h: ∀w∈ws,bit w){p:Nat}(hp:p<ws.length): ∃w,dIx (.lst ws) (.int p)= .ok w/\bit w:=
 ⟨ws[p],eP (bc hp),h _ (List.getElem_mem hp)⟩
theorem Al(ns:List Int)(at':Nat){m:Nat}(hm:m<=4): ∃ws,cU [Sc ns,.int at',.int m]= .ok (.tup [.int m,.tup ws])/\ws.length=2^m/\∀w∈ws,bit w:=by
 have Q:=Aj hm;obtain⟨f,B,lw⟩:=cJ ns at' (m:=6) (by decide)
 -- the drawn worths
 obtain⟨s,e0,U,T⟩:=fD (n:=0) (cs:=[1,0]) (it:=cZ (aA 3)) (e:=aF aI [aA 2,aS .Add (aS .Add (aA 1) (rK (.int 1))) (aA 0),rK (.int 2)]) (P:=bit) (ds:=rH (2^m))
  (ρ:=[.sh (Sc ns),.sh (.int at'),.sh (.int m),.sh (.int (2^m:Nat)),.sh (.int f),.no,.no,.no,.no]) (.inl (fE rfl (by lia))) λd h=>by
   obtain⟨j,K,rfl⟩:=iO h;obtain⟨p,Q,lp⟩:=cJ ns (at'+1+j) (m:=2) (by decide)
   exact⟨[.sh (.int j)],_,rfl,(dM (x:=Sc ns) (y:=.int ((at'+1+j:Nat):Int)) (z:=.int 2) rfl rfl rfl).trans Q,JQ lp⟩
 rw[eO]at U
 -- the ways
 have h4: ∃ws a b,(sIf (jX (aZ .Eq (aA 4) (rK (.int 0))) (aZ .Gt (aA 2) (rK (.int 0))))
   (a8 (eU 6 (aF aI [aA 0,aS .Add (aA 1) (rK (.int 20)),aA 3]))
    (vW 5 (bL 0 [6] (cZ (aA 3)) none (aF eR [aA 1,aA 0]))))
   (sIf (aZ .Eq (aA 4) (rK (.int 1)))
    (vW 5 (bL 0 [1,2,0] (cZ (aA 3)) none (aF AW [aZ .GtE (aF AX [aF aR [aA 2,aA 0]]) (aS .Add (rK (.int 1)) (aF aI [aA 3,aS .Add (aA 1) (rK (.int 21)),rK (.int 3)]))])))
    (sIf (jX (aZ .Eq (aA 4) (rK (.int 2))) (aZ .Gt (aA 2) (rK (.int 0))))
     (a8 (eU 7 (aF aI [aA 0,aS .Add (aA 1) (rK (.int 22)),aA 2]))
      (vW 5 (bL 0 [7,5] (cZ (aA 3)) none (rIx (aD 2) (aS .Sub (aA 0) (aS .Mult (aS .Mod (aS .FloorDiv (aA 0) (rIx (fJ [rK (.int 1),rK (.int 2),rK (.int 4),rK (.int 8)]) (aA 1))) (rK (.int 2))) (rIx (fJ [rK (.int 1),rK (.int 2),rK (.int 4),rK (.int 8)]) (aA 1))))))))
     (aQ)))) [.sh (Sc ns),.sh (.int at'),.sh (.int m),.sh (.int (2^m:Nat)),.sh (.int f),.ow s,.no,.no,.no]
   = .nx [.sh (Sc ns),.sh (.int at'),.sh (.int m),.sh (.int (2^m:Nat)),.sh (.int f),.ow ws,a,b,.no]/\ws.length=2^m/\∀w∈ws,bit w:=by
  have H: ∀ρ:Rho,ρ[2]? =some (.sh (.int m))->aZ .Gt (aA 2) (rK (.int 0)) ρ= .ok (.bl (decide (0<m))):=λρ h=>by
   refine(aP (x:=.int m) (by simp[aA,h]) rfl).trans ?_
   simp[dJ]
  have o: ∀(c:Nat) (ρ:Rho),ρ[4]? =some (.sh (.int f))->aZ .Eq (aA 4) (rK (.int c)) ρ= .ok (.bl (decide (f=c))):=λc ρ h=>by
   refine(aP (x:=.int f) (by simp[aA,h]) rfl).trans ?_
   rw[lM rfl];show R.ok (.bl ((f:Int)==(c:Int)))=_
   congr 2;rw[Bool.eq_iff_iff];simp;lia
  have g: ∀c:Nat,jX (aZ .Eq (aA 4) (rK (.int c))) (aZ .Gt (aA 2) (rK (.int 0))) [.sh (Sc ns),.sh (.int at'),.sh (.int m),.sh (.int (2^m:Nat)),.sh (.int f),.ow s,.no,.no,.no]= .ok (.bl (decide (f=c/\0<m))):=λc=>by
   by_cases h:f=c
   ·refine(rB ((o c _ rfl).trans (by simp[h]))).trans ((H _ rfl).trans (by simp[h]))
   ·refine(Ac ((o c _ rfl).trans (by simp[h]))).trans (by simp[h])
  by_cases C:f=0/\0<m
  ·obtain⟨u,hk,lk⟩:=cJ ns (at'+20) (m:=2^m) (by lia)
   obtain⟨ws,e,l,b⟩:=fD (n:=0) (cs:=[6]) (it:=cZ (aA 3)) (e:=aF eR [aA 1,aA 0]) (P:=bit) (ds:=rH (2^m))
    (ρ:=[.sh (Sc ns),.sh (.int at'),.sh (.int m),.sh (.int (2^m:Nat)),.sh (.int f),.ow s,.sh (.int u),.no,.no]) (.inl (fE rfl (by lia))) λd h=>by
     obtain⟨j,K,rfl⟩:=iO h;obtain⟨r,Y,br⟩:=JP u j;exact⟨[.sh (.int j)],_,rfl,(cI rfl rfl).trans Y,br⟩
   refine⟨ws,.sh (.int u),.no,(eE ((g 0).trans (by simp[C]))).trans ((aG (cY ((dM rfl rfl rfl).trans hk))).trans (oG e)),l.trans eO,b⟩
  by_cases M:f=1
  ·obtain⟨q,E,lq⟩:=cJ ns (at'+21) (m:=3) (by lia)
   obtain⟨ws,e,l,b⟩:=fD (n:=0) (cs:=[1,2,0]) (it:=cZ (aA 3)) (e:=aF AW [aZ .GtE (aF AX [aF aR [aA 2,aA 0]]) (aS .Add (rK (.int 1)) (aF aI [aA 3,aS .Add (aA 1) (rK (.int 21)),rK (.int 3)]))]) (P:=bit) (ds:=rH (2^m))
    (ρ:=[.sh (Sc ns),.sh (.int at'),.sh (.int m),.sh (.int (2^m:Nat)),.sh (.int f),.ow s,.no,.no,.no]) (.inl (fE rfl (by lia))) λd h=>by
     obtain⟨j,K,rfl⟩:=iO h;obtain⟨xs,hs,ls,bs⟩:=i9 hm j;obtain⟨is,rfl⟩:=Ak λx m=>Gk (bs x m)
     refine⟨[.sh (.int j)],_,rfl,(cH ((aP ((cH ((cI rfl rfl).trans hs)).trans (Gm is)) ((aV rfl ((dM rfl rfl rfl).trans E)).trans rfl)).trans rfl)).trans rfl,?_⟩;unfold b2i;split
     ·exact .inr rfl
     ·exact .inl rfl
   refine⟨ws,.no,.no,(dB ((g 0).trans (by simp[C]))).trans ((eE ((o 1 _ rfl).trans (by simp[M]))).trans (oG e)),l.trans eO,b⟩
  by_cases O:f=2/\0<m
  ·obtain⟨nm,hk,lk⟩:=cJ ns (at'+22) (m:=m) (by lia)
   obtain⟨ws,e,l,b⟩:=fD (n:=0) (cs:=[7,5]) (it:=cZ (aA 3)) (e:=rIx (aD 2) (aS .Sub (aA 0) (aS .Mult (aS .Mod (aS .FloorDiv (aA 0) (rIx (fJ [rK (.int 1),rK (.int 2),rK (.int 4),rK (.int 8)]) (aA 1))) (rK (.int 2))) (rIx (fJ [rK (.int 1),rK (.int 2),rK (.int 4),rK (.int 8)]) (aA 1))))) (P:=bit) (ds:=rH (2^m))
    (ρ:=[.sh (Sc ns),.sh (.int at'),.sh (.int m),.sh (.int (2^m:Nat)),.sh (.int f),.ow s,.no,.sh (.int nm),.no]) (.inl (fE rfl (by lia))) λd h=>by
     obtain⟨j,K,rfl⟩:=iO h;have ab:=Aj (m:=nm) (by lia)
     have J:j/2^nm % 2*2^nm<=j:=Nat.le_trans (Nat.mul_le_mul_right _ (Nat.mod_le _ _)) (Nat.div_mul_le_self ..)
     obtain⟨w,B,I⟩:=DI T (p:=j-j/2^nm % 2*2^nm) (by lia)
     refine⟨[.sh (.int j)],w,rfl,(cG (x:=.lst s) (y:=.int (j-j/2^nm % 2*2^nm:Nat)) rfl ?_).trans B,I⟩;refine(aV rfl ((aV ((aV ((aV rfl (ix4 (a:=aA 1) (j:=nm) rfl (by lia))).trans (Af (by lia) (by lia))) rfl).trans (oI (by decide))) (ix4 (a:=aA 1) (j:=nm) rfl (by lia))).trans (DH (JO (by lia) (by lia))))).trans ?_
     show R.ok (D.int ((j:Int)-(j:Int)/((2^nm:Nat):Int) % 2*((2^nm:Nat):Int)))=_;rw[Int.ofNat_sub J,Int.natCast_mul,Int.natCast_emod,Int.natCast_ediv];rfl
   refine⟨ws,.no,.sh (.int nm),(dB ((g 0).trans (by simp[C]))).trans ((dB ((o 1 _ rfl).trans (by simp[M]))).trans ((eE ((g 2).trans (by simp[O]))).trans ((aG (cY ((dM rfl rfl rfl).trans hk))).trans (oG e)))),l.trans eO,b⟩
  ·exact⟨s,.no,.no,(dB ((g 0).trans (by simp[C]))).trans ((dB ((o 1 _ rfl).trans (by simp[M]))).trans ((dB ((g 2).trans (by simp[O]))).trans rfl)),U,T⟩
 obtain⟨i,a,b,e1,N,L⟩:=h4
 -- one worth turned
 have h5: ∃ws c,(sIf (jX (aZ .Lt (aA 4) (rK (.int 3))) (aZ .Eq (aF aI [aA 0,aS .Add (aA 1) (rK (.int 23)),rK (.int 3)]) (rK (.int 0))))
   (a8 (eU 8 (aF aI [aA 0,aS .Add (aA 1) (rK (.int 24)),aA 3]))
    (wM 5 (aA 8) (aS .Sub (rK (.int 1)) (rIx (aD 5) (aA 8)))))
   (aQ)) [.sh (Sc ns),.sh (.int at'),.sh (.int m),.sh (.int (2^m:Nat)),.sh (.int f),.ow i,a,b,.no]
   = .nx [.sh (Sc ns),.sh (.int at'),.sh (.int m),.sh (.int (2^m:Nat)),.sh (.int f),.ow ws,a,b,c]/\ws.length=2^m/\∀w∈ws,bit w:=by
  obtain⟨q,E,lq⟩:=cJ ns (at'+23) (m:=3) (by lia)
  have hc: ∃t,jX (aZ .Lt (aA 4) (rK (.int 3))) (aZ .Eq (aF aI [aA 0,aS .Add (aA 1) (rK (.int 23)),rK (.int 3)]) (rK (.int 0))) [.sh (Sc ns),.sh (.int at'),.sh (.int m),.sh (.int (2^m:Nat)),.sh (.int f),.ow i,a,b,.no]= .ok (.bl t):=by
   have S:aZ .Lt (aA 4) (rK (.int 3)) [.sh (Sc ns),.sh (.int at'),.sh (.int m),.sh (.int (2^m:Nat)),.sh (.int f),.ow i,a,b,.no]= .ok (.bl (decide ((f:Int)<3))):=rfl
   by_cases X:(f:Int)<3
   ·exact⟨_,(rB (S.trans (by simp[X]))).trans ((aP ((dM rfl rfl rfl).trans E) rfl).trans (lM rfl))⟩
   ·exact⟨_,Ac (S.trans (by simp[X]))⟩
  obtain⟨t,W⟩:=hc
  cases t with
  |false=>exact⟨i,.no,(dB W).trans rfl,N,L⟩
  |true=>
   obtain⟨A,hl,ll⟩:=cJ ns (at'+24) (m:=2^m) (by lia)
   obtain⟨w,B,I⟩:=DI L (p:=A) (by lia)
   have hb: ∃v,iT .Sub (.int 1) w= .ok v/\bit v:=by
    rcases I with rfl|rfl
    ·exact⟨_,rfl,.inr rfl⟩
    ·exact⟨_,rfl,.inl rfl⟩
   obtain⟨v,hv,bv⟩:=hb;refine⟨i.set A v,.sh (.int A),(eE W).trans ((aG (cY ((dM rfl rfl rfl).trans hl))).trans ?_),by simp[N],λx mx=>?_⟩
   ·have Z:(aS .Sub (rK (.int 1)) (rIx (aD 5) (aA 8))) [.sh (Sc ns),.sh (.int at'),.sh (.int m),.sh (.int (2^m:Nat)),.sh (.int f),.ow i,a,b,.sh (.int A)]= .ok v:=(aV rfl ((cG rfl rfl).trans B)).trans hv
    have hi:ixD i.length (A:Int)=some A:=by simp[ixD];lia
    show wM 5 (aA 8) (aS .Sub (rK (.int 1)) (rIx (aD 5) (aA 8))) [.sh (Sc ns),.sh (.int at'),.sh (.int m),.sh (.int (2^m:Nat)),.sh (.int f),.ow i,a,b,.sh (.int A)]=_;unfold wM;rw[Z];simp[fS,aA,hi]
   ·rcases List.mem_or_eq_of_mem_set mx with h|rfl
    ·exact L x h
    ·exact bv
 obtain⟨G,c,e2,l2,b2⟩:=h5;refine⟨G,aY ((aG (cY (ix5 (a:=aA 2) (j:=m) rfl hm))).trans ((aG (cY ((dM rfl rfl rfl).trans B))).trans ((aG (oG e0)).trans ((aG e1).trans ((aG e2).trans (aU (eT rfl ((cH rfl).trans rfl)))))))),l2,b2⟩
def wb(b:Int):D->Bool
 |.int i=>decide (0<=i)&&decide (i<b)
 |_=>false
theorem lP(b:Int)(h:plain x=true):bI [x,.int b]= .ok (.bl (wb b x)):=by
 cases x with
 |int i=>
  exact aY (aU ((rB rfl).trans (Ae (i:=0) (j:=i) (k:=b) rfl rfl rfl)))
 |exc c=>exact absurd h (by simp[plain])
 |fn c=>exact absurd h (by simp[plain])
 |dct a d=>exact absurd h (by simp[plain])
 |_=>rfl
theorem Am(b:Int)(hx:x= .tup ds\/x= .lst ds)(h:bT ds=true):bV [x,.int b]= .ok (.bl (ds.all (wb b))):=by
 have e:bL 0 [1] (aD 0) none (aF bI [aA 0,aA 1]) [.sh x,.sh (.int b)]= .ow (ds.map λd=>.bl (wb b d)):=
  iM (by rcases hx with rfl|rfl;exact .inr (.inl rfl);exact .inl rfl) λd m=>(cI rfl rfl).trans (lP b (fF.1 h d m))
 exact aY (aU ((dU e).trans JM))
def KD(n b:Int):D->Bool
 |.tup ws=>decide ((ws.length:Int)=n)&&ws.all (wb b)
 |_=>false
theorem Gn(i j:Int):dJ .Eq (.int i) (.int j)= .ok (.bl (decide (i=j))):=by
 rw[lM (x:=.int i) (y:=.int j) rfl];show R.ok (.bl (i==j))=_
 congr 2
theorem An(i j:Int):dJ .NotEq (.int i) (.int j)= .ok (.bl (!decide (i=j))):=by
 rw[sU (x:=.int i) (y:=.int j) rfl];show R.ok (.bl (!(i==j)))=_
 congr 2
theorem nA(n b:Int)(h:plain x=true):iP [x,.int n,.int b]= .ok (.bl (KD n b x)):=by
 cases x with
 |tup d=>
  refine aY (aU ((rB rfl).trans ?_))
  have e:aZ .Eq (aF jR [aD 0]) (aA 1) [.sh (.tup d),.sh (.int n),.sh (.int b)]= .ok (.bl (decide ((d.length:Int)=n))):=(aP rfl rfl).trans (Gn _ _)
  by_cases a:(d.length:Int)=n
  ·exact(rB (e.trans (by simp[a]))).trans ((cI rfl rfl).trans ((Am b (.inl rfl) h).trans (by simp[KD,a])))
  ·exact(Ac (e.trans (by simp[a]))).trans (by simp[KD,a])
 |exc c=>exact absurd h (by simp[plain])
 |fn c=>exact absurd h (by simp[plain])
 |dct g f=>exact absurd h (by simp[plain])
 |_=>rfl
theorem Ct{m:Nat}(h:m<=4):bM [.int m]= .ok (.int (2^m:Nat)):=by
 rcases(show m=0\/m=1\/m=2\/m=3\/m=4 by lia)with rfl|rfl|rfl|rfl|rfl<;>rfl
def Go:D->Bool
 |.tup [a,b]=>wb 5 a&&(match a with|.int m=>KD (2^m.toNat:Nat) 2 b|_=>false)
 |_=>false
theorem JR(h:wb b x=true): ∃m:Nat,x= .int m/\(m:Int)<b:=by
 cases x with
 |int i=>
  simp[wb]at h;exact⟨i.toNat,by rw[Int.toNat_of_nonneg h.1],by lia⟩
 |_=>simp[wb]at h
theorem fH(h:plain d=true):eQ [d]= .ok (.bl (Go d)):=by
 cases d with
 |tup e=>
  have l:aZ .NotEq (aF jR [aD 0]) (rK (.int 2)) [.sh (.tup e)]= .ok (.bl (!decide ((e.length:Int)=2))):=(aP rfl rfl).trans (An _ _)
  by_cases g:e.length=2
  ·obtain⟨a,b,rfl⟩: ∃a b,e=[a,b]:=by
    match e,g with
    |[a,b],_=>exact⟨a,b,rfl⟩
   have i:plain a=true/\plain b=true:=by simpa[plain,bT]using h
   have n:aF fG [rIx (aD 0) (rK (.int 0))] [.sh (.tup [a,b])]= .ok (.bl (wb 5 a)):=(cH rfl).trans (aY (aU ((cI rfl rfl).trans (lP 5 i.1))))
   have j:rOr (pO (rIs (nJ) (aA 0))) (rOr (aZ .NotEq (aF jR [aD 0]) (rK (.int 2))) (pO (aF fG [rIx (aD 0) (rK (.int 0))]))) [.sh (.tup [a,b])]= .ok (.bl (!wb 5 a)):=
    (wF rfl).trans ((wF (l.trans rfl)).trans (Ab n))
   cases f:wb 5 a with
   |false=>exact aY (cS ((eE (j.trans (by rw[f];rfl))).trans (aU (by simp[Go,f,rK])))) 
   |true=>
    obtain⟨m,rfl,o⟩:=JR f;refine aY ((aG ((dB (j.trans (by rw[f];rfl))).trans rfl)).trans (aU ((dM rfl ((cH rfl).trans (Ct (by lia))) rfl).trans ((nA _ _ i.2).trans ?_))))
    simp[Go,f]
  ·refine aY (cS ((eE ((wF rfl).trans (Gf (l.trans ?_)))).trans (aU ?_)))
   ·have: ¬(e.length:Int)=2:=by lia
    simp[this]
   ·match e,g with
    |[],_=>rfl
    |[_],_=>rfl
    |_::_::_::_,_=>rfl
    |[_,_],h=>exact absurd rfl h
 |exc c=>exact absurd h (by simp[plain])
 |fn c=>exact absurd h (by simp[plain])
 |dct p q=>exact absurd h (by simp[plain])
 |_=>rfl
theorem jA(h:plain d=true)(s:Go d=true):bH [d]= .ok .non:=
 Aa (ρ:=[.sh d]) ((dB ((Ab ((cH rfl).trans (fH h))).trans (by rw[s];rfl))).trans rfl)
def tn:D->D
 |.int i=>.int (1-i)
 |d=>d
theorem nB(h:bit d):plain d=true/\dep d=0:=by rcases h with rfl|rfl<;>exact⟨rfl,rfl⟩
theorem wH(h: ∀w∈ws,bit w):bT ws=true:=fF.2 λx m=>(nB (h x m)).1
theorem Gp{m:Nat}(hm:m<=4)(l:ws.length=2^m)(h: ∀w∈ws,bit w):Go (.tup [.int m,.tup ws])=true:=by
 have a:wb 5 (.int m)=true:=by simp[wb];lia
 have d:ws.all (wb 2)=true:=by
  rw[List.all_eq_true];intro w c;rcases h w c with rfl|rfl<;>rfl
 have b:Go (.tup [.int m,.tup ws])=(wb 5 (.int m)&&(decide ((ws.length:Int)=(2^m:Nat))&&ws.all (wb 2))):=rfl
 rw[b,a,d,decide_eq_true (by rw[l])];rfl
theorem Cu{m:Nat}(h: ∀w∈ws,bit w):plain (.tup [.int m,.tup ws])=true:=by
 simp[plain,bT,wH h]
end SK.k72
namespace SK
open PySem
theorem vD(hi:it ρ= .ok (.lst ds)\/it ρ= .ok (.tup ds)\/it ρ= .ow ds)(h:bJ (dD n (l6 cs ρ) c e) ds=some xs):bL n cs it c e ρ= .ow xs:=by
 rcases hi with hi|hi|hi<;>simp[bL,hi,R.bind,jJ,items,h]
theorem Ao(h:a ρ= .ok (.tup xs))(k:b ρ= .ok (.tup ys)):pQ a b ρ= .ok (.lst ((xs.zip ys).map λp=>D.tup [p.1,p.2])):=by simp[pQ,h,k,R.bind]
def bD(b:Bool):D:=.int (b2i b)
end SK
namespace SK.k72
open SK PySem
def sw(m:Nat)(bs:List Bool):D:=.tup [.int m,.tup (bs.map bD)]
def jB(m:Nat)(bs:List Bool):Prop:=m<=4/\bs.length=2^m
theorem JS(b:Bool):bit (bD b):=by
 cases b
 ·exact .inl rfl
 ·exact .inr rfl
theorem Ap: ∀{ws:List D},(∀w∈ws,bit w)->∃bs:List Bool,ws=bs.map bD
 |[],_=>⟨[],rfl⟩
 |w::r,h=>by
  obtain⟨bs,rfl⟩:=Ap (ws:=r) λx m=>h x (.tail _ m)
  rcases h w (.head _)with rfl|rfl
  ·exact⟨false::bs,rfl⟩
  ·exact⟨true::bs,rfl⟩
theorem Aq(bs:List Bool): ∀w∈bs.map bD,bit w:=λw m=>by obtain⟨b,_,rfl⟩:=aq.1 m;exact JS b
theorem jC(g:jB m bs):Go (sw m bs)=true:=Gp g.1 (by simpa using g.2) (Aq bs)
theorem jU(m:Nat)(bs:List Bool):plain (sw m bs)=true:=Cu (Aq bs)
theorem Ar(m:Nat)(bs:List Bool):dep (sw m bs)<=60:=by
 have:=Ag λx a=>(nB (Aq bs x a)).2
 simp[sw,dep,xC,this]
theorem Cv(ns:List Int)(at':Nat)(hm:m<=4): ∃bs,jB m bs/\cU [Sc ns,.int at',.int m]= .ok (sw m bs):=by
 obtain⟨a,e,l,b⟩:=Al ns at' hm;obtain⟨bs,rfl⟩:=Ap b;exact⟨bs,⟨hm,by simpa using l⟩,e⟩
theorem jB.zip(f:Bool->Bool->Bool)(g:jB m a)(h:jB m b):jB m (List.zipWith f a b):=⟨g.1,by simp[g.2,h.2]⟩
theorem jB.not(g:jB m a):jB m (a.map (! ·)):=⟨g.1,by simp[g.2]⟩
theorem oK(g:jB m a)(h:jB m b):bK [sw m a,sw m b]= .ok .non:=by
 refine Aa (ρ:=[.sh (sw m a),.sh (sw m b)]) ((aG (eX ((cH rfl).trans (jA (jU m a) (jC g))))).trans ((aG (eX ((cH rfl).trans (jA (jU m b) (jC h))))).trans ((dB ((aP (x:=.int m) (y:=.int m) rfl rfl).trans ?_)).trans rfl)));rw[An];simp
theorem oM(hop: ∀x y,iT op (bD x) (bD y)= .ok (bD (f x y))):
  bL 2 [] (pQ (rIx (aD 0) (rK (.int 1))) (rIx (aD 1) (rK (.int 1)))) none (aS op (aA 0) (aA 1)) [.sh (sw m a),.sh (sw m b)]= .ow ((List.zipWith f a b).map bD):=by
 refine vD (.inl (Ao rfl rfl)) ?_
 have: ∀(a b:List Bool),bJ (dD 2 (l6 [] [.sh (sw m a),.sh (sw m b)]) none (aS op (aA 0) (aA 1))) (((a.map bD).zip (b.map bD)).map λp=>D.tup [p.1,p.2])=some ((List.zipWith f a b).map bD):=by
  intro a
  induction a with
  |nil=>intro b;rfl
  |cons x a d=>
   intro b
   cases b with
   |nil=>rfl
   |cons y b=>
    have:=d b
    simp only[l6,List.map_nil]at this ⊢;simp only[List.map_cons,List.zip_cons_cons,List.zipWith_cons_cons,bJ]
    rw[show dD 2 [] none (aS op (aA 0) (aA 1)) (D.tup [bD x,bD y])=some (some (bD (f x y))) from by
     have c:aS op (aA 0) (aA 1) [.sh (bD x),.sh (bD y)]= .ok (bD (f x y)):=(aV rfl rfl).trans (hop x y)
     simp[dD,tgt,c]]
    simp[this]
 exact this a b
theorem Gq(g:jB m a)(h:jB m b):m9 [sw m a,sw m b]= .ok (sw m (List.zipWith (· && ·) a b)):=
 aY ((aG (eX ((cI rfl rfl).trans (oK g h)))).trans (aU (eT rfl ((dU (oM λx y=>by cases x<;>cases y<;>rfl)).trans rfl))))
theorem As(g:jB m a)(h:jB m b):gM [sw m a,sw m b]= .ok (sw m (List.zipWith (· || ·) a b)):=
 aY ((aG (eX ((cI rfl rfl).trans (oK g h)))).trans (aU (eT rfl ((dU (oM λx y=>by cases x<;>cases y<;>rfl)).trans rfl))))
theorem At(g:jB m a)(h:jB m b):gN [sw m a,sw m b]= .ok (sw m (List.zipWith (· ^^ ·) a b)):=
 aY ((aG (eX ((cI rfl rfl).trans (oK g h)))).trans (aU (eT rfl ((dU (oM λx y=>by cases x<;>cases y<;>rfl)).trans rfl))))
theorem Au(g:jB m a):iQ [sw m a]= .ok (sw m (a.map (! ·))):=by
 have e:bL 0 [] (rIx (aD 0) (rK (.int 1))) none (aS .Sub (rK (.int 1)) (aA 0)) [.sh (sw m a)]= .ow ((a.map (! ·)).map bD):=by
  have:=iM (cs:=[]) (it:=rIx (aD 0) (rK (.int 1))) (e:=aS .Sub (rK (.int 1)) (aA 0)) (ρ:=[.sh (sw m a)]) (ds:=a.map bD) (g:=tn) (.inr (.inl rfl)) λd c=>by
   obtain⟨b,_,rfl⟩:=aq.1 c
   cases b<;>rfl
  rw[this,List.map_map,List.map_map]
  congr 1
  refine List.map_congr_left λb _=>?_
  cases b<;>rfl
 exact aY ((aG (eX ((cH rfl).trans (jA (jU m a) (jC g))))).trans (aU ((eT (x:=.int (m:Nat)) rfl ((dU e).trans rfl)).trans rfl)))
theorem jE(h:a ρ= .ex c ρ'):a8 a b ρ= .ex c ρ':=by simp[a8,h]
theorem Cw(g:jB m a)(h:jB m2 b)(n:m≠m2):bK [sw m a,sw m2 b]= .ex 4:=by
 refine hW (ρ:=[.sh (sw m a),.sh (sw m2 b)]) ((aG (eX ((cH rfl).trans (jA (jU m a) (jC g))))).trans ((aG (eX ((cH rfl).trans (jA (jU m2 b) (jC h))))).trans ((eE ((aP (x:=.int m) (y:=.int m2) rfl rfl).trans ?_)).trans rfl)));rw[An,decide_eq_false (by lia)];rfl
theorem Bf(x y:D)(h:bK [x,y]= .ex c):m9 [x,y]= .ex c/\gM [x,y]= .ex c/\gN [x,y]= .ex c:=
 ⟨hW (ρ:=[.sh x,.sh y]) (jE (oH ((cI rfl rfl).trans h))),hW (ρ:=[.sh x,.sh y]) (jE (oH ((cI rfl rfl).trans h))),hW (ρ:=[.sh x,.sh y]) (jE (oH ((cI rfl rfl).trans h)))⟩
section
variable{h:List (Str×D)}
theorem bF:bC (p::h) y=if p.1=y then some p.2 else bC h y:=by
 by_cases e:p.1=y<;>simp[bC,e]
theorem Av(n:y∉h.map (·.1)):bC h y=none:=by
 induction h with
 |nil=>rfl
 |cons p r a=>
  rw[bF,if_neg (λe=>n (by simp[e])),a λm=>n (by simp[m])]
theorem oN(nd:(h.map (·.1)).Nodup)(m:p∈h):bC h p.1=some p.2:=by
 induction h with
 |nil=>cases m
 |cons q r b=>
  rw[List.map_cons,List.nodup_cons]at nd;rw[bF];rcases au.1 m with rfl|m
  ·simp
  ·have a: ¬q.1=p.1:=λe=>nd.1 (by rw[e];exact aq.2 ⟨p,m,rfl⟩)
   rw[if_neg a,b nd.2 m]
theorem oO(e:bC h y=some v):(y,v)∈h:=by
 induction h with
 |nil=>cases e
 |cons q r a=>
  rw[bF]at e;split at e
  ·rename_i z;cases e;subst z;exact .head _
  ·exact .tail _ (a e)
theorem gA:(bC h y).isSome=(h.map (·.1)).contains y:=by
 induction h with
 |nil=>rfl
 |cons q r a=>
  rw[bF,List.map_cons,List.contains_cons]
  by_cases e:q.1=y
  ·simp[e]
  ·rw[if_neg e,a,show(y==q.1)=false from by simpa using λz=>e z.symm];simp
theorem Aw:(h.any λp=>decide (p.1=x))=(bC h x).isSome:=by
 induction h with
 |nil=>rfl
 |cons q r a=>
  rw[List.any_cons,bF,a]
  by_cases e:q.1=x<;>simp[e]
theorem lQ(n:(bC h x).isSome=false):fK h x d=h++[(x,d)]:=by unfold fK;rw[Aw,n];rfl
theorem oP(n:(bC h x).isSome=true):fK h x d=h.map λp=>if p.1=x then(p.1,d)else p:=by unfold fK;rw[Aw,n];rfl
theorem Cy:(h.map λp=>if p.1=x then(p.1,d)else p).map (·.1)=h.map (·.1):=by
 rw[List.map_map];refine List.map_congr_left λp _=>?_
 by_cases e:p.1=x<;>simp[e]
theorem vE(hn:(h.map (·.1)).Nodup):((fK h x d).map (·.1)).Nodup:=by
 cases n:(bC h x).isSome with
 |true=>rw[oP n,Cy];exact hn
 |false=>
  rw[lQ n,List.map_append];refine List.nodup_append.2 ⟨hn,by simp,λa c b f=>?_⟩
  rw[gA]at n
  simp at f
  subst f;intro e;subst e
  simp at n c
  obtain⟨v,g⟩:=c;exact n v g
theorem Gr(m:p∈fK h x d):p=(x,d)\/p∈h:=by
 cases n:(bC h x).isSome with
 |true=>
  rw[oP n]at m;obtain⟨q,a,rfl⟩:=aq.1 m
  by_cases e:q.1=x
  ·left;simp[e]
  ·right;simpa[e]using a
 |false=>
  rw[lQ n]at m;rcases List.mem_append.1 m with m|m
  ·exact .inr m
  ·left;simpa using m
theorem sW(hn:(h.map (·.1)).Nodup):bC (fK h x d) x=some d:=by
 refine oN (vE hn) (p:=(x,d)) ?_
 cases n:(bC h x).isSome with
 |true=>
  rw[oP n];obtain⟨v,e⟩:=Option.isSome_iff_exists.1 n;exact aq.2 ⟨(x,v),oO e,by simp⟩
 |false=>rw[lQ n];simp
theorem rC(hn:(h.map (·.1)).Nodup):((fB h x).map (·.1)).Nodup:=hn.sublist (List.Sublist.map _ List.filter_sublist)
theorem Cz:(h.map (·.1)).zip (h.map (·.2))=h:=by
 induction h with
 |nil=>rfl
 |cons q r a=>simp[a]
theorem JT: ∀(ps acc:List (Str×D)),((acc++ps).map (·.1)).Nodup->ps.foldl (λacc p=>fK acc p.1 p.2) acc=acc++ps
 |[],acc,_=>by simp
 |p::r,acc,hn=>by
  have n:(bC acc p.1).isSome=false:=by
   rw[Av];rfl;rw[List.map_append,List.nodup_append]at hn;intro m;exact hn.2.2 p.1 m p.1 (by simp) rfl
  rw[List.foldl_cons,lQ n,JT r _ (by simpa using hn)]
  simp
theorem Gu(hn:(h.map (·.1)).Nodup):rW h=h:=by
 have:=JT h [] (by simpa using hn)
 exact this
theorem wI:jL (h.map λp=>D.tup [.str p.1,p.2])=some h:=by
 induction h with
 |nil=>rfl
 |cons q r a=>simp[jL,a]
theorem Ax(hn:(h.map (·.1)).Nodup)(hl:h.length<=1000):mI (.lst (h.map λp=>D.tup [.str p.1,p.2]))= .ok (.dct (h.map (·.1)) (h.map (·.2))):=by
 simp[mI,wI,hl,Gu hn]
end
theorem vF(x:Str): ∀l:List Str,(Bc x l).Perm (x::l)
 |[]=>.refl _
 |y::l=>by
  unfold Bc;split
  ·exact((vF x l).cons y).trans (List.Perm.swap _ _ _)
  ·exact .refl _
theorem gB: ∀l:List Str,(gP l).Perm l
 |[]=>.refl _
 |x::l=>(vF x _).trans ((gB l).cons x)
theorem bA(e:g ρ b= .nx ρ' b'):cW g h ρ b=h ρ' b':=by simp[cW,e]
theorem jF(e:g ρ b= .rt x ρ' b'):cW g h ρ b= .rt x ρ' b':=by simp[cW,e]
theorem jG(e:g ρ b= .ex c b'):cW g h ρ b= .ex c b':=by simp[cW,e]
theorem iR(e:f ρ= .ok d):qO f ρ b= .nx ρ b:=by simp[qO,e,u6]
theorem oQ(e:f ρ= .ok d):B6 i f ρ b= .nx (ρ.set (i+1) (.sh d)) b:=by simp[B6,e,u6]
theorem sX(e:f ρ= .ex c):B6 i f ρ b= .ex c b:=by simp[B6,e,u6]
theorem CB(e:f ρ= .ok (.bl true)):mIf f g h ρ b=g ρ b:=by simp[mIf,e]
theorem CC(e:f ρ= .ok (.bl false)):mIf f g h ρ b=h ρ b:=by simp[mIf,e]
theorem lR(e:f ρ= .ok d):qP f ρ b= .rt (.ok d) ρ b:=by simp[qP,e]
theorem Gv(e:f ρ= .ow xs):qP f ρ b= .rt (.ow xs) ρ b:=by simp[qP,e]
theorem sY(h:e ρ= .ex c):dP e ρ= .ex c ρ:=by simp[dP,h]
noncomputable def NM:List Str:=["a","b","gm","xjqp"]
noncomputable def WD:List Str:=["both","either","unlike"]
def Sw(d:D):Prop:= ∃m a,jB m a/\d=sw m a
theorem j8(hx:x∈NM):bY [.str x]= .ok .non:=by
 simp only[NM,au,List.not_mem_nil,or_false]at hx;rcases hx with rfl|rfl|rfl|rfl<;>kernel_rfl
theorem JU(h:Sw d):bH [d]= .ok .non:=by
 obtain⟨m,a,g,rfl⟩:=h;exact jA (jU m a) (jC g)
def wN(r:Rk)(x:Str):R:=match bC r.held x with|some d=>.ok d|none=>.ex 8
theorem sZ(r:Rk)(hx:x∈NM):aE r [.str x]= .pure (wN r x):=by
 unfold aE gR wN;show fC 350 (cW _ _ [.rk 350 r,.sh (.str x)] false)=_;rw[bA (iR ((cH (x:=.str x) rfl).trans (j8 hx)))]
 cases e:bC r.held x with
 |none=>
  rw[jG (c:=8) (b':=false)]
  ·rfl
  ·rw[CB]
   ·rfl
   ·show R.ok (.bl (true != (bC r.held x).isSome))=_;rw[e];rfl
 |some d=>
  rw[bA (ρ':=[.rk 350 r,.sh (.str x)]) (b':=false)]
  ·rw[jF (lR (d:=d) ?_)]
   ·rfl
   ·show(match bC r.held x with|some d=>R.ok d|none=>R.bad)=_
    rw[e]
  ·rw[CC]
   ·rfl
   ·show R.ok (.bl (true != (bC r.held x).isSome))=_;rw[e];rfl
theorem Ay(r:Rk)(hv:nG v=false)(hl:r.held.length<LIM):aO r [.str x,v]= .chg .non {r with held:=fK r.held x v}:=by
 unfold aO gR;show fC 350 (cW _ _ [.rk 350 r,.sh (.str x),.sh v] false)=_;rw[bA (ρ':=[.rk 350 {r with held:=fK r.held x v},.sh (.str x),.sh v]) (b':=true)]
 ·rfl
 ·rw[CC]
  ·rw[bA (ρ':=[.rk 350 {r with held:=fK r.held x v},.sh (.str x),.sh v]) (b':=true)]
   ·rfl
   ·show(if r.held.length<LIM then setR 350 [.rk 350 r,.sh (.str x),.sh v] {r with held:=fK r.held x v} else OutM.bad)=_
    rw[if_pos hl];rfl
  ·show R.ok (.bl (nG v))=_;rw[hv]
theorem vG(r:Rk)(hh:(bC r.held x).isSome=true):aO r [.str x,.non]= .chg .non {r with held:=fB r.held x}:=by
 unfold aO gR;show fC 350 (cW _ _ [.rk 350 r,.sh (.str x),.sh .non] false)=_;rw[bA (ρ':=[.rk 350 {r with held:=fB r.held x},.sh (.str x),.sh .non]) (b':=true)]
 ·rfl
 ·rw[CB]
  ·rw[bA (ρ':=[.rk 350 {r with held:=fB r.held x},.sh (.str x),.sh .non]) (b':=true)]
   ·rfl
   ·show(if(bC r.held x).isSome then setR 350 [.rk 350 r,.sh (.str x),.sh .non] {r with held:=fB r.held x} else OutM.bad)=_
    rw[if_pos hh];rfl
  ·rfl
def fW(r:Rk)(w x:Str)(v:D):D:=.tup [.str w,.str x,(bC r.held x).getD .non,v]
theorem JV(r:Rk)(hl:r.done.length<LIM)(hs:aO ⟨r.held,r.done++[fW r w x v],[]⟩ [.str x,v]= .chg .non ⟨k,r.done++[fW r w x v],[]⟩):
  jP r [.str w,.str x,v]= .chg .non ⟨k,r.done++[fW r w x v],[]⟩:=by
 unfold jP gR;show fC 350 (cW _ _ [.rk 350 r,.sh (.str w),.sh (.str x),.sh v] false)=_;rw[bA (ρ':=[.rk 350 {r with done:=r.done++[fW r w x v]},.sh (.str w),.sh (.str x),.sh v]) (b':=true)]
 ·rw[bA (g:=u7 350) (ρ':=[.rk 350 ⟨r.held,r.done++[fW r w x v],[]⟩,.sh (.str w),.sh (.str x),.sh v]) (b':=true) (by rfl)]
  rw[bA (ρ':=[.rk 350 ⟨k,r.done++[fW r w x v],[]⟩,.sh (.str w),.sh (.str x),.sh v]) (b':=true)]
  ·rfl
  ·show(match aO ⟨r.held,r.done++[fW r w x v],[]⟩ [.str x,v]with
    |.pure a=>u6 true a λ_=>.nx [.rk 350 ⟨r.held,r.done++[fW r w x v],[]⟩,.sh (.str w),.sh (.str x),.sh v] true
    |.chg _ b=>OutM.nx [.rk 350 b,.sh (.str w),.sh (.str x),.sh v] true)=_
   rw[hs]
 ·show(if r.done.length<LIM then setR 350 [.rk 350 r,.sh (.str w),.sh (.str x),.sh v] {r with done:=r.done++[fW r w x v]} else OutM.bad)=_
  rw[if_pos hl];rfl
theorem Az(r:Rk)(hv:nG v=false)(hl:r.done.length<LIM)(hk:r.held.length<LIM):jP r [.str w,.str x,v]= .chg .non ⟨fK r.held x v,r.done++[fW r w x v],[]⟩:=JV r hl (Ay ⟨r.held,_,[]⟩ hv hk)
theorem Gw(r:Rk)(hl:r.done.length<LIM)(hh:(bC r.held x).isSome=true):jP r [.str w,.str x,.non]= .chg .non ⟨fB r.held x,r.done++[fW r w x .non],[]⟩:=JV r hl (vG ⟨r.held,_,[]⟩ hh)
theorem Sw.nn(h:Sw d):nG d=false:=by obtain⟨m,a,_,rfl⟩:=h;rfl
theorem oR{ρ ρ':Rho}(e0:ρ[0]? =some (.rk 350 r))(ea:args fs ρ= .ok ds)(ed:jP r ds= .chg .non r')(eρ:ρ.set 0 (.rk 350 r')=ρ'):i7 350 jP fs ρ b= .nx ρ' true:=by
 simp[i7,mUp,e0,KA,ea,ed,eρ]
section
variable (r:Rk) {x y z w:Str} {v v':D}
theorem JW(hx:x∈NM)(hv:Sw v)(hl:r.done.length<LIM)(hk:r.held.length<LIM):fQ r [.str x,v]= .chg (.bl (bC r.held x).isSome) ⟨fK r.held x v,r.done++[fW r "put" x v],[]⟩:=by
 unfold fQ gR;show fC 350 (cW _ _ [.rk 350 r,.sh (.str x),.sh v,.no] false)=_;rw[bA (iR ((cH (x:=v) rfl).trans (JU hv))),bA (iR ((cH (x:=.str x) rfl).trans (j8 hx)))];rw[bA (ρ':=[.rk 350 r,.sh (.str x),.sh v,.sh (.bl (bC r.held x).isSome)]) (b':=false)]
 ·rw[bA (oR rfl (ds:=[.str "put",.str x,v]) rfl (Az r hv.nn hl hk) rfl)];rfl
 ·refine(oQ (d:=.bl (bC r.held x).isSome) ?_).trans rfl;show R.ok (.bl (false != (bC r.held x).isSome))=_;simp
theorem Gx(hx:x∈NM)(hl:r.done.length<LIM)(e:bC r.held x=some v):dF r [.str x]= .chg v ⟨fB r.held x,r.done++[fW r "take" x .non],[]⟩:=by
 unfold dF gR;show fC 350 (cW _ _ [.rk 350 r,.sh (.str x),.no] false)=_;rw[bA (ρ':=[.rk 350 r,.sh (.str x),.sh v]) (b':=false)]
 ·rw[bA (oR rfl (ds:=[.str "take",.str x,.non]) rfl (Gw r hl (by rw[e];rfl)) rfl)]
  rfl
 ·refine(oQ (d:=v) ?_).trans rfl
  show(aE r [.str x]).told=_
  rw[sZ r hx];unfold wN;rw[e];rfl
theorem Gy(hx:x∈NM)(e:bC r.held x=none):dF r [.str x]= .pure (.ex 8):=by
 unfold dF gR;show fC 350 (cW _ _ [.rk 350 r,.sh (.str x),.no] false)=_;rw[jG (sX (c:=8) ?_)]
 ·rfl
 ·show(aE r [.str x]).told=_
  rw[sZ r hx];unfold wN;rw[e];rfl
theorem Gz{m:Nat}{a:List Bool}(g:jB m a)(hx:x∈NM)(hl:r.done.length<LIM)(hk:r.held.length<LIM)(e:bC r.held x=some (sw m a)):dW r [.str x]= .chg (sw m (a.map (! ·))) ⟨fK r.held x (sw m (a.map (! ·))),r.done++[fW r "turn" x (sw m (a.map (! ·)))],[]⟩:=by
 unfold dW gR;show fC 350 (cW _ _ [.rk 350 r,.sh (.str x),.no] false)=_;rw[bA (ρ':=[.rk 350 r,.sh (.str x),.sh (sw m (a.map (! ·)))]) (b':=false)]
 ·rw[bA (oR rfl (ds:=[.str "turn",.str x,sw m (a.map (! ·))]) rfl (Az r rfl hl hk) rfl)]
  rfl
 ·refine(oQ (d:=sw m (a.map (! ·))) ((cH (x:=sw m a) ?_).trans (Au g))).trans rfl
  show(aE r [.str x]).told=_
  rw[sZ r hx];unfold wN;rw[e];rfl
theorem GA(hx:x∈NM)(e:bC r.held x=none):dW r [.str x]= .pure (.ex 8):=by
 unfold dW gR;show fC 350 (cW _ _ [.rk 350 r,.sh (.str x),.no] false)=_
 have h:eM 350 0 aE [aA 1] [.rk 350 r,.sh (.str x),.no]= .ex 8:=by
  show(aE r [.str x]).told=_
  rw[sZ r hx];unfold wN;rw[e];rfl
 rw[jG (sX (c:=8) ?_)]
 ·rfl
 ·simp[aF,l4,args,h,RA.then]
theorem GB(hx:x∈NM)(hl:r.done.length<LIM)(hk:r.held.length<LIM)(hv:nG v=false)(e:aF dR [aA 2,eM 350 0 aE [aA 3],eM 350 0 aE [aA 4]] [.rk 350 r,.sh (.str x),.sh (.str w),.sh (.str y),.sh (.str z),.no]= .ok v):
  dG r [.str x,.str w,.str y,.str z]= .chg v ⟨fK r.held x v,r.done++[fW r "join" x v],[]⟩:=by
 unfold dG gR;show fC 350 (cW _ _ [.rk 350 r,.sh (.str x),.sh (.str w),.sh (.str y),.sh (.str z),.no] false)=_;rw[bA (iR ((cH (x:=.str x) rfl).trans (j8 hx)))];rw[bA (ρ':=[.rk 350 r,.sh (.str x),.sh (.str w),.sh (.str y),.sh (.str z),.sh v]) (b':=false) ((oQ e).trans rfl)];rw[bA (oR rfl (ds:=[.str "join",.str x,v]) rfl (Az r hv hl hk) rfl)];rfl
theorem AA{c:Nat}(hx:x∈NM)(e:aF dR [aA 2,eM 350 0 aE [aA 3],eM 350 0 aE [aA 4]] [.rk 350 r,.sh (.str x),.sh (.str w),.sh (.str y),.sh (.str z),.no]= .ex c):
  dG r [.str x,.str w,.str y,.str z]= .pure (.ex c):=by
 unfold dG gR;show fC 350 (cW _ _ [.rk 350 r,.sh (.str x),.sh (.str w),.sh (.str y),.sh (.str z),.no] false)=_;rw[bA (iR ((cH (x:=.str x) rfl).trans (j8 hx))),jG (sX e)];rfl
theorem DJ{s:Slot}{x' w':Slot}(hy:y∈NM)(hz:z∈NM):(eM 350 0 aE [aA 3] [.rk 350 r,x',w',.sh (.str y),.sh (.str z),s]=wN r y)/\(eM 350 0 aE [aA 4] [.rk 350 r,x',w',.sh (.str y),.sh (.str z),s]=wN r z):=by
 constructor
 ·show(aE r [.str y]).told=_
  rw[sZ r hy];rfl
 ·show(aE r [.str z]).told=_
  rw[sZ r hz];rfl
theorem AB(hx:x∈NM)(hy:y∈NM)(hz:z∈NM)(e:bC r.held y=none\/bC r.held z=none):dG r [.str x,.str w,.str y,.str z]= .pure (.ex 8):=by
 refine AA r hx ?_;obtain⟨b,a⟩:=DJ r (s:=.no) (x':=.sh (.str x)) (w':=.sh (.str w)) hy hz;simp only[aF,l4,args,b,a,RA.then,aA,List.getElem?_cons_zero,List.getElem?_cons_succ];unfold wN;rcases e with e|e
 ·simp[e,RA.cons]
 ·cases c:bC r.held y<;>simp[e,RA.cons]
noncomputable def opB(w:Str):Bool->Bool->Bool:=if w="both" then(· && ·)else if w="either" then(· || ·)else(· ^^ ·)
theorem AC{m:Nat}{a b:List Bool}(g:jB m a)(h:jB m b)(hw:w∈WD):dR [.str w,sw m a,sw m b]= .ok (sw m (List.zipWith (opB w) a b)):=by
 simp only[WD,au,List.not_mem_nil,or_false]at hw;rcases hw with rfl|rfl|rfl
 ·exact aY (cS ((eE (by kernel_rfl)).trans (aU ((cI (x:=sw m a) (y:=sw m b) rfl rfl).trans (Gq g h)))))
 ·exact aY ((aG ((dB (by kernel_rfl)).trans rfl)).trans (cS ((eE (by kernel_rfl)).trans (aU ((cI (x:=sw m a) (y:=sw m b) rfl rfl).trans (As g h))))))
 ·exact aY ((aG ((dB (by kernel_rfl)).trans rfl)).trans ((aG ((dB (by kernel_rfl)).trans rfl)).trans (cS ((eE (by kernel_rfl)).trans (aU ((cI (x:=sw m a) (y:=sw m b) rfl rfl).trans (At g h)))))))
theorem AD{m m2:Nat}{a b:List Bool}(g:jB m a)(h:jB m2 b)(n:m≠m2)(hw:w∈WD):dR [.str w,sw m a,sw m2 b]= .ex 4:=by
 obtain⟨d,c,e⟩:=Bf _ _ (Cw g h n);simp only[WD,au,List.not_mem_nil,or_false]at hw;rcases hw with rfl|rfl|rfl
 ·exact hW (jE ((eE (by kernel_rfl)).trans (sY ((cI (x:=sw m a) (y:=sw m2 b) rfl rfl).trans d))))
 ·exact hW ((aG ((dB (by kernel_rfl)).trans rfl)).trans (jE ((eE (by kernel_rfl)).trans (sY ((cI (x:=sw m a) (y:=sw m2 b) rfl rfl).trans c)))))
 ·exact hW ((aG ((dB (by kernel_rfl)).trans rfl)).trans ((aG ((dB (by kernel_rfl)).trans rfl)).trans (jE ((eE (by kernel_rfl)).trans (sY ((cI (x:=sw m a) (y:=sw m2 b) rfl rfl).trans e))))))
theorem rD(hy:y∈NM)(hz:z∈NM){s x':Slot}(e1:bC r.held y=some v)(e2:bC r.held z=some v'):aF dR [aA 2,eM 350 0 aE [aA 3],eM 350 0 aE [aA 4]] [.rk 350 r,x',.sh (.str w),.sh (.str y),.sh (.str z),s]=dR [.str w,v,v']:=by
 obtain⟨b,a⟩:=DJ r (s:=s) (x':=x') (w':=.sh (.str w)) hy hz;refine dM rfl (b.trans ?_) (a.trans ?_)
 ·unfold wN;rw[e1]
 ·unfold wN;rw[e2]
end
theorem Nh:aK [.exc 8]= .ok (.str "no label"):=by kernel_rfl
theorem Ni:aK [.exc 4]= .ok (.str "unlike"):=by kernel_rfl
theorem GC(e:f ρ= .ok (.bl true)):ifM f g h ρ=g ρ:=by simp[ifM,e]
theorem wJ(e:f ρ= .ok (.bl false)):ifM f g h ρ=h ρ:=by simp[ifM,e]
section
variable (r:Rk) {x y z w:Str} {v:D} {ds:List D}
theorem GD{s:Slot}{u u':Str}{b:Bool}(h:dJ .Eq (.str u) (.str u')= .ok (.bl b)):aZ .Eq (rIx (aD 1) (rK (.int 0))) (rK (.str u')) [s,.sh (.tup (.str u::ds))]= .ok (.bl b):=(aP (x:=.str u) (y:=.str u') ((cG (x:=.tup (.str u::ds)) (y:=.int ((0:Nat):Int)) rfl rfl).trans (sT rfl)) rfl).trans h
theorem JX{s:Slot}{u u':Str}{b:Bool}(h:dJ .Eq (.str u) (.str u')= .ok (.bl b)):aZ .Eq (rIx (aD 0) (rK (.int 0))) (rK (.str u')) [.sh (.tup (.str u::ds)),s]= .ok (.bl b):=(aP (x:=.str u) (y:=.str u') ((cG (x:=.tup (.str u::ds)) (y:=.int ((0:Nat):Int)) rfl rfl).trans (sT rfl)) rfl).trans h
theorem GE:bB r [.tup [.str "put",.str x,v]]=cF aK (fQ r [.str x,v]):=by
 unfold bB FX lO;exact(GC (ρ:=[.rk 350 r,.sh (.tup [.str "put",.str x,v])]) (GD (by kernel_rfl))).trans rfl
theorem j9:bB r [.tup [.str "join",.str x,.str w,.str y,.str z]]=cF aK (dG r [.str x,.str w,.str y,.str z]):=by
 unfold bB FX lO;exact(wJ (ρ:=[.rk 350 r,.sh (.tup [.str "join",.str x,.str w,.str y,.str z])]) (GD (by kernel_rfl))).trans ((GC (GD (by kernel_rfl))).trans rfl)
theorem vH:bB r [.tup [.str "turn",.str x]]=cF aK (dW r [.str x]):=by
 unfold bB FX lO;refine(wJ (ρ:=[.rk 350 r,.sh (.tup [.str "turn",.str x])]) (GD (by kernel_rfl))).trans ((wJ (GD (by kernel_rfl))).trans ?_)
 show cF aK (ifM _ _ _ [.sh (.tup [.str "turn",.str x]),.rk 350 r])=_;rw[GC (JX (by kernel_rfl))]
 rfl
theorem vI:bB r [.tup [.str "take",.str x]]=cF aK (dF r [.str x]):=by
 unfold bB FX lO;refine(wJ (ρ:=[.rk 350 r,.sh (.tup [.str "take",.str x])]) (GD (by kernel_rfl))).trans ((wJ (GD (by kernel_rfl))).trans ?_)
 show cF aK (ifM _ _ _ [.sh (.tup [.str "take",.str x]),.rk 350 r])=_;rw[wJ (JX (by kernel_rfl))]
 rfl
end
theorem DK:aZ .Eq (rIx (aD i) (rK (.int 0))) (rK (.str u)) ρ≠ .ex c:=by
 have d: ∀x y c,dIx x y≠ .ex c:=λx y c=>by
  unfold dIx ixS
  repeat' split
  all_goals exact λz=>nomatch z
 have b: ∀x y c,dJ .Eq x y≠ .ex c:=λx y c=>by
  unfold dJ nH
  dsimp only
  repeat' split
  all_goals exact λz=>nomatch z
 have f: ∀c,aD i ρ≠ .ex c:=λc=>by
  unfold aD
  repeat' split
  all_goals exact λz=>nomatch z
 intro z;unfold aZ rIx at z
 cases e:aD i ρ with
 |ok x=>
  rw[e]at z
  cases a:dIx x (.int 0)with
  |ok y=>simp only[R.bind,rK,a]at z;exact b _ _ _ z
  |ow y=>simp only[R.bind,rK,a]at z;exact b _ _ _ z
  |ex y=>exact d _ _ _ a
  |bad=>simp only[R.bind,rK,a]at z;cases z
 |ow x=>
  rw[e]at z
  cases a:dIx (.lst x) (.int 0)with
  |ok y=>simp only[R.bind,rK,a]at z;exact b _ _ _ z
  |ow y=>simp only[R.bind,rK,a]at z;exact b _ _ _ z
  |ex y=>exact d _ _ _ a
  |bad=>simp only[R.bind,rK,a]at z;cases z
 |ex c=>exact f _ e
 |bad=>rw[e]at z;cases z
theorem DL(hf: ∀c,f ρ≠ .ex c)(hg: ∀c,g ρ≠ .pure (.ex c))(hh: ∀c,h ρ≠ .pure (.ex c))(c:Nat):ifM f g h ρ≠ .pure (.ex c):=by
 intro z;unfold ifM at z;split at z
 ·split at z
  ·exact hg c z
  ·exact hh c z
 ·rename_i e;exact hf _ e
 ·cases z
theorem oS{F:Fn}(c:Nat):sS F cap g ρ≠ .pure (.ex c):=by
 intro z;unfold sS at z;split at z
 ·rename_i a _
  cases e:g a with
  |pure r=>rw[e]at z;exact u9 r c (RM.pure.inj z)
  |chg x r=>rw[e]at z;cases z
 ·cases z
theorem JY(r:Rk)(ds:List D)(c:Nat):bB r ds≠ .pure (.ex c):=by
 unfold bB FX lO;exact DL (λ_=>DK) oS (DL (λ_=>DK) oS oS) c
def DM(d:D):Prop:=(∃x∈NM, ∃v,Sw v/\d= .tup [.str "put",.str x,v])\/(∃x∈NM,d= .tup [.str "take",.str x])\/(∃x∈NM,d= .tup [.str "turn",.str x])\/
 (∃x∈NM, ∃w∈WD, ∃y∈NM, ∃z∈NM,d= .tup [.str "join",.str x,.str w,.str y,.str z])
theorem GF(h:p<4): ∃x∈NM,dIx (.lst (NM.map D.str)) (.int (p:Nat))= .ok (.str x):=
 ⟨NM[p]'h,List.getElem_mem _,eP (by rw[List.getElem?_map,bc (show p<NM.length from h)];rfl)⟩
theorem LJ(h:p<3): ∃x∈WD,dIx (.lst (WD.map D.str)) (.int (p:Nat))= .ok (.str x):=
 ⟨WD[p]'h,List.getElem_mem _,eP (by rw[List.getElem?_map,bc (show p<WD.length from h)];rfl)⟩
noncomputable def MN:List Nat:=[2,2,2,1,3,4,0]
theorem LL(h:p<7): ∃m:Nat,m<=4/\dIx (.lst (MN.map λ(i:Nat)=>D.int (i:Int))) (.int (p:Nat))= .ok (.int (m:Nat)):=by
 refine⟨MN[p]'h,?_,eP (by rw[List.getElem?_map,bc (show p<MN.length from h)];rfl)⟩
 have: ∀m∈MN,m<=4:=by decide
 exact this _ (List.getElem_mem _)
theorem LM(h1:a ρ= .ok x)(h2:b ρ= .ok y)(h3:c ρ= .ok z)(h4:d ρ= .ok u)(h5:e ρ= .ok v):dX [a,b,c,d,e] ρ= .ok (.tup [x,y,z,u,v]):=by simp[dX,l4,args,h1,h2,h3,h4,h5,RA.cons,RA.then]
theorem LN(i j:Int):dJ .Lt (.int i) (.int j)= .ok (.bl (decide (i<j))):=rfl
theorem JZ(ks:List Str)(vs:List D): ∃b,dJ .Eq (.dct ks vs) (.dct [] [])= .ok (.bl b):=by
 have:(vs.all λd=>([]:List D).all λe=>hX d e)=true:=by simp
 refine⟨false != CV (ks.zip vs) [],?_⟩;simp only[dJ,show hX (.dct ks vs) (.dct [] [])=false from by simp[hX,plain],ay,if_false,nH,this,if_true,List.zip_nil_left]
set_option maxHeartbeats 4000000 in
theorem GG(ns:List Int)(n:Nat)(ks:List Str)(vs:List D): ∃d,dO [Sc ns,.int (n:Nat),.dct ks vs]= .ok d/\DM d:=by
 obtain⟨p,O,lp⟩:=cJ ns n (m:=4) (by decide)
 obtain⟨q,N,lq⟩:=cJ ns (n+1) (m:=8) (by decide)
 obtain⟨x,r,ex⟩:=GF lp;obtain⟨W,C⟩:=JZ ks vs;let j:Rho:=[.sh (Sc ns),.sh (.int (n:Nat)),.sh (.dct ks vs),.sh (.lst (NM.map D.str)),.no,.no,.no,.no];let e:Rho:=[.sh (Sc ns),.sh (.int (n:Nat)),.sh (.dct ks vs),.sh (.lst (NM.map D.str)),.sh (.str x),.sh (.int (q:Nat)),.no,.no]
 have Q:eU 3 (fJ [rK (.str "a"),rK (.str "b"),rK (.str "gm"),rK (.str "xjqp")]) [.sh (Sc ns),.sh (.int (n:Nat)),.sh (.dct ks vs),.no,.no,.no,.no,.no]= .nx j:=oF rfl
 have s2:fT [4,5] (dX [rIx (aD 3) (aF aI [aA 0,aA 1,rK (.int 4)]),aF aI [aA 0,aS .Add (aA 1) (rK (.int 1)),rK (.int 8)]]) j= .nx e:=
  lL (eT ((cG (x:=.lst (NM.map D.str)) rfl ((dM (x:=Sc ns) (y:=.int (n:Nat)) (z:=.int ((4:Nat):Int)) rfl rfl rfl).trans O)).trans ex) ((dM (x:=Sc ns) (y:=.int ((n+1:Nat):Int)) (z:=.int ((8:Nat):Int)) rfl rfl rfl).trans N)) rfl
 have hc: ∃b,rOr (aZ .Lt (aA 5) (rK (.int 3))) (aZ .Eq (aA 2) (kR)) e= .ok (.bl b):=by
  have K:aZ .Lt (aA 5) (rK (.int 3)) e= .ok (.bl (decide ((q:Int)<3))):=(aP (x:=.int (q:Nat)) (y:=.int 3) rfl rfl).trans (LN _ _)
  cases G:decide ((q:Int)<3)with
  |true=>exact⟨true,Gf (K.trans (by rw[G]))⟩
  |false=>exact⟨W,(wF (K.trans (by rw[G]))).trans ((aP (x:=.dct ks vs) (y:=.dct [] []) rfl rfl).trans C)⟩
 obtain⟨b,J⟩:=hc
 have s: ∀{d:D} {dZ:FS},dZ e= .rt (.ok d)->a8 (eU 3 (fJ [rK (.str "a"),rK (.str "b"),rK (.str "gm"),rK (.str "xjqp")])) (a8 (fT [4,5] (dX [rIx (aD 3) (aF aI [aA 0,aA 1,rK (.int 4)]),aF aI [aA 0,aS .Add (aA 1) (rK (.int 1)),rK (.int 8)]])) dZ) [.sh (Sc ns),.sh (.int (n:Nat)),.sh (.dct ks vs),.no,.no,.no,.no,.no]= .rt (.ok d):=λh=>(aG Q).trans ((aG s2).trans h)
 cases b with
 |true=>
  obtain⟨t,v,lt⟩:=cJ ns (n+2) (m:=7) (by decide)
  obtain⟨m,S,T⟩:=LL lt;obtain⟨bs,gb,eb⟩:=Cv ns (n+10) S;refine⟨.tup [.str "put",.str x,sw m bs],aY (s (cS ((eE J).trans ?_))),.inl ⟨x,r,_,⟨m,bs,gb,rfl⟩,rfl⟩⟩
  have s3:eU 6 (rIx (fJ [rK (.int 2),rK (.int 2),rK (.int 2),rK (.int 1),rK (.int 3),rK (.int 4),rK (.int 0)]) (aF aI [aA 0,aS .Add (aA 1) (rK (.int 2)),rK (.int 7)])) e= .nx [.sh (Sc ns),.sh (.int (n:Nat)),.sh (.dct ks vs),.sh (.lst (NM.map D.str)),.sh (.str x),.sh (.int (q:Nat)),.sh (.int (m:Nat)),.no]:=
   cY ((vC (x:=MN.map λ(i:Nat)=>D.int (i:Int)) rfl ((dM (x:=Sc ns) (y:=.int ((n+2:Nat):Int)) (z:=.int ((7:Nat):Int)) rfl rfl rfl).trans v)).trans T)
  refine(aG s3).trans (aU ?_);have l:=(dM (f:=cU) (a:=aA 0) (b:=aS .Add (aA 1) (rK (.int 10))) (c:=aA 6) (ρ:=[.sh (Sc ns),.sh (.int (n:Nat)),.sh (.dct ks vs),.sh (.lst (NM.map D.str)),.sh (.str x),.sh (.int (q:Nat)),.sh (.int (m:Nat)),.no]) (x:=Sc ns) (y:=.int ((n+10:Nat):Int)) (z:=.int (m:Nat)) rfl rfl rfl).trans eb;simp[dX,l4,args,l,RA.cons,RA.then,rK,aA]
 |false=>
  have g: ∀{dZ:FS} {a:FS} {d:D},dZ e= .rt (.ok d)->a8 (sIf (rOr (aZ .Lt (aA 5) (rK (.int 3))) (aZ .Eq (aA 2) (kR))) a aQ) dZ e= .rt (.ok d):=λh=>(aG ((dB J).trans rfl)).trans h
  have L:aZ .Eq (aA 5) (rK (.int 3)) e= .ok (.bl (decide ((q:Int)=3))):=(aP (x:=.int (q:Nat)) (y:=.int 3) rfl rfl).trans (Gn _ _)
  have I:aZ .Eq (aA 5) (rK (.int 4)) e= .ok (.bl (decide ((q:Int)=4))):=(aP (x:=.int (q:Nat)) (y:=.int 4) rfl rfl).trans (Gn _ _)
  by_cases l:(q:Int)=3
  ·exact⟨.tup [.str "take",.str x],aY (s (g (cS ((eE (L.trans (by simp[l]))).trans (aU (eT rfl rfl)))))),.inr (.inl ⟨x,r,rfl⟩)⟩
  ·have H:=L.trans (show _=R.ok (.bl false) from by simp[l])
   by_cases o:(q:Int)=4
   ·exact⟨.tup [.str "turn",.str x],aY (s (g ((aG ((dB H).trans rfl)).trans (cS ((eE (I.trans (by simp[o]))).trans (aU (eT rfl rfl))))))),.inr (.inr (.inl ⟨x,r,rfl⟩))⟩
   ·have U:=I.trans (show _=R.ok (.bl false) from by simp[o])
    obtain⟨t,v,lt⟩:=cJ ns (n+3) (m:=3) (by decide)
    obtain⟨w,mw,ew⟩:=LJ lt;obtain⟨t1,E,B⟩:=cJ ns (n+4) (m:=4) (by decide)
    obtain⟨y,Y,ey⟩:=GF B;obtain⟨t2,u,A⟩:=cJ ns (n+5) (m:=4) (by decide)
    obtain⟨z,Z,M⟩:=GF A;refine⟨.tup [.str "join",.str x,.str w,.str y,.str z],aY (s (g ((aG ((dB H).trans rfl)).trans ((aG ((dB U).trans rfl)).trans ((aG (cY (d:=.str w) ?_)).trans (aU ?_)))))),.inr (.inr (.inr ⟨x,r,w,mw,y,Y,z,Z,rfl⟩))⟩
    ·exact(vC (x:=WD.map D.str) rfl ((dM (x:=Sc ns) (y:=.int ((n+3:Nat):Int)) (z:=.int ((3:Nat):Int)) rfl rfl rfl).trans v)).trans ew
    ·have X:=(cG (a:=aD 3) (b:=aF aI [aA 0,aS .Add (aA 1) (rK (.int 4)),rK (.int 4)]) (ρ:=e.set 7 (.sh (.str w))) (x:=.lst (NM.map D.str)) rfl ((dM (x:=Sc ns) (y:=.int ((n+4:Nat):Int)) (z:=.int ((4:Nat):Int)) rfl rfl rfl).trans E)).trans ey;have hz:=(cG (a:=aD 3) (b:=aF aI [aA 0,aS .Add (aA 1) (rK (.int 5)),rK (.int 4)]) (ρ:=e.set 7 (.sh (.str w))) (x:=.lst (NM.map D.str)) rfl ((dM (x:=Sc ns) (y:=.int ((n+5:Nat):Int)) (z:=.int ((4:Nat):Int)) rfl rfl rfl).trans u)).trans M
     have o:aA 4 (e.set 7 (.sh (.str w)))= .ok (.str x):=rfl
     have h7:aA 7 (e.set 7 (.sh (.str w)))= .ok (.str w):=rfl
     exact LM rfl o h7 X hz
noncomputable abbrev bZ(h:List (Str×D)):D:=.dct (h.map (·.1)) (h.map (·.2))
def OkH(h:List (Str×D)):Prop:=(h.map (·.1)).Nodup/\∀p∈h,p.1∈NM/\Sw p.2
theorem oT(h:x∈NM):plain (.str x)=true:=by
 simp only[NM,au,List.not_mem_nil,or_false]at h;rcases h with rfl|rfl|rfl|rfl<;>kernel_rfl
theorem LO(hx:x∈NM)(hy:y∈NM):hX (.str x) (.str y)=true:=i8 (oT hx) (oT hy) (by simp[dep])
theorem J0(hx:x∈NM)(hy:y∈NM):dJ .NotEq (.str x) (.str y)= .ok (.bl (decide (x≠y))):=by
 rw[sU (LO hx hy)]
 by_cases e:x=y<;>simp[deq,e]
theorem J1(h:List (Str×D))(x:Str):dJ .In (.str x) (bZ h)= .ok (.bl (bC h x).isSome):=by
 rw[gA];show R.ok (.bl (false != (h.map (·.1)).contains x))=_
 simp
theorem jH(h:List (Str×D))(x:Str):dJ .NotIn (.str x) (bZ h)= .ok (.bl (!(bC h x).isSome)):=by
 rw[gA];show R.ok (.bl (true != (h.map (·.1)).contains x))=_
 simp
theorem gX(e:bC h x=some v):dIx (bZ h) (.str x)= .ok v:=by
 show(match bC ((h.map (·.1)).zip (h.map (·.2))) x with|some d=>R.ok d|none=>.bad)=_
 rw[Cz,e]
theorem vJ{f:D->Option (Option D)}{c:Str×D->Bool}{e:Str×D->D}: ∀{h:List (Str×D)},(∀p∈h,f (.str p.1)=some (if c p then some (e p)else none))->bJ f (h.map λp=>D.str p.1)=some ((h.filter c).map e)
 |[],_=>rfl
 |p::r,H=>by
  have a:=vJ (h:=r) λq m=>H q (.tail _ m)
  rw[List.map_cons];unfold bJ;rw[H p (.head _),List.filter_cons]
  cases c p<;>simp[a]
section
variable{h:List (Str×D)}{d:D}
abbrev st0(h:List (Str×D))(d:D):Rho:=[.sh (bZ h),.sh d,.no,.no,.no,.no,.no]
abbrev st1(h:List (Str×D))(d:D)(k:List (Str×D)):Rho:=[.sh (bZ h),.sh d,.dc k,.no,.no,.no,.no]
theorem oU:mG 2 (aA 0) (st0 h d)= .nx (st1 h d h):=by
 show Out.nx [.sh (bZ h),.sh d,.dc ((h.map (·.1)).zip (h.map (·.2))),.no,.no,.no,.no]=_
 rw[Cz]
theorem isw(h1:aD 1 ρ= .ok (.tup (.str u::ds)))(h:dJ .Eq (.str u) (.str u')= .ok (.bl b)):aZ .Eq (rIx (aD 1) (rK (.int 0))) (rK (.str u')) ρ= .ok (.bl b):=
 (aP (x:=.str u) (y:=.str u') ((cG (x:=.tup (.str u::ds)) (y:=.int ((0:Nat):Int)) h1 rfl).trans (sT rfl)) rfl).trans h
theorem AE(he:e ρ= .ok v)(hk:k ρ= .ok (.str x))(h2:ρ[2]? =some (.dc kvs))(hl:kvs.length<LIM):wM 2 k e ρ= .nx (ρ.set 2 (.dc (fK kvs x v))):=by
 simp[wM,he,hk,h2,fS,hl]
theorem LP(hl:h.length<LIM):aT [bZ h,.tup [.str "put",.str x,v]]= .ok (.tup [bZ (fK h x v),.bl (bC h x).isSome]):=
 aY ((aG oU).trans (cS ((eE (isw rfl (by kernel_rfl))).trans ((aG (AE rfl rfl rfl hl)).trans (aU (ρ:=[.sh (bZ h),.sh (.tup [.str "put",.str x,v]),.sh (bZ (fK h x v)),.no,.no,.no,.no]) (eT rfl ((aP (x:=.str x) (y:=bZ h) rfl rfl).trans (J1 h x))))))))
theorem Mv(h1:dJ .Eq (.str u) (.str "put")= .ok (.bl false))(h2:dJ .Eq (.str u) (.str "join")= .ok (.bl false))(e:bC h x=none):aT [bZ h,.tup [.str u,.str x]]= .ok (.tup [bZ h,.str "no label"]):=
 aY ((aG oU).trans ((aG ((dB (isw rfl h1)).trans rfl)).trans ((aG ((dB (isw rfl h2)).trans rfl)).trans (cS ((eE ((aP (x:=.str x) (y:=bZ h) rfl rfl).trans ((jH h x).trans (by rw[e];rfl)))).trans (aU (eT rfl rfl)))))))
theorem J9(h1:dJ .Eq (.str u) (.str "put")= .ok (.bl false))(h2:dJ .Eq (.str u) (.str "join")= .ok (.bl false))(e:bC h x=some v)(hr:dZ (st1 h (.tup [.str u,.str x]) h)=r):
  a8 (mG 2 (aA 0)) (a8 (sIf (aZ .Eq (rIx (aD 1) (rK (.int 0))) (rK (.str "put"))) a aQ) (a8 (sIf (aZ .Eq (rIx (aD 1) (rK (.int 0))) (rK (.str "join"))) b aQ) (a8 (sIf (aZ .NotIn (rIx (aD 1) (rK (.int 1))) (aA 0)) c aQ) dZ))) (st0 h (.tup [.str u,.str x]))=r:=
 ((aG oU).trans ((aG ((dB (isw rfl h1)).trans rfl)).trans ((aG ((dB (isw rfl h2)).trans rfl)).trans ((aG ((dB ((aP (x:=.str x) (y:=bZ h) rfl rfl).trans ((jH h x).trans (by rw[e];rfl)))).trans rfl)).trans hr))))
theorem Ka(hn:(h.map (·.1)).Nodup)(hl:h.length<LIM)(e:bC h x=some (sw m a)):aT [bZ h,.tup [.str "turn",.str x]]= .ok (.tup [bZ (fK h x (sw m (a.map (! ·)))),sw m (a.map (! ·))]):=by
 refine aY (J9 (by kernel_rfl) (by kernel_rfl) e (cS ((eE (isw rfl (by kernel_rfl))).trans ((aG (AE (v:=sw m (a.map (! ·))) (eT (x:=.int (m:Nat)) ?_ ?_) rfl rfl hl)).trans ?_))))
 ·exact(cG (x:=sw m a) (y:=.int 0) ((cG (x:=bZ h) (y:=.str x) rfl rfl).trans (gX e)) rfl).trans rfl
 ·refine(dU (x:=(a.map (! ·)).map bD) ?_).trans rfl
  have:=iM (cs:=[]) (it:=rIx (rIx (aD 0) (rIx (aD 1) (rK (.int 1)))) (rK (.int 1))) (e:=aS .Sub (rK (.int 1)) (aA 0)) (ρ:=st1 h (.tup [.str "turn",.str x]) h) (ds:=a.map bD) (g:=tn) (.inr (.inl ((cG (x:=sw m a) (y:=.int 1) ((cG (x:=bZ h) (y:=.str x) rfl rfl).trans (gX e)) rfl).trans rfl))) λd c=>by
   obtain⟨b,_,rfl⟩:=aq.1 c
   cases b<;>rfl
  rw[this,List.map_map,List.map_map]
  congr 1
  refine List.map_congr_left λb _=>?_
  cases b<;>rfl
 ·exact aU (ρ:=[.sh (bZ h),.sh (.tup [.str "turn",.str x]),.sh (bZ (fK h x (sw m (a.map (! ·))))),.no,.no,.no,.no]) (eT rfl ((cG (x:=bZ (fK h x (sw m (a.map (! ·))))) (y:=.str x) rfl rfl).trans (gX (sW hn))))
theorem Kb(hh:OkH h)(hl:h.length<=1000)(hx:x∈NM)(e:bC h x=some v):aT [bZ h,.tup [.str "take",.str x]]= .ok (.tup [bZ (fB h x),v]):=by
 refine aY (J9 (by kernel_rfl) (by kernel_rfl) e ((aG ((dB (isw rfl (by kernel_rfl))).trans rfl)).trans (aU (eT ?_ ((cG (x:=bZ h) (y:=.str x) rfl rfl).trans (gX e))))))
 have g:bL 0 [1,0] (aD 0) (some (aZ .NotEq (aA 0) (rIx (aD 1) (rK (.int 1))))) (dX [aA 0,rIx (aD 2) (aA 0)]) (st1 h (.tup [.str "take",.str x]) h)= .ow ((fB h x).map λp=>D.tup [.str p.1,p.2]):=by
  show(match(if(h.map (·.1)).length<=1000 then some ((h.map (·.1)).map D.str)else none)with
   |some b=>(match bJ (dD 0 (l6 [1,0] (st1 h (.tup [.str "take",.str x]) h)) (some (aZ .NotEq (aA 0) (rIx (aD 1) (rK (.int 1))))) (dX [aA 0,rIx (aD 2) (aA 0)])) b with|some xs=>R.ow xs|none=>.bad)
   |none=>.bad)=_
  rw[if_pos (by simpa using hl),List.map_map]
  have:=vJ (h:=h) (f:=dD 0 (l6 [1,0] (st1 h (.tup [.str "take",.str x]) h)) (some (aZ .NotEq (aA 0) (rIx (aD 1) (rK (.int 1))))) (dX [aA 0,rIx (aD 2) (aA 0)])) (c:=λp=>decide (p.1≠x)) (e:=λp=>D.tup [.str p.1,p.2]) λp a=>by
   have d:aZ .NotEq (aA 0) (rIx (aD 1) (rK (.int 1))) [.sh (.str p.1),.sh (.tup [.str "take",.str x]),.sh (bZ h)]= .ok (.bl (decide (p.1≠x))):=(aP (x:=.str p.1) (y:=.str x) rfl rfl).trans (J0 (hh.2 p a).1 hx)
   have i:dX [aA 0,rIx (aD 2) (aA 0)] [.sh (.str p.1),.sh (.tup [.str "take",.str x]),.sh (bZ h)]= .ok (.tup [.str p.1,p.2]):=eT rfl ((cG (x:=bZ h) (y:=.str p.1) rfl rfl).trans (gX (oN hh.1 a)))
   show(match aZ .NotEq (aA 0) (rIx (aD 1) (rK (.int 1))) [.sh (.str p.1),.sh (.tup [.str "take",.str x]),.sh (bZ h)]with
    |.ok (.bl true)=>(match dX [aA 0,rIx (aD 2) (aA 0)] [.sh (.str p.1),.sh (.tup [.str "take",.str x]),.sh (bZ h)]with|.ok x=>some (some x)|.ow xs=>some (some (.lst xs))|_=>none)
    |.ok (.bl false)=>some none
    |_=>none)=_
   rw[d,i]
   cases decide (p.1≠x)<;>rfl
  have j:(h.map (D.str ∘ λp=>p.1))=h.map λp=>D.str p.1:=rfl
  rw[j]
  dsimp only
  rw[this];rfl
 show(bL 0 [1,0] (aD 0) (some (aZ .NotEq (aA 0) (rIx (aD 1) (rK (.int 1))))) (dX [aA 0,rIx (aD 2) (aA 0)]) (st1 h (.tup [.str "take",.str x]) h)).bind mI=_
 rw[g];exact Ax (rC hh.1) (Nat.le_trans (List.length_filter_le _ _) hl)
end
def prs(a b:List Bool):List D:=((a.map bD).zip (b.map bD)).map λp=>D.tup [p.1,p.2]
theorem oV(h5:aD 5 ρ= .ok (.lst (prs a b)))(he: ∀x y,e [.sh (bD x),.sh (bD y)]= .ok (bD (f x y))):
  bL 2 [] (aD 5) none e ρ= .ow ((List.zipWith f a b).map bD):=by
 refine vD (.inl h5) ?_
 have: ∀(a b:List Bool),bJ (dD 2 [] none e) (prs a b)=some ((List.zipWith f a b).map bD):=by
  intro a
  induction a with
  |nil=>intro b;rfl
  |cons x a d=>
   intro b
   cases b with
   |nil=>rfl
   |cons y b=>
    have:=d b
    show bJ (dD 2 [] none e) (D.tup [bD x,bD y]::prs a b)=some (bD (f x y)::(List.zipWith f a b).map bD);unfold bJ
    rw[show dD 2 [] none e (D.tup [bD x,bD y])=some (some (bD (f x y))) from by
     have c:=he x y;simp[dD,tgt,c]]
    simp[this]
 exact this a b
section
variable{h:List (Str×D)}{x y z w:Str}{v v' d:D}
noncomputable abbrev jD(x w y z:Str):D:=.tup [.str "join",.str x,.str w,.str y,.str z]
theorem AF{r:Out}(hr:dZ (st1 h (jD x w y z) h)= .rt (.ok d)):
  a8 (mG 2 (aA 0)) (a8 (sIf (aZ .Eq (rIx (aD 1) (rK (.int 0))) (rK (.str "put"))) a aQ) (a8 (sIf (aZ .Eq (rIx (aD 1) (rK (.int 0))) (rK (.str "join"))) dZ aQ) b)) (st0 h (jD x w y z))= .rt (.ok d):=
 (aG oU).trans ((aG ((dB (isw rfl (by kernel_rfl))).trans rfl)).trans (cS ((eE (isw rfl (by kernel_rfl))).trans hr)))
theorem Kc(e:bC h y=none\/bC h z=none):aT [bZ h,jD x w y z]= .ok (.tup [bZ h,.str "no label"]):=by
 refine aY (AF (r:=.rt .bad) (cS ((eE ?_).trans (aU (eT rfl rfl)))))
 have b:aZ .NotIn (rIx (aD 1) (rK (.int 3))) (aA 0) (st1 h (jD x w y z) h)= .ok (.bl (!(bC h y).isSome)):=(aP (x:=.str y) (y:=bZ h) rfl rfl).trans (jH h y)
 have c:aZ .NotIn (rIx (aD 1) (rK (.int 4))) (aA 0) (st1 h (jD x w y z) h)= .ok (.bl (!(bC h z).isSome)):=(aP (x:=.str z) (y:=bZ h) rfl rfl).trans (jH h z)
 cases a:bC h y with
 |none=>exact Gf (b.trans (by rw[a];rfl))
 |some v=>
  rcases e with e|e
  ·rw[a]at e;cases e
  ·exact(wF (b.trans (by rw[a];rfl))).trans (c.trans (by rw[e];rfl))
abbrev st2(h:List (Str×D))(d v v':D):Rho:=[.sh (bZ h),.sh d,.dc h,.sh v,.sh v',.no,.no]
theorem DN(e1:bC h y=some v)(e2:bC h z=some v')(hr:dZ (st2 h (jD x w y z) v v')= .rt (.ok d)):
  a8 (sIf (rOr (aZ .NotIn (rIx (aD 1) (rK (.int 3))) (aA 0)) (aZ .NotIn (rIx (aD 1) (rK (.int 4))) (aA 0))) a aQ) (a8 (fT [3,4] (dX [rIx (aD 0) (rIx (aD 1) (rK (.int 3))),rIx (aD 0) (rIx (aD 1) (rK (.int 4)))])) dZ) (st1 h (jD x w y z) h)= .rt (.ok d):=by
 have c:aZ .NotIn (rIx (aD 1) (rK (.int 3))) (aA 0) (st1 h (jD x w y z) h)= .ok (.bl false):=(aP (x:=.str y) (y:=bZ h) rfl rfl).trans ((jH h y).trans (by rw[e1];rfl))
 have b:aZ .NotIn (rIx (aD 1) (rK (.int 4))) (aA 0) (st1 h (jD x w y z) h)= .ok (.bl false):=(aP (x:=.str z) (y:=bZ h) rfl rfl).trans ((jH h z).trans (by rw[e2];rfl))
 refine(aG ((dB ((wF c).trans b)).trans rfl)).trans ((aG (lL (ds:=[v,v']) (eT ?_ ?_) rfl)).trans hr)
 ·exact(cG (x:=bZ h) (y:=.str y) rfl rfl).trans (gX e1)
 ·exact(cG (x:=bZ h) (y:=.str z) rfl rfl).trans (gX e2)
theorem Kd(e1:bC h y=some (sw m a))(e2:bC h z=some (sw m2 b))(n:m≠m2):aT [bZ h,jD x w y z]= .ok (.tup [bZ h,.str "unlike"]):=
 aY (AF (r:=.rt .bad) (DN e1 e2 (cS ((eE ((aP (x:=.int (m:Nat)) (y:=.int (m2:Nat)) rfl rfl).trans (by rw[An,decide_eq_false (by lia)];rfl))).trans (aU (eT rfl rfl))))))
theorem LQ(hn:(h.map (·.1)).Nodup)(hl:h.length<LIM)(hw:w∈WD)(e1:bC h y=some (sw m a))(e2:bC h z=some (sw m b)):
  aT [bZ h,jD x w y z]= .ok (.tup [bZ (fK h x (sw m (List.zipWith (opB w) a b))),sw m (List.zipWith (opB w) a b)]):=by
 let e:Rho:=[.sh (bZ h),.sh (jD x w y z),.dc h,.sh (sw m a),.sh (sw m b),.sh (.lst (prs a b)),.no]
 have g:bL 2 [] (aD 5) none (aS .Mult (aA 0) (aA 1)) e= .ow ((List.zipWith (· && ·) a b).map bD):=oV rfl λx y=>by cases x<;>cases y<;>rfl
 have n:bL 2 [] (aD 5) none (aF AW [aZ .Gt (aS .Add (aA 0) (aA 1)) (rK (.int 0))]) e= .ow ((List.zipWith (· || ·) a b).map bD):=oV rfl λx y=>by cases x<;>cases y<;>rfl
 let dd:D:=.dct ["both","either"] [.lst ((List.zipWith (· && ·) a b).map bD),.lst ((List.zipWith (· || ·) a b).map bD)]
 let c:Rho:=[.sh (bZ h),.sh (jD x w y z),.dc h,.sh (sw m a),.sh (sw m b),.sh (.lst (prs a b)),.sh dd]
 have j:bL 2 [] (aD 5) none (aF AW [aZ .Eq (aS .Add (aA 0) (aA 1)) (rK (.int 1))]) c= .ow ((List.zipWith (· ^^ ·) a b).map bD):=oV rfl λx y=>by cases x<;>cases y<;>rfl
 refine aY (AF (r:=.rt .bad) (DN e1 e2 ((aG ((dB ((aP (x:=.int (m:Nat)) (y:=.int (m:Nat)) rfl rfl).trans (by rw[An];simp))).trans rfl)).trans ((aG (ρ':=e) ?_).trans ((aG (ρ':=c) ?_).trans ((aG (AE (x:=x) (v:=sw m (List.zipWith (opB w) a b)) (eT (x:=.int (m:Nat)) rfl ?_) rfl rfl hl)).trans ?_))))))
 ·exact oF ((cH (Ao (xs:=a.map bD) (ys:=b.map bD) rfl rfl)).trans rfl)
 ·refine cY (d:=dd) ?_
  have i: ¬(("both":Str)="either"):=by decide
  simp only[tU,g,n,R.bind,if_neg i];rfl
 ·have f:pS (aA 6) (rIx (aD 1) (rK (.int 2))) (bL 2 [] (aD 5) none (aF AW [aZ .Eq (aS .Add (aA 0) (aA 1)) (rK (.int 1))])) c= .ok (.lst ((List.zipWith (opB w) a b).map bD)):=by
   have l:aA 6 c= .ok dd:=rfl
   have o:rIx (aD 1) (rK (.int 2)) c= .ok (.str w):=rfl
   simp only[pS,l,o,j,R.bind];show R.ok ((bC [("both",.lst ((List.zipWith (· && ·) a b).map bD)),("either",.lst ((List.zipWith (· || ·) a b).map bD))] w).getD (.lst ((List.zipWith (· ^^ ·) a b).map bD)))=_
   simp only[WD,au,List.not_mem_nil,or_false]at hw;rcases hw with rfl|rfl|rfl
   ·rw[bF,if_pos rfl];rfl
   ·rw[bF,if_neg (show ¬(("both":Str)="either") by decide),bF,if_pos rfl];rfl
   ·rw[bF,if_neg (show ¬(("both":Str)="unlike") by decide),bF,if_neg (show ¬(("either":Str)="unlike") by decide)];rfl
  exact(cH f).trans rfl
 ·exact aU (ρ:=[.sh (bZ h),.sh (jD x w y z),.sh (bZ (fK h x (sw m (List.zipWith (opB w) a b)))),.sh (sw m a),.sh (sw m b),.sh (.lst (prs a b)),.sh dd]) (eT rfl ((cG (x:=bZ (fK h x (sw m (List.zipWith (opB w) a b)))) (y:=.str x) rfl rfl).trans (gX (sW hn))))
end
theorem OkH.put(o:OkH h)(hx:x∈NM)(hv:Sw v):OkH (fK h x v):=⟨vE o.1,λp m=>by
 rcases Gr m with rfl|m
 ·exact⟨hx,hv⟩
 ·exact o.2 p m⟩
theorem OkH.drop(o:OkH h):OkH (fB h x):=⟨rC o.1,λp m=>o.2 p (List.mem_filter.1 m).1⟩
theorem OkH.get(o:OkH h)(e:bC h x=some v): ∃m a,jB m a/\v=sw m a:=(o.2 _ (oO e)).2
def Due(d:D):Prop:=plain d=true/\dep d<=60
theorem AG(m:Nat)(a:List Bool):Due (sw m a):=⟨jU m a,Ar m a⟩
theorem AH(h:plain (.str x)=true):Due (.str x):=⟨h,by simp[dep]⟩
def AI(h:List (Str×D)):List D:=(gP (h.map (·.1))).map D.str
theorem AJ{h:List (Str×D)}(m:k∈gP (h.map (·.1))):k∈h.map (·.1):=(gB _).mem_iff.1 m
theorem AL(o:OkH h)(m:k∈h.map (·.1)): ∃v,bC h k=some v/\k∈NM/\Sw v:=by
 obtain⟨p,a,rfl⟩:=aq.1 m;exact⟨p.2,oN o.1 a,o.2 p a⟩
theorem oW(h1:plain d=true)(h2:dep d<=60):dJ .NotEq d d= .ok (.bl false):=by
 rw[sU (i8 h1 h1 h2),oJ _ h1];rfl
theorem AM(l:r.held.length<64):bN r []= .pure (.ow (AI r.held)):=by
 unfold bN gR;show fC 350 (cW _ _ [.rk 350 r] false)=_;rw[jF (Gv (xs:=AI r.held) ?_)]
 ·rfl
 ·show(if r.held.length<64 then R.ow (AI r.held)else .bad)=_
  rw[if_pos l]
def srt(h:List (Str×D)):List (Str×D):=(gP (h.map (·.1))).map λk=>(k,(bC h k).getD .non)
theorem CD(h:List (Str×D)):(srt h).map (·.1)=gP (h.map (·.1)):=by
 unfold srt;rw[List.map_map];exact(List.map_congr_left λ_ _=>rfl).trans (List.map_id _)
theorem Ke(o:OkH r.held)(l:r.held.length<64):cV r []= .pure (.ok (bZ (srt r.held))):=by
 unfold cV gR;show fC 350 (cW _ _ [.rk 350 r] false)=_
 have b:bL 0 [0] (eM 350 0 bN []) none (dX [aA 0,eM 350 1 aE [aA 0]]) [.rk 350 r]= .ow ((srt r.held).map λp=>D.tup [.str p.1,p.2]):=by
  have:=iM (cs:=[0]) (it:=eM 350 0 bN []) (e:=dX [aA 0,eM 350 1 aE [aA 0]]) (ρ:=[.rk 350 r]) (ds:=AI r.held) (g:=λd=>match d with|.str k=>.tup [.str k,(bC r.held k).getD .non]|d=>d) (.inr (.inr (by
   show(bN r []).told=_
   rw[AM l];rfl))) λd m=>by
    obtain⟨k,a,rfl⟩:=aq.1 m;obtain⟨v,e,hk,_⟩:=AL o (AJ a);refine eT rfl ?_
    show(aE r [.str k]).told=_
    rw[sZ r hk];unfold wN;rw[e];rfl
  rw[this];unfold AI srt;rw[List.map_map,List.map_map];rfl
 have c:mJ (bL 0 [0] (eM 350 0 bN []) none (dX [aA 0,eM 350 1 aE [aA 0]])) [.rk 350 r]= .ok (bZ (srt r.held)):=by
  unfold mJ;rw[b];refine Ax ?_ ?_
  ·rw[CD];exact(gB _).nodup_iff.2 o.1
  ·unfold srt;rw[ao,(gB _).length_eq,ao];lia
 rw[jF (lR c)];rfl
abbrev Row:=List (Str×D)
def Eqv(a b:Row):Prop:= ∀x,bC a x=bC b x
theorem lS: ∀{l m:List Str},l.Nodup->(∀x∈l,x∈m)->l.length<=m.length
 |[],m,_,_=>bt _
 |x::l,m,nd,h=>by
  obtain⟨c,d⟩:=List.nodup_cons.1 nd;have a:=h x (.head _)
  have:=lS (l:=l) (m:=m.erase x) d λy b=>(List.mem_erase_of_ne (λe=>c (by rw[<-e];exact b))).2 (h y (.tail _ b))
  rw[List.length_erase_of_mem a]at this
  have:=List.length_pos_of_mem a
  rw[bo];lia
theorem lT{h:Row}(o:OkH h):h.length<=4:=by
 have:=lS o.1 (m:=NM) λx a=>by obtain⟨p,b,rfl⟩:=aq.1 a;exact(o.2 p b).1
 rw[ao]at this;exact this
theorem GH{a b:Row}(oa:OkH a)(ob:OkH b)(q:Eqv a b):a.length=b.length:=by
 have c: ∀{a b:Row},OkH a->Eqv a b->a.length<=b.length:=λ{a b} oa q=>by
  have:=lS oa.1 (m:=b.map (·.1)) λx e=>by
   have d:(bC a x).isSome=true:=by rw[gA];simpa using e
   rw[q x,gA]at d;simpa using d
  simpa using this
 exact Nat.le_antisymm (c oa q) (c ob λx=>(q x).symm)
theorem Kf{k h:Row}(ok:OkH k)(o:OkH h)(q:Eqv k h):dJ .NotEq (bZ (srt k)) (bZ h)= .ok (.bl false):=by
 have n:hX (bZ (srt k)) (bZ h)=false:=by simp[hX,plain]
 have j: ∀p∈srt k,bC h p.1=some p.2/\Sw p.2:=λp m=>by
  obtain⟨l,t,rfl⟩:=aq.1 m;obtain⟨v,e,_,s⟩:=AL ok (AJ t);simp[<-q l,e,s]
 have c:(((srt k).map (·.2)).all λd=>(h.map (·.2)).all λe=>hX d e)=true:=by
  rw[List.all_eq_true];intro d r;rw[List.all_eq_true];intro e u;obtain⟨p,f,rfl⟩:=aq.1 r;obtain⟨q,x,rfl⟩:=aq.1 u;obtain⟨m,a,_,c⟩:=(j p f).2;obtain⟨i,b,_,g⟩:=(o.2 q x).2;rw[c,g];exact i8 (jU m a) (jU i b) (Ar i b)
 have g:CV (srt k) h=true:=by
  unfold CV;rw[av];refine⟨?_,?_⟩
  ·unfold srt;rw[ao,(gB _).length_eq,ao,GH ok o q];simp
  ·rw[List.all_eq_true];intro p f;obtain⟨e,m,a,_,c⟩:=j p f;rw[e];show deq p.2 p.2=true;rw[c];exact oJ _ (jU m a)
 show(if hX (bZ (srt k)) (bZ h)then R.ok (.bl (!deq (bZ (srt k)) (bZ h)))else nH true (bZ (srt k)) (bZ h))=_
 rw[n,if_neg (by decide)]
 show(if(((srt k).map (·.2)).all λd=>(h.map (·.2)).all λe=>hX d e)=true then R.ok (.bl (true != CV (((srt k).map (·.1)).zip ((srt k).map (·.2))) ((h.map (·.1)).zip (h.map (·.2)))))else .bad)=_
 rw[if_pos c,Cz,Cz,g];rfl
theorem iS{h:Row}(hn:(h.map (·.1)).Nodup):bC (fK h x v) y=if y=x then some v else bC h y:=by
 by_cases e:y=x
 ·rw[if_pos e,e];exact sW hn
 ·rw[if_neg e]
  have b: ¬x=y:=λz=>e z.symm
  cases n:(bC h x).isSome with
  |true=>
   rw[oP n];clear n hn
   induction h with
   |nil=>rfl
   |cons q r a=>
    rw[List.map_cons,bF,bF,a]
    by_cases z:q.1=x
    ·have c: ¬q.1=y:=λd=>b (z.symm.trans d)
     rw[if_pos z,if_neg c,if_neg c]
    ·rw[if_neg z]
  |false=>
   rw[lQ n];clear n hn
   induction h with
   |nil=>rw[List.nil_append,bF,if_neg b]
   |cons q r a=>rw[List.cons_append,bF,bF,a]
theorem gC{h:Row}:bC (fB h x) y=if y=x then none else bC h y:=by
 unfold fB
 induction h with
 |nil=>simp[bC]
 |cons q r b=>
  rw[List.filter_cons]
  by_cases z:q.1=x
  ·rw[if_neg (by simpa using z),b,bF]
   by_cases e:y=x
   ·rw[if_pos e,if_pos e]
   ·rw[if_neg e,if_neg e,if_neg (λa=>e (a.symm.trans z))]
  ·rw[if_pos (by simpa using z),bF,bF,b]
   by_cases e:y=x
   ·rw[if_pos e,if_pos e,if_neg (λa=>z (a.trans e))]
   ·rw[if_neg e,if_neg e]
def opt(d:D):Option D:=if nG d then none else some d
theorem nC(h:Sw d):opt d=some d:=by unfold opt;rw[h.nn];rfl
def NS(d:D):Prop:=d= .non\/Sw d
theorem GI{h:Row}(o:OkH h)(x:Str):opt ((bC h x).getD .non)=bC h x/\NS ((bC h x).getD .non):=by
 cases e:bC h x with
 |none=>exact⟨rfl,.inl rfl⟩
 |some v=>exact⟨nC (o.2 _ (oO e)).2,.inr (o.2 _ (oO e)).2⟩
theorem DO{h p:Row}(r:Rk)(o:OkH r.held)(q:Eqv r.held h)(hx:x∈NM)(v1:NS old)(e1:bC p x=opt old)(e2:bC h x=opt new)(nb:old= .non->∃v,opt new=some v)(ey: ∀y,y≠x->bC h y=bC p y):
  ∃k,aO r [.str x,old]= .chg .non {r with held:=k}/\OkH k/\Eqv k p:=by
 rcases v1 with rfl|hs
 ·obtain⟨v,ev⟩:=nb rfl;refine⟨fB r.held x,vG r (by rw[q x,e2,ev];rfl),o.drop,λy=>?_⟩
  rw[gC]
  by_cases e:y=x
  ·rw[if_pos e,e,e1];rfl
  ·rw[if_neg e,q y,ey y e]
 ·refine⟨fK r.held x old,Ay r hs.nn (by have:=lT o;unfold LIM;lia),o.put hx hs,λy=>?_⟩
  rw[iS o.1]
  by_cases e:y=x
  ·rw[if_pos e,e,e1,nC hs]
  ·rw[if_neg e,q y,ey y e]
def stp(w x:Str)(old new:D):D:=.tup [.str w,.str x,old,new]
noncomputable def WS:List Str:=["put","take","join","turn"]
theorem vK(h:x∈WS):plain (.str x)=true:=by
 simp only[WS,au,List.not_mem_nil,or_false]at h;rcases h with rfl|rfl|rfl|rfl<;>kernel_rfl
theorem vL(h:NS d):plain d=true:=by
 rcases h with rfl|⟨m,a,_,rfl⟩
 ·rfl
 ·exact jU m a
theorem rE(hw:w∈WS)(hx:x∈NM)(ha:NS a)(hb:NS b):plain (stp w x a b)=true:=by
 show bT [.str w,.str x,a,b]=true;rw[fF];intro d m;simp only[au,List.not_mem_nil,or_false]at m;rcases m with rfl|rfl|rfl|rfl
 ·exact vK hw
 ·exact oT hx
 ·exact vL ha
 ·exact vL hb
theorem vM(h: ∀d∈l,plain d=true):dJ .Eq (.lst l) (.lst [])= .ok (.bl l.isEmpty):=by
 rw[lM (i8 (by show bT l=true;rw[fF];exact h) rfl (by simp[dep,xC]))]
 cases l<;>simp[deq,wL]
theorem kA(h:a ρ= .ok x)(k:b ρ= .ow y):aZ op a b ρ=dJ op x (.lst y):=by simp[aZ,h,k,R.bind]
theorem AN{ρ ρ':Rho}(e0:ρ[0]? =some (.rk 350 r))(ea:args fs ρ= .ok ds)(ed:M r ds= .chg .non r')(eρ:ρ.set 0 (.rk 350 r')=ρ'):i7 350 M fs ρ b= .nx ρ' true:=by
 simp[i7,mUp,e0,KA,ea,ed,eρ]
section
variable{k k':Row}
theorem GJ:eS ⟨k,[],un⟩ []= .pure (.ex 9):=by
 unfold eS gR;show fC 350 (cW _ _ [.rk 350 ⟨k,[],un⟩,.no] false)=_;rw[jG (c:=9) (b':=false)]
 ·rfl
 ·rw[CB]
  ·rfl
  ·exact(kA (x:=.lst []) (y:=[]) rfl rfl).trans (vM λd m=>by cases m)
theorem CF:dH ⟨k,dn,[]⟩ []= .pure (.ex 9):=by
 unfold dH gR;show fC 350 (cW _ _ [.rk 350 ⟨k,dn,[]⟩,.no] false)=_;rw[jG (c:=9) (b':=false)]
 ·rfl
 ·rw[CB]
  ·rfl
  ·exact(kA (x:=.lst []) (y:=[]) rfl rfl).trans (vM λd m=>by cases m)
theorem GK(hp: ∀d∈dn++[stp w x a b],plain d=true)(l:un.length<LIM)(hs:aO ⟨k,dn,un++[stp w x a b]⟩ [.str x,a]= .chg .non ⟨k',dn,un++[stp w x a b]⟩):eS ⟨k,dn++[stp w x a b],un⟩ []= .chg (.str w) ⟨k',dn,un++[stp w x a b]⟩:=by
 unfold eS gR;show fC 350 (cW _ _ [.rk 350 ⟨k,dn++[stp w x a b],un⟩,.no] false)=_;rw[bA (ρ':=[.rk 350 ⟨k,dn++[stp w x a b],un⟩,.no]) (b':=false)]
 ·rw[bA (g:=wD 350 0 true) (ρ':=[.rk 350 ⟨k,dn,un⟩,.sh (stp w x a b)]) (b':=true)]
  ·rw[bA (g:=Fy 350 false (aA 1)) (ρ':=[.rk 350 ⟨k,dn,un++[stp w x a b]⟩,.sh (stp w x a b)]) (b':=true)]
   ·rw[bA (AN (r:=⟨k,dn,un++[stp w x a b]⟩) (ds:=[.str x,a]) rfl rfl hs rfl)];rw[jF (lR (d:=.str w) rfl)];rfl
   ·show(if un.length<LIM then setR 350 [.rk 350 ⟨k,dn,un⟩,.sh (stp w x a b)] ⟨k,dn,un++[stp w x a b]⟩ else OutM.bad)=_
    rw[if_pos l];rfl
  ·show(match(dn++[stp w x a b]).getLast? with
    |some d=>OutM.nx [.rk 350 ⟨k,(dn++[stp w x a b]).dropLast,un⟩,.sh d] true
    |none=>.bad)=_
   simp
 ·rw[CC]
  ·rfl
  ·refine(kA (x:=.lst (dn++[stp w x a b])) (y:=[]) rfl rfl).trans ((vM hp).trans ?_)
   cases dn<;>rfl
theorem CG(hp: ∀d∈un++[stp w x a b],plain d=true)(l:dn.length<LIM)(hs:aO ⟨k,dn++[stp w x a b],un⟩ [.str x,b]= .chg .non ⟨k',dn++[stp w x a b],un⟩):dH ⟨k,dn,un++[stp w x a b]⟩ []= .chg (.str w) ⟨k',dn++[stp w x a b],un⟩:=by
 unfold dH gR;show fC 350 (cW _ _ [.rk 350 ⟨k,dn,un++[stp w x a b]⟩,.no] false)=_;rw[bA (ρ':=[.rk 350 ⟨k,dn,un++[stp w x a b]⟩,.no]) (b':=false)]
 ·rw[bA (g:=wD 350 0 false) (ρ':=[.rk 350 ⟨k,dn,un⟩,.sh (stp w x a b)]) (b':=true)]
  ·rw[bA (g:=Fy 350 true (aA 1)) (ρ':=[.rk 350 ⟨k,dn++[stp w x a b],un⟩,.sh (stp w x a b)]) (b':=true)]
   ·rw[bA (AN (r:=⟨k,dn++[stp w x a b],un⟩) (ds:=[.str x,b]) rfl rfl hs rfl)];rw[jF (lR (d:=.str w) rfl)];rfl
   ·show(if dn.length<LIM then setR 350 [.rk 350 ⟨k,dn,un⟩,.sh (stp w x a b)] ⟨k,dn++[stp w x a b],un⟩ else OutM.bad)=_
    rw[if_pos l];rfl
  ·show(match(un++[stp w x a b]).getLast? with
    |some d=>OutM.nx [.rk 350 ⟨k,dn,(un++[stp w x a b]).dropLast⟩,.sh d] true
    |none=>.bad)=_
   simp
 ·rw[CC]
  ·rfl
  ·refine(kA (x:=.lst (un++[stp w x a b])) (y:=[]) rfl rfl).trans ((vM hp).trans ?_)
   cases un<;>rfl
theorem AO(r:Rk):dI r []= .pure (.ok (.tup [.int r.done.length,.int r.undone.length])):=by
 unfold dI gR;show fC 350 (cW _ _ [.rk 350 r] false)=_;rw[jF (lR (eT rfl rfl))];rfl
end
theorem Nj:aK [.exc 9]= .ok (.str "no back"):=by kernel_rfl
theorem t9:cF aK (.pure (.ex 9))= .pure (.ok (.str "no back")):=by simp[cF,oB,Nj]
theorem lU(e0:ρ[i]? =some (.rk A r))(ea:args fs ρ= .ok ds)(em:M r ds= .pure (.ok d))(eg:g ρ= .ok d2)(ec:dJ op d d2= .ok (.bl b)):qU A i M fs op g ρ k=k b ρ:=by simp[qU,qR,e0,ea,em,fS,eg,ec,GZ]
theorem oX(e0:ρ[i]? =some (.rk A r))(ea:args fs ρ= .ok ds)(em:M r ds= .chg d r')(eg:g (ρ.set i (.rk A r'))= .ok d2)(ec:dJ op d d2= .ok (.bl b)):qU A i M fs op g ρ k=k b (ρ.set i (.rk A r')):=by simp[qU,qR,e0,ea,em,fS,eg,ec,GZ]
theorem fR(e:f ρ= .ok (.bl b)):jT f ρ k=k b ρ:=by simp[jT,e,fS,GZ]
noncomputable abbrev NB:D:=.tup [.str "no label",.str "unlike"]
def Lk(p:Row)(s:D)(w:Str)(h:Row):Prop:= ∃x old new,s=stp w x old new/\w∈WS/\x∈NM/\NS old/\NS new/\bC p x=opt old/\bC h x=opt new/\(old= .non->∃v,opt new=some v)/\(new= .non->∃v,opt old=some v)/\∀y,y≠x->bC h y=bC p y
section
variable{h a b:Row}
theorem tD(oa:OkH a)(ob:OkH b)(q:Eqv a b):Eqv (fK a x v) (fK b x v):=λy=>by rw[iS oa.1,iS ob.1,q y]
theorem CH(q:Eqv a b):Eqv (fB a x) (fB b x):=λy=>by rw[gC,gC,q y]
theorem AQ(o:OkH r.held)(oh:OkH h)(q:Eqv r.held h)(hw:w∈WS)(hx:x∈NM)(hv:Sw v):Lk h (fW r w x v) w (fK h x v):=by
 obtain⟨a,b⟩:=GI o x;refine⟨x,_,v,rfl,hw,hx,b,.inr hv,by rw[a,q x],by rw[iS oh.1,if_pos rfl,nC hv],λ_=>⟨v,nC hv⟩,λe=>?_,λy e=>by rw[iS oh.1,if_neg e]⟩
 have:=hv.nn
 rw[e]at this;cases this
theorem GL(q:Eqv r.held h)(hw:w∈WS)(hx:x∈NM)(hv:Sw v)(e:bC h x=some v):Lk h (fW r w x .non) w (fB h x):=by
 have a:(bC r.held x).getD .non=v:=by rw[q x,e];rfl
 refine⟨x,v,.non,by unfold fW;rw[a];rfl,hw,hx,.inr hv,.inl rfl,by rw[e,nC hv],by rw[gC,if_pos rfl];rfl,λz=>?_,λ_=>⟨v,nC hv⟩,λy e=>by rw[gC,if_neg e]⟩
 have:=hv.nn
 rw[z]at this;cases this
end
theorem AR(m:Nat)(a:List Bool):dJ .NotIn (sw m a) NB= .ok (.bl true):=by
 have e:tP (sw m a) [.str "no label",.str "unlike"]=true:=by
  have h: ∀{x:Str},plain (.str x)=true->hX (.str x) (sw m a)=true:=λh=>i8 h (jU m a) (Ar m a)
  simp only[tP,List.all_cons,List.all_nil,Bool.and_true,av];exact⟨h (by kernel_rfl),h (by kernel_rfl)⟩
 show(if tP (sw m a) [.str "no label",.str "unlike"]=true then R.ok (.bl (!([D.str "no label",.str "unlike"]).any λy=>deq y (sw m a)))else .bad)=_
 rw[if_pos e];rfl
theorem Kg(b:Bool):dJ .NotIn (.bl b) NB= .ok (.bl true):=by cases b<;>kernel_rfl
def Nk(r:Rk)(h:Row)(d due:D)(h':Row):Prop:=(bB r [d]= .pure (.ok due)/\h'=h/\dJ .NotIn due NB= .ok (.bl false))\/
 ∃k w s,bB r [d]= .chg due ⟨k,r.done++[s],[]⟩/\OkH k/\Eqv k h'/\Lk h s w h'/\dJ .NotIn due NB= .ok (.bl true)/\dIx d (.int 0)= .ok (.str w)
theorem LR(r:Rk){h:Row}(o:OkH r.held)(oh:OkH h)(q:Eqv r.held h)(ld:r.done.length<1000)(hd:DM d):
  ∃(h':Row) (due:D),aT [bZ h,d]= .ok (.tup [bZ h',due])/\Nk r h d due h'/\Due due/\OkH h':=by
 have l:r.done.length<LIM:=by unfold LIM;lia
 have G:r.held.length<LIM:=by have:=lT o;unfold LIM;lia
 have C:h.length<LIM:=by have:=lT oh;unfold LIM;lia
 have A:Due (.str "no label"):=AH (by kernel_rfl)
 have J:Due (.str "unlike"):=AH (by kernel_rfl)
 have u:cF aK (.pure (.ex 8))= .pure (.ok (.str "no label")):=by simp[cF,oB,Nh]
 have K:cF aK (.pure (.ex 4))= .pure (.ok (.str "unlike")):=by simp[cF,oB,Ni]
 have p:dJ .NotIn (.str "no label") NB= .ok (.bl false):=by kernel_rfl
 have I:dJ .NotIn (.str "unlike") NB= .ok (.bl false):=by kernel_rfl
 rcases hd with ⟨x,c,v,B,rfl⟩|⟨x,c,rfl⟩|⟨x,c,rfl⟩|⟨x,c,w,E,y,t,z,s,rfl⟩
 ·exact⟨_,_,LP C,.inr ⟨_,"put",_,by rw[GE,JW r c B l G,q x];rfl,o.put c B,tD o oh q,AQ o oh q (by decide) c B,Kg _,rfl⟩,⟨rfl,by simp[dep]⟩,oh.put c B⟩
 ·cases e:bC h x with
  |none=>exact⟨_,_,Mv (by kernel_rfl) (by kernel_rfl) e,.inl ⟨by rw[vI,Gy r c ((q x).trans e),u],rfl,p⟩,A,oh⟩
  |some v=>
   obtain⟨m,a,g,rfl⟩:=oh.get e;exact⟨_,_,Kb oh (by have:=lT oh;lia) c e,.inr ⟨_,"take",_,by rw[vI,Gx r c l ((q x).trans e)];rfl,o.drop,CH q,GL q (by decide) c ⟨m,a,g,rfl⟩ e,AR m a,rfl⟩,AG m a,oh.drop⟩
 ·cases e:bC h x with
  |none=>exact⟨_,_,Mv (by kernel_rfl) (by kernel_rfl) e,.inl ⟨by rw[vH,GA r c ((q x).trans e),u],rfl,p⟩,A,oh⟩
  |some v=>
   obtain⟨m,a,g,rfl⟩:=oh.get e;exact⟨_,_,Ka oh.1 C e,.inr ⟨_,"turn",_,by rw[vH,Gz r g c l G ((q x).trans e)];rfl,o.put c ⟨m,_,g.not,rfl⟩,tD o oh q,AQ o oh q (by decide) c ⟨m,_,g.not,rfl⟩,AR m _,rfl⟩,AG m _,oh.put c ⟨m,_,g.not,rfl⟩⟩
 ·cases f:bC h y with
  |none=>exact⟨_,_,Kc (.inl f),.inl ⟨by rw[j9,AB r c t s (.inl ((q y).trans f)),u],rfl,p⟩,A,oh⟩
  |some v=>
   cases i:bC h z with
   |none=>exact⟨_,_,Kc (.inr i),.inl ⟨by rw[j9,AB r c t s (.inr ((q z).trans i)),u],rfl,p⟩,A,oh⟩
   |some L=>
    obtain⟨m,a,g,rfl⟩:=oh.get f;obtain⟨H,b,j,rfl⟩:=oh.get i
    by_cases n:m=H
    ·subst n;exact⟨_,_,LQ oh.1 C E f i,.inr ⟨_,"join",_,by rw[j9,GB r c l G rfl ((rD r t s ((q y).trans f) ((q z).trans i)).trans (AC g j E))];rfl,o.put c ⟨m,_,g.zip _ j,rfl⟩,tD o oh q,AQ o oh q (by decide) c ⟨m,_,g.zip _ j,rfl⟩,AR m _,rfl⟩,AG m _,oh.put c ⟨m,_,g.zip _ j,rfl⟩⟩
    ·exact⟨_,_,Kd f i n,.inl ⟨by rw[j9,AA r c ((rD r t s ((q y).trans f) ((q z).trans i)).trans (AD g j n E)),K],rfl,I⟩,J,oh⟩
abbrev Za:=List (Row×D×Str)
abbrev Zb:=List (D×Str×Row)
def LkA:Za->Row->Prop
 |[],_=>True
 |z::A,h=>Lk z.1 z.2.1 z.2.2 h/\OkH z.1/\LkA A z.1
def LkB:Row->Zb->Prop
 |_,[]=>True
 |h,z::B=>Lk h z.1 z.2.1 z.2.2/\OkH z.2.2/\LkB z.2.2 B
def jI(A:Za)(h:Row)(B:Zb):List D:=((A.map (·.1)).reverse++h::B.map (·.2.2)).map bZ
noncomputable def gT(A:Za)(B:Zb):List D:=((A.map (·.2.2)).reverse++B.map (·.2.1)).map D.str
structure Zp(A:Za)(h:Row)(B:Zb)(r:Rk):Prop where
 oh:OkH h
 a:LkA A h
 b:LkB h B
 ok:OkH r.held
 q:Eqv r.held h
 dn:r.done=(A.map (·.2.1)).reverse
 un:r.undone=(B.map (·.1)).reverse
abbrev stL(ns:List Int)(R W:List D)(n:Nat)(s4 s5 s6 s7 s8:Slot)(r:Rk):Rho:=[.sh (Sc ns),.sh (.lst R),.sh (.lst W),.sh (.int (n:Nat)),s4,s5,s6,s7,s8,.rk 350 r]
abbrev zL(ns:List Int)(A:Za)(h:Row)(B:Zb)(s4 s5 s6 s7 s8:Slot)(r:Rk):Rho:=stL ns (jI A h B) (gT A B) A.length s4 s5 s6 s7 s8 r
abbrev iN(k:Nat):Slot:=.sh (.int (k:Nat))
def rT:FS:=a8 (dP (rK (.bl false))) (aQ)
def chk:FC:=cOr (qU 350 9 cV [] .NotEq (rIx (aD 1) (aA 3))) (qU 350 9 dI [] .NotEq (dX [aA 3,aS .Sub (aF jR [aD 2]) (aA 3)]))
def Mh:FS:=a8 (eU 1 (aS .Add (kP (aD 1) (aS .Add (aA 3) (rK (.int 1)))) (fJ [aA 7])))
    (a8 (eU 2 (aS .Add (kP (aD 2) (aA 3)) (fJ [rIx (aD 6) (rK (.int 0))])))
    (a8 (eU 3 (aS .Add (aA 3) (rK (.int 1))))
    (aQ)))
def GM:FS:=a8 (eU 6 (aF dO [aA 0,aS .Add (rK (.int 100)) (aS .Mult (rK (.int 60)) (aA 4)),rIx (aD 1) (aA 3)]))
   (a8 (fT [7,8] (aF aT [rIx (aD 1) (aA 3),aA 6]))
   (a8 (lX (qU 350 9 bB [aA 6] .NotEq (aA 8)) rT (aQ))
   (a8 (lX (jT (aZ .NotIn (aA 8) (dX [rK (.str "no label"),rK (.str "unlike")]))) Mh (aQ))
   (aQ))))
def mBk:FM:=λr _=>cF aK (zR 350 0 eS [] [.rk 350 r])
def mFo:FM:=λr _=>cF aK (zR 350 0 dH [] [.rk 350 r])
def CI:FS:=a8 (lX (qU 350 9 mBk [] .NotEq (rIf (aZ .Gt (aA 3) (rK (.int 0))) (rIx (aD 2) (aS .Sub (aA 3) (rK (.int 1)))) (rK (.str "no back")))) rT (aQ))
    (a8 (eU 3 (aF Kq [rK (.int 0),aS .Sub (aA 3) (rK (.int 1))]))
    (aQ))
def AS:FS:=a8 (lX (qU 350 9 mFo [] .NotEq (rIf (aZ .Lt (aA 3) (aF jR [aD 2])) (rIx (aD 2) (aA 3)) (rK (.str "no back")))) rT (aQ))
    (a8 (eU 3 (aF Kr [aF jR [aD 2],aS .Add (aA 3) (rK (.int 1))]))
    (aQ))
def CJ:FS:=a8 (eU 5 (aF aI [aA 0,aS .Add (rK (.int 2000)) (aA 4),rK (.int 7)]))
  (a8 (lX (jT (aZ .Lt (aA 5) (rK (.int 4)))) GM (a8 (lX (jT (aZ .Lt (aA 5) (rK (.int 6)))) CI AS) (aQ)))
  (a8 (lX chk rT (aQ))
  (aQ)))
theorem CK:Gh=a8 (qY 9 1 2 3 350 [fJ [kR],fJ [],rK (.int 0)]) (a8 (D5 [4] true (cZ (rK (.int 18))) CJ) (a8 (dP (rK (.bl true))) (aQ))):=rfl
theorem lV(h: ∀k,c ρ k=k false ρ'):lX c a b ρ=b ρ':=by unfold lX;rw[h];rfl
theorem GN(h: ∀k,c ρ k=k true ρ'):lX c a b ρ=a ρ':=by unfold lX;rw[h];rfl
theorem Kh(h:a ρ= .ok (.lst xs))(k:b ρ= .ok (.int (i:Nat))):kP a b ρ= .ow (xs.take i):=by
 have: ¬((i:Int)<0):=by lia
 simp[kP,h,k,R.bind,HJ,A8,this]
theorem Ki(h:a ρ= .ow xs)(k:b ρ= .ow ys)(l:xs.length+ys.length<=LIM):aS .Add a b ρ= .ow (xs++ys):=by
 simp[aS,h,k,R.bind,iT,l]
section
variable{ns:List Int}{A:Za}{h:Row}{B:Zb}{r:Rk}{s4 s5 s6 s7 s8:Slot}
theorem CL:(jI A h B).length=A.length+B.length+1:=by simp[jI];lia
theorem kB:(gT A B).length=A.length+B.length:=by simp[gT]
theorem Kj:(jI A h B)[A.length]? =some (bZ h):=by
 unfold jI;rw[List.getElem?_map,bj (by simp)]
 simp
theorem AT(h1:aD 1 ρ= .ok (.lst (jI A h B)))(h3:aA 3 ρ= .ok (.int (A.length:Nat))):rIx (aD 1) (aA 3) ρ= .ok (bZ h):=(cG h1 h3).trans (eP Kj)
theorem LS(h:j<=i):iT .Sub (.int (i:Nat)) (.int (j:Nat))= .ok (.int ((i-j:Nat):Int)):=by
 simp only[iT,d9];rw[Int.ofNat_sub h]
theorem Kk(i j:Nat):iT .Add (.int (i:Nat)) (.int (j:Nat))= .ok (.int ((i+j:Nat):Int)):=by
 simp[iT,d9]
theorem Kl(z:Zp A h B r)(k:Bool->Rho->Out):chk (zL ns A h B s4 s5 s6 s7 s8 r) k=k false (zL ns A h B s4 s5 s6 s7 s8 r):=by
 unfold chk cOr;rw[lU (r:=r) rfl rfl (Ke z.ok (by have:=lT z.ok;lia)) (AT rfl rfl) (Kf z.ok z.oh z.q),if_neg (by decide)]
 have e:dX [aA 3,aS .Sub (aF jR [aD 2]) (aA 3)] (zL ns A h B s4 s5 s6 s7 s8 r)= .ok (.tup [.int (r.done.length:Nat),.int (r.undone.length:Nat)]):=by
  refine eT ?_ ((aV (x:=.int ((gT A B).length:Nat)) (y:=.int (A.length:Nat)) ((cH (x:=.lst (gT A B)) rfl).trans rfl) rfl).trans ((LS (by rw[kB];lia)).trans ?_))
  ·rw[z.dn];simp[aA]
  ·rw[z.un,kB];simp
 exact lU (r:=r) rfl rfl (AO r) e (oW rfl (by simp[dep,xC]))
theorem plA{A:Za}: ∀{h:Row},LkA A h->∀d∈A.map (·.2.1),plain d=true:=by
 induction A with
 |nil=>intro h _ d m;cases m
 |cons z A g=>
  intro h l d m;rcases au.1 m with rfl|m
  ·obtain⟨x,c,new,e,i,b,f,a,_⟩:=l.1;show plain z.2.1=true;rw[e];exact rE i b f a
  ·exact g l.2.2 d m
theorem plB{B:Zb}: ∀{h:Row},LkB h B->∀d∈B.map (·.1),plain d=true:=by
 induction B with
 |nil=>intro h _ d m;cases m
 |cons z B g=>
  intro h l d m;rcases au.1 m with rfl|m
  ·obtain⟨x,c,new,e,i,b,f,a,_⟩:=l.1;show plain z.1=true;rw[e];exact rE i b f a
  ·exact g l.2.2 d m
theorem GO(z:Zp A h B r)(l:A.length+B.length<100)(k:Nat): ∃A' h' B' r' s6' s7' s8',GM (zL ns A h B (iN k) s5 s6 s7 s8 r)= .nx (zL ns A' h' B' (iN k) s5 s6' s7' s8' r')/\Zp A' h' B' r'/\A'.length+B'.length<=A.length+B.length+1:=by
 obtain⟨d,v,E⟩:=GG ns (100+60*k) (h.map (·.1)) (h.map (·.2))
 obtain⟨h',b,H,t,f,C⟩:=LR r z.ok z.oh z.q (by rw[z.dn];simp;lia) E
 have p:aS .Add (rK (.int 100)) (aS .Mult (rK (.int 60)) (aA 4)) (zL ns A h B (iN k) s5 s6 s7 s8 r)= .ok (.int ((100+60*k:Nat):Int)):=by
  refine(aV (x:=.int 100) (y:=.int (60*(k:Nat))) rfl ((aV (x:=.int 60) (y:=.int (k:Nat)) rfl rfl).trans (JN (by decide)))).trans ?_
  simp[iT,d9]
 have m:eU 6 (aF dO [aA 0,aS .Add (rK (.int 100)) (aS .Mult (rK (.int 60)) (aA 4)),rIx (aD 1) (aA 3)]) (zL ns A h B (iN k) s5 s6 s7 s8 r)= .nx (zL ns A h B (iN k) s5 (.sh d) s7 s8 r):=
  cY ((dM (x:=Sc ns) (z:=bZ h) rfl p (AT rfl rfl)).trans v)
 have o:fT [7,8] (aF aT [rIx (aD 1) (aA 3),aA 6]) (zL ns A h B (iN k) s5 (.sh d) s7 s8 r)= .nx (zL ns A h B (iN k) s5 (.sh d) (.sh (bZ h')) (.sh b) r):=
  lL (ds:=[bZ h',b]) ((cI (x:=bZ h) (y:=d) (AT rfl rfl) rfl).trans H) rfl
 rcases t with ⟨e,rfl,n⟩|⟨c,w,s,e,g,K,lk,n,J⟩
 ·refine⟨A,h',B,r,.sh d,.sh (bZ h'),.sh b,(aG m).trans ((aG o).trans ((aG ((lV λk=>lU (r:=r) (ds:=[d]) rfl rfl e rfl (oW f.1 f.2)).trans rfl)).trans ((aG ((lV λk=>fR ((aP (x:=b) (y:=NB) rfl rfl).trans n)).trans rfl)).trans rfl))),z,Nat.le_succ _⟩
 ·refine⟨(h,s,w)::A,h',[],⟨c,r.done++[s],[]⟩,.sh d,.sh (bZ h'),.sh b,(aG m).trans ((aG o).trans ((aG ((lV λk=>(oX (r:=r) (ds:=[d]) rfl rfl e rfl (oW f.1 f.2)).trans rfl).trans rfl)).trans ((aG (ρ':=stL ns (jI ((h,s,w)::A) h' []) (gT ((h,s,w)::A) []) ((h,s,w)::A).length (iN k) s5 (.sh d) (.sh (bZ h')) (.sh b) ⟨c,r.done++[s],[]⟩) ?_).trans rfl))),⟨C,⟨lk,z.oh,z.a⟩,trivial,g,K,?_,rfl⟩,by simp⟩
  ·refine(GN λk=>fR ((aP (x:=b) (y:=NB) rfl rfl).trans n)).trans ?_
   have G:aS .Add (kP (aD 1) (aS .Add (aA 3) (rK (.int 1)))) (fJ [aA 7]) (zL ns A h B (iN k) s5 (.sh d) (.sh (bZ h')) (.sh b) ⟨c,r.done++[s],[]⟩)= .ow (jI ((h,s,w)::A) h' []):=by
    refine(Ki (Kh (xs:=jI A h B) (i:=A.length+1) rfl ((aV (x:=.int (A.length:Nat)) (y:=.int ((1:Nat):Int)) rfl rfl).trans (Kk _ _))) (ys:=[bZ h']) rfl (by simp[CL,LIM];lia)).trans ?_
    congr 1
    have j:jI A h B=((A.map (·.1)).reverse++[h]).map bZ++(B.map (·.2.2)).map bZ:=by simp[jI]
    rw[j,List.take_left' (by simp)]
    simp[jI]
   have I:aS .Add (kP (aD 2) (aA 3)) (fJ [rIx (aD 6) (rK (.int 0))]) (stL ns (jI ((h,s,w)::A) h' []) (gT A B) A.length (iN k) s5 (.sh d) (.sh (bZ h')) (.sh b) ⟨c,r.done++[s],[]⟩)= .ow (gT ((h,s,w)::A) []):=by
    have u:rIx (aD 6) (rK (.int 0)) (stL ns (jI ((h,s,w)::A) h' []) (gT A B) A.length (iN k) s5 (.sh d) (.sh (bZ h')) (.sh b) ⟨c,r.done++[s],[]⟩)= .ok (.str w):=(cG (x:=d) (y:=.int 0) rfl rfl).trans J
    refine(Ki (Kh (xs:=gT A B) (i:=A.length) rfl rfl) (ys:=[.str w]) (by simp[fJ,l4,args,u,RA.cons,RA.then]) (by simp[kB,LIM];lia)).trans ?_
    congr 1
    have j:gT A B=((A.map (·.2.2)).reverse).map D.str++(B.map (·.2.1)).map D.str:=by simp[gT]
    rw[j,List.take_left' (by simp)]
    simp[gT]
   exact(aG (oF G)).trans ((aG (oF I)).trans ((aG (cY ((aV (x:=.int (A.length:Nat)) (y:=.int ((1:Nat):Int)) rfl rfl).trans (Kk _ _)))).trans rfl))
  ·show r.done++[s]=((s::A.map (·.2.1))).reverse
   rw[z.dn,List.reverse_cons]
theorem kC{r:Rk}:cF aK (zR 350 0 f [] [.rk 350 r])=cF aK (f r []):=rfl
theorem Km:dJ .NotEq (.str "no back") (.str "no back")= .ok (.bl false):=by kernel_rfl
theorem Kn(h:w∈WS):dJ .NotEq (.str w) (.str w)= .ok (.bl false):=oW (vK h) (by simp[dep])
theorem gtN(i j:Nat):dJ .Gt (.int (i:Nat)) (.int (j:Nat))= .ok (.bl (decide (i > j))):=by
 show R.ok (.bl (decide ((i:Int) > (j:Int))))=_
 congr 2
 exact decide_eq_decide.2 (by lia)
theorem ltN(i j:Nat):dJ .Lt (.int (i:Nat)) (.int (j:Nat))= .ok (.bl (decide (i<j))):=by
 show R.ok (.bl (decide ((i:Int)<(j:Int))))=_
 congr 2
 exact decide_eq_decide.2 (by lia)
theorem GP(z:Zp A h B r)(l:A.length+B.length<100): ∃A' h' B' r',CI (zL ns A h B s4 s5 s6 s7 s8 r)= .nx (zL ns A' h' B' s4 s5 s6 s7 s8 r')/\Zp A' h' B' r'/\A'.length+B'.length<=A.length+B.length+1:=by
 cases A with
 |nil=>
  refine⟨[],h,B,r,?_,z,Nat.le_succ _⟩
  have j:mBk r []= .pure (.ok (.str "no back")):=by
   have e:r=⟨r.held,[],r.undone⟩:=by
    have:=z.dn
    cases r;simp at this;subst this;rfl
   unfold mBk;rw[kC,e,GJ,t9]
  have f:rIf (aZ .Gt (aA 3) (rK (.int 0))) (rIx (aD 2) (aS .Sub (aA 3) (rK (.int 1)))) (rK (.str "no back")) (stL ns (jI [] h B) (gT [] B) 0 s4 s5 s6 s7 s8 r)= .ok (.str "no back"):=(JL (b:=rK (.str "no back")) ((aP (x:=.int ((0:Nat):Int)) (y:=.int ((0:Nat):Int)) rfl rfl).trans (gtN 0 0))).trans rfl
  exact(aG ((lV λk=>lU (r:=r) (ds:=[]) rfl rfl j f Km).trans rfl)).trans ((aG (cY (d:=.int ((0:Nat):Int)) rfl)).trans rfl)
 |cons a A=>
  obtain⟨p,s,w⟩:=a;obtain⟨lk,E,t⟩:Lk p s w h/\OkH p/\LkA A p:=z.a;have n:=lk;obtain⟨x,c,new,rfl,M,u,v,S,J,H,I,Q,L⟩:=lk
  have dn:r.done=(A.map (·.2.1)).reverse++[stp w x c new]:=by
   rw[z.dn];exact List.reverse_cons
  obtain⟨g,o,i,O⟩:=DO (p:=p) ⟨r.held,(A.map (·.2.1)).reverse,r.undone++[stp w x c new]⟩ z.ok z.q u v J H I L
  have N:r.undone.length<LIM:=by rw[z.un];simp[LIM];simp at l;lia
  have j:mBk r []= .chg (.str w) ⟨g,(A.map (·.2.1)).reverse,r.undone++[stp w x c new]⟩:=by
   have e:r=⟨r.held,(A.map (·.2.1)).reverse++[stp w x c new],r.undone⟩:=by rw[<-dn]
   unfold mBk;rw[kC];rw[e,GK (λd m=>?_) N o]
   ·rfl
   ·refine plA z.a d ?_;rw[<-dn,z.dn]at m;exact List.mem_reverse.1 m
  refine⟨A,p,(stp w x c new,w,h)::B,⟨g,(A.map (·.2.1)).reverse,r.undone++[stp w x c new]⟩,?_,⟨E,t,⟨n,z.oh,z.b⟩,i,O,rfl,?_⟩,by simp;lia⟩
  ·have C:jI ((p,stp w x c new,w)::A) h B=jI A p ((stp w x c new,w,h)::B):=by simp[jI]
   have K:gT ((p,stp w x c new,w)::A) B=gT A ((stp w x c new,w,h)::B):=by simp[gT]
   have G:(gT A ((stp w x c new,w,h)::B))[A.length]? =some (.str w):=by
    unfold gT;rw[List.getElem?_map,bj (by simp)]
    simp
   unfold zL;rw[C,K];show CI (stL ns (jI A p ((stp w x c new,w,h)::B)) (gT A ((stp w x c new,w,h)::B)) (A.length+1) s4 s5 s6 s7 s8 r)=_
   have f:rIf (aZ .Gt (aA 3) (rK (.int 0))) (rIx (aD 2) (aS .Sub (aA 3) (rK (.int 1)))) (rK (.str "no back")) (stL ns (jI A p ((stp w x c new,w,h)::B)) (gT A ((stp w x c new,w,h)::B)) (A.length+1) s4 s5 s6 s7 s8 ⟨g,(A.map (·.2.1)).reverse,r.undone++[stp w x c new]⟩)= .ok (.str w):=by
    refine(JK ((aP (x:=.int ((A.length+1:Nat):Int)) (y:=.int ((0:Nat):Int)) rfl rfl).trans ((gtN _ _).trans (by simp)))).trans ?_
    exact(cG (x:=.lst (gT A ((stp w x c new,w,h)::B))) (y:=.int (A.length:Nat)) rfl ((aV (x:=.int ((A.length+1:Nat):Int)) (y:=.int ((1:Nat):Int)) rfl rfl).trans ((LS (by lia)).trans (by simp)))).trans (eP G)
   refine(aG ((lV λk=>(oX (r:=r) (ds:=[]) rfl rfl j f (Kn M)).trans rfl).trans rfl)).trans ((aG (cY (d:=.int (A.length:Nat)) ?_)).trans rfl)
   refine(cI (x:=.int 0) (y:=.int (A.length:Nat)) rfl ((aV (x:=.int ((A.length+1:Nat):Int)) (y:=.int ((1:Nat):Int)) rfl rfl).trans ((LS (by lia)).trans (by simp)))).trans ?_
   show R.ok (.int (if(A.length:Int) > 0 then(A.length:Int)else 0))=_
   congr 2
   split<;>lia
  ·show r.undone++[stp w x c new]=(stp w x c new::B.map (·.1)).reverse
   rw[z.un,List.reverse_cons]
theorem CM(z:Zp A h B r)(l:A.length+B.length<100): ∃A' h' B' r',AS (zL ns A h B s4 s5 s6 s7 s8 r)= .nx (zL ns A' h' B' s4 s5 s6 s7 s8 r')/\Zp A' h' B' r'/\A'.length+B'.length<=A.length+B.length+1:=by
 have f: ∀{r':Rk},aF jR [aD 2] (zL ns A h B s4 s5 s6 s7 s8 r')= .ok (.int ((A.length+B.length:Nat):Int)):=λ{r'}=>by
  refine(cH (x:=.lst (gT A B)) rfl).trans ?_;show R.ok (.int ((gT A B).length:Nat))=_;rw[kB]
 cases B with
 |nil=>
  refine⟨A,h,[],r,?_,z,Nat.le_succ _⟩
  have i:mFo r []= .pure (.ok (.str "no back")):=by
   have e:r=⟨r.held,r.done,[]⟩:=by
    have:=z.un
    cases r;simp at this;subst this;rfl
   unfold mFo;rw[kC,e,CF,t9]
  have g:rIf (aZ .Lt (aA 3) (aF jR [aD 2])) (rIx (aD 2) (aA 3)) (rK (.str "no back")) (stL ns (jI A h []) (gT A []) A.length s4 s5 s6 s7 s8 r)= .ok (.str "no back"):=(JL (b:=rK (.str "no back")) ((aP (x:=.int (A.length:Nat)) rfl f).trans ((ltN _ _).trans (by simp)))).trans rfl
  refine(aG ((lV λk=>lU (r:=r) (ds:=[]) rfl rfl i g Km).trans rfl)).trans ((aG (cY (d:=.int (A.length:Nat)) ?_)).trans rfl)
  refine(cI f ((aV (x:=.int (A.length:Nat)) (y:=.int ((1:Nat):Int)) rfl rfl).trans (Kk _ _))).trans ?_;show R.ok (.int (if((A.length+1:Nat):Int)<((A.length+0:Nat):Int)then((A.length+1:Nat):Int)else((A.length+0:Nat):Int)))=_
  rw[if_neg (by lia)];rfl
 |cons b B=>
  obtain⟨s,w,nx⟩:=b;obtain⟨lk,L,M⟩:Lk h s w nx/\OkH nx/\LkB nx B:=z.b;have o:=lk;obtain⟨x,c,new,rfl,Q,t,S,H,G,K,T,v,O⟩:=lk
  have un:r.undone=(B.map (·.1)).reverse++[stp w x c new]:=by
   rw[z.un];exact List.reverse_cons
  obtain⟨j,J,n,I⟩:=DO (p:=nx) ⟨r.held,r.done++[stp w x c new],(B.map (·.1)).reverse⟩ z.ok z.q t H K G v λy e=>(O y e).symm
  have u:r.done.length<LIM:=by rw[z.dn];simp[LIM];simp at l;lia
  have i:mFo r []= .chg (.str w) ⟨j,r.done++[stp w x c new],(B.map (·.1)).reverse⟩:=by
   have e:r=⟨r.held,r.done,(B.map (·.1)).reverse++[stp w x c new]⟩:=by rw[<-un]
   unfold mFo;rw[kC];rw[e,CG (λd m=>?_) u J]
   ·rfl
   ·refine plB z.b d ?_;rw[<-un,z.un]at m;exact List.mem_reverse.1 m
  have C:jI A h ((stp w x c new,w,nx)::B)=jI ((h,stp w x c new,w)::A) nx B:=by simp[jI]
  have N:gT A ((stp w x c new,w,nx)::B)=gT ((h,stp w x c new,w)::A) B:=by simp[gT]
  refine⟨(h,stp w x c new,w)::A,nx,B,⟨j,r.done++[stp w x c new],(B.map (·.1)).reverse⟩,?_,⟨L,⟨o,z.oh,z.a⟩,M,n,I,?_,rfl⟩,by simp;lia⟩
  ·have E:(gT A ((stp w x c new,w,nx)::B))[A.length]? =some (.str w):=by
    unfold gT;rw[List.getElem?_map,bj (by simp)]
    simp
   have g:rIf (aZ .Lt (aA 3) (aF jR [aD 2])) (rIx (aD 2) (aA 3)) (rK (.str "no back")) (stL ns (jI A h ((stp w x c new,w,nx)::B)) (gT A ((stp w x c new,w,nx)::B)) A.length s4 s5 s6 s7 s8 ⟨j,r.done++[stp w x c new],(B.map (·.1)).reverse⟩)= .ok (.str w):=
    (JK ((aP (x:=.int (A.length:Nat)) rfl f).trans ((ltN _ _).trans (by simp)))).trans ((cG (x:=.lst (gT A ((stp w x c new,w,nx)::B))) (y:=.int (A.length:Nat)) rfl rfl).trans (eP E))
   refine(aG ((lV λk=>(oX (r:=r) (ds:=[]) rfl rfl i g (Kn Q)).trans rfl).trans rfl)).trans ((aG (cY (d:=.int ((A.length+1:Nat):Int)) ?_)).trans ?_)
   ·refine(cI f ((aV (x:=.int (A.length:Nat)) (y:=.int ((1:Nat):Int)) rfl rfl).trans (Kk _ _))).trans ?_;show R.ok (.int (if((A.length+1:Nat):Int)<((A.length+(B.length+1):Nat):Int)then((A.length+1:Nat):Int)else((A.length+(B.length+1):Nat):Int)))=_
    congr 2
    split<;>lia
   ·unfold zL;rw[<-C, <-N];rfl
  ·show r.done++[stp w x c new]=(stp w x c new::A.map (·.2.1)).reverse
   rw[z.dn,List.reverse_cons]
theorem AU(z:Zp A h B r)(l:A.length+B.length<100)(k:Nat): ∃A' h' B' r' s5' s6' s7' s8',CJ (zL ns A h B (iN k) s5 s6 s7 s8 r)= .nx (zL ns A' h' B' (iN k) s5' s6' s7' s8' r')/\Zp A' h' B' r'/\A'.length+B'.length<=A.length+B.length+1:=by
 obtain⟨p,j,lp⟩:=cJ ns (2000+k) (m:=7) (by decide)
 have n:eU 5 (aF aI [aA 0,aS .Add (rK (.int 2000)) (aA 4),rK (.int 7)]) (zL ns A h B (iN k) s5 s6 s7 s8 r)= .nx (zL ns A h B (iN k) (iN p) s6 s7 s8 r):=
  cY ((dM (x:=Sc ns) (y:=.int ((2000+k:Nat):Int)) (z:=.int ((7:Nat):Int)) rfl ((aV (x:=.int ((2000:Nat):Int)) (y:=.int (k:Nat)) rfl rfl).trans (Kk _ _)) rfl).trans j)
 have b: ∀{A':Za} {h':Row} {B':Zb} {r':Rk} {s6' s7' s8':Slot},lX (jT (aZ .Lt (aA 5) (rK (.int 4)))) GM (a8 (lX (jT (aZ .Lt (aA 5) (rK (.int 6)))) CI AS) (aQ)) (zL ns A h B (iN k) (iN p) s6 s7 s8 r)= .nx (zL ns A' h' B' (iN k) (iN p) s6' s7' s8' r')->Zp A' h' B' r'->
   CJ (zL ns A h B (iN k) s5 s6 s7 s8 r)= .nx (zL ns A' h' B' (iN k) (iN p) s6' s7' s8' r'):=λe a=>(aG n).trans ((aG e).trans ((aG ((lV λk=>Kl a k).trans rfl)).trans rfl))
 have d: ∀{ρ:Rho},aA 5 ρ= .ok (.int (p:Nat))->aZ .Lt (aA 5) (rK (.int 4)) ρ= .ok (.bl (decide (p<4))):=λe=>(aP (y:=.int ((4:Nat):Int)) e rfl).trans (ltN _ _)
 have i: ∀{ρ:Rho},aA 5 ρ= .ok (.int (p:Nat))->aZ .Lt (aA 5) (rK (.int 6)) ρ= .ok (.bl (decide (p<6))):=λe=>(aP (y:=.int ((6:Nat):Int)) e rfl).trans (ltN _ _)
 by_cases f:p<4
 ·obtain⟨A',h',B',r',s6',s7',s8',e,a,c⟩:=GO (ns:=ns) (s5:=iN p) (s6:=s6) (s7:=s7) (s8:=s8) z l k;exact⟨A',h',B',r',_,s6',s7',s8',b ((GN λk=>fR ((d rfl).trans (by rw[decide_eq_true f]))).trans e) a,a,c⟩
 ·by_cases g:p<6
  ·obtain⟨A',h',B',r',e,a,c⟩:=GP (ns:=ns) (s4:=iN k) (s5:=iN p) (s6:=s6) (s7:=s7) (s8:=s8) z l;exact⟨A',h',B',r',_,s6,s7,s8,b ((lV λk=>fR ((d rfl).trans (by rw[decide_eq_false f]))).trans ((aG ((GN λk=>fR ((i rfl).trans (by rw[decide_eq_true g]))).trans e)).trans rfl)) a,a,c⟩
  ·obtain⟨A',h',B',r',e,a,c⟩:=CM (ns:=ns) (s4:=iN k) (s5:=iN p) (s6:=s6) (s7:=s7) (s8:=s8) z l;exact⟨A',h',B',r',_,s6,s7,s8,b ((lV λk=>fR ((d rfl).trans (by rw[decide_eq_false f]))).trans ((aG ((lV λk=>fR ((i rfl).trans (by rw[decide_eq_false g]))).trans e)).trans rfl)) a,a,c⟩
theorem AV: ∀(l:List Nat) (A:Za) (h:Row) (B:Zb) (r:Rk) (s4 s5 s6 s7 s8:Slot),Zp A h B r->A.length+B.length+l.length<100->
  ∃ρ,iW (tQ [4] true) CJ (l.map λ(i:Nat)=>D.int (i:Int)) (zL ns A h B s4 s5 s6 s7 s8 r)= .nx ρ
 |[],A,h,B,r,s4,s5,s6,s7,s8,_,_=>⟨_,rfl⟩
 |k::l,A,h,B,r,s4,s5,s6,s7,s8,z,hl=>by
  simp only[bo]at hl;obtain⟨j,m,g,d,a,b,o,f,e,n,q⟩:=AU (ns:=ns) (s5:=s5) (s6:=s6) (s7:=s7) (s8:=s8) z (by lia) k
  obtain⟨ρ,p⟩:=AV l j m g d (iN k) a b o f n (by lia)
  refine⟨ρ,?_⟩
  have c:tQ [4] true (.int (k:Nat)) (zL ns A h B s4 s5 s6 s7 s8 r)=some (zL ns A h B (iN k) s5 s6 s7 s8 r):=rfl
  rw[List.map_cons];unfold iW;rw[c]
  dsimp only
  rw[e];exact p
end
theorem LU(ns:List Int):Gh ([D.lst (ns.map D.int)].map SK.Slot.sh++aj 9 .no)= .rt (.ok (.bl true)):=by
 rw[CK];show a8 _ _ [.sh (Sc ns),.no,.no,.no,.no,.no,.no,.no,.no,.no]=_;refine(aG (ρ':=stL ns (jI [] [] []) (gT [] []) 0 .no .no .no .no .no ⟨[],[],[]⟩) rfl).trans ?_;obtain⟨a,e⟩:=AV (ns:=ns) (List.range 18) [] [] [] ⟨[],[],[]⟩ .no .no .no .no .no ⟨⟨List.nodup_nil,λp m=>by cases m⟩,trivial,trivial,⟨List.nodup_nil,λp m=>by cases m⟩,λ_=>rfl,rfl,rfl⟩ (by decide)
 exact(aG ((Gg (ds:=rH 18) (.inl (fE (n:=18) rfl (by decide)))).trans e)).trans (cS (aU rfl))
open PySem.Spec PyProof.Rows L2 PySem.W
abbrev KK(w:World):PySem.W.Frag:=kK w.params
abbrev ge(x:Str)(g:SK.Gl):Str×SK.Gl:=(x,g)
def tbL:List (Str×SK.Gl):=[ge "Rack" (.cls 350 [("counts",0,dI),("forth",0,dH),("back",0,eS),("labels",0,bN),("turn",1,dW),("join",4,dG),("take",1,dF),("switch_of",1,aE),("put",2,fQ),("do",3,jP),("set_to",2,aO)]),ge "Rack" (.cls 350 [("forth",0,dH),("back",0,eS),("labels",0,bN),("turn",1,dW),("join",4,dG),("take",1,dF),("switch_of",1,aE),("put",2,fQ),("do",3,jP),("set_to",2,aO)]),ge "Rack" (.cls 350 [("back",0,eS),("labels",0,bN),("turn",1,dW),("join",4,dG),("take",1,dF),("switch_of",1,aE),("put",2,fQ),("do",3,jP),("set_to",2,aO)]),ge "Rack" (.cls 350 [("labels",0,bN),("turn",1,dW),("join",4,dG),("take",1,dF),("switch_of",1,aE),("put",2,fQ),("do",3,jP),("set_to",2,aO)]),ge "Rack" (.cls 350 [("turn",1,dW),("join",4,dG),("take",1,dF),("switch_of",1,aE),("put",2,fQ),("do",3,jP),("set_to",2,aO)]),ge "Rack" (.cls 350 [("join",4,dG),("take",1,dF),("switch_of",1,aE),("put",2,fQ),("do",3,jP),("set_to",2,aO)]),ge "Rack" (.cls 350 [("take",1,dF),("switch_of",1,aE),("put",2,fQ),("do",3,jP),("set_to",2,aO)]),ge "Rack" (.cls 350 [("switch_of",1,aE),("put",2,fQ),("do",3,jP),("set_to",2,aO)]),ge "Rack" (.cls 350 [("put",2,fQ),("do",3,jP),("set_to",2,aO)]),ge "Rack" (.cls 350 [("do",3,jP),("set_to",2,aO)]),ge "Rack" (.cls 350 [("set_to",2,aO)]),ge "Rack" (.cls 350 []),ge "_law_behind" (.fn 22 2 aT),ge "_law_deed" (.fn 21 3 dO),ge "_law_switch" (.fn 20 3 cU),ge "_law_odd" (.fn 19 2 eR),ge "_law_setting" (.fn 18 2 aR),ge "_law_pick" (.fn 17 3 aI),ge "_law_cell" (.fn 16 2 eK),ge "joined" (.fn 15 3 dR),ge "check_label" (.fn 14 1 bY),ge "is_label" (.fn 13 1 gO),ge "unlike" (.fn 12 2 gN),ge "either" (.fn 11 2 gM),ge "both" (.fn 10 2 m9),ge "turned" (.fn 9 1 iQ),ge "check_alike" (.fn 8 2 bK),ge "check_switch" (.fn 7 1 bH),ge "is_switch" (.fn 6 1 eQ),ge "how_many_settings" (.fn 5 1 bM),ge "is_row" (.fn 4 3 iP),ge "is_many" (.fn 3 1 fG),ge "are_whole_below" (.fn 2 2 bV),ge "is_whole_below" (.fn 1 2 bI),ge "is_whole" (.fn 0 1 gL),ge (dC .dict) (.py .dict),ge (dC .max) (.py .max),ge (dC .min) (.py .min),ge (dC .sorted) (.py .sorted),ge (dC .all) (.py .all),ge (dC .sum) (.py .sum),ge (dC .list) (.py .list),ge (dC .tuple) (.py .tuple),ge (dC .str) (.py .str),ge (dC .bool) (.py .bool),ge (dC .int) (.py .int),ge (dC .isin) (.py .isin),ge (dC .zip) (.py .zip),ge (dC .range) (.py .range),ge (dC .len) (.py .len),ge "ValueError" .verr,ge "NoBack" (.exc 9),ge "NoLabel" (.exc 8),ge "NoTerm" (.exc 7),ge "NoText" (.exc 6),ge "NoSums" (.exc 5),ge "Unlike" (.exc 4),ge "NoMove" (.exc 3),ge "NoName" (.exc 2),ge "NoSwitch" (.exc 1),ge "SwitchError" (.exc 0),ge "LONGEST_LABEL" (.val (.int 4)),ge "MOST_NAMES" (.val (.int 4))]
def flL:List (Nat×Fn):=[(1,gL),(2,bI),(2,bV),(1,fG),(3,iP),(1,bM),(1,eQ),(1,bH),(2,bK),(1,iQ),(2,m9),(2,gM),(2,gN),(1,gO),(1,bY),(3,dR),(2,eK),(3,aI),(2,aR),(2,eR),(3,cU),(3,dO),(2,aT)]
set_option maxHeartbeats 0 in
theorem all_mk{l:PySem.W.OpenLaw}(X:(KK w).In h)(G:h.Ns mainGlobals mg)(hfa:mg "law"=some (.ref fa)):
  ∃ad C Δ rd g k n m cL P1 c P0 params body scope,LawGT l.prog w (KK w) mg fa "law" "_law_did" ad C Δ rd g k n m cL P1 c P0 params body scope:=by
 cases hfa.symm.trans (PySem.W.mg_of X G (n:="law") (v:=.ref 428) (by kernel_rfl))
 refine⟨(Dp [31,44,56,68,80,92,104,116,128,140] 31 [149,156,161,168,175,182,189,196,203,208,213,218,223,228,235,242,361,368,378,383,373,404,409]),⟨tbL,flL,defScope (top 46),aB (defScope (top 46)),xG 50 (defBody (top 46))⟩,Two (TbL 423 ((envOfC "law" (defScope (top 46)) 0 428 (.ref 427)).qual++"<lambda>")) (TbL 411 ((envOfC "_law_did" (defScope (top 44)) 0 416 (.ref 415)).qual++"<lambda>")),F6 [("_law_did",1,bB),("_law_all_of",0,cV)] "_law_told" aK 350 [("counts",0,dI),("forth",0,dH),("back",0,eS),("labels",0,bN),("turn",1,dW),("join",4,dG),("take",1,dF),("switch_of",1,aE),("put",2,fQ),("do",3,jP),("set_to",2,aO)] ⟨tbL,flL,defScope (top 46),aB (defScope (top 46)),xG 50 (defBody (top 46))⟩,Gh,35,100,9,427,423,415,411,defArgs (top 46),defBody (top 46),defScope (top 46),?_⟩;refine⟨⟨_,_,_,_,_,_,_,_,_,rfl,λs u=>.of_eq rfl⟩,by kernel_rfl,by kernel_rfl,⟨rfl,by decide,by decide⟩,by kernel_rfl,by kernel_rfl,⟨by kernel_rfl,by kernel_rfl⟩,JI (by decide),JJ,λo a H j d N=>?_,by kernel_rfl,by kernel_rfl,LU⟩
 obtain⟨q,E,U⟩:=N _ (.head _);obtain⟨hC,hB,J⟩:=N _ (.tail _ (.head _));have t:PQ l.prog w (KK w) mg a a (Dp [31,44,56,68,80,92,104,116,128,140] 31 [149,156,161,168,175,182,189,196,203,208,213,218,223,228,235,242,361,368,378,383,373,404,409]) 0 [] []:=.nil j d (Fk (by kernel_rfl) (by kernel_rfl))
 have t:=t.int "MOST_NAMES" 4 360;have t:=t.int "LONGEST_LABEL" 4 456;have t:=t.exc "SwitchError" 0;have t:=t.exc "NoSwitch" 1;have t:=t.exc "NoName" 2;have t:=t.exc "NoMove" 3;have t:=t.exc "Unlike" 4;have t:=t.exc "NoSums" 5;have t:=t.exc "NoText" 6;have t:=t.exc "NoTerm" 7;have t:=t.exc "NoLabel" 8;have t:=t.exc "NoBack" 9;have t:=t.verr;have t:=t.py .len;have t:=t.py .range;have t:=t.py .zip;have t:=t.py .isin;have t:=t.py .int;have t:=t.py .bool;have t:=t.py .str;have t:=t.py .tuple;have t:=t.py .list;have t:=t.py .sum;have t:=t.py .all;have t:=t.py .sorted;have t:=t.py .min;have t:=t.py .max;have t:=t.py .dict;have t:=t.add "is_whole" (top 14) 149 ["thing"] 1 gL rfl;have t:=t.add "is_whole_below" (top 15) 156 ["thing","bound"] 2 bI rfl;have t:=t.add "are_whole_below" (top 16) 161 ["things","bound"] 2 bV rfl;have t:=t.add "is_many" (top 17) 168 ["thing"] 1 fG rfl;have t:=t.add "is_row" (top 18) 175 ["thing","length","bound"] 3 iP rfl;have t:=t.add "how_many_settings" (top 19) 182 ["many"] 1 bM rfl;have t:=t.add "is_switch" (top 21) 189 ["thing"] 1 eQ rfl;have t:=t.add "check_switch" (top 22) 196 ["thing"] 1 bH rfl;have t:=t.add "check_alike" (top 23) 203 ["one","other"] 2 bK rfl;have t:=t.add "turned" (top 24) 208 ["switch"] 1 iQ rfl;have t:=t.add "both" (top 25) 213 ["one","other"] 2 m9 rfl;have t:=t.add "either" (top 26) 218 ["one","other"] 2 gM rfl;have t:=t.add "unlike" (top 27) 223 ["one","other"] 2 gN rfl;have t:=t.add "is_label" (top 30) 228 ["thing"] 1 gO rfl;have t:=t.add "check_label" (top 31) 235 ["thing"] 1 bY rfl;have t:=t.add "joined" (top 32) 242 ["word","one","other"] 3 dR rfl;have t:=t.add "_law_cell" (top 35) 361 ["_law_script","_law_k"] 2 eK rfl;have t:=t.add "_law_pick" (top 36) 368 ["_law_script","_law_k","_law_many"] 3 aI rfl;have t:=t.add "_law_setting" (top 38) 378 ["_law_many","_law_number"] 2 aR rfl;have t:=t.add "_law_odd" (top 39) 383 ["_law_one","_law_other"] 2 eR rfl;have t:=t.add "_law_switch" (top 37) 373 ["_law_script","_law_at","_law_many"] 3 cU rfl;have t:=t.add "_law_deed" (top 42) 404 ["_law_script","_law_at","_law_known"] 3 dO rfl;have t:=t.add "_law_behind" (top 43) 409 ["_law_known","_law_deed_here"] 2 aT rfl;have t:=t.rack 350 (DA (by kernel_rfl) (by kernel_rfl) (by kernel_rfl) (by kernel_rfl) (by kernel_rfl) (by kernel_rfl) (by kernel_rfl))
 have t:=t.met "set_to" "Rack.set_to" (met 33 1) 263 "self" ["label","switch"] 2 aO rfl rfl;have t:=t.met "do" "Rack.do" (met 33 2) 270 "self" ["word","label","switch"] 3 jP rfl rfl;have t:=t.met "put" "Rack.put" (met 33 3) 277 "self" ["label","switch"] 2 fQ rfl rfl;have t:=t.met "switch_of" "Rack.switch_of" (met 33 4) 284 "self" ["label"] 1 aE rfl rfl;have t:=t.met "take" "Rack.take" (met 33 5) 291 "self" ["label"] 1 dF rfl rfl;have t:=t.met "join" "Rack.join" (met 33 6) 298 "self" ["label","word","one","other"] 4 dG rfl rfl;have t:=t.met "turn" "Rack.turn" (met 33 7) 305 "self" ["label"] 1 dW rfl rfl;have t:=t.met "labels" "Rack.labels" (met 33 8) 312 "self" [] 0 bN rfl rfl;have t:=t.met "back" "Rack.back" (met 33 10) 326 "self" [] 0 eS rfl rfl;have t:=t.met "forth" "Rack.forth" (met 33 11) 333 "self" [] 0 dH rfl rfl;have t:=t.met "counts" "Rack.counts" (met 33 12) 340 "self" [] 0 dI rfl rfl;have Y:=mE (K:=KK w) (x:="__init__") (qual:="Rack.__init__") (st:=met 33 0) (f:=256) rfl (by kernel_rfl) (by kernel_rfl)
 have z:=Y.binds (ps:=["self"]) (by intro _ _ _ _ _ _ b i;rcases b with _|⟨u0,_|⟨u1,b⟩⟩<;>first|rfl|(simp at i))
 have O:=mE (K:=KK w) (x:="_law_class") (qual:="_law_class") (st:=top 40) (f:=390) rfl (by kernel_rfl) (by kernel_rfl)
 have Ft:=mE (K:=KK w) (x:="_law_told") (qual:="_law_told") (st:=top 41) (f:=397) rfl (by kernel_rfl) (by kernel_rfl)
 have Z:=Fm (ps:=["_law_kept"]) (n:=1) (F:=aK) t.B t.t O rfl (by kernel_rfl)
 have I:=O.binds (ps:=["_law_kept"]) (by intro _ _ _ _ _ _ b i;rcases b with _|⟨u0,_|⟨u1,b⟩⟩<;>first|rfl|(simp at i))
 have S:=Cj (k:=35) (t:=⟨"_law_deed_here","e","_law_class","SwitchError"⟩) (kf:=35) Ft ⟨_,_,_,_,_,_,_,_,_,_,rfl⟩ (by kernel_rfl) (PySem.W.mg_of j d (by kernel_rfl)) (by kernel_rfl) Z I (ai _) (PySem.W.mg_of j d (by kernel_rfl)) t.B
 have y:=(t.t "Rack" (SK.Gl.cls 350 [("counts",0,dI),("forth",0,dH),("back",0,eS),("labels",0,bN),("turn",1,dW),("join",4,dG),("take",1,dF),("switch_of",1,aE),("put",2,fQ),("do",3,jP),("set_to",2,aO)]) rfl).2;have Q:RkC (KK w) 350:=y.2.1
 have hN:(aB (defScope (top 44))).length=2:=by kernel_rfl
 have hD:=JD (X:=cxP [423,411] (jW (CXe l.prog w) l.prog w (KK w) mg a (aB (defScope (top 46))) "law" (defScope (top 46)) 428 (.ref 427) callerA [] o H λ_ _ _=>False)) (tab:=tbL) (fns:=flL) (sc:=defScope (top 44)) (qual:="_law_did") (name:="_law_did") (tn:="_law_told") (self:="_law_rack") (prs:=["_law_deed_here"]) (F:=aK) (A:=350) (ms:=[("counts",0,dI),("forth",0,dH),("back",0,eS),("labels",0,bN),("turn",1,dW),("join",4,dG),("take",1,dF),("switch_of",1,aE),("put",2,fQ),("do",3,jP),("set_to",2,aO)]) (fa:=416) (params:=defArgs (top 44)) (body:=defBody (top 44)) (g:=lO) t.B t.t t.u Q y.2.2 ⟨397,_,"_law_deed_here",PySem.W.mg_of j d (by kernel_rfl),by kernel_rfl,S,λs u _=>.of_eq rfl⟩ (by decide) hC hB J rfl (by kernel_rfl) (by kernel_rfl) (by kernel_rfl)
 rw[hN]at hD;have T:=mE (K:=KK w) (x:="_law_all_of") (qual:="_law_all_of") (st:=top 45) (f:=421) rfl (by kernel_rfl) (by kernel_rfl)
 have hA:=Dx (k:=34) (A:=350) (ms:=[("counts",0,dI),("forth",0,dH),("back",0,eS),("labels",0,bN),("turn",1,dW),("join",4,dG),("take",1,dF),("switch_of",1,aE),("put",2,fQ),("do",3,jP),("set_to",2,aO)]) (n:=0) (M:=cV) (self:="_law_rack") (ps:=[]) t.B t.t Q y.2.2 T rfl (by kernel_rfl)
 have p:=T.binds (ps:=["_law_rack"]) (by intro _ _ _ _ _ _ b i;rcases b with _|⟨u0,_|⟨u1,b⟩⟩<;>first|rfl|(simp at i))
 have r:PySem.W.keepIn (KK w) (.ref 416)=true:=by kernel_rfl
 have L:PySem.W.keepIn (KK w) (.ref 421)=true:=by kernel_rfl
 exact Ge (tab:=tbL) (fns:=flL) (x:="_law_script") (prs1:=["_law_rack","_law_deed_here"]) (nd:=1) (Md:=bB) t.B t.t t.u (by kernel_rfl) ⟨rfl,by decide,by decide⟩ rfl (λA ms e=>by cases (show(some (SK.Gl.cls 350 [("counts",0,dI),("forth",0,dH),("back",0,eS),("labels",0,bN),("turn",1,dW),("join",4,dG),("take",1,dF),("switch_of",1,aE),("put",2,fQ),("do",3,jP),("set_to",2,aO)]):Option SK.Gl)=some (SK.Gl.cls A ms) from e);exact⟨256,1,_,_,by decide,⟨by kernel_rfl,by kernel_rfl,by kernel_rfl,by kernel_rfl⟩,Jv (k:=0) (self:="self") (DA (by kernel_rfl) (by kernel_rfl) (by kernel_rfl) (by kernel_rfl) (by kernel_rfl) (by kernel_rfl) (by kernel_rfl)) Y (by kernel_rfl) ⟨_,_,_,_,_,_,_,_,_,_,_,_,rfl⟩,z⟩) hD JY (PySem.W.mg_of j d (by kernel_rfl)) (by decide) r (λs b _ i=>by rcases b with _|⟨u0,_|⟨u1,_|⟨u2,b⟩⟩⟩<;>first|exact .of_eq rfl|(simp at i)) hA (by decide) p (PySem.W.mg_of j d (by kernel_rfl)) (by decide) L ⟨397,_,"_law_deed_here",PySem.W.mg_of j d (by kernel_rfl),by kernel_rfl,S,λs u _=>.of_eq rfl⟩ (by decide) q E
end SK.k72
open PySem PySem.W PyProof.Rows
set_option maxRecDepth 100000 in
set_option maxHeartbeats 0 in
theorem PySem.Challenge.cw_switchkinds_k72_whole_racks_back_holds : PySem.Challenge.rw_switchkinds_k72_whole_racks_back.Holds := by
 w_on
 refine PySem.W.holds_law SK.k72.sd λb=>?_
 refine PySem.W.holds_open (q:=SK.k72.kq) (loose:=[]) (Xt:=λs=>PySem.W.xlAt SK.k72.kq [] s&&PySem.W.recOk (PySem.W.RowW.records (PySem.W.OpenRow.toRowW PySem.Challenge.rw_switchkinds_k72_whole_racks_back.row)) s) (XP:=PySem.W.XL SK.k72.kq []) (Yf:=PySem.W.Hook.obs (PySem.W.kHook SK.k72.kK SK.k72.kas (λ_=>by kernel_rfl))) (Ya:=PySem.W.Hook.val (PySem.W.kHook SK.k72.kK SK.k72.kas (λ_=>by kernel_rfl))) (YP:=PySem.W.Hook.says (PySem.W.kHook SK.k72.kK SK.k72.kas (λ_=>by kernel_rfl))) (N:=7432) SK.k72.left (PySem.W.Hook.of (PySem.W.kHook SK.k72.kK SK.k72.kas (λ_=>by kernel_rfl))) (PySem.W.Hook.keeps (PySem.W.kHook SK.k72.kK SK.k72.kas (λ_=>by kernel_rfl))) (λs e=>PySem.W.xl_of s (Bool.and_eq_true_iff.mp e).1) PySem.W.XL.keeps (by rfl) (by rfl) (by rfl) (λs e=>PySem.W.recFacts_of (Bool.and_eq_true_iff.mp e).2) (by rfl) (by first|assumption|decide+kernel) (by decide+kernel) ⟨rfl,rfl,rfl,rfl,rfl,by decide+kernel⟩ ?hw ?hc
 (case hw=>w_witness2)
 refine SK.walkG (l:=PySem.Challenge.rw_switchkinds_k72_whole_racks_back) rfl rfl (λw h Y=>PySem.W.kIn_of Y) (did:="_law_did") (Option.isSome_iff_exists.mp (by kernel_rfl)) (Option.isSome_iff_exists.mp (by kernel_rfl)) ?F
 case F=>
  intro w d f h c G a;exact SK.k72.all_mk c G a
